/-
  words: IsWord, Split, IsName.
-/
import Derived.Test.YtgcldedkempjhaaDoorRows
import Derived.Test.YtgcldedkempjhaaDoorBase
import Derived.Test.YtgcldedkempjhaaDoorNames
import Derived.BigQuiet
import Derived.OwnWalk
namespace Go.Proofs.YtgcldedkempjhaaDoor
open Go.RowKit

set_option maxHeartbeats 400000 in
theorem isWord_any (s : ByteArray) (w : World) :
    Calls Tryd.prog 49 #[.string s] w fun e w' => e = .returned (.bool (wordF s)) ∧ w' = w := by
  by_cases h1 : s.size < 1
  · have hf := hide (wordF_short s h1)
    go_enter Tryd.func49, Tryd.ntmps49
    go_wp2
    go_ret
    exact ⟨ret_bool hf.out.symm, rfl⟩
  · by_cases h2 : 4 < s.size
    · have hf := hide (wordF_long s h2)
      go_enter Tryd.func49, Tryd.ntmps49
      go_wp2
      go_ret
      exact ⟨ret_bool hf.out.symm, rfl⟩
    · go_enter Tryd.func49, Tryd.ntmps49
      go_wp2
      go_loop [3] (fun i => ∃ k : Nat, k ≤ s.size ∧ i = .int .i64 k ∧ (s.data.toList.take k).all lowB = true) (fun i => s.size - (intOf i).toNat)
      case atStart => exact ⟨0, Nat.zero_le _, rfl, rfl⟩
      case round =>
        obtain ⟨k, hk, rfl, hall⟩ := hrel
        have HA := hide hall
        clear hall
        by_cases hlt : k < s.size
        · have HT := hide (take_snoc s k hlt)
          have HL := hide (lowB_iff s[k])
          have HN := hide (fun h => wordF_no s k hlt h)
          go_wp2
          · go_ret
            exact ⟨ret_bool (HN.out (by rw [← Bool.not_eq_true, HL.out]; omega)).symm, rfl⟩
          · go_round
            case rel => exact ⟨k + 1, by omega, by go_num, by rw [HT.out, List.all_append, HA.out]; simp [HL.out]; omega⟩
            case measure => simp [intOf] <;> omega
          · go_ret
            exact ⟨ret_bool (HN.out (by rw [← Bool.not_eq_true, HL.out]; omega)).symm, rfl⟩
        · go_wp2
          go_ret
          refine ⟨ret_bool ?_, rfl⟩
          have := HA.out
          rw [List.take_of_length_le (by simp; omega)] at this
          simp [wordF, this]; omega


theorem byteAt_beq (s : ByteArray) (k : Nat) (h : k < s.size) (c : Int) : ((s[k].toNat : Int) == c) = (byteAt s k == c) := by rw [byteAt_lt s k h]

set_option maxHeartbeats 400000 in
theorem split_any (s : ByteArray) (w : World) (hs : s.size ≤ 4611686018427387904) :
    Calls Tryd.prog 90 #[.string s] w fun e w' => e = .returned (.tuple #[.string (splitF s).1, .string (splitF s).2.1, .bool (splitF s).2.2]) ∧ Below w.heap.size w w' := by
  rcases slash_cases s with ⟨i, hi, h1, h2, h3⟩ | ⟨h1, h3⟩
  · have HF := hide (show splitF s = (s.extract 0 i, s.extract (i + 1) s.size, true) by rw [splitF, h3])
    rw [HF.out]
    have H1 := hide h1
    have H2 := hide h2
    clear h1 h2 h3
    go_enter Tryd.func90, Tryd.ntmps90
    go_wp2
    go_loop [5] (fun x => ∃ k : Nat, k ≤ i ∧ x = .int .i64 k) (fun x => s.size - (intOf x).toNat)
    case atStart => exact ⟨0, Nat.zero_le _, rfl⟩
    case round =>
      obtain ⟨k, hk, rfl⟩ := hrel
      have hks : k < s.size := by omega
      by_cases hlt : k < i
      · have t1 : ((s[k].toNat : Int) == 47) = false := by rw [byteAt_beq]; exact beq_eq_false_iff_ne.2 (H2.out k hlt)
        go_wp2
        go_round
        case rel => exact ⟨k + 1, by omega, by go_num⟩
        case measure => simp [intOf] <;> omega
      · obtain rfl : k = i := by omega
        have t1 : ((s[k].toNat : Int) == 47) = true := by rw [byteAt_beq]; exact beq_iff_eq.2 H1.out
        go_wp2
        go_quiet (fail)
        go_wp2_with fail
        go_ret3
        exact ⟨rfl, below_drawn (Below.refl _ _) _⟩
  · have HF := hide (show splitF s = (s, ⟨#[]⟩, false) by rw [splitF, h3])
    rw [HF.out]
    have H1 := hide h1
    clear h1 h3
    go_enter Tryd.func90, Tryd.ntmps90
    go_wp2
    go_loop [5] (fun x => ∃ k : Nat, k ≤ s.size ∧ x = .int .i64 k) (fun x => s.size - (intOf x).toNat)
    case atStart => exact ⟨0, Nat.zero_le _, rfl⟩
    case round =>
      obtain ⟨k, hk, rfl⟩ := hrel
      by_cases hlt : k < s.size
      · have t1 : ((s[k].toNat : Int) == 47) = false := by rw [byteAt_beq]; exact beq_eq_false_iff_ne.2 (H1.out k hlt)
        go_wp2
        go_round
        case rel => exact ⟨k + 1, by omega, by go_num⟩
        case measure => simp [intOf] <;> omega
      · go_wp2
        go_ret3
        exact ⟨rfl, Below.refl _ _⟩

set_option maxHeartbeats 400000 in
theorem isName_any (s : ByteArray) (w : World) (hs : s.size ≤ 4611686018427387904) :
    Calls Tryd.prog 60 #[.string s] w fun e w' => e = .returned (.bool (nameF s)) ∧ Below w.heap.size w w' := by
  have Hc := hide (split_any s w hs)
  have Hw := hide (fun x W => isWord_any x W)
  rw [← isName_eq]
  have HN := hide (show isNameF s = if (splitF s).2.2 && !wordF (splitF s).2.1 then false else wordF (splitF s).1 from rfl)
  generalize splitF s = p at *
  obtain ⟨a, b, c⟩ := p
  simp only at HN
  cases c with
  | false =>
    have HN2 := hide (show isNameF s = wordF a by rw [HN.out]; rfl)
    go_enter Tryd.func60, Tryd.ntmps60
    go_wp2_with fail
    refine Hc.out.mono ?_
    rintro e w1 ⟨rfl, hb⟩
    go_wp2_with fail
    refine (Hw.out _ _).mono ?_
    rintro e w2 ⟨rfl, h⟩
    subst h
    go_wp2_with fail
    go_ret
    exact ⟨ret_bool HN2.out.symm, hb⟩
  | true =>
    cases hw : wordF b with
    | false =>
      have HW := hide hw
      have HN2 := hide (show isNameF s = false by rw [HN.out, hw]; rfl)
      clear hw
      go_enter Tryd.func60, Tryd.ntmps60
      go_wp2_with fail
      refine Hc.out.mono ?_
      rintro e w1 ⟨rfl, hb⟩
      go_wp2_with fail
      refine (Hw.out _ _).mono ?_
      rintro e w2 ⟨rfl, h⟩
      subst h
      rw [HW.out]
      go_wp2_with fail
      go_ret
      exact ⟨ret_bool HN2.out.symm, hb⟩
    | true =>
      have HW := hide hw
      have HN2 := hide (show isNameF s = wordF a by rw [HN.out, hw]; rfl)
      clear hw
      go_enter Tryd.func60, Tryd.ntmps60
      go_wp2_with fail
      refine Hc.out.mono ?_
      rintro e w1 ⟨rfl, hb⟩
      go_wp2_with fail
      refine (Hw.out _ _).mono ?_
      rintro e w2 ⟨rfl, h⟩
      subst h
      rw [HW.out]
      go_wp2_with fail
      refine (Hw.out _ _).mono ?_
      rintro e w2 ⟨rfl, h⟩
      subst h
      go_wp2_with fail
      go_ret
      exact ⟨ret_bool HN2.out.symm, hb⟩

end Go.Proofs.YtgcldedkempjhaaDoor
