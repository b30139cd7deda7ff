/-
  depotref: cut, name, whose, number of one digit, owner.
-/
import Derived.Test.YtgcldedkempjhaaGreatDoorRefPackB
namespace Go.Proofs.YtgcldedkempjhaaGreatDoor
open Go.RowKit

theorem Tryz.infoStr : (Tryz.prog.info? 9).map (fun i => (i.zero, i.size, i.bytes)) = some (some (.string ⟨#[]⟩), 1, 16) := by kernel_rfl

def strs (l : List ByteArray) : List Value := l.map Value.string

set_option maxHeartbeats 800000 in
set_option maxRecDepth 100000 in
theorem cut_any (s : ByteArray) (c : Int) (w : World) (hs : s.size ≤ 1000000000) :
    Calls Tryz.prog 97 #[.string s, .int .u8 c] w fun e w' =>
      ∃ g cap, e = .returned (.slice (some ⟨g, 0, none⟩) (cutF s c).length cap) ∧ w'.ownsRow w.heap.size 9 1 (.slice (some ⟨g, 0, none⟩) (cutF s c).length cap) (cutF s c).length (strs (cutF s c)) ∧ Below w.heap.size w w' := by
  obtain ⟨i0, ti, hz0, hz1, hz2⟩ := info_parts Tryz.infoStr
  go_enter Tryz.func97, Tryz.ntmps97
  go_wp2_with fail
  go_loopw [5, 6, 7] (fun v fr i wr => ∃ k : Nat, k ≤ s.size ∧ i = .int .i64 k ∧ fr = .int .i64 ((cutTo s c k).2 : Nat) ∧ wr.ownsRow w.heap.size 9 1 v (cutTo s c k).1.length (strs (cutTo s c k).1) ∧ Below w.heap.size w wr) (fun _ _ i _ => s.size - (intOf i).toNat)
  case atStart => exact ⟨0, Nat.zero_le _, rfl, rfl, World.ownsRow_nil _ _ _ _, Below.refl _ _⟩
  case round =>
    obtain ⟨k, hk, rfl, rfl, hown, hb⟩ := hrel
    obtain ⟨hl1, hl2⟩ := cutTo_le s c k
    by_cases hlt : k < s.size
    · have HC := hide (show cutTo s c (k + 1) = if ((s[k].toNat : Int) == c) = true then ((cutTo s c k).1 ++ [s.extract (cutTo s c k).2 k], k + 1) else cutTo s c k by rw [← byteAt_lt s k hlt]; rfl)
      generalize cutTo s c k = p at *
      obtain ⟨l, f⟩ := p
      simp only at hl1 hl2 hown
      cases ht : ((s[k].toNat : Int) == c) with
      | true =>
        have HC2 := hide (show cutTo s c (k + 1) = (l ++ [s.extract f k], k + 1) by rw [HC.out, if_pos ht])
        clear HC
        go_wp2_with (at_builtin; refine wpList_append_own2 _ rfl (.tmp 19) (.tmp 24) 144 rfl w.heap.size 9 i0 (.string ⟨#[]⟩) 1 16 Tryz.underlying144 ti hz0 hz1 hz2 rfl (by decide) _ l.length (strs l) rfl (hown.alloc _) ⟨wr.heap.size, 0, none⟩ 1 1 [.string (s.extract f k)] rfl rfl (news_at (t := 9) (fr := (0, 0)) (heap_alloc_new wr _)) ?_ (by unfold maxLen; omega) (by omega) ?_ (by omega) ?_)
        · intro u hu
          simp at hu
          subst hu
          rfl
        · have := hb.size; simp; omega
        · intro g' cap' w2 hown2 hgrow _
          have hb2 : Below w.heap.size w w2 := (hb.alloc hb.size _).grown hgrow (by have := hb.size; simp; omega) (fun k' hk' => (hown.lt k' hk').1)
          have HO := hide hown2
          clear hown hown2 hgrow hb
          go_wp2_with fail
          go_roundw
          case rel => exact ⟨k + 1, by omega, by go_num, by rw [HC2.out]; simp, by rw [HC2.out]; simpa [strs] using HO.out, hb2⟩
          case measure => simp [intOf] <;> omega
      | false =>
        have HC2 := hide (show cutTo s c (k + 1) = (l, f) by rw [HC.out, if_neg (by rw [ht]; decide)])
        clear HC
        go_wp2_with fail
        go_roundw
        case rel => exact ⟨k + 1, by omega, by go_num, by rw [HC2.out], by rw [HC2.out]; exact hown, hb⟩
        case measure => simp [intOf] <;> omega
    · obtain rfl : k = s.size := by omega
      have HC := hide (show cutF s c = (cutTo s c s.size).1 ++ [s.extract (cutTo s c s.size).2 s.size] from rfl)
      generalize cutTo s c s.size = p at *
      obtain ⟨l, f⟩ := p
      simp only at hl1 hl2 hown HC
      go_wp2_with (at_builtin; refine wpList_append_own2 _ rfl (.tmp 28) (.tmp 32) 144 rfl w.heap.size 9 i0 (.string ⟨#[]⟩) 1 16 Tryz.underlying144 ti hz0 hz1 hz2 rfl (by decide) _ l.length (strs l) rfl (hown.alloc _) ⟨wr.heap.size, 0, none⟩ 1 1 [.string (s.extract f s.size)] rfl rfl (news_at (t := 9) (fr := (0, 0)) (heap_alloc_new wr _)) ?_ (by unfold maxLen; omega) (by omega) ?_ (by omega) ?_)
      · intro u hu
        simp at hu
        subst hu
        rfl
      · have := hb.size; simp; omega
      · intro g' cap' w2 hown2 hgrow _
        have hb2 : Below w.heap.size w w2 := (hb.alloc hb.size _).grown hgrow (by have := hb.size; simp; omega) (fun k' hk' => (hown.lt k' hk').1)
        have HO := hide hown2
        clear hown hown2 hgrow hb
        go_wp2_with fail
        go_ret
        rw [HC.out]
        exact ⟨g', cap', by simp, by simpa [strs] using HO.out, hb2⟩

set_option maxHeartbeats 400000 in
theorem whose_any (o : ByteArray) (w : World) : Calls Tryz.prog 80 #[.string o] w fun e w' => e = .returned (.string (if o.toList.isEmpty then ⟨#[112, 117, 98, 108, 105, 99]⟩ else o)) ∧ w' = w := by
  cases h : o.toList.isEmpty with
  | true =>
    go_enter Tryz.func80, Tryz.ntmps80
    go_wp2
    go_ret
    exact ⟨rfl, rfl⟩
  | false =>
    go_enter Tryz.func80, Tryz.ntmps80
    go_wp2
    go_ret
    exact ⟨rfl, rfl⟩

theorem str_cell {w : World} {base g n cap : Nat} {l : List ByteArray} (h : w.ownsRow base 9 1 (.slice (some ⟨g, 0, none⟩) n cap) n (strs l)) (j : Nat) (hj : j < l.length) : w.cell? ⟨g, j, none⟩ = some (.string l[j]) := by
  have := h.cells (g := g) rfl j (.string l[j]) (by simp [strs, hj])
  rw [← this]
  congr 1
  unfold Addr.add; split <;> simp_all


set_option maxHeartbeats 800000 in
theorem name_any (s : ByteArray) (w : World) (hs : s.size ≤ 1000000000) :
    Calls Tryz.prog 61 #[.string s] w fun e w' => e = .returned (.bool (nameF s)) ∧ Below w.heap.size w w' := by
  have Hc := hide (cut_any s 47 w hs)
  have HN := hide (show nameF s = (decide ((cutF s 47).length ≤ 2) && (cutF s 47).all wordF) from rfl)
  generalize cutF s 47 = l at *
  have Hw := hide (fun x W => word_any x W)
  go_enter Tryz.func61, Tryz.ntmps61
  go_wp2_with fail
  refine Hc.out.mono ?_
  rintro e w1 ⟨g, cap, rfl, hown, hb⟩
  by_cases h2 : 2 < l.length
  · go_wp2_with fail
    go_ret
    exact ⟨ret_bool (by rw [HN.out]; simp; omega), hb⟩
  · go_wp2_with fail
    go_loop [4, 5] (fun i _ => ∃ k : Nat, k ≤ l.length ∧ i = .int .i64 k ∧ (l.take k).all wordF = true) (fun i _ => l.length - (intOf i).toNat)
    case atStart => exact ⟨0, Nat.zero_le _, rfl, rfl⟩
    case round =>
      obtain ⟨k, hk, rfl, hall⟩ := hrel
      have HA := hide hall
      clear hall
      by_cases hlt : k < l.length
      · have d0 := str_cell hown k hlt
        have HS := hide (show (l.take (k + 1)).all wordF = ((l.take k).all wordF && wordF l[k]) by rw [List.take_succ_eq_append_getElem hlt, List.all_append]; simp)
        cases hw : wordF l[k] with
        | true =>
          have HE := hide (show (l.take (k + 1)).all wordF = true by rw [HS.out, HA.out, hw]; rfl)
          have HW := hide hw
          clear hw
          go_wp2_with fail
          refine (Hw.out _ _).mono ?_
          rintro e w2 ⟨rfl, h⟩
          subst h
          rw [HW.out]
          go_wp2_with fail
          go_round
          case rel => exact ⟨k + 1, by omega, by go_num, HE.out⟩
          case measure => simp [intOf] <;> omega
        | false =>
          have HE := hide (show l.all wordF = false by
            rw [List.all_eq_false]
            exact ⟨l[k], List.getElem_mem _, by rw [hw]; decide⟩)
          have HW := hide hw
          clear hw
          go_wp2_with fail
          refine (Hw.out _ _).mono ?_
          rintro e w2 ⟨rfl, h⟩
          subst h
          rw [HW.out]
          go_wp2_with fail
          go_ret
          exact ⟨ret_bool (by rw [HN.out, HE.out]; simp), hb⟩
      · go_wp2_with fail
        go_ret
        exact ⟨ret_bool (by have := HA.out; rw [List.take_of_length_le (by omega)] at this; rw [HN.out, this]; simp; omega), hb⟩

/-- Whose a name is, and the package's name there. -/
def ownerF (ds : List Deed) (s : ByteArray) : ByteArray × ByteArray :=
  match cutF s 47 with
  | [a, b] => if 0 < didF ds kFound a then (a, b) else (⟨#[]⟩, s)
  | _ => (⟨#[]⟩, s)

set_option maxHeartbeats 800000 in
theorem owner_any (rb : Nat) (root time : Int) (ao : Option Addr) (cap : Nat) (ds : List Deed) (s : ByteArray) (w : World)
    (hr : RefAt w rb root time ao cap ds) (hlen : ds.length ≤ 1000000000000) (hs : s.size ≤ 1000000000) :
    Calls Tryz.prog 103 #[.pointer (some ⟨rb, 0, none⟩), .string s] w fun e w' => e = .returned (.tuple #[.string (ownerF ds s).1, .string (ownerF ds s).2]) ∧ Below w.heap.size w w' := by
  have Hc := hide (cut_any s 47 w hs)
  have Hi := hide (fun x W h => is_any rb root time ao cap ds x W h hlen)
  obtain ⟨p, hp⟩ : ∃ p, p = ownerF ds s := ⟨_, rfl⟩
  rw [← hp]
  unfold ownerF at hp
  generalize cutF s 47 = l at *
  by_cases h2 : l.length = 2
  · match l, h2 with
    | [a, b], _ =>
      simp only at hp
      cases hd : decide (0 < didF ds kFound a) with
      | true =>
        have hd' : 0 < didF ds kFound a := of_decide_eq_true hd
        rw [if_pos hd'] at hp
        subst hp
        have HD := hide hd
        clear hd hd'
        go_enter Tryz.func103, Tryz.ntmps103
        go_wp2_with fail
        refine Hc.out.mono ?_
        rintro e w1 ⟨g, cp, rfl, hown, hb⟩
        have d0 := str_cell hown 0 (by simp)
        have d1 := str_cell hown 1 (by simp)
        simp only [List.getElem_cons_zero, List.getElem_cons_succ] at d0 d1
        have hr1 := hr.below hb
        go_wp2_with fail
        refine (Hi.out _ _ hr1).mono ?_
        rintro e w2 ⟨rfl, h⟩
        subst h
        rw [HD.out]
        go_wp2_with fail
        go_quiet (fail)
        go_wp2_with fail
        go_ret2
        exact ⟨rfl, below_drawn hb _⟩
      | false =>
        have hd' : ¬ 0 < didF ds kFound a := of_decide_eq_false hd
        rw [if_neg hd'] at hp
        subst hp
        have HD := hide hd
        clear hd hd'
        go_enter Tryz.func103, Tryz.ntmps103
        go_wp2_with fail
        refine Hc.out.mono ?_
        rintro e w1 ⟨g, cp, rfl, hown, hb⟩
        have d0 := str_cell hown 0 (by simp)
        simp only [List.getElem_cons_zero] at d0
        have hr1 := hr.below hb
        go_wp2_with fail
        refine (Hi.out _ _ hr1).mono ?_
        rintro e w2 ⟨rfl, h⟩
        subst h
        rw [HD.out]
        go_wp2_with fail
        go_ret2
        exact ⟨rfl, hb⟩
  · have hp' : p = (⟨#[]⟩, s) := by
      rw [hp]
      split
      · simp at h2
      · rfl
    subst hp'
    have h2' : ((l.length : Int) == 2) = false := by rw [beq_eq_false_iff_ne]; omega
    clear hp h2
    go_enter Tryz.func103, Tryz.ntmps103
    go_wp2_with fail
    refine Hc.out.mono ?_
    rintro e w1 ⟨g, cp, rfl, hown, hb⟩
    go_wp2_with fail
    go_ret2
    exact ⟨rfl, hb⟩

end Go.Proofs.YtgcldedkempjhaaGreatDoor
