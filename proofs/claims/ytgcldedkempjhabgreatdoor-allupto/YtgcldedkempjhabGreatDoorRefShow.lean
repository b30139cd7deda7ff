/-
  depotref: Seen, number of one digit, Show.
-/
import Derived.Test.YtgcldedkempjhabGreatDoorSim
import Derived.OwnWalk
namespace Go.Proofs.YtgcldedkempjhabGreatDoor
open Go.RowKit

theorem cutF_size' (s : ByteArray) (c : Int) (x : ByteArray) (h : x ∈ cutF s c) : x.size ≤ s.size := by
  have hto : ∀ k, k ≤ s.size → ∀ x ∈ (cutTo s c k).1, x.size ≤ s.size := by
    intro k
    induction k with
    | zero => intro _ x hx; cases hx
    | succ k ih =>
      intro hk x hx
      have e : cutTo s c (k + 1) = if (byteAt s k == c) = true then ((cutTo s c k).1 ++ [s.extract (cutTo s c k).2 k], k + 1) else cutTo s c k := rfl
      rw [e] at hx
      split at hx
      · rcases List.mem_append.1 hx with hx | hx
        · exact ih (by omega) x hx
        · simp at hx; subst hx; rw [ByteArray.size_extract]; omega
      · exact ih (by omega) x hx
  rcases List.mem_append.1 h with h | h
  · exact hto s.size (Nat.le_refl _) x h
  · simp at h; subst h; rw [ByteArray.size_extract]; omega

theorem ownerF_size (ds : List Deed) (s : ByteArray) : (ownerF ds s).1.size ≤ s.size := by
  unfold ownerF
  split
  · rename_i a b he
    split
    · exact cutF_size' s 47 a (by rw [he]; simp)
    · exact Nat.zero_le _
  · exact Nat.zero_le _

theorem whoseE_size (o : ByteArray) : (whoseE o).size ≤ o.size + 6 := by
  unfold whoseE
  split
  · exact Nat.le_add_left _ _
  · omega

theorem oneE_size (ds : List Deed) (o pack : ByteArray) (v : Nat) : (oneE ds o pack v).size ≤ 2 := by
  unfold oneE
  split
  · rw [ByteArray.size_append]; exact Nat.le_refl 2
  · exact Nat.le_succ 1

theorem tellE_size (ds : List Deed) (o pack : ByteArray) (k : Nat) : (tellE ds o pack k).size ≤ 3 * k := by
  induction k with
  | zero => exact Nat.le_refl 0
  | succ k ih =>
    have h1 := oneE_size ds o pack (9 - k)
    unfold tellE
    split
    · split
      · omega
      · rw [ByteArray.size_append, ByteArray.size_append]
        have h3 : (⟨#[44]⟩ : ByteArray).size = 1 := rfl
        omega
    · omega

set_option maxHeartbeats 800000 in
set_option maxRecDepth 100000 in
theorem rseen_any (rb : Nat) (root time : Int) (ao : Option Addr) (cap : Nat) (ds : List Deed) (house s : ByteArray) (w : World)
    (hr : RefAt w rb root time ao cap ds) (hlen : ds.length ≤ 1000000000000) (hs : s.size ≤ 1000000000) :
    Calls Tryz.prog 73 #[.pointer (some ⟨rb, 0, none⟩), .string house, .string s] w fun e w' =>
      e = .returned (.tuple #[.string (ownerF ds s).1, .string (ownerF ds s).2, .bool (seenE ds house s)]) ∧ Below w.heap.size w w' := by
  have Ho := hide (owner_any rb root time ao cap ds s w hr hlen hs)
  have Hh := hide (fun W h => has_any rb root time ao cap ds (ownerF ds s).1 (ownerF ds s).2 W h hlen)
  have Hg := hide (fun W h => granted_any rb root time ao cap ds (ownerF ds s).1 (ownerF ds s).2 house W h hlen)
  obtain ⟨S, hS⟩ : ∃ S, S = seenE ds house s := ⟨_, rfl⟩
  rw [← hS]
  unfold seenE at hS
  generalize ownerF ds s = p at *
  obtain ⟨o, pk⟩ := p
  simp only at hS Hh Hg Ho
  have HS := hide hS
  clear hS
  generalize hasF ds o pk = b1 at *
  generalize grantF ds o pk house = b2 at *
  go_enter Tryz.func73, Tryz.ntmps73
  go_wp2_with fail
  refine Ho.out.mono ?_
  rintro e w1 ⟨rfl, hb1⟩
  go_wp2_with fail
  refine (Hh.out _ (hr.below hb1)).mono ?_
  rintro e w2 ⟨rfl, hb2⟩
  have hb3 := below_call hb1 hb2
  go_wp2_with fail
  refine (Hg.out _ (hr.below hb3)).mono ?_
  rintro e w3 ⟨rfl, hb4⟩
  have hb5 := below_call hb3 hb4
  clear Ho Hh Hg hb1 hb2 hb3 hb4
  cases b1 with
  | false =>
    have H := hide (show S = false by rw [HS.out]; rfl)
    clear HS
    go_wp2_with fail
    rw [H.out]
    go_ret3
    exact ⟨rfl, hb5⟩
  | true =>
    cases h1 : o.toList.isEmpty with
    | true =>
      have H := hide (show S = true by rw [HS.out, h1]; rfl)
      clear HS
      go_wp2_with fail
      rw [H.out]
      go_ret3
      exact ⟨rfl, hb5⟩
    | false =>
      cases h2 : (o.toList == house.toList) with
      | true =>
        have H := hide (show S = true by rw [HS.out, h1, h2]; rfl)
        clear HS
        go_wp2_with fail
        rw [H.out]
        go_ret3
        exact ⟨rfl, hb5⟩
      | false =>
        have H := hide (show S = b2 by rw [HS.out, h1, h2]; simp)
        clear HS
        go_wp2_with fail
        rw [H.out]
        go_ret3
        exact ⟨rfl, hb5⟩

set_option maxHeartbeats 400000 in
theorem rnumber_one (v : Nat) (h1 : v < 10) (w : World) :
    Calls Tryz.prog 74 #[.int .i64 v] w fun e w' => e = .returned (.string (digitS v)) ∧ w' = w := by
  have hv : v = 0 ∨ v = 1 ∨ v = 2 ∨ v = 3 ∨ v = 4 ∨ v = 5 ∨ v = 6 ∨ v = 7 ∨ v = 8 ∨ v = 9 := by omega
  rcases hv with rfl | rfl | rfl | rfl | rfl | rfl | rfl | rfl | rfl | rfl
  all_goals
    go_enter Tryz.func74, Tryz.ntmps74
    go_wp2
    go_ret
    exact ⟨rfl, rfl⟩

set_option maxHeartbeats 1600000 in
set_option maxRecDepth 100000 in
theorem rshow_any (rb : Nat) (root time : Int) (ao : Option Addr) (cap : Nat) (ds : List Deed) (house : ByteArray) (id : Int) (s : ByteArray) (w : World)
    (hr : RefAt w rb root time ao cap ds) (hlen : ds.length ≤ 1000000000000) (hs : s.size ≤ 1000000000) :
    Calls Tryz.prog 33 #[.pointer (some ⟨rb, 0, none⟩), .string house, .int .i64 id, .string s] w fun e w' =>
      e = .returned (.tuple #[.string (showE (roleF root time ds house id) ds house s).1, .int .i64 (showE (roleF root time ds house id) ds house s).2]) ∧ Below w.heap.size w w' := by
  have Hr := hide (role_any rb root time ao cap ds house id w hr hlen)
  have Hn := hide (fun W => name_any s W hs)
  have Hs := hide (fun W h => rseen_any rb root time ao cap ds house s W h hlen hs)
  obtain ⟨S, hS⟩ : ∃ S, S = showE (roleF root time ds house id) ds house s := ⟨_, rfl⟩
  rw [← hS]
  unfold showE at hS
  have hosz := ownerF_size ds s
  generalize roleF root time ds house id = r at *
  generalize ownerF ds s = p at *
  obtain ⟨o, pk⟩ := p
  simp only at hS Hs hosz
  have HS := hide hS
  clear hS
  cases h0 : (r == 0) with
  | true =>
    have H : S = (⟨#[]⟩, 3) := by rw [HS.out, h0]; rfl
    subst H
    clear HS
    go_enter Tryz.func33, Tryz.ntmps33
    go_wp2_with fail
    refine Hr.out.mono ?_
    rintro e w1 ⟨rfl, hb1⟩
    go_wp2_with fail
    refine (Hn.out _).mono ?_
    rintro e w2 ⟨rfl, hb2⟩
    have hb3 := below_call hb1 hb2
    go_wp2_with fail
    go_ret2
    exact ⟨rfl, hb3⟩
  | false =>
    cases hn : nameF s with
    | false =>
      have H : S = (⟨#[]⟩, 2) := by rw [HS.out, h0, hn]; rfl
      subst H
      have HN := hide hn
      clear HS hn
      go_enter Tryz.func33, Tryz.ntmps33
      go_wp2_with fail
      refine Hr.out.mono ?_
      rintro e w1 ⟨rfl, hb1⟩
      go_wp2_with fail
      refine (Hn.out _).mono ?_
      rintro e w2 ⟨rfl, hb2⟩
      rw [HN.out]
      have hb3 := below_call hb1 hb2
      go_wp2_with fail
      go_ret2
      exact ⟨rfl, hb3⟩
    | true =>
      have HN := hide hn
      have HS2 := hide (show S = if seenE ds house s = false then (⟨#[]⟩, 7) else (whoseE o ++ ⟨#[58]⟩ ++ tellE ds o pk 9, 0) by rw [HS.out, h0, hn]; rfl)
      clear HS hn
      cases hsee : seenE ds house s with
      | false =>
        have H : S = (⟨#[]⟩, 7) := by rw [HS2.out, hsee]; rfl
        subst H
        have HSE := hide hsee
        clear HS2 hsee
        go_enter Tryz.func33, Tryz.ntmps33
        go_wp2_with fail
        refine Hr.out.mono ?_
        rintro e w1 ⟨rfl, hb1⟩
        go_wp2_with fail
        refine (Hn.out _).mono ?_
        rintro e w2 ⟨rfl, hb2⟩
        rw [HN.out]
        have hb3 := below_call hb1 hb2
        go_wp2_with fail
        refine (Hs.out _ (hr.below hb3)).mono ?_
        rintro e w3 ⟨rfl, hb4⟩
        rw [HSE.out]
        have hb5 := below_call hb3 hb4
        go_wp2_with fail
        go_ret2
        exact ⟨rfl, hb5⟩
      | true =>
        have H : S = (whoseE o ++ ⟨#[58]⟩ ++ tellE ds o pk 9, 0) := by rw [HS2.out, hsee]; rfl
        subst H
        have HSE := hide hsee
        clear HS2 hsee
        have HRel := hide (fun v W h => release_any rb root time ao cap ds o pk v W h hlen)
        have HY := hide (fun v W h => yanked_any rb root time ao cap ds o pk v W h hlen)
        have HNum := hide (fun v h W => rnumber_one v h W)
        have HWh := hide (fun W => whose_any o W)
        have hwsz := whoseE_size o
        have HWE := hide (show (if o.toList.isEmpty then (⟨#[112, 117, 98, 108, 105, 99]⟩ : ByteArray) else o) = whoseE o from rfl)
        go_enter Tryz.func33, Tryz.ntmps33
        go_wp2_with fail
        refine Hr.out.mono ?_
        rintro e w1 ⟨rfl, hb1⟩
        go_wp2_with fail
        refine (Hn.out _).mono ?_
        rintro e w2 ⟨rfl, hb2⟩
        rw [HN.out]
        have hb3 := below_call hb1 hb2
        go_wp2_with fail
        refine (Hs.out _ (hr.below hb3)).mono ?_
        rintro e w3 ⟨rfl, hb4⟩
        rw [HSE.out]
        have hb5 := below_call hb3 hb4
        clear Hr Hn Hs hb1 hb2 hb3 hb4
        go_wp2_with fail
        go_loopw [15, 16, 17, 18, 19, 20] (fun t i _ _ _ _ wr => ∃ k : Nat, k ≤ 9 ∧ i = .int .i64 ((9 - k : Nat) : Int) ∧ t = .string (tellE ds o pk k) ∧ Below w.heap.size w wr) (fun _ i _ _ _ _ _ => (intOf i).toNat)
        case atStart => exact ⟨0, Nat.zero_le _, rfl, rfl, hb5⟩
        case round =>
          obtain ⟨k, hk, rfl, rfl, hb⟩ := hrel
          have htsz := tellE_size ds o pk k
          by_cases hlt : k < 9
          · have HT := hide (show tellE ds o pk (k + 1) = if (relF ds o pk ((9 - k : Nat) : Int)).isSome then (if (tellE ds o pk k).toList.isEmpty then oneE ds o pk (9 - k) else oneE ds o pk (9 - k) ++ ⟨#[44]⟩ ++ tellE ds o pk k) else tellE ds o pk k from rfl)
            have HONE := hide (show oneE ds o pk (9 - k) = if yankF ds o pk ((9 - k : Nat) : Int) then digitS (9 - k) ++ ⟨#[42]⟩ else digitS (9 - k) from rfl)
            have hdsz : (digitS (9 - k)).size = 1 := rfl
            obtain ⟨u, hu⟩ : ∃ u : Nat, u = 9 - k := ⟨_, rfl⟩
            have hu1 : 1 ≤ u := by omega
            have hu9 : u ≤ 9 := by omega
            have HU := hide (show ((9 - (k + 1) : Nat) : Int) = (u : Int) - 1 by omega)
            rw [← hu] at HT HONE hdsz
            rw [← hu]
            have HK := hide hu
            clear hu
            generalize tellE ds o pk k = t at *
            have HNum2 := hide (fun W => HNum.out u (by omega) W)
            generalize digitS u = dg at *
            cases hrel : relF ds o pk (u : Int) with
            | none =>
              have HF := hide (show tellE ds o pk (k + 1) = t by rw [HT.out, hrel]; rfl)
              have HREL := hide hrel
              clear HT hrel
              go_wp2_with fail
              refine (HRel.out _ _ (hr.below hb)).mono ?_
              rintro e w4 ⟨⟨x, _, rfl⟩, hb6⟩
              rw [HREL.out]
              simp only [Option.isSome_none]
              have hb7 := below_call hb hb6
              go_wp2_with fail
              go_roundw
              case rel => exact ⟨k + 1, by omega, by rw [HU.out], by rw [HF.out], hb7.alloc hb7.size _⟩
              case measure => simp [intOf] <;> omega
            | some y =>
              have HREL := hide hrel
              have HT2 := hide (show tellE ds o pk (k + 1) = if t.toList.isEmpty then oneE ds o pk u else oneE ds o pk u ++ ⟨#[44]⟩ ++ t by rw [HT.out, hrel]; rfl)
              clear HT hrel
              cases hy : yankF ds o pk (u : Int) with
              | true =>
                have HY1 := hide hy
                have HONE2 := hide (show oneE ds o pk u = dg ++ ⟨#[42]⟩ by rw [HONE.out, hy]; rfl)
                clear HONE hy
                cases ht : t.toList.isEmpty with
                | true =>
                  have HF := hide (show tellE ds o pk (k + 1) = dg ++ ⟨#[42]⟩ by rw [HT2.out, ht, ← HONE2.out]; rfl)
                  clear HT2
                  go_wp2_with fail
                  refine (HRel.out _ _ (hr.below hb)).mono ?_
                  rintro e w4 ⟨⟨x, _, rfl⟩, hb6⟩
                  rw [HREL.out]
                  simp only [Option.isSome_some]
                  have hb7 := below_call hb hb6
                  have hb8 := hb7.alloc hb7.size (.cells #[.string x.kind, .string x.house, .int .i64 x.who, .string x.pack, .string x.to, .int .i64 x.num, .int .i64 x.role, .int .i64 x.till, .string x.wants] 93)
                  go_wp2_with fail
                  refine (HNum2.out _).mono ?_
                  rintro e w5 ⟨rfl, h⟩
                  subst h
                  go_wp2_with fail
                  refine (HY.out _ _ (hr.below hb8)).mono ?_
                  rintro e w6 ⟨rfl, hb9⟩
                  rw [HY1.out]
                  have hb10 := below_call hb8 hb9
                  go_wp2_with fail
                  go_roundw
                  case rel => exact ⟨k + 1, by omega, by rw [HU.out], by rw [HF.out], hb10⟩
                  case measure => simp [intOf] <;> omega
                | false =>
                  have HF := hide (show tellE ds o pk (k + 1) = dg ++ ⟨#[42]⟩ ++ ⟨#[44]⟩ ++ t by rw [HT2.out, ht, ← HONE2.out]; rfl)
                  clear HT2
                  go_wp2_with fail
                  refine (HRel.out _ _ (hr.below hb)).mono ?_
                  rintro e w4 ⟨⟨x, _, rfl⟩, hb6⟩
                  rw [HREL.out]
                  simp only [Option.isSome_some]
                  have hb7 := below_call hb hb6
                  have hb8 := hb7.alloc hb7.size (.cells #[.string x.kind, .string x.house, .int .i64 x.who, .string x.pack, .string x.to, .int .i64 x.num, .int .i64 x.role, .int .i64 x.till, .string x.wants] 93)
                  go_wp2_with fail
                  refine (HNum2.out _).mono ?_
                  rintro e w5 ⟨rfl, h⟩
                  subst h
                  go_wp2_with fail
                  refine (HY.out _ _ (hr.below hb8)).mono ?_
                  rintro e w6 ⟨rfl, hb9⟩
                  rw [HY1.out]
                  have hb10 := below_call hb8 hb9
                  go_wp2_with fail
                  go_roundw
                  case rel => exact ⟨k + 1, by omega, by rw [HU.out], by rw [HF.out], hb10⟩
                  case measure => simp [intOf] <;> omega
              | false =>
                have HY1 := hide hy
                have HONE2 := hide (show oneE ds o pk u = dg by rw [HONE.out, hy]; rfl)
                clear HONE hy
                cases ht : t.toList.isEmpty with
                | true =>
                  have HF := hide (show tellE ds o pk (k + 1) = dg by rw [HT2.out, ht, ← HONE2.out]; rfl)
                  clear HT2
                  go_wp2_with fail
                  refine (HRel.out _ _ (hr.below hb)).mono ?_
                  rintro e w4 ⟨⟨x, _, rfl⟩, hb6⟩
                  rw [HREL.out]
                  simp only [Option.isSome_some]
                  have hb7 := below_call hb hb6
                  have hb8 := hb7.alloc hb7.size (.cells #[.string x.kind, .string x.house, .int .i64 x.who, .string x.pack, .string x.to, .int .i64 x.num, .int .i64 x.role, .int .i64 x.till, .string x.wants] 93)
                  go_wp2_with fail
                  refine (HNum2.out _).mono ?_
                  rintro e w5 ⟨rfl, h⟩
                  subst h
                  go_wp2_with fail
                  refine (HY.out _ _ (hr.below hb8)).mono ?_
                  rintro e w6 ⟨rfl, hb9⟩
                  rw [HY1.out]
                  have hb10 := below_call hb8 hb9
                  go_wp2_with fail
                  go_roundw
                  case rel => exact ⟨k + 1, by omega, by rw [HU.out], by rw [HF.out], hb10⟩
                  case measure => simp [intOf] <;> omega
                | false =>
                  have HF := hide (show tellE ds o pk (k + 1) = dg ++ ⟨#[44]⟩ ++ t by rw [HT2.out, ht, ← HONE2.out]; rfl)
                  clear HT2
                  go_wp2_with fail
                  refine (HRel.out _ _ (hr.below hb)).mono ?_
                  rintro e w4 ⟨⟨x, _, rfl⟩, hb6⟩
                  rw [HREL.out]
                  simp only [Option.isSome_some]
                  have hb7 := below_call hb hb6
                  have hb8 := hb7.alloc hb7.size (.cells #[.string x.kind, .string x.house, .int .i64 x.who, .string x.pack, .string x.to, .int .i64 x.num, .int .i64 x.role, .int .i64 x.till, .string x.wants] 93)
                  go_wp2_with fail
                  refine (HNum2.out _).mono ?_
                  rintro e w5 ⟨rfl, h⟩
                  subst h
                  go_wp2_with fail
                  refine (HY.out _ _ (hr.below hb8)).mono ?_
                  rintro e w6 ⟨rfl, hb9⟩
                  rw [HY1.out]
                  have hb10 := below_call hb8 hb9
                  go_wp2_with fail
                  go_roundw
                  case rel => exact ⟨k + 1, by omega, by rw [HU.out], by rw [HF.out], hb10⟩
                  case measure => simp [intOf] <;> omega
          · obtain rfl : k = 9 := by omega
            generalize ht9 : tellE ds o pk 9 = t at *
            have HT9 := hide ht9
            clear ht9
            go_wp2_with fail
            refine (HWh.out _).mono ?_
            rintro e w4 ⟨rfl, h⟩
            subst h
            rw [HWE.out]
            generalize hwo : whoseE o = wo at *
            have HWO := hide hwo
            clear hwo
            go_wp2_with fail
            go_ret2
            rw [HT9.out, HWO.out]
            exact ⟨rfl, hb⟩

end Go.Proofs.YtgcldedkempjhabGreatDoor
