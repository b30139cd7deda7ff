/-
  depotref: who may get a version; Feed, Publish, Yank, Grant.
-/
import Derived.Test.YtgcldedkempjhabGreatDoorRefWants
import Derived.Test.YtgcldedkempjhabGreatDoorSim
namespace Go.Proofs.YtgcldedkempjhabGreatDoor
open Go.RowKit

set_option maxHeartbeats 1600000 in
set_option maxRecDepth 100000 in
theorem rmayv_any (rb : Nat) (root time : Int) (ao : Option Addr) (cap : Nat) (ds : List Deed) (house pack : ByteArray) (v : Int) (text : ByteArray) (w : World)
    (hr : RefAt w rb root time ao cap ds) (hlen : ds.length ≤ 1000000000000) (hs : text.size ≤ 1000000000) :
    Calls Tryz.prog 58 #[.pointer (some ⟨rb, 0, none⟩), .string house, .string pack, .int .i64 v, .string text] w fun e w' => e = .returned (.int .i64 (mayE ds house pack v text)) ∧ Below w.heap.size w w' := by
  have HW := hide (wants_any text w hs)
  have HR := hide (fun W h => release_any rb root time ao cap ds house pack v W h hlen)
  have HP := hide (fun W h => did_any rb root time ao cap ds kPublish house W h hlen)
  have HF := hide (fun W h => did_any rb root time ao cap ds kFeed house W h hlen)
  have l1 := didF_le ds kPublish house
  have l2 := didF_le ds kFeed house
  obtain ⟨E, hE⟩ : ∃ E, E = mayE ds house pack v text := ⟨_, rfl⟩
  rw [← hE]
  have HE := hide hE
  clear hE
  unfold mayE roomN roomM at HE
  unfold DWantsAs at HW
  generalize didF ds kPublish house = n1 at *
  generalize didF ds kFeed house = n2 at *
  generalize wantsF text = ow at *
  generalize relF ds house pack v = orl at *
  cases hemp : house.toList.isEmpty with
  | true =>
    rw [hemp] at HE
    simp only [if_true] at HE
    by_cases hv : v < 1 ∨ 9 < v
    · have H := hide (show E = 1 by rw [HE.out, if_pos hv])
      have HV := hide hv
      clear hv
      rcases (show v < 1 ∨ (1 ≤ v ∧ 9 < v) by have := HV.out; omega) with hv | ⟨hv0, hv⟩
      · go_enter Tryz.func58, Tryz.ntmps58
        go_wp2_with fail
        refine HW.out.mono ?_
        rintro e w1 ⟨⟨wao, wn, wcap, rfl, _⟩, hb1⟩
        go_wp2_with fail
        refine (HR.out _ (hr.below hb1)).mono ?_
        rintro e w2 ⟨⟨x, _, rfl⟩, hb2⟩
        have hb3 := below_call hb1 hb2
        have hb4 := hb3.alloc hb3.size (.cells #[.string x.kind, .string x.house, .int .i64 x.who, .string x.pack, .string x.to, .int .i64 x.num, .int .i64 x.role, .int .i64 x.till, .string x.wants] 93)
        go_wp2_with fail
        refine (HP.out _ (hr.below hb4)).mono ?_
        rintro e w3 ⟨rfl, h⟩
        subst h
        go_wp2_with fail
        refine (HF.out _ (hr.below hb4)).mono ?_
        rintro e w4 ⟨rfl, h⟩
        subst h
        go_wp2_with fail
        go_ret
        exact ⟨ret_int H.out.symm, hb4⟩
      · go_enter Tryz.func58, Tryz.ntmps58
        go_wp2_with fail
        refine HW.out.mono ?_
        rintro e w1 ⟨⟨wao, wn, wcap, rfl, _⟩, hb1⟩
        go_wp2_with fail
        refine (HR.out _ (hr.below hb1)).mono ?_
        rintro e w2 ⟨⟨x, _, rfl⟩, hb2⟩
        have hb3 := below_call hb1 hb2
        have hb4 := hb3.alloc hb3.size (.cells #[.string x.kind, .string x.house, .int .i64 x.who, .string x.pack, .string x.to, .int .i64 x.num, .int .i64 x.role, .int .i64 x.till, .string x.wants] 93)
        go_wp2_with fail
        refine (HP.out _ (hr.below hb4)).mono ?_
        rintro e w3 ⟨rfl, h⟩
        subst h
        go_wp2_with fail
        refine (HF.out _ (hr.below hb4)).mono ?_
        rintro e w4 ⟨rfl, h⟩
        subst h
        go_wp2_with fail
        go_ret
        exact ⟨ret_int H.out.symm, hb4⟩
    · have hv1 : 1 ≤ v := by omega
      have hv2 : v ≤ 9 := by omega
      have HE2 := hide (HE.out.trans (if_neg hv))
      clear hv HE
      cases ow with
      | none =>
        have H := hide (show E = 8 by rw [HE2.out]; rfl)
        clear HE2
        simp only [Option.isSome_none] at HW
        go_enter Tryz.func58, Tryz.ntmps58
        go_wp2_with fail
        refine HW.out.mono ?_
        rintro e w1 ⟨⟨wao, wn, wcap, rfl, _⟩, hb1⟩
        go_wp2_with fail
        refine (HR.out _ (hr.below hb1)).mono ?_
        rintro e w2 ⟨⟨x, _, rfl⟩, hb2⟩
        have hb3 := below_call hb1 hb2
        have hb4 := hb3.alloc hb3.size (.cells #[.string x.kind, .string x.house, .int .i64 x.who, .string x.pack, .string x.to, .int .i64 x.num, .int .i64 x.role, .int .i64 x.till, .string x.wants] 93)
        go_wp2_with fail
        refine (HP.out _ (hr.below hb4)).mono ?_
        rintro e w3 ⟨rfl, h⟩
        subst h
        go_wp2_with fail
        refine (HF.out _ (hr.below hb4)).mono ?_
        rintro e w4 ⟨rfl, h⟩
        subst h
        go_wp2_with fail
        go_ret
        exact ⟨ret_int H.out.symm, hb4⟩
      | some ws =>
        simp only [Option.isSome_some] at HW
        cases orl with
        | some y =>
          have H := hide (show E = 5 by rw [HE2.out]; rfl)
          clear HE2
          simp only [Option.isSome_some] at HR
          go_enter Tryz.func58, Tryz.ntmps58
          go_wp2_with fail
          refine HW.out.mono ?_
          rintro e w1 ⟨⟨wao, wn, wcap, rfl, _⟩, hb1⟩
          go_wp2_with fail
          refine (HR.out _ (hr.below hb1)).mono ?_
          rintro e w2 ⟨⟨x, _, rfl⟩, hb2⟩
          have hb3 := below_call hb1 hb2
          have hb4 := hb3.alloc hb3.size (.cells #[.string x.kind, .string x.house, .int .i64 x.who, .string x.pack, .string x.to, .int .i64 x.num, .int .i64 x.role, .int .i64 x.till, .string x.wants] 93)
          go_wp2_with fail
          refine (HP.out _ (hr.below hb4)).mono ?_
          rintro e w3 ⟨rfl, h⟩
          subst h
          go_wp2_with fail
          refine (HF.out _ (hr.below hb4)).mono ?_
          rintro e w4 ⟨rfl, h⟩
          subst h
          go_wp2_with fail
          go_ret
          exact ⟨ret_int H.out.symm, hb4⟩
        | none =>
          simp only [Option.isSome_none] at HR
          by_cases hn : n2 = 24
          · have H := hide (show E = 6 by rw [HE2.out, hn]; rfl)
            clear HE2
            have t1 : ((n2 : Int) == 24) = true := by rw [beq_iff_eq]; omega
            clear hn
            go_enter Tryz.func58, Tryz.ntmps58
            go_wp2_with fail
            refine HW.out.mono ?_
            rintro e w1 ⟨⟨wao, wn, wcap, rfl, _⟩, hb1⟩
            go_wp2_with fail
            refine (HR.out _ (hr.below hb1)).mono ?_
            rintro e w2 ⟨⟨x, _, rfl⟩, hb2⟩
            have hb3 := below_call hb1 hb2
            have hb4 := hb3.alloc hb3.size (.cells #[.string x.kind, .string x.house, .int .i64 x.who, .string x.pack, .string x.to, .int .i64 x.num, .int .i64 x.role, .int .i64 x.till, .string x.wants] 93)
            go_wp2_with fail
            refine (HP.out _ (hr.below hb4)).mono ?_
            rintro e w3 ⟨rfl, h⟩
            subst h
            go_wp2_with fail
            refine (HF.out _ (hr.below hb4)).mono ?_
            rintro e w4 ⟨rfl, h⟩
            subst h
            go_wp2_with fail
            go_ret
            exact ⟨ret_int H.out.symm, hb4⟩
          · have H := hide (show E = 0 by rw [HE2.out]; simp [hn])
            clear HE2
            have t1 : ((n2 : Int) == 24) = false := by rw [beq_eq_false_iff_ne]; omega
            clear hn
            go_enter Tryz.func58, Tryz.ntmps58
            go_wp2_with fail
            refine HW.out.mono ?_
            rintro e w1 ⟨⟨wao, wn, wcap, rfl, _⟩, hb1⟩
            go_wp2_with fail
            refine (HR.out _ (hr.below hb1)).mono ?_
            rintro e w2 ⟨⟨x, _, rfl⟩, hb2⟩
            have hb3 := below_call hb1 hb2
            have hb4 := hb3.alloc hb3.size (.cells #[.string x.kind, .string x.house, .int .i64 x.who, .string x.pack, .string x.to, .int .i64 x.num, .int .i64 x.role, .int .i64 x.till, .string x.wants] 93)
            go_wp2_with fail
            refine (HP.out _ (hr.below hb4)).mono ?_
            rintro e w3 ⟨rfl, h⟩
            subst h
            go_wp2_with fail
            refine (HF.out _ (hr.below hb4)).mono ?_
            rintro e w4 ⟨rfl, h⟩
            subst h
            go_wp2_with fail
            go_ret
            exact ⟨ret_int H.out.symm, hb4⟩
  | false =>
    rw [hemp] at HE
    simp only [Bool.false_eq_true, if_false] at HE
    by_cases hv : v < 1 ∨ 9 < v
    · have H := hide (show E = 1 by rw [HE.out, if_pos hv])
      have HV := hide hv
      clear hv
      rcases (show v < 1 ∨ (1 ≤ v ∧ 9 < v) by have := HV.out; omega) with hv | ⟨hv0, hv⟩
      · go_enter Tryz.func58, Tryz.ntmps58
        go_wp2_with fail
        refine HW.out.mono ?_
        rintro e w1 ⟨⟨wao, wn, wcap, rfl, _⟩, hb1⟩
        go_wp2_with fail
        refine (HR.out _ (hr.below hb1)).mono ?_
        rintro e w2 ⟨⟨x, _, rfl⟩, hb2⟩
        have hb3 := below_call hb1 hb2
        have hb4 := hb3.alloc hb3.size (.cells #[.string x.kind, .string x.house, .int .i64 x.who, .string x.pack, .string x.to, .int .i64 x.num, .int .i64 x.role, .int .i64 x.till, .string x.wants] 93)
        go_wp2_with fail
        refine (HP.out _ (hr.below hb4)).mono ?_
        rintro e w3 ⟨rfl, h⟩
        subst h
        go_wp2_with fail
        go_ret
        exact ⟨ret_int H.out.symm, hb4⟩
      · go_enter Tryz.func58, Tryz.ntmps58
        go_wp2_with fail
        refine HW.out.mono ?_
        rintro e w1 ⟨⟨wao, wn, wcap, rfl, _⟩, hb1⟩
        go_wp2_with fail
        refine (HR.out _ (hr.below hb1)).mono ?_
        rintro e w2 ⟨⟨x, _, rfl⟩, hb2⟩
        have hb3 := below_call hb1 hb2
        have hb4 := hb3.alloc hb3.size (.cells #[.string x.kind, .string x.house, .int .i64 x.who, .string x.pack, .string x.to, .int .i64 x.num, .int .i64 x.role, .int .i64 x.till, .string x.wants] 93)
        go_wp2_with fail
        refine (HP.out _ (hr.below hb4)).mono ?_
        rintro e w3 ⟨rfl, h⟩
        subst h
        go_wp2_with fail
        go_ret
        exact ⟨ret_int H.out.symm, hb4⟩
    · have hv1 : 1 ≤ v := by omega
      have hv2 : v ≤ 9 := by omega
      have HE2 := hide (HE.out.trans (if_neg hv))
      clear hv HE
      cases ow with
      | none =>
        have H := hide (show E = 8 by rw [HE2.out]; rfl)
        clear HE2
        simp only [Option.isSome_none] at HW
        go_enter Tryz.func58, Tryz.ntmps58
        go_wp2_with fail
        refine HW.out.mono ?_
        rintro e w1 ⟨⟨wao, wn, wcap, rfl, _⟩, hb1⟩
        go_wp2_with fail
        refine (HR.out _ (hr.below hb1)).mono ?_
        rintro e w2 ⟨⟨x, _, rfl⟩, hb2⟩
        have hb3 := below_call hb1 hb2
        have hb4 := hb3.alloc hb3.size (.cells #[.string x.kind, .string x.house, .int .i64 x.who, .string x.pack, .string x.to, .int .i64 x.num, .int .i64 x.role, .int .i64 x.till, .string x.wants] 93)
        go_wp2_with fail
        refine (HP.out _ (hr.below hb4)).mono ?_
        rintro e w3 ⟨rfl, h⟩
        subst h
        go_wp2_with fail
        go_ret
        exact ⟨ret_int H.out.symm, hb4⟩
      | some ws =>
        simp only [Option.isSome_some] at HW
        cases orl with
        | some y =>
          have H := hide (show E = 5 by rw [HE2.out]; rfl)
          clear HE2
          simp only [Option.isSome_some] at HR
          go_enter Tryz.func58, Tryz.ntmps58
          go_wp2_with fail
          refine HW.out.mono ?_
          rintro e w1 ⟨⟨wao, wn, wcap, rfl, _⟩, hb1⟩
          go_wp2_with fail
          refine (HR.out _ (hr.below hb1)).mono ?_
          rintro e w2 ⟨⟨x, _, rfl⟩, hb2⟩
          have hb3 := below_call hb1 hb2
          have hb4 := hb3.alloc hb3.size (.cells #[.string x.kind, .string x.house, .int .i64 x.who, .string x.pack, .string x.to, .int .i64 x.num, .int .i64 x.role, .int .i64 x.till, .string x.wants] 93)
          go_wp2_with fail
          refine (HP.out _ (hr.below hb4)).mono ?_
          rintro e w3 ⟨rfl, h⟩
          subst h
          go_wp2_with fail
          go_ret
          exact ⟨ret_int H.out.symm, hb4⟩
        | none =>
          simp only [Option.isSome_none] at HR
          by_cases hn : n1 = 12
          · have H := hide (show E = 6 by rw [HE2.out, hn]; rfl)
            clear HE2
            have t1 : ((n1 : Int) == 12) = true := by rw [beq_iff_eq]; omega
            clear hn
            go_enter Tryz.func58, Tryz.ntmps58
            go_wp2_with fail
            refine HW.out.mono ?_
            rintro e w1 ⟨⟨wao, wn, wcap, rfl, _⟩, hb1⟩
            go_wp2_with fail
            refine (HR.out _ (hr.below hb1)).mono ?_
            rintro e w2 ⟨⟨x, _, rfl⟩, hb2⟩
            have hb3 := below_call hb1 hb2
            have hb4 := hb3.alloc hb3.size (.cells #[.string x.kind, .string x.house, .int .i64 x.who, .string x.pack, .string x.to, .int .i64 x.num, .int .i64 x.role, .int .i64 x.till, .string x.wants] 93)
            go_wp2_with fail
            refine (HP.out _ (hr.below hb4)).mono ?_
            rintro e w3 ⟨rfl, h⟩
            subst h
            go_wp2_with fail
            go_ret
            exact ⟨ret_int H.out.symm, hb4⟩
          · have H := hide (show E = 0 by rw [HE2.out]; simp [hn])
            clear HE2
            have t1 : ((n1 : Int) == 12) = false := by rw [beq_eq_false_iff_ne]; omega
            clear hn
            go_enter Tryz.func58, Tryz.ntmps58
            go_wp2_with fail
            refine HW.out.mono ?_
            rintro e w1 ⟨⟨wao, wn, wcap, rfl, _⟩, hb1⟩
            go_wp2_with fail
            refine (HR.out _ (hr.below hb1)).mono ?_
            rintro e w2 ⟨⟨x, _, rfl⟩, hb2⟩
            have hb3 := below_call hb1 hb2
            have hb4 := hb3.alloc hb3.size (.cells #[.string x.kind, .string x.house, .int .i64 x.who, .string x.pack, .string x.to, .int .i64 x.num, .int .i64 x.role, .int .i64 x.till, .string x.wants] 93)
            go_wp2_with fail
            refine (HP.out _ (hr.below hb4)).mono ?_
            rintro e w3 ⟨rfl, h⟩
            subst h
            go_wp2_with fail
            go_ret
            exact ⟨ret_int H.out.symm, hb4⟩

end Go.Proofs.YtgcldedkempjhabGreatDoor
