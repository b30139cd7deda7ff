/-
  depotlaw: one step of stage 2 on both depots.
-/
import Derived.Test.YtgcldedkempjhabGreatDoorLawTok
import Derived.Test.YtgcldedkempjhabGreatDoorRefPackD
import Derived.Test.YtgcldedkempjhabGreatDoorRefShow
namespace Go.Proofs.YtgcldedkempjhabGreatDoor
open Go.RowKit

theorem show_dep (db : Nat) (D : DepD) (house : ByteArray) (id : Int) (name : ByteArray) (w : World) (hr : DepAt w db D) (hs : name.size ≤ 4611686018427387000) (r1 : ByteArray) (r2 : Int) (hE : (r1, r2) = dshowP D.pure house id name) :
    Calls Tryz.prog 32 #[.pointer (some ⟨db, 0, none⟩), .string house, .int .i64 id, .string name] w fun e w' => e = .returned (.tuple #[.string r1, .int .i64 r2]) ∧ DepStep w w' db D D.pure := by
  refine (show_any db D house id name w hr hs).mono ?_
  rintro e w' ⟨rfl, hb⟩
  rw [← hE]
  exact ⟨rfl, DepStep.ofBelow hr hb⟩

theorem show_ref (rb : Nat) (root time : Int) (ao : Option Addr) (cap : Nat) (ds : List Deed) (house : ByteArray) (id : Int) (s : ByteArray) (w : World) (hr : RefAt w rb root time ao cap ds) (hlen : ds.length ≤ 1000000000000) (hs : s.size ≤ 1000000000) (r1 : ByteArray) (r2 : Int) (hE : (r1, r2) = showE (roleF root time ds house id) ds house s) :
    Calls Tryz.prog 33 #[.pointer (some ⟨rb, 0, none⟩), .string house, .int .i64 id, .string s] w fun e w' => e = .returned (.tuple #[.string r1, .int .i64 r2]) ∧ RefStep w w' rb root time ao ds := by
  refine (rshow_any rb root time ao cap ds house id s w hr hlen hs).mono ?_
  rintro e w' ⟨rfl, hb⟩
  rw [← hE]
  exact ⟨rfl, RefStep.ofBelow hr hb⟩

theorem dfeedP_ok {P : PDep} {name : ByteArray} {v : Int} {text : ByteArray} (h : dfeedP P name v text = 0) : (1 ≤ v ∧ v ≤ 9) ∧ ∃ ws, wantsF text = some ws := by
  unfold dfeedP at h
  split at h
  · cases h
  · exact playF_ok h

theorem dpublishP_ok {P : PDep} {house : ByteArray} {id : Int} {pack : ByteArray} {v : Int} {text : ByteArray} (h : dpublishP P house id pack v text = 0) : (∃ x, hseF P.hs house = some x) ∧ (1 ≤ v ∧ v ≤ 9) ∧ ∃ ws, wantsF text = some ws := by
  unfold dpublishP at h
  split at h
  · rename_i hm; exact absurd h hm
  · rename_i hm
    obtain ⟨_, x, hx⟩ := held_house (by simpa using hm : workF (heldF P house id) 2 = 0)
    refine ⟨⟨x, hx⟩, ?_⟩
    split at h
    · cases h
    · rw [hx] at h
      exact playF_ok h

theorem dpublishP_held {P : PDep} {house : ByteArray} {id : Int} {pack : ByteArray} {v : Int} {text : ByteArray} (h : dpublishP P house id pack v text = 0) : heldF P house id ≠ 0 := by
  unfold dpublishP at h
  split at h
  · rename_i hm; exact absurd h hm
  · rename_i hm; exact work_held (by simpa using hm : workF (heldF P house id) 2 = 0)

theorem dyankP_held {P : PDep} {house : ByteArray} {id : Int} {pack : ByteArray} {v : Int} (h : dyankP P house id pack v = 0) : heldF P house id ≠ 0 := by
  unfold dyankP at h
  split at h
  · rename_i hm; exact absurd h hm
  · rename_i hm; exact work_held (by simpa using hm : workF (heldF P house id) 2 = 0)

theorem dgrantP_held {P : PDep} {house : ByteArray} {id : Int} {pack to : ByteArray} (h : dgrantP P house id pack to = 0) : heldF P house id ≠ 0 := by
  unfold dgrantP at h
  split at h
  · rename_i hm; exact absurd h hm
  · rename_i hm; exact work_held (by simpa using hm : workF (heldF P house id) 3 = 0)

theorem ped_ver {P : PDep} {ds : List Deed} (s : Sim P ds) {nm : ByteArray} {h : PHse} (hh : hseF P.hs nm = some h) {pack : ByteArray} {v : Int} (hv : (pedF h.eds pack v).isSome = true) : 1 ≤ v ∧ v ≤ 9 := by
  cases hq : pedF h.eds pack v with
  | none => rw [hq] at hv; cases hv
  | some e =>
    have h1 := s.s13 nm e (by rw [stock_of hh]; exact List.mem_of_find?_eq_some hq)
    have h2 := List.find?_some hq
    unfold pedP at h2
    rw [Bool.and_eq_true, beq_iff_eq] at h2
    rw [← h2.1]
    exact h1

theorem dyankP_ok {P : PDep} {house : ByteArray} {id : Int} {pack : ByteArray} {v : Int} (h : dyankP P house id pack v = 0) : ∃ x, hseF P.hs house = some x ∧ (pedF x.eds pack v).isSome = true := by
  unfold dyankP at h
  split at h
  · rename_i hm; exact absurd h hm
  · rename_i hm
    obtain ⟨_, x, hx⟩ := held_house (by simpa using hm : workF (heldF P house id) 2 = 0)
    refine ⟨x, hx, ?_⟩
    split at h
    · cases h
    · rw [hx] at h
      simp only at h
      split at h
      · assumption
      · cases h

theorem dgrantP_ok {P : PDep} {house : ByteArray} {id : Int} {pack to : ByteArray} (h : dgrantP P house id pack to = 0) : ∃ x, hseF P.hs house = some x := by
  unfold dgrantP at h
  split at h
  · rename_i hm; exact absurd h hm
  · rename_i hm
    obtain ⟨_, x, hx⟩ := held_house (by simpa using hm : workF (heldF P house id) 3 = 0)
    exact ⟨x, hx⟩

set_option maxHeartbeats 1600000 in
set_option maxRecDepth 100000 in
theorem packs_feed (base wb db rb : Nat) (root : Int) (n : Nat) (tk : Bool) (house : ByteArray) (id : Int) (s t : ByteArray) (a b c : Int) (w : World) (hI : Inv w base wb db rb root n tk) (hf : tk = true ∨ n ≤ 100000000000) (hs1 : s.size ≤ 1000000000) (ht1 : t.size ≤ 1000000000) :
    Calls Tryz.prog 10 #[.pointer (some ⟨wb, 0, none⟩), .agg (opV 7 house id s t a b c)] w fun e w' => e = .returned (.bool true) ∧ Inv w' base wb db rb root (n + 1) false ∧ Below base w w' := by
  obtain ⟨D, ao, cap, ds, hT, hS, hc, hn, htk, hu⟩ := hI
  have hlt := hT.wlt
  have p0 := hT.p0
  have p1 := hT.p1
  have hrt : D.pure.root = root := hT.rt
  have hfew := deeds_few hT.dep hn htk hf
  have hb0 : Below w.heap.size w (w.alloc (.cells (opV 7 house id s t a b c) 37)) := (Below.refl _ _).alloc (Nat.le_refl _) _
  have hT0 := hT.below hb0
  have hD0 := hT0.dep
  have hx0 := hide (show (w.alloc (.cells (opV 7 house id s t a b c) 37)).heap[w.heap.size]? = some (.cells (opV 7 house id s t a b c) 37 (0, 0)) from heap_alloc_new w _)
  have hx1 : ¬ RefFoot rb ao w.heap.size := fun hk => by have := hT.ref.foot_lt _ hk; omega
  have hx2 : ¬ DepFoot db D w.heap.size := fun hk => by have := (hT.dep.foot hk).2; omega
  obtain ⟨E, hE⟩ : ∃ E, E = dfeedP D.pure s a t := ⟨_, rfl⟩
  have HE := hide hE
  have HE' := hide (show E = feedE ds s a t by rw [hE, feed_agree hS hT.dep.lens])
  clear hE
  go_enter Tryz.func10, Tryz.ntmps10
  go_wp2_with fail
  go_region_held3 (fun w' => w'.cell? ⟨wb, 0, none⟩ = some (.pointer (some ⟨db, 0, none⟩)) ∧ w'.cell? ⟨wb, 1, none⟩ = some (.pointer (some ⟨rb, 0, none⟩)) ∧ w'.cell? ⟨w.heap.size, 1, none⟩ = some (.string house) ∧ w'.cell? ⟨w.heap.size, 2, none⟩ = some (.int .i64 id) ∧ w'.cell? ⟨w.heap.size, 3, none⟩ = some (.string s) ∧ w'.cell? ⟨w.heap.size, 4, none⟩ = some (.string t) ∧ w'.cell? ⟨w.heap.size, 5, none⟩ = some (.int .i64 a) ∧ w'.cell? ⟨w.heap.size, 6, none⟩ = some (.int .i64 b) ∧ w'.cell? ⟨w.heap.size, 7, none⟩ = some (.int .i64 c)) (first | exact HK.out | go_keep) ((go_at_call 24; refine (feed_any db D s a t _ ?_ (by omega) (by omega) E HE.out).mono ?_; exact hD0.same rfl; rintro e w1 ⟨rfl, hst⟩; have HT1 := hide (two_dstep hT0 hx0.out hx1 hx2 hst (stepP_root rfl rfl) rfl rfl rfl rfl); have HK := hide (after_kept HT1.out); clear hst))
  obtain ⟨D1, ao1, cap1, hT1, hP1, hB1, hy0, hy1, hy2⟩ := HT1.out
  have hR1 := hT1.ref
  have HP1 := hide hP1
  have HY := hide hy0
  clear HT1 HK hP1 hy0
  go_wp2_with fail
  go_region_held3 (fun w' => w'.cell? ⟨wb, 0, none⟩ = some (.pointer (some ⟨db, 0, none⟩)) ∧ w'.cell? ⟨wb, 1, none⟩ = some (.pointer (some ⟨rb, 0, none⟩)) ∧ w'.cell? ⟨w.heap.size, 1, none⟩ = some (.string house) ∧ w'.cell? ⟨w.heap.size, 2, none⟩ = some (.int .i64 id) ∧ w'.cell? ⟨w.heap.size, 3, none⟩ = some (.string s) ∧ w'.cell? ⟨w.heap.size, 4, none⟩ = some (.string t) ∧ w'.cell? ⟨w.heap.size, 5, none⟩ = some (.int .i64 a) ∧ w'.cell? ⟨w.heap.size, 6, none⟩ = some (.int .i64 b) ∧ w'.cell? ⟨w.heap.size, 7, none⟩ = some (.int .i64 c)) (first | exact HK.out | go_keep) ((go_at_call 25; refine (rfeed_any rb root D.clock ao1 cap1 ds s a t _ ?_ hfew hs1 ht1 E HE'.out).mono ?_; exact hR1.same rfl; rintro e w2 ⟨rfl, hst⟩; have HT2 := hide (two_rstep hT1 HY.out hy1 hy2 hst rfl rfl rfl rfl); have HK := hide (after_kept HT2.out); clear hst))
  obtain ⟨D2, ao2, cap2, hT2, hP2, hB2, _, _, _⟩ := HT2.out
  clear HT2 HK
  have hfin := hide (show Inv w2 base wb db rb root (n + 1) false from by
    have hP := hP2.trans HP1.out
    exact inv_next (D := D) (tk := tk) hT2 hP hS hc hn htk hu rfl (fun he => by obtain ⟨h1, ws, h2⟩ := dfeedP_ok (HE.out ▸ he); exact hS.feed s a t h2 h1) (fun h => by cases h) (fun _ h => by cases h) (fun he => by obtain ⟨h1, _⟩ := dfeedP_ok (HE.out ▸ he); exact ⟨Or.inr ⟨up_zero, ⟨by show 0 ≤ a; omega, by show a ≤ _; omega⟩, up_zero, up_zero⟩, ht1⟩))
  have hbel := hide (((hb0.mono hT.b3).trans hB1).trans hB2)
  clear hT2 hB1 hB2 hP2
  go_wp2_with (go_at_call 7; refine (num_any _ _).mono ?_; rintro e w3 ⟨rfl, h⟩; subst h)
  go_ret
  exact ⟨by simp, hfin.out, hbel.out⟩

set_option maxHeartbeats 1600000 in
set_option maxRecDepth 100000 in
theorem packs_publish (base wb db rb : Nat) (root : Int) (n : Nat) (tk : Bool) (house : ByteArray) (id : Int) (s t : ByteArray) (a b c : Int) (w : World) (hI : Inv w base wb db rb root n tk) (hf : tk = true ∨ n ≤ 100000000000) (_hs1 : s.size ≤ 1000000000) (ht1 : t.size ≤ 1000000000) (q1 : I64 id) :
    Calls Tryz.prog 10 #[.pointer (some ⟨wb, 0, none⟩), .agg (opV 8 house id s t a b c)] w fun e w' => e = .returned (.bool true) ∧ Inv w' base wb db rb root (n + 1) false ∧ Below base w w' := by
  obtain ⟨D, ao, cap, ds, hT, hS, hc, hn, htk, hu⟩ := hI
  have hlt := hT.wlt
  have p0 := hT.p0
  have p1 := hT.p1
  have hrt : D.pure.root = root := hT.rt
  have hfew := deeds_few hT.dep hn htk hf
  have hb0 : Below w.heap.size w (w.alloc (.cells (opV 8 house id s t a b c) 37)) := (Below.refl _ _).alloc (Nat.le_refl _) _
  have hT0 := hT.below hb0
  have hD0 := hT0.dep
  have hx0 := hide (show (w.alloc (.cells (opV 8 house id s t a b c) 37)).heap[w.heap.size]? = some (.cells (opV 8 house id s t a b c) 37 (0, 0)) from heap_alloc_new w _)
  have hx1 : ¬ RefFoot rb ao w.heap.size := fun hk => by have := hT.ref.foot_lt _ hk; omega
  have hx2 : ¬ DepFoot db D w.heap.size := fun hk => by have := (hT.dep.foot hk).2; omega
  obtain ⟨E, hE⟩ : ∃ E, E = dpublishP D.pure house id s a t := ⟨_, rfl⟩
  have HE := hide hE
  have HE' := hide (show E = publishE (roleF root D.clock ds house id) ds house s a t by rw [hE, publish_agree hS hT.dep.lens, hrt]; rfl)
  clear hE
  go_enter Tryz.func10, Tryz.ntmps10
  go_wp2_with fail
  go_region_held3 (fun w' => w'.cell? ⟨wb, 0, none⟩ = some (.pointer (some ⟨db, 0, none⟩)) ∧ w'.cell? ⟨wb, 1, none⟩ = some (.pointer (some ⟨rb, 0, none⟩)) ∧ w'.cell? ⟨w.heap.size, 1, none⟩ = some (.string house) ∧ w'.cell? ⟨w.heap.size, 2, none⟩ = some (.int .i64 id) ∧ w'.cell? ⟨w.heap.size, 3, none⟩ = some (.string s) ∧ w'.cell? ⟨w.heap.size, 4, none⟩ = some (.string t) ∧ w'.cell? ⟨w.heap.size, 5, none⟩ = some (.int .i64 a) ∧ w'.cell? ⟨w.heap.size, 6, none⟩ = some (.int .i64 b) ∧ w'.cell? ⟨w.heap.size, 7, none⟩ = some (.int .i64 c)) (first | exact HK.out | go_keep) ((go_at_call 26; refine (publish_any db D house id s a t _ ?_ (by omega) q1 E HE.out).mono ?_; exact hD0.same rfl; rintro e w1 ⟨rfl, hst⟩; have HT1 := hide (two_dstep hT0 hx0.out hx1 hx2 hst (stepP_root rfl rfl) rfl rfl rfl rfl); have HK := hide (after_kept HT1.out); clear hst))
  obtain ⟨D1, ao1, cap1, hT1, hP1, hB1, hy0, hy1, hy2⟩ := HT1.out
  have hR1 := hT1.ref
  have HP1 := hide hP1
  have HY := hide hy0
  clear HT1 HK hP1 hy0
  go_wp2_with fail
  go_region_held3 (fun w' => w'.cell? ⟨wb, 0, none⟩ = some (.pointer (some ⟨db, 0, none⟩)) ∧ w'.cell? ⟨wb, 1, none⟩ = some (.pointer (some ⟨rb, 0, none⟩)) ∧ w'.cell? ⟨w.heap.size, 1, none⟩ = some (.string house) ∧ w'.cell? ⟨w.heap.size, 2, none⟩ = some (.int .i64 id) ∧ w'.cell? ⟨w.heap.size, 3, none⟩ = some (.string s) ∧ w'.cell? ⟨w.heap.size, 4, none⟩ = some (.string t) ∧ w'.cell? ⟨w.heap.size, 5, none⟩ = some (.int .i64 a) ∧ w'.cell? ⟨w.heap.size, 6, none⟩ = some (.int .i64 b) ∧ w'.cell? ⟨w.heap.size, 7, none⟩ = some (.int .i64 c)) (first | exact HK.out | go_keep) ((go_at_call 27; refine (rpublish_any rb root D.clock ao1 cap1 ds house id s a t _ ?_ hfew ht1 E HE'.out).mono ?_; exact hR1.same rfl; rintro e w2 ⟨rfl, hst⟩; have HT2 := hide (two_rstep hT1 HY.out hy1 hy2 hst rfl rfl rfl rfl); have HK := hide (after_kept HT2.out); clear hst))
  obtain ⟨D2, ao2, cap2, hT2, hP2, hB2, _, _, _⟩ := HT2.out
  clear HT2 HK
  have hfin := hide (show Inv w2 base wb db rb root (n + 1) false from by
    have hP := hP2.trans HP1.out
    exact inv_next (D := D) (tk := tk) hT2 hP hS hc hn htk hu rfl (fun he => by obtain ⟨⟨x, h0⟩, h1, ws, h2⟩ := dpublishP_ok (HE.out ▸ he); exact hS.publish h0 id s a t h2 h1) (fun h => by cases h) (fun _ h => by cases h) (fun he => by obtain ⟨_, h1, _⟩ := dpublishP_ok (HE.out ▸ he); exact ⟨Or.inr ⟨⟨held_up hS hrt hu (dpublishP_held (HE.out ▸ he)), q1.2⟩, ⟨by show 0 ≤ a; omega, by show a ≤ _; omega⟩, up_zero, up_zero⟩, ht1⟩))
  have hbel := hide (((hb0.mono hT.b3).trans hB1).trans hB2)
  clear hT2 hB1 hB2 hP2
  go_wp2_with (go_at_call 7; refine (num_any _ _).mono ?_; rintro e w3 ⟨rfl, h⟩; subst h)
  go_ret
  exact ⟨by simp, hfin.out, hbel.out⟩

set_option maxHeartbeats 1600000 in
set_option maxRecDepth 100000 in
theorem packs_yank (base wb db rb : Nat) (root : Int) (n : Nat) (tk : Bool) (house : ByteArray) (id : Int) (s t : ByteArray) (a b c : Int) (w : World) (hI : Inv w base wb db rb root n tk) (hf : tk = true ∨ n ≤ 100000000000) (_hs1 : s.size ≤ 1000000000) (_ht1 : t.size ≤ 1000000000) (q1 : I64 id) (q2 : I64 a) :
    Calls Tryz.prog 10 #[.pointer (some ⟨wb, 0, none⟩), .agg (opV 9 house id s t a b c)] w fun e w' => e = .returned (.bool true) ∧ Inv w' base wb db rb root (n + 1) false ∧ Below base w w' := by
  obtain ⟨D, ao, cap, ds, hT, hS, hc, hn, htk, hu⟩ := hI
  have hlt := hT.wlt
  have p0 := hT.p0
  have p1 := hT.p1
  have hrt : D.pure.root = root := hT.rt
  have hyk := yanks_few hT.dep hS hn htk hf
  have hfew := deeds_few hT.dep hn htk hf
  have hb0 : Below w.heap.size w (w.alloc (.cells (opV 9 house id s t a b c) 37)) := (Below.refl _ _).alloc (Nat.le_refl _) _
  have hT0 := hT.below hb0
  have hD0 := hT0.dep
  have hx0 := hide (show (w.alloc (.cells (opV 9 house id s t a b c) 37)).heap[w.heap.size]? = some (.cells (opV 9 house id s t a b c) 37 (0, 0)) from heap_alloc_new w _)
  have hx1 : ¬ RefFoot rb ao w.heap.size := fun hk => by have := hT.ref.foot_lt _ hk; omega
  have hx2 : ¬ DepFoot db D w.heap.size := fun hk => by have := (hT.dep.foot hk).2; omega
  obtain ⟨E, hE⟩ : ∃ E, E = dyankP D.pure house id s a := ⟨_, rfl⟩
  have HE := hide hE
  have HE' := hide (show E = yankE (roleF root D.clock ds house id) ds house s a by rw [hE, yank_agree hS, hrt]; rfl)
  clear hE
  go_enter Tryz.func10, Tryz.ntmps10
  go_wp2_with fail
  go_region_held3 (fun w' => w'.cell? ⟨wb, 0, none⟩ = some (.pointer (some ⟨db, 0, none⟩)) ∧ w'.cell? ⟨wb, 1, none⟩ = some (.pointer (some ⟨rb, 0, none⟩)) ∧ w'.cell? ⟨w.heap.size, 1, none⟩ = some (.string house) ∧ w'.cell? ⟨w.heap.size, 2, none⟩ = some (.int .i64 id) ∧ w'.cell? ⟨w.heap.size, 3, none⟩ = some (.string s) ∧ w'.cell? ⟨w.heap.size, 4, none⟩ = some (.string t) ∧ w'.cell? ⟨w.heap.size, 5, none⟩ = some (.int .i64 a) ∧ w'.cell? ⟨w.heap.size, 6, none⟩ = some (.int .i64 b) ∧ w'.cell? ⟨w.heap.size, 7, none⟩ = some (.int .i64 c)) (first | exact HK.out | go_keep) ((go_at_call 28; refine (yank_any db D house id s a _ _ ?_ q1 q2 hyk E HE.out).mono ?_; exact hD0.same rfl; rintro e w1 ⟨rfl, hst⟩; have HT1 := hide (two_dstep hT0 hx0.out hx1 hx2 hst (stepP_root rfl rfl) rfl rfl rfl rfl); have HK := hide (after_kept HT1.out); clear hst))
  obtain ⟨D1, ao1, cap1, hT1, hP1, hB1, hy0, hy1, hy2⟩ := HT1.out
  have hR1 := hT1.ref
  have HP1 := hide hP1
  have HY := hide hy0
  clear HT1 HK hP1 hy0
  go_wp2_with fail
  go_region_held3 (fun w' => w'.cell? ⟨wb, 0, none⟩ = some (.pointer (some ⟨db, 0, none⟩)) ∧ w'.cell? ⟨wb, 1, none⟩ = some (.pointer (some ⟨rb, 0, none⟩)) ∧ w'.cell? ⟨w.heap.size, 1, none⟩ = some (.string house) ∧ w'.cell? ⟨w.heap.size, 2, none⟩ = some (.int .i64 id) ∧ w'.cell? ⟨w.heap.size, 3, none⟩ = some (.string s) ∧ w'.cell? ⟨w.heap.size, 4, none⟩ = some (.string t) ∧ w'.cell? ⟨w.heap.size, 5, none⟩ = some (.int .i64 a) ∧ w'.cell? ⟨w.heap.size, 6, none⟩ = some (.int .i64 b) ∧ w'.cell? ⟨w.heap.size, 7, none⟩ = some (.int .i64 c)) (first | exact HK.out | go_keep) ((go_at_call 29; refine (ryank_any rb root D.clock ao1 cap1 ds house id s a _ _ ?_ hfew E HE'.out).mono ?_; exact hR1.same rfl; rintro e w2 ⟨rfl, hst⟩; have HT2 := hide (two_rstep hT1 HY.out hy1 hy2 hst rfl rfl rfl rfl); have HK := hide (after_kept HT2.out); clear hst))
  obtain ⟨D2, ao2, cap2, hT2, hP2, hB2, _, _, _⟩ := HT2.out
  clear HT2 HK
  have hfin := hide (show Inv w2 base wb db rb root (n + 1) false from by
    have hP := hP2.trans HP1.out
    exact inv_next (D := D) (tk := tk) hT2 hP hS hc hn htk hu rfl (fun he => by obtain ⟨x, h0, h1⟩ := dyankP_ok (HE.out ▸ he); exact hS.yank h0 id s a _ h1) (fun h => by cases h) (fun _ h => by cases h) (fun he => by obtain ⟨x, h0, h1⟩ := dyankP_ok (HE.out ▸ he); have h2 := ped_ver hS h0 h1; exact ⟨Or.inr ⟨⟨held_up hS hrt hu (dyankP_held (HE.out ▸ he)), q1.2⟩, ⟨by show 0 ≤ a; omega, by show a ≤ _; omega⟩, up_zero, up_zero⟩, Nat.zero_le _⟩))
  have hbel := hide (((hb0.mono hT.b3).trans hB1).trans hB2)
  clear hT2 hB1 hB2 hP2
  go_wp2_with (go_at_call 7; refine (num_any _ _).mono ?_; rintro e w3 ⟨rfl, h⟩; subst h)
  go_ret
  exact ⟨by simp, hfin.out, hbel.out⟩

set_option maxHeartbeats 1600000 in
set_option maxRecDepth 100000 in
theorem packs_grant (base wb db rb : Nat) (root : Int) (n : Nat) (tk : Bool) (house : ByteArray) (id : Int) (s t : ByteArray) (a b c : Int) (w : World) (hI : Inv w base wb db rb root n tk) (hf : tk = true ∨ n ≤ 100000000000) (_hs1 : s.size ≤ 1000000000) (_ht1 : t.size ≤ 1000000000) (q1 : I64 id) :
    Calls Tryz.prog 10 #[.pointer (some ⟨wb, 0, none⟩), .agg (opV 10 house id s t a b c)] w fun e w' => e = .returned (.bool true) ∧ Inv w' base wb db rb root (n + 1) false ∧ Below base w w' := by
  obtain ⟨D, ao, cap, ds, hT, hS, hc, hn, htk, hu⟩ := hI
  have hlt := hT.wlt
  have p0 := hT.p0
  have p1 := hT.p1
  have hrt : D.pure.root = root := hT.rt
  have hfew := deeds_few hT.dep hn htk hf
  have hb0 : Below w.heap.size w (w.alloc (.cells (opV 10 house id s t a b c) 37)) := (Below.refl _ _).alloc (Nat.le_refl _) _
  have hT0 := hT.below hb0
  have hD0 := hT0.dep
  have hx0 := hide (show (w.alloc (.cells (opV 10 house id s t a b c) 37)).heap[w.heap.size]? = some (.cells (opV 10 house id s t a b c) 37 (0, 0)) from heap_alloc_new w _)
  have hx1 : ¬ RefFoot rb ao w.heap.size := fun hk => by have := hT.ref.foot_lt _ hk; omega
  have hx2 : ¬ DepFoot db D w.heap.size := fun hk => by have := (hT.dep.foot hk).2; omega
  obtain ⟨E, hE⟩ : ∃ E, E = dgrantP D.pure house id s t := ⟨_, rfl⟩
  have HE := hide hE
  have HE' := hide (show E = grantE (roleF root D.clock ds house id) ds house s t by rw [hE, grant_agree hS hT.dep.lens, hrt]; rfl)
  clear hE
  go_enter Tryz.func10, Tryz.ntmps10
  go_wp2_with fail
  go_region_held3 (fun w' => w'.cell? ⟨wb, 0, none⟩ = some (.pointer (some ⟨db, 0, none⟩)) ∧ w'.cell? ⟨wb, 1, none⟩ = some (.pointer (some ⟨rb, 0, none⟩)) ∧ w'.cell? ⟨w.heap.size, 1, none⟩ = some (.string house) ∧ w'.cell? ⟨w.heap.size, 2, none⟩ = some (.int .i64 id) ∧ w'.cell? ⟨w.heap.size, 3, none⟩ = some (.string s) ∧ w'.cell? ⟨w.heap.size, 4, none⟩ = some (.string t) ∧ w'.cell? ⟨w.heap.size, 5, none⟩ = some (.int .i64 a) ∧ w'.cell? ⟨w.heap.size, 6, none⟩ = some (.int .i64 b) ∧ w'.cell? ⟨w.heap.size, 7, none⟩ = some (.int .i64 c)) (first | exact HK.out | go_keep) ((go_at_call 30; refine (grant_any db D house id s t _ ?_ q1 E HE.out).mono ?_; exact hD0.same rfl; rintro e w1 ⟨rfl, hst⟩; have HT1 := hide (two_dstep hT0 hx0.out hx1 hx2 hst (stepP_root rfl rfl) rfl rfl rfl rfl); have HK := hide (after_kept HT1.out); clear hst))
  obtain ⟨D1, ao1, cap1, hT1, hP1, hB1, hy0, hy1, hy2⟩ := HT1.out
  have hR1 := hT1.ref
  have HP1 := hide hP1
  have HY := hide hy0
  clear HT1 HK hP1 hy0
  go_wp2_with fail
  go_region_held3 (fun w' => w'.cell? ⟨wb, 0, none⟩ = some (.pointer (some ⟨db, 0, none⟩)) ∧ w'.cell? ⟨wb, 1, none⟩ = some (.pointer (some ⟨rb, 0, none⟩)) ∧ w'.cell? ⟨w.heap.size, 1, none⟩ = some (.string house) ∧ w'.cell? ⟨w.heap.size, 2, none⟩ = some (.int .i64 id) ∧ w'.cell? ⟨w.heap.size, 3, none⟩ = some (.string s) ∧ w'.cell? ⟨w.heap.size, 4, none⟩ = some (.string t) ∧ w'.cell? ⟨w.heap.size, 5, none⟩ = some (.int .i64 a) ∧ w'.cell? ⟨w.heap.size, 6, none⟩ = some (.int .i64 b) ∧ w'.cell? ⟨w.heap.size, 7, none⟩ = some (.int .i64 c)) (first | exact HK.out | go_keep) ((go_at_call 31; refine (rgrant_any rb root D.clock ao1 cap1 ds house id s t _ ?_ hfew E HE'.out).mono ?_; exact hR1.same rfl; rintro e w2 ⟨rfl, hst⟩; have HT2 := hide (two_rstep hT1 HY.out hy1 hy2 hst rfl rfl rfl rfl); have HK := hide (after_kept HT2.out); clear hst))
  obtain ⟨D2, ao2, cap2, hT2, hP2, hB2, _, _, _⟩ := HT2.out
  clear HT2 HK
  have hfin := hide (show Inv w2 base wb db rb root (n + 1) false from by
    have hP := hP2.trans HP1.out
    exact inv_next (D := D) (tk := tk) hT2 hP hS hc hn htk hu rfl (fun he => by obtain ⟨x, h0⟩ := dgrantP_ok (HE.out ▸ he); exact hS.grant h0 id s t) (fun h => by cases h) (fun _ h => by cases h) (fun he => ⟨Or.inr ⟨⟨held_up hS hrt hu (dgrantP_held (HE.out ▸ he)), q1.2⟩, up_zero, up_zero, up_zero⟩, Nat.zero_le _⟩))
  have hbel := hide (((hb0.mono hT.b3).trans hB1).trans hB2)
  clear hT2 hB1 hB2 hP2
  go_wp2_with (go_at_call 7; refine (num_any _ _).mono ?_; rintro e w3 ⟨rfl, h⟩; subst h)
  go_ret
  exact ⟨by simp, hfin.out, hbel.out⟩

set_option maxHeartbeats 1600000 in
set_option maxRecDepth 100000 in
theorem packs_show (base wb db rb : Nat) (root : Int) (n : Nat) (tk : Bool) (house : ByteArray) (id : Int) (s t : ByteArray) (a b c : Int) (w : World) (hI : Inv w base wb db rb root n tk) (hf : tk = true ∨ n ≤ 100000000000) (hs1 : s.size ≤ 1000000000) (_ht1 : t.size ≤ 1000000000) :
    Calls Tryz.prog 10 #[.pointer (some ⟨wb, 0, none⟩), .agg (opV 11 house id s t a b c)] w fun e w' => e = .returned (.bool true) ∧ Inv w' base wb db rb root (n + 1) false ∧ Below base w w' := by
  obtain ⟨D, ao, cap, ds, hT, hS, hc, hn, htk, hu⟩ := hI
  have hlt := hT.wlt
  have p0 := hT.p0
  have p1 := hT.p1
  have hrt : D.pure.root = root := hT.rt
  have hfew := deeds_few hT.dep hn htk hf
  have hb0 : Below w.heap.size w (w.alloc (.cells (opV 11 house id s t a b c) 37)) := (Below.refl _ _).alloc (Nat.le_refl _) _
  have hT0 := hT.below hb0
  have hD0 := hT0.dep
  have hx0 := hide (show (w.alloc (.cells (opV 11 house id s t a b c) 37)).heap[w.heap.size]? = some (.cells (opV 11 house id s t a b c) 37 (0, 0)) from heap_alloc_new w _)
  have hx1 : ¬ RefFoot rb ao w.heap.size := fun hk => by have := hT.ref.foot_lt _ hk; omega
  have hx2 : ¬ DepFoot db D w.heap.size := fun hk => by have := (hT.dep.foot hk).2; omega
  obtain ⟨r, hr⟩ : ∃ r, r = dshowP D.pure house id s := ⟨_, rfl⟩
  have HE := hide hr
  have HE' := hide (show r = showE (roleF root D.clock ds house id) ds house s by rw [hr, show_agree hS hT.dep.lens, hrt]; rfl)
  clear hr
  obtain ⟨r1, r2⟩ := r
  go_enter Tryz.func10, Tryz.ntmps10
  go_wp2_with fail
  go_region_held3 (fun w' => w'.cell? ⟨wb, 0, none⟩ = some (.pointer (some ⟨db, 0, none⟩)) ∧ w'.cell? ⟨wb, 1, none⟩ = some (.pointer (some ⟨rb, 0, none⟩)) ∧ w'.cell? ⟨w.heap.size, 1, none⟩ = some (.string house) ∧ w'.cell? ⟨w.heap.size, 2, none⟩ = some (.int .i64 id) ∧ w'.cell? ⟨w.heap.size, 3, none⟩ = some (.string s) ∧ w'.cell? ⟨w.heap.size, 4, none⟩ = some (.string t) ∧ w'.cell? ⟨w.heap.size, 5, none⟩ = some (.int .i64 a) ∧ w'.cell? ⟨w.heap.size, 6, none⟩ = some (.int .i64 b) ∧ w'.cell? ⟨w.heap.size, 7, none⟩ = some (.int .i64 c)) (first | exact HK.out | go_keep) ((go_at_call 32; refine (show_dep db D house id s _ ?_ (by omega) r1 r2 HE.out).mono ?_; exact hD0.same rfl; rintro e w1 ⟨rfl, hst⟩; have HT1 := hide (two_dstep hT0 hx0.out hx1 hx2 hst rfl rfl rfl rfl rfl); have HK := hide (after_kept HT1.out); clear hst))
  obtain ⟨D1, ao1, cap1, hT1, hP1, hB1, hy0, hy1, hy2⟩ := HT1.out
  have hR1 := hT1.ref
  have HP1 := hide hP1
  have HY := hide hy0
  clear HT1 HK hP1 hy0
  go_wp2_with fail
  go_region_held3 (fun w' => w'.cell? ⟨wb, 0, none⟩ = some (.pointer (some ⟨db, 0, none⟩)) ∧ w'.cell? ⟨wb, 1, none⟩ = some (.pointer (some ⟨rb, 0, none⟩)) ∧ w'.cell? ⟨w.heap.size, 1, none⟩ = some (.string house) ∧ w'.cell? ⟨w.heap.size, 2, none⟩ = some (.int .i64 id) ∧ w'.cell? ⟨w.heap.size, 3, none⟩ = some (.string s) ∧ w'.cell? ⟨w.heap.size, 4, none⟩ = some (.string t) ∧ w'.cell? ⟨w.heap.size, 5, none⟩ = some (.int .i64 a) ∧ w'.cell? ⟨w.heap.size, 6, none⟩ = some (.int .i64 b) ∧ w'.cell? ⟨w.heap.size, 7, none⟩ = some (.int .i64 c)) (first | exact HK.out | go_keep) ((go_at_call 33; refine (show_ref rb root D.clock ao1 cap1 ds house id s _ ?_ hfew hs1 r1 r2 HE'.out).mono ?_; exact hR1.same rfl; rintro e w2 ⟨rfl, hst⟩; have HT2 := hide (two_rstep hT1 HY.out hy1 hy2 hst rfl rfl rfl rfl); have HK := hide (after_kept HT2.out); clear hst))
  obtain ⟨D2, ao2, cap2, hT2, hP2, hB2, _, _, _⟩ := HT2.out
  clear HT2 HK
  have hfin := hide (show Inv w2 base wb db rb root (n + 1) false from by
    have hP := hP2.trans HP1.out
    exact inv_same (D := D) (tk := tk) hT2 (hP.trans rfl) hS hc hn htk hu (fun h => by cases h))
  have hbel := hide (((hb0.mono hT.b3).trans hB1).trans hB2)
  clear hT2 hB1 hB2 hP2
  go_wp2_with (go_at_call 7; refine (num_any _ _).mono ?_; rintro e w3 ⟨rfl, h⟩; subst h)
  go_ret
  exact ⟨by simp, hfin.out, hbel.out⟩

end Go.Proofs.YtgcldedkempjhabGreatDoor
