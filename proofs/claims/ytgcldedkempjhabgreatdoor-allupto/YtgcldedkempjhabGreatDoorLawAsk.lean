/-
  depotlaw: one step of stages 3 and 4 on both depots.
-/
import Derived.Test.YtgcldedkempjhabGreatDoorLawPack
import Derived.Test.YtgcldedkempjhabGreatDoorRefAsk
import Derived.Test.YtgcldedkempjhabGreatDoorRefLog
import Derived.Test.YtgcldedkempjhabGreatDoorRefTold
namespace Go.Proofs.YtgcldedkempjhabGreatDoor
open Go.RowKit

theorem log_len {P : PDep} {ds : List Deed} (s : Sim P ds) (h : Lens P) (house : ByteArray) : (logD ds house).length ≤ 4611686018427387000 := by
  rw [← s.s15 house]
  unfold logOf
  split
  · exact Nat.zero_le _
  · rename_i x hx
    have hm := List.mem_of_find?_eq_some hx
    have h1 := h.l x hm
    have h2 := h.y
    have h3 := lines_le h hm
    omega

theorem log_dep (db : Nat) (D : DepD) (house : ByteArray) (id : Int) (w : World) (hr : DepAt w db D) (r1 : ByteArray) (r2 : Int) (hE : (r1, r2) = dlogP D.pure house id) :
    Calls Tryz.prog 36 #[.pointer (some ⟨db, 0, none⟩), .string house, .int .i64 id] w fun e w' => e = .returned (.tuple #[.string r1, .int .i64 r2]) ∧ DepStep w w' db D D.pure := by
  refine (log_any db D house id w hr).mono ?_
  rintro e w' ⟨rfl, hb⟩
  rw [← hE]
  exact ⟨rfl, DepStep.ofBelow hr hb⟩

theorem head_dep (db : Nat) (D : DepD) (house : ByteArray) (id : Int) (w : World) (hr : DepAt w db D) (r1 r2 : Int) (hE : (r1, r2) = dheadP D.pure house id) :
    Calls Tryz.prog 38 #[.pointer (some ⟨db, 0, none⟩), .string house, .int .i64 id] w fun e w' => e = .returned (.tuple #[.int .i64 r1, .int .i64 r2]) ∧ DepStep w w' db D D.pure := by
  refine (head_any db D house id w hr).mono ?_
  rintro e w' ⟨rfl, hb⟩
  rw [← hE]
  exact ⟨rfl, DepStep.ofBelow hr hb⟩

theorem resolve_dep (db : Nat) (D : DepD) (house : ByteArray) (id : Int) (text : ByteArray) (budget : Int) (w : World) (hr : DepAt w db D) (hs : text.size ≤ 4611686018427387000) (r1 : ByteArray) (r2 r3 : Int) (hE : (r1, r2, r3) = dresolveP D.pure house id text budget) :
    Calls Tryz.prog 34 #[.pointer (some ⟨db, 0, none⟩), .string house, .int .i64 id, .string text, .int .i64 budget] w fun e w' => e = .returned (.tuple #[.string r1, .int .i64 r2, .int .i64 r3]) ∧ DepStep w w' db D D.pure := by
  refine (resolve_any db D house id text budget w hr hs).mono ?_
  rintro e w' ⟨rfl, hb⟩
  rw [← hE]
  exact ⟨rfl, DepStep.ofBelow hr hb⟩

theorem log_ref (rb : Nat) (root time : Int) (ao : Option Addr) (cap : Nat) (ds : List Deed) (house : ByteArray) (id : Int) (w : World) (hr : RefAt w rb root time ao cap ds) (hlen : ds.length ≤ 1000000000000) (hu : ∀ x ∈ ds, DeedWrit x) (hl : (logD ds house).length ≤ 4611686018427387000) (r1 : ByteArray) (r2 : Int) (hE : (r1, r2) = logE (roleF root time ds house id) ds house) :
    Calls Tryz.prog 37 #[.pointer (some ⟨rb, 0, none⟩), .string house, .int .i64 id] w fun e w' => e = .returned (.tuple #[.string r1, .int .i64 r2]) ∧ RefStep w w' rb root time ao ds := by
  refine (rLog_any rb root time ao cap ds house id w hr hlen hu hl r1 r2 hE).mono ?_
  rintro e w' ⟨rfl, hb⟩
  exact ⟨rfl, RefStep.ofBelow hr hb⟩

theorem head_ref (rb : Nat) (root time : Int) (ao : Option Addr) (cap : Nat) (ds : List Deed) (house : ByteArray) (id : Int) (w : World) (hr : RefAt w rb root time ao cap ds) (hlen : ds.length ≤ 1000000000000) (hu : ∀ x ∈ ds, DeedWrit x) (hl : (logD ds house).length ≤ 4611686018427387000) (r1 r2 : Int) (hE : (r1, r2) = headE (roleF root time ds house id) ds house) :
    Calls Tryz.prog 39 #[.pointer (some ⟨rb, 0, none⟩), .string house, .int .i64 id] w fun e w' => e = .returned (.tuple #[.int .i64 r1, .int .i64 r2]) ∧ RefStep w w' rb root time ao ds := by
  refine (rHead_any rb root time ao cap ds house id w hr hlen hu hl r1 r2 hE).mono ?_
  rintro e w' ⟨rfl, hb⟩
  exact ⟨rfl, RefStep.ofBelow hr hb⟩

theorem resolve_ref (rb : Nat) (root time : Int) (ao : Option Addr) (cap : Nat) (ds : List Deed) (house : ByteArray) (id : Int) (text : ByteArray) (budget : Int) (w : World) (hr : RefAt w rb root time ao cap ds) (hlen : ds.length ≤ 1000000000000) (hu : ∀ x ∈ ds, DeedWrit x) (hww : ∀ h p v x, relF ds h p v = some x → ∃ ws, wantsF x.wants = some ws) (hs : text.size ≤ 1000000000) (r1 : ByteArray) (r2 r3 : Int) (hE : (r1, r2, r3) = resolveE (roleF root time ds house id) ds house text budget) :
    Calls Tryz.prog 35 #[.pointer (some ⟨rb, 0, none⟩), .string house, .int .i64 id, .string text, .int .i64 budget] w fun e w' => e = .returned (.tuple #[.string r1, .int .i64 r2, .int .i64 r3]) ∧ RefStep w w' rb root time ao ds := by
  refine (rResolve_any rb root time ao cap ds house id text budget w hr hlen hu hww hs r1 r2 r3 hE).mono ?_
  rintro e w' ⟨rfl, hb⟩
  exact ⟨rfl, RefStep.ofBelow hr hb⟩

set_option maxHeartbeats 1600000 in
set_option maxRecDepth 100000 in
theorem asks_resolve (base wb db rb : Nat) (root : Int) (n : Nat) (tk : Bool) (house : ByteArray) (id : Int) (s t : ByteArray) (a b c : Int) (w : World) (hI : Inv w base wb db rb root n tk) (hf : tk = true ∨ n ≤ 100000000000) (hs1 : s.size ≤ 1000000000) (_ht1 : t.size ≤ 1000000000) :
    Calls Tryz.prog 11 #[.pointer (some ⟨wb, 0, none⟩), .agg (opV 12 house id s t a b c)] w fun e w' => e = .returned (.bool true) ∧ Inv w' base wb db rb root (n + 1) false ∧ Below base w w' := by
  obtain ⟨D, ao, cap, ds, hT, hS, hc, hn, htk, hu⟩ := hI
  have hlt := hT.wlt
  have p0 := hT.p0
  have p1 := hT.p1
  have hrt : D.pure.root = root := hT.rt
  have hfew := deeds_few hT.dep hn htk hf
  have hb0 : Below w.heap.size w (w.alloc (.cells (opV 12 house id s t a b c) 37)) := (Below.refl _ _).alloc (Nat.le_refl _) _
  have hT0 := hT.below hb0
  have hD0 := hT0.dep
  have hx0 := hide (show (w.alloc (.cells (opV 12 house id s t a b c) 37)).heap[w.heap.size]? = some (.cells (opV 12 house id s t a b c) 37 (0, 0)) from heap_alloc_new w _)
  have hx1 : ¬ RefFoot rb ao w.heap.size := fun hk => by have := hT.ref.foot_lt _ hk; omega
  have hx2 : ¬ DepFoot db D w.heap.size := fun hk => by have := (hT.dep.foot hk).2; omega
  obtain ⟨r, hr⟩ : ∃ r, r = dresolveP D.pure house id s a := ⟨_, rfl⟩
  have HE := hide hr
  have HE' := hide (show r = resolveE (roleF root D.clock ds house id) ds house s a by rw [hr, resolve_agree hS hT.dep.lens, hrt]; rfl)
  clear hr
  obtain ⟨r1, r2, r3⟩ := r
  go_enter Tryz.func11, Tryz.ntmps11
  go_wp2_with fail
  go_region_held3 (fun w' => w'.cell? ⟨wb, 0, none⟩ = some (.pointer (some ⟨db, 0, none⟩)) ∧ w'.cell? ⟨wb, 1, none⟩ = some (.pointer (some ⟨rb, 0, none⟩)) ∧ w'.cell? ⟨w.heap.size, 1, none⟩ = some (.string house) ∧ w'.cell? ⟨w.heap.size, 2, none⟩ = some (.int .i64 id) ∧ w'.cell? ⟨w.heap.size, 3, none⟩ = some (.string s) ∧ w'.cell? ⟨w.heap.size, 4, none⟩ = some (.string t) ∧ w'.cell? ⟨w.heap.size, 5, none⟩ = some (.int .i64 a) ∧ w'.cell? ⟨w.heap.size, 6, none⟩ = some (.int .i64 b) ∧ w'.cell? ⟨w.heap.size, 7, none⟩ = some (.int .i64 c)) (first | exact HK.out | go_keep) ((go_at_call 34; refine (resolve_dep db D house id s a _ ?_ (by omega) r1 r2 r3 HE.out).mono ?_; exact hD0.same rfl; rintro e w1 ⟨rfl, hst⟩; have HT1 := hide (two_dstep hT0 hx0.out hx1 hx2 hst rfl rfl rfl rfl rfl); have HK := hide (after_kept HT1.out); clear hst))
  obtain ⟨D1, ao1, cap1, hT1, hP1, hB1, hy0, hy1, hy2⟩ := HT1.out
  have hR1 := hT1.ref
  have HP1 := hide hP1
  have HY := hide hy0
  clear HT1 HK hP1 hy0
  go_wp2_with fail
  go_region_held3 (fun w' => w'.cell? ⟨wb, 0, none⟩ = some (.pointer (some ⟨db, 0, none⟩)) ∧ w'.cell? ⟨wb, 1, none⟩ = some (.pointer (some ⟨rb, 0, none⟩)) ∧ w'.cell? ⟨w.heap.size, 1, none⟩ = some (.string house) ∧ w'.cell? ⟨w.heap.size, 2, none⟩ = some (.int .i64 id) ∧ w'.cell? ⟨w.heap.size, 3, none⟩ = some (.string s) ∧ w'.cell? ⟨w.heap.size, 4, none⟩ = some (.string t) ∧ w'.cell? ⟨w.heap.size, 5, none⟩ = some (.int .i64 a) ∧ w'.cell? ⟨w.heap.size, 6, none⟩ = some (.int .i64 b) ∧ w'.cell? ⟨w.heap.size, 7, none⟩ = some (.int .i64 c)) (first | exact HK.out | go_keep) ((go_at_call 35; refine (resolve_ref rb root D.clock ao1 cap1 ds house id s a _ ?_ hfew hu.2 (rel_wants hS) hs1 r1 r2 r3 HE'.out).mono ?_; exact hR1.same rfl; rintro e w2 ⟨rfl, hst⟩; have HT2 := hide (two_rstep hT1 HY.out hy1 hy2 hst rfl rfl rfl rfl); have HK := hide (after_kept HT2.out); clear hst))
  obtain ⟨D2, ao2, cap2, hT2, hP2, hB2, _, _, _⟩ := HT2.out
  clear HT2 HK
  have hfin := hide (show Inv w2 base wb db rb root (n + 1) false from by
    have hP := hP2.trans HP1.out
    exact inv_same (D := D) (tk := tk) hT2 (hP.trans rfl) hS hc hn htk hu (fun h => by cases h))
  have hbel := hide (((hb0.mono hT.b3).trans hB1).trans hB2)
  clear hT2 hB1 hB2 hP2
  go_wp2_with (go_at_call 7; refine (num_any _ _).mono ?_; rintro e w3 ⟨rfl, h⟩; subst h)
  go_ret
  exact ⟨by simp, hfin.out, hbel.out⟩

set_option maxHeartbeats 1600000 in
set_option maxRecDepth 100000 in
theorem asks_log (base wb db rb : Nat) (root : Int) (n : Nat) (tk : Bool) (house : ByteArray) (id : Int) (s t : ByteArray) (a b c : Int) (w : World) (hI : Inv w base wb db rb root n tk) (hf : tk = true ∨ n ≤ 100000000000)  :
    Calls Tryz.prog 11 #[.pointer (some ⟨wb, 0, none⟩), .agg (opV 13 house id s t a b c)] w fun e w' => e = .returned (.bool true) ∧ Inv w' base wb db rb root (n + 1) false ∧ Below base w w' := by
  obtain ⟨D, ao, cap, ds, hT, hS, hc, hn, htk, hu⟩ := hI
  have hlt := hT.wlt
  have p0 := hT.p0
  have p1 := hT.p1
  have hrt : D.pure.root = root := hT.rt
  have hfew := deeds_few hT.dep hn htk hf
  have hb0 : Below w.heap.size w (w.alloc (.cells (opV 13 house id s t a b c) 37)) := (Below.refl _ _).alloc (Nat.le_refl _) _
  have hT0 := hT.below hb0
  have hD0 := hT0.dep
  have hx0 := hide (show (w.alloc (.cells (opV 13 house id s t a b c) 37)).heap[w.heap.size]? = some (.cells (opV 13 house id s t a b c) 37 (0, 0)) from heap_alloc_new w _)
  have hx1 : ¬ RefFoot rb ao w.heap.size := fun hk => by have := hT.ref.foot_lt _ hk; omega
  have hx2 : ¬ DepFoot db D w.heap.size := fun hk => by have := (hT.dep.foot hk).2; omega
  have hll := log_len hS hT.dep.lens house
  obtain ⟨r, hr⟩ : ∃ r, r = dlogP D.pure house id := ⟨_, rfl⟩
  have HE := hide hr
  have HE' := hide (show r = logE (roleF root D.clock ds house id) ds house by rw [hr, log_agree hS, hrt]; rfl)
  clear hr
  obtain ⟨r1, r2⟩ := r
  go_enter Tryz.func11, Tryz.ntmps11
  go_wp2_with fail
  go_region_held3 (fun w' => w'.cell? ⟨wb, 0, none⟩ = some (.pointer (some ⟨db, 0, none⟩)) ∧ w'.cell? ⟨wb, 1, none⟩ = some (.pointer (some ⟨rb, 0, none⟩)) ∧ w'.cell? ⟨w.heap.size, 1, none⟩ = some (.string house) ∧ w'.cell? ⟨w.heap.size, 2, none⟩ = some (.int .i64 id) ∧ w'.cell? ⟨w.heap.size, 3, none⟩ = some (.string s) ∧ w'.cell? ⟨w.heap.size, 4, none⟩ = some (.string t) ∧ w'.cell? ⟨w.heap.size, 5, none⟩ = some (.int .i64 a) ∧ w'.cell? ⟨w.heap.size, 6, none⟩ = some (.int .i64 b) ∧ w'.cell? ⟨w.heap.size, 7, none⟩ = some (.int .i64 c)) (first | exact HK.out | go_keep) ((go_at_call 36; refine (log_dep db D house id _ ?_ r1 r2 HE.out).mono ?_; exact hD0.same rfl; rintro e w1 ⟨rfl, hst⟩; have HT1 := hide (two_dstep hT0 hx0.out hx1 hx2 hst rfl rfl rfl rfl rfl); have HK := hide (after_kept HT1.out); clear hst))
  obtain ⟨D1, ao1, cap1, hT1, hP1, hB1, hy0, hy1, hy2⟩ := HT1.out
  have hR1 := hT1.ref
  have HP1 := hide hP1
  have HY := hide hy0
  clear HT1 HK hP1 hy0
  go_wp2_with fail
  go_region_held3 (fun w' => w'.cell? ⟨wb, 0, none⟩ = some (.pointer (some ⟨db, 0, none⟩)) ∧ w'.cell? ⟨wb, 1, none⟩ = some (.pointer (some ⟨rb, 0, none⟩)) ∧ w'.cell? ⟨w.heap.size, 1, none⟩ = some (.string house) ∧ w'.cell? ⟨w.heap.size, 2, none⟩ = some (.int .i64 id) ∧ w'.cell? ⟨w.heap.size, 3, none⟩ = some (.string s) ∧ w'.cell? ⟨w.heap.size, 4, none⟩ = some (.string t) ∧ w'.cell? ⟨w.heap.size, 5, none⟩ = some (.int .i64 a) ∧ w'.cell? ⟨w.heap.size, 6, none⟩ = some (.int .i64 b) ∧ w'.cell? ⟨w.heap.size, 7, none⟩ = some (.int .i64 c)) (first | exact HK.out | go_keep) ((go_at_call 37; refine (log_ref rb root D.clock ao1 cap1 ds house id _ ?_ hfew hu.2 hll r1 r2 HE'.out).mono ?_; exact hR1.same rfl; rintro e w2 ⟨rfl, hst⟩; have HT2 := hide (two_rstep hT1 HY.out hy1 hy2 hst rfl rfl rfl rfl); have HK := hide (after_kept HT2.out); clear hst))
  obtain ⟨D2, ao2, cap2, hT2, hP2, hB2, _, _, _⟩ := HT2.out
  clear HT2 HK
  have hfin := hide (show Inv w2 base wb db rb root (n + 1) false from by
    have hP := hP2.trans HP1.out
    exact inv_same (D := D) (tk := tk) hT2 (hP.trans rfl) hS hc hn htk hu (fun h => by cases h))
  have hbel := hide (((hb0.mono hT.b3).trans hB1).trans hB2)
  clear hT2 hB1 hB2 hP2
  go_wp2_with (go_at_call 7; refine (num_any _ _).mono ?_; rintro e w3 ⟨rfl, h⟩; subst h)
  go_ret
  exact ⟨by simp, hfin.out, hbel.out⟩

set_option maxHeartbeats 1600000 in
set_option maxRecDepth 100000 in
theorem asks_head (base wb db rb : Nat) (root : Int) (n : Nat) (tk : Bool) (house : ByteArray) (id : Int) (s t : ByteArray) (a b c : Int) (w : World) (hI : Inv w base wb db rb root n tk) (hf : tk = true ∨ n ≤ 100000000000)  :
    Calls Tryz.prog 11 #[.pointer (some ⟨wb, 0, none⟩), .agg (opV 14 house id s t a b c)] w fun e w' => e = .returned (.bool true) ∧ Inv w' base wb db rb root (n + 1) false ∧ Below base w w' := by
  obtain ⟨D, ao, cap, ds, hT, hS, hc, hn, htk, hu⟩ := hI
  have hlt := hT.wlt
  have p0 := hT.p0
  have p1 := hT.p1
  have hrt : D.pure.root = root := hT.rt
  have hfew := deeds_few hT.dep hn htk hf
  have hb0 : Below w.heap.size w (w.alloc (.cells (opV 14 house id s t a b c) 37)) := (Below.refl _ _).alloc (Nat.le_refl _) _
  have hT0 := hT.below hb0
  have hD0 := hT0.dep
  have hx0 := hide (show (w.alloc (.cells (opV 14 house id s t a b c) 37)).heap[w.heap.size]? = some (.cells (opV 14 house id s t a b c) 37 (0, 0)) from heap_alloc_new w _)
  have hx1 : ¬ RefFoot rb ao w.heap.size := fun hk => by have := hT.ref.foot_lt _ hk; omega
  have hx2 : ¬ DepFoot db D w.heap.size := fun hk => by have := (hT.dep.foot hk).2; omega
  have hll := log_len hS hT.dep.lens house
  obtain ⟨r, hr⟩ : ∃ r, r = dheadP D.pure house id := ⟨_, rfl⟩
  have HE := hide hr
  have HE' := hide (show r = headE (roleF root D.clock ds house id) ds house by rw [hr, head_agree hS, hrt]; rfl)
  clear hr
  obtain ⟨r1, r2⟩ := r
  go_enter Tryz.func11, Tryz.ntmps11
  go_wp2_with fail
  go_region_held3 (fun w' => w'.cell? ⟨wb, 0, none⟩ = some (.pointer (some ⟨db, 0, none⟩)) ∧ w'.cell? ⟨wb, 1, none⟩ = some (.pointer (some ⟨rb, 0, none⟩)) ∧ w'.cell? ⟨w.heap.size, 1, none⟩ = some (.string house) ∧ w'.cell? ⟨w.heap.size, 2, none⟩ = some (.int .i64 id) ∧ w'.cell? ⟨w.heap.size, 3, none⟩ = some (.string s) ∧ w'.cell? ⟨w.heap.size, 4, none⟩ = some (.string t) ∧ w'.cell? ⟨w.heap.size, 5, none⟩ = some (.int .i64 a) ∧ w'.cell? ⟨w.heap.size, 6, none⟩ = some (.int .i64 b) ∧ w'.cell? ⟨w.heap.size, 7, none⟩ = some (.int .i64 c)) (first | exact HK.out | go_keep) ((go_at_call 38; refine (head_dep db D house id _ ?_ r1 r2 HE.out).mono ?_; exact hD0.same rfl; rintro e w1 ⟨rfl, hst⟩; have HT1 := hide (two_dstep hT0 hx0.out hx1 hx2 hst rfl rfl rfl rfl rfl); have HK := hide (after_kept HT1.out); clear hst))
  obtain ⟨D1, ao1, cap1, hT1, hP1, hB1, hy0, hy1, hy2⟩ := HT1.out
  have hR1 := hT1.ref
  have HP1 := hide hP1
  have HY := hide hy0
  clear HT1 HK hP1 hy0
  go_wp2_with fail
  go_region_held3 (fun w' => w'.cell? ⟨wb, 0, none⟩ = some (.pointer (some ⟨db, 0, none⟩)) ∧ w'.cell? ⟨wb, 1, none⟩ = some (.pointer (some ⟨rb, 0, none⟩)) ∧ w'.cell? ⟨w.heap.size, 1, none⟩ = some (.string house) ∧ w'.cell? ⟨w.heap.size, 2, none⟩ = some (.int .i64 id) ∧ w'.cell? ⟨w.heap.size, 3, none⟩ = some (.string s) ∧ w'.cell? ⟨w.heap.size, 4, none⟩ = some (.string t) ∧ w'.cell? ⟨w.heap.size, 5, none⟩ = some (.int .i64 a) ∧ w'.cell? ⟨w.heap.size, 6, none⟩ = some (.int .i64 b) ∧ w'.cell? ⟨w.heap.size, 7, none⟩ = some (.int .i64 c)) (first | exact HK.out | go_keep) ((go_at_call 39; refine (head_ref rb root D.clock ao1 cap1 ds house id _ ?_ hfew hu.2 hll r1 r2 HE'.out).mono ?_; exact hR1.same rfl; rintro e w2 ⟨rfl, hst⟩; have HT2 := hide (two_rstep hT1 HY.out hy1 hy2 hst rfl rfl rfl rfl); have HK := hide (after_kept HT2.out); clear hst))
  obtain ⟨D2, ao2, cap2, hT2, hP2, hB2, _, _, _⟩ := HT2.out
  clear HT2 HK
  have hfin := hide (show Inv w2 base wb db rb root (n + 1) false from by
    have hP := hP2.trans HP1.out
    exact inv_same (D := D) (tk := tk) hT2 (hP.trans rfl) hS hc hn htk hu (fun h => by cases h))
  have hbel := hide (((hb0.mono hT.b3).trans hB1).trans hB2)
  clear hT2 hB1 hB2 hP2
  go_wp2_with (go_at_call 7; refine (num_any _ _).mono ?_; rintro e w3 ⟨rfl, h⟩; subst h)
  go_ret
  exact ⟨by simp, hfin.out, hbel.out⟩

end Go.Proofs.YtgcldedkempjhabGreatDoor
