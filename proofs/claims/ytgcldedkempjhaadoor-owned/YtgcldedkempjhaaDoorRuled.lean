/-
  depotkeep: ruled and call: what the program answers to a turn of May, Mint, Revoke, Tick, Clock.
-/
import Derived.Test.YtgcldedkempjhaaDoorTurnA
import Derived.Test.YtgcldedkempjhaaDoorPLem
namespace Go.Proofs.YtgcldedkempjhaaDoor
open Go.RowKit

theorem two_new {w w1 : World} {o1 o2 : Obj} (h : Below ((w.alloc o1).alloc o2).heap.size ((w.alloc o1).alloc o2) w1) :
    w1.heap[w.heap.size]? = some o1 ∧ w1.heap[w.heap.size + 1]? = some o2 ∧ w.heap.size + 1 < w1.heap.size ∧ Below w.heap.size w w1 := by
  have hs := size2 w o1 o2
  have h1 := h.block w.heap.size (by omega)
  have h2 := h.block (w.heap.size + 1) (by omega)
  have h3 := h.size
  refine ⟨?_, ?_, by omega, ?_⟩
  · rw [h1, Below.heap_alloc _ _ _ (by simp), heap_alloc_new]
  · rw [h2, heap2_new]
  · exact (((Below.refl _ _).alloc (Nat.le_refl _) _).alloc (by simp) _).trans (h.mono (by omega))

/-- Behind a step of the depot: the answer is written into its own block. -/
theorem DepStep.store {w W w2 : World} {db : Nat} {D : DepD} {P' : PDep} (hr : DepAt w db D) (hb : Below w.heap.size w W) (h : DepStep W w2 db D P')
    {k : Nat} (h1 : w.heap.size ≤ k) (h2 : k < W.heap.size) (v0 v1 v2 : Value) : DepStep w (((w2.setCell ⟨k, 0, none⟩ v0).setCell ⟨k, 1, none⟩ v1).setCell ⟨k, 2, none⟩ v2) db D P' := by
  obtain ⟨D', hD, hR, hC, hF⟩ := h
  have hkn : ∀ j, DepFoot db D' j → j ≠ k := by
    rintro j hj rfl
    rcases hF j hj with hh | hh
    · have := (hr.foot hh).2; omega
    · omega
  have hC0 : Chg (DepFoot db D) w w2 := (Chg.ofBelow hb).trans hC (fun _ h => Or.inl h)
  refine ⟨D', hD.keep (fun j hj => ?_) ?_, hR, ((hC0.setCell (p := ⟨k, 0, none⟩) (Or.inr h1) _).setCell (p := ⟨k, 1, none⟩) (Or.inr h1) _).setCell (p := ⟨k, 2, none⟩) (Or.inr h1) _, fun j hj => (hF j hj).elim Or.inl (fun h => Or.inr (Nat.le_trans hb.size h))⟩
  · have := hkn j hj
    rw [Below.heap_setCell _ _ _ _ (by exact this), Below.heap_setCell _ _ _ _ (by exact this), Below.heap_setCell _ _ _ _ (by exact this)]
  · have : tabB ≠ k := by have := hr.tab.lt; omega
    rw [Below.heap_setCell _ _ _ _ (by exact this), Below.heap_setCell _ _ _ _ (by exact this), Below.heap_setCell _ _ _ _ (by exact this)]

/-- The blocks above the depot are as they were behind a step. -/
theorem DepStep.above {w W w2 : World} {db : Nat} {D : DepD} {P' : PDep} (hr : DepAt w db D) (h : DepStep W w2 db D P') {k : Nat} (h1 : w.heap.size ≤ k) (h2 : k < W.heap.size) : w2.heap[k]? = W.heap[k]? := by
  obtain ⟨D', hD, hR, hC, hF⟩ := h
  exact hC.block k h2 (fun hk => by have := (hr.foot hk).2; omega)

theorem DepStep.grows {W w2 : World} {db : Nat} {D : DepD} {P' : PDep} (h : DepStep W w2 db D P') : W.heap.size ≤ w2.heap.size := by
  obtain ⟨D', hD, hR, hC, hF⟩ := h
  exact hC.size

theorem shows_i64 (who : Int) {id : Int} (h : I64 id) : I64 (showsI who id) := by
  unfold showsI
  split
  · exact h
  · split
    · exact h
    · exact ⟨by decide, by decide⟩

abbrev ansV (n : Int) (e : Int) : Array Value := #[.int .i64 n, .string ⟨#[]⟩, .int .i64 e]

set_option maxHeartbeats 800000 in
set_option maxRecDepth 100000 in
theorem ruled_may (db : Nat) (D : DepD) (x : TurnD) (house : ByteArray) (id : Int) (w : World) (hr : DepAt w db D) (hk : x.kind = 0) (h1 : -9223372036854775808 ≤ x.who) (h2 : x.who ≤ 9223372036854775807)
    (e1 : house = showsH x.who) (e2 : id = showsI x.who x.id) (r1 r2 : Int) (hE : (r1, r2) = mayF (heldF D.pure house id)) :
    Calls Tryd.prog 39 #[.pointer (some ⟨db, 0, none⟩), .agg (turnV x)] w fun e w' => e = .returned (.agg (ansV (r1) (r2))) ∧ DepStep w w' db D (D.pure) := by
  obtain ⟨who, kd, xid, of, s, t, a, b, c⟩ := x
  obtain rfl : kd = 0 := hk
  have Hs := hide (fun W => shows_any ⟨who, 0, xid, of, s, t, a, b, c⟩ house id W h1 h2 e1 e2)
  have HE := hide hE
  clear e1 e2 hE
  go_enter Tryd.func39, Tryd.ntmps39
  go_wp2_with fail
  refine (Hs.out _).mono ?_
  rintro e w1 ⟨rfl, hb1⟩
  obtain ⟨n1, n2, hlt, hbx⟩ := two_new hb1
  clear hb1
  have hr1 := hr.below hbx
  have o1 : w1.cell? ⟨w.heap.size, 1, none⟩ = some _ := (cell_of_heap n1 1).trans rfl

  go_wp2_with fail
  refine (may_dep db D house id _ hr1 r1 r2 HE.out).mono ?_
  rintro e w2 ⟨rfl, hst⟩
  have hab := hide (hst.above hr (k := w.heap.size + 1) (by omega) hlt)
  have hgr := hst.grows
  have HST := hide (hst.store hr hbx (k := w.heap.size + 1) (by omega) hlt)
  have n3 := hab.out.trans n2
  have z0 : w2.cell? ⟨w.heap.size + 1, 0, none⟩ = some _ := (cell_of_heap n3 0).trans rfl
  have z1 : w2.cell? ⟨w.heap.size + 1, 1, none⟩ = some _ := (cell_of_heap n3 1).trans rfl
  have z2 : w2.cell? ⟨w.heap.size + 1, 2, none⟩ = some _ := (cell_of_heap n3 2).trans rfl
  have rf := frozen_of_heap n3
  clear hst hab n1 n2 n3
  go_wp2_with fail
  exact bodyPost_ret (v := .agg (ansV (r1) (r2))) (by simp [results, Tryd.results39, go_sem, z0, z1, z2]) rfl ⟨rfl, HST.out _ _ _⟩

set_option maxHeartbeats 800000 in
set_option maxRecDepth 100000 in
theorem ruled_mint (db : Nat) (D : DepD) (x : TurnD) (house : ByteArray) (id : Int) (w : World) (hr : DepAt w db D) (hk : x.kind = 2) (h1 : -9223372036854775808 ≤ x.who) (h2 : x.who ≤ 9223372036854775807)
    (e1 : house = showsH x.who) (e2 : id = showsI x.who x.id) (t1 : I64 x.id) (t2 : I64 x.b) (t3 : I64 x.c) (E : Int) (hE : E = mintP (manageF (heldF D.pure house id) (house.toList == x.of.toList)) D.pure.hs x.of x.a x.b x.c) :
    Calls Tryd.prog 39 #[.pointer (some ⟨db, 0, none⟩), .agg (turnV x)] w fun e w' => e = .returned (.agg (ansV (0) (E))) ∧ DepStep w w' db D (stepP E D.pure (mintS D.pure x.of id ⟨x.b, x.a, x.c, false⟩)) := by
  have t0 : I64 id := e2 ▸ shows_i64 x.who t1
  obtain ⟨who, kd, xid, of, s, t, a, b, c⟩ := x
  obtain rfl : kd = 2 := hk
  have Hs := hide (fun W => shows_any ⟨who, 2, xid, of, s, t, a, b, c⟩ house id W h1 h2 e1 e2)
  have HE := hide hE
  clear e1 e2 hE
  go_enter Tryd.func39, Tryd.ntmps39
  go_wp2_with fail
  refine (Hs.out _).mono ?_
  rintro e w1 ⟨rfl, hb1⟩
  obtain ⟨n1, n2, hlt, hbx⟩ := two_new hb1
  clear hb1
  have hr1 := hr.below hbx
  have o1 : w1.cell? ⟨w.heap.size, 1, none⟩ = some _ := (cell_of_heap n1 1).trans rfl
  have o3 : w1.cell? ⟨w.heap.size, 3, none⟩ = some _ := (cell_of_heap n1 3).trans rfl
  have o6 : w1.cell? ⟨w.heap.size, 6, none⟩ = some _ := (cell_of_heap n1 6).trans rfl
  have o7 : w1.cell? ⟨w.heap.size, 7, none⟩ = some _ := (cell_of_heap n1 7).trans rfl
  have o8 : w1.cell? ⟨w.heap.size, 8, none⟩ = some _ := (cell_of_heap n1 8).trans rfl
  go_wp2_with fail
  refine (mint_any db D house id of a b c _ hr1 t0 t2 t3 E HE.out).mono ?_
  rintro e w2 ⟨rfl, hst⟩
  have hab := hide (hst.above hr (k := w.heap.size + 1) (by omega) hlt)
  have hgr := hst.grows
  have HST := hide (hst.store hr hbx (k := w.heap.size + 1) (by omega) hlt)
  have n3 := hab.out.trans n2
  have z0 : w2.cell? ⟨w.heap.size + 1, 0, none⟩ = some _ := (cell_of_heap n3 0).trans rfl
  have z1 : w2.cell? ⟨w.heap.size + 1, 1, none⟩ = some _ := (cell_of_heap n3 1).trans rfl
  have z2 : w2.cell? ⟨w.heap.size + 1, 2, none⟩ = some _ := (cell_of_heap n3 2).trans rfl
  have rf := frozen_of_heap n3
  clear hst hab n1 n2 n3
  go_wp2_with fail
  exact bodyPost_ret (v := .agg (ansV (0) (E))) (by simp [results, Tryd.results39, go_sem, z0, z1, z2]) rfl ⟨rfl, HST.out _ _ _⟩

set_option maxHeartbeats 800000 in
set_option maxRecDepth 100000 in
theorem ruled_revoke (db : Nat) (D : DepD) (x : TurnD) (house : ByteArray) (id : Int) (w : World) (hr : DepAt w db D) (hk : x.kind = 3) (h1 : -9223372036854775808 ≤ x.who) (h2 : x.who ≤ 9223372036854775807)
    (e1 : house = showsH x.who) (e2 : id = showsI x.who x.id) (t1 : I64 x.id) (t2 : I64 x.a) (E : Int) (hE : E = revokeP (manageF (heldF D.pure house id) (house.toList == x.of.toList)) D.pure.hs x.of x.a) :
    Calls Tryd.prog 39 #[.pointer (some ⟨db, 0, none⟩), .agg (turnV x)] w fun e w' => e = .returned (.agg (ansV (0) (E))) ∧ DepStep w w' db D (stepP E D.pure (revokeS D.pure x.of id x.a)) := by
  have t0 : I64 id := e2 ▸ shows_i64 x.who t1
  obtain ⟨who, kd, xid, of, s, t, a, b, c⟩ := x
  obtain rfl : kd = 3 := hk
  have Hs := hide (fun W => shows_any ⟨who, 3, xid, of, s, t, a, b, c⟩ house id W h1 h2 e1 e2)
  have HE := hide hE
  clear e1 e2 hE
  go_enter Tryd.func39, Tryd.ntmps39
  go_wp2_with fail
  refine (Hs.out _).mono ?_
  rintro e w1 ⟨rfl, hb1⟩
  obtain ⟨n1, n2, hlt, hbx⟩ := two_new hb1
  clear hb1
  have hr1 := hr.below hbx
  have o1 : w1.cell? ⟨w.heap.size, 1, none⟩ = some _ := (cell_of_heap n1 1).trans rfl
  have o3 : w1.cell? ⟨w.heap.size, 3, none⟩ = some _ := (cell_of_heap n1 3).trans rfl
  have o6 : w1.cell? ⟨w.heap.size, 6, none⟩ = some _ := (cell_of_heap n1 6).trans rfl
  go_wp2_with fail
  refine (revoke_any db D house id of a _ hr1 t0 t2 E HE.out).mono ?_
  rintro e w2 ⟨rfl, hst⟩
  have hab := hide (hst.above hr (k := w.heap.size + 1) (by omega) hlt)
  have hgr := hst.grows
  have HST := hide (hst.store hr hbx (k := w.heap.size + 1) (by omega) hlt)
  have n3 := hab.out.trans n2
  have z0 : w2.cell? ⟨w.heap.size + 1, 0, none⟩ = some _ := (cell_of_heap n3 0).trans rfl
  have z1 : w2.cell? ⟨w.heap.size + 1, 1, none⟩ = some _ := (cell_of_heap n3 1).trans rfl
  have z2 : w2.cell? ⟨w.heap.size + 1, 2, none⟩ = some _ := (cell_of_heap n3 2).trans rfl
  have rf := frozen_of_heap n3
  clear hst hab n1 n2 n3
  go_wp2_with fail
  exact bodyPost_ret (v := .agg (ansV (0) (E))) (by simp [results, Tryd.results39, go_sem, z0, z1, z2]) rfl ⟨rfl, HST.out _ _ _⟩

end Go.Proofs.YtgcldedkempjhaaDoor
