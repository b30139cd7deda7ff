/-
  depotkeep: ruled and call: what the program answers to any turn, as a pure function of the depot.
-/
import Derived.Test.YtgcldedkempjhabDoorCall
import Derived.Test.YtgcldedkempjhabDoorDepRes
import Derived.Test.YtgcldedkempjhabDoorDepLog
namespace Go.Proofs.YtgcldedkempjhabDoor
open Go.RowKit

abbrev ansW (n : Int) (s : ByteArray) (e : Int) : Array Value := #[.int .i64 n, .string s, .int .i64 e]

theorem show_dep (db : Nat) (D : DepD) (house : ByteArray) (id : Int) (name : ByteArray) (w : World) (hr : DepAt w db D) (hs : name.size ≤ 4611686018427387000) :
    Calls Tryd.prog 12 #[.pointer (some ⟨db, 0, none⟩), .string house, .int .i64 id, .string name] w fun e w' => e = .returned (.tuple #[.string (dshowP D.pure house id name).1, .int .i64 (dshowP D.pure house id name).2]) ∧ DepStep w w' db D D.pure := by
  refine (show_any db D house id name w hr hs).mono ?_
  rintro e w' ⟨rfl, hb⟩
  exact ⟨rfl, DepStep.ofBelow hr hb⟩

theorem resolve_dep (db : Nat) (D : DepD) (house : ByteArray) (id : Int) (text : ByteArray) (budget : Int) (w : World) (hr : DepAt w db D) (hs : text.size ≤ 4611686018427387000) :
    Calls Tryd.prog 20 #[.pointer (some ⟨db, 0, none⟩), .string house, .int .i64 id, .string text, .int .i64 budget] w fun e w' =>
      e = .returned (.tuple #[.string (dresolveP D.pure house id text budget).1, .int .i64 (dresolveP D.pure house id text budget).2.1, .int .i64 (dresolveP D.pure house id text budget).2.2]) ∧ DepStep w w' db D D.pure := by
  refine (resolve_any db D house id text budget w hr hs).mono ?_
  rintro e w' ⟨rfl, hb⟩
  exact ⟨rfl, DepStep.ofBelow hr hb⟩

theorem log_dep (db : Nat) (D : DepD) (house : ByteArray) (id : Int) (w : World) (hr : DepAt w db D) :
    Calls Tryd.prog 15 #[.pointer (some ⟨db, 0, none⟩), .string house, .int .i64 id] w fun e w' => e = .returned (.tuple #[.string (dlogP D.pure house id).1, .int .i64 (dlogP D.pure house id).2]) ∧ DepStep w w' db D D.pure := by
  refine (log_any db D house id w hr).mono ?_
  rintro e w' ⟨rfl, hb⟩
  exact ⟨rfl, DepStep.ofBelow hr hb⟩

theorem head_dep (db : Nat) (D : DepD) (house : ByteArray) (id : Int) (w : World) (hr : DepAt w db D) :
    Calls Tryd.prog 16 #[.pointer (some ⟨db, 0, none⟩), .string house, .int .i64 id] w fun e w' => e = .returned (.tuple #[.int .i64 (dheadP D.pure house id).1, .int .i64 (dheadP D.pure house id).2]) ∧ DepStep w w' db D D.pure := by
  refine (head_any db D house id w hr).mono ?_
  rintro e w' ⟨rfl, hb⟩
  exact ⟨rfl, DepStep.ofBelow hr hb⟩

set_option maxHeartbeats 800000 in
set_option maxRecDepth 100000 in
theorem ruled_found (db : Nat) (D : DepD) (x : TurnD) (house : ByteArray) (id : Int) (w : World) (hr : DepAt w db D) (hk : x.kind = 1) (h1 : -9223372036854775808 ≤ x.who) (h2 : x.who ≤ 9223372036854775807)
    (e1 : house = showsH x.who) (e2 : id = showsI x.who x.id) (E : Int) (hE : E = foundP (heldF D.pure house id) (wordF x.s) (hseF D.pure.hs x.s).isSome D.pure.hs.length) :
    Calls Tryd.prog 19 #[.pointer (some ⟨db, 0, none⟩), .agg (turnV x)] w fun e w' => e = .returned (.agg (ansW 0 ⟨#[]⟩ E)) ∧ DepStep w w' db D (stepP E D.pure (foundS D.pure x.s)) := by
  have HE := hide hE
  clear hE
  obtain ⟨who, kd, xid, of, s, t, a, b, c⟩ := x
  obtain rfl : kd = 1 := hk
  have Hs := hide (fun W => shows_any ⟨who, 1, xid, of, s, t, a, b, c⟩ house id W h1 h2 e1 e2)
  clear e1 e2
  go_enter Tryd.func19, Tryd.ntmps19
  go_wp2_with fail
  refine (Hs.out _).mono ?_
  rintro e w1 ⟨rfl, hb1⟩
  obtain ⟨n1, n2, hlt, hbx⟩ := two_new hb1
  clear hb1
  have hr1 := hr.below hbx
  have o1 : w1.cell? ⟨w.heap.size, 1, none⟩ = some _ := (cell_of_heap n1 1).trans rfl
  have o4 : w1.cell? ⟨w.heap.size, 4, none⟩ = some _ := (cell_of_heap n1 4).trans rfl
  go_wp2_with fail
  refine (found_any db D house id s _ hr1 E HE.out).mono ?_
  rintro e w2 ⟨rfl, hst⟩
  have hab := hide (hst.above hr (k := w.heap.size + 1) (by omega) hlt)
  have hgr := hst.grows
  have HST := hide (hst.store hr hbx (k := w.heap.size + 1) (by omega) hlt)
  have n3 := hab.out.trans n2
  have z0 : w2.cell? ⟨w.heap.size + 1, 0, none⟩ = some _ := (cell_of_heap n3 0).trans rfl
  have z1 : w2.cell? ⟨w.heap.size + 1, 1, none⟩ = some _ := (cell_of_heap n3 1).trans rfl
  have z2 : w2.cell? ⟨w.heap.size + 1, 2, none⟩ = some _ := (cell_of_heap n3 2).trans rfl
  have rf := frozen_of_heap n3
  clear hst hab n1 n2 n3
  go_wp2_with fail
  exact bodyPost_ret (v := .agg (ansW 0 ⟨#[]⟩ E)) (by simp [results, Tryd.results19, go_sem, z0, z1, z2]) rfl ⟨rfl, HST.out _ _ _⟩

set_option maxHeartbeats 800000 in
set_option maxRecDepth 100000 in
theorem ruled_publish (db : Nat) (D : DepD) (x : TurnD) (house : ByteArray) (id : Int) (w : World) (hr : DepAt w db D) (hk : x.kind = 4) (h1 : -9223372036854775808 ≤ x.who) (h2 : x.who ≤ 9223372036854775807)
    (e1 : house = showsH x.who) (e2 : id = showsI x.who x.id) (t1 : I64 x.id) (ht : x.t.size ≤ 4611686018427387000) (E : Int) (hE : E = dpublishP D.pure house id x.s x.a x.t) :
    Calls Tryd.prog 19 #[.pointer (some ⟨db, 0, none⟩), .agg (turnV x)] w fun e w' => e = .returned (.agg (ansW 0 ⟨#[]⟩ E)) ∧ DepStep w w' db D (stepP E D.pure (dpublishS D.pure house id x.s x.a x.t)) := by
  have t0 : I64 id := e2 ▸ shows_i64 x.who t1
  have HE := hide hE
  clear hE
  obtain ⟨who, kd, xid, of, s, t, a, b, c⟩ := x
  obtain rfl : kd = 4 := hk
  have Hs := hide (fun W => shows_any ⟨who, 4, xid, of, s, t, a, b, c⟩ house id W h1 h2 e1 e2)
  clear e1 e2
  go_enter Tryd.func19, Tryd.ntmps19
  go_wp2_with fail
  refine (Hs.out _).mono ?_
  rintro e w1 ⟨rfl, hb1⟩
  obtain ⟨n1, n2, hlt, hbx⟩ := two_new hb1
  clear hb1
  have hr1 := hr.below hbx
  have o1 : w1.cell? ⟨w.heap.size, 1, none⟩ = some _ := (cell_of_heap n1 1).trans rfl
  have o4 : w1.cell? ⟨w.heap.size, 4, none⟩ = some _ := (cell_of_heap n1 4).trans rfl
  have o5 : w1.cell? ⟨w.heap.size, 5, none⟩ = some _ := (cell_of_heap n1 5).trans rfl
  have o6 : w1.cell? ⟨w.heap.size, 6, none⟩ = some _ := (cell_of_heap n1 6).trans rfl
  go_wp2_with fail
  refine (publish_any db D house id s a t _ hr1 ht t0 E HE.out).mono ?_
  rintro e w2 ⟨rfl, hst⟩
  have hab := hide (hst.above hr (k := w.heap.size + 1) (by omega) hlt)
  have hgr := hst.grows
  have HST := hide (hst.store hr hbx (k := w.heap.size + 1) (by omega) hlt)
  have n3 := hab.out.trans n2
  have z0 : w2.cell? ⟨w.heap.size + 1, 0, none⟩ = some _ := (cell_of_heap n3 0).trans rfl
  have z1 : w2.cell? ⟨w.heap.size + 1, 1, none⟩ = some _ := (cell_of_heap n3 1).trans rfl
  have z2 : w2.cell? ⟨w.heap.size + 1, 2, none⟩ = some _ := (cell_of_heap n3 2).trans rfl
  have rf := frozen_of_heap n3
  clear hst hab n1 n2 n3
  go_wp2_with fail
  exact bodyPost_ret (v := .agg (ansW 0 ⟨#[]⟩ E)) (by simp [results, Tryd.results19, go_sem, z0, z1, z2]) rfl ⟨rfl, HST.out _ _ _⟩

set_option maxHeartbeats 800000 in
set_option maxRecDepth 100000 in
theorem ruled_yank (db : Nat) (D : DepD) (x : TurnD) (house : ByteArray) (id : Int) (w : World) (hr : DepAt w db D) (hk : x.kind = 5) (h1 : -9223372036854775808 ≤ x.who) (h2 : x.who ≤ 9223372036854775807)
    (e1 : house = showsH x.who) (e2 : id = showsI x.who x.id) (t1 : I64 x.id) (t2 : I64 x.a) (hy : D.yanks < 200000000000) (E : Int) (hE : E = dyankP D.pure house id x.s x.a) :
    Calls Tryd.prog 19 #[.pointer (some ⟨db, 0, none⟩), .agg (turnV x)] w fun e w' => e = .returned (.agg (ansW 0 ⟨#[]⟩ E)) ∧ DepStep w w' db D (stepP E D.pure (dyankS D.pure house id x.s x.a (!(x.b.tmod 2 != 0)))) := by
  have t0 : I64 id := e2 ▸ shows_i64 x.who t1
  have HE := hide hE
  clear hE
  obtain ⟨who, kd, xid, of, s, t, a, b, c⟩ := x
  obtain rfl : kd = 5 := hk
  have Hs := hide (fun W => shows_any ⟨who, 5, xid, of, s, t, a, b, c⟩ house id W h1 h2 e1 e2)
  clear e1 e2
  go_enter Tryd.func19, Tryd.ntmps19
  go_wp2_with fail
  refine (Hs.out _).mono ?_
  rintro e w1 ⟨rfl, hb1⟩
  obtain ⟨n1, n2, hlt, hbx⟩ := two_new hb1
  clear hb1
  have hr1 := hr.below hbx
  have o1 : w1.cell? ⟨w.heap.size, 1, none⟩ = some _ := (cell_of_heap n1 1).trans rfl
  have o4 : w1.cell? ⟨w.heap.size, 4, none⟩ = some _ := (cell_of_heap n1 4).trans rfl
  have o6 : w1.cell? ⟨w.heap.size, 6, none⟩ = some _ := (cell_of_heap n1 6).trans rfl
  have o7 : w1.cell? ⟨w.heap.size, 7, none⟩ = some _ := (cell_of_heap n1 7).trans rfl
  go_wp2_with fail
  refine (yank_any db D house id s a (b.tmod 2 != 0) _ hr1 t0 t2 hy E HE.out).mono ?_
  rintro e w2 ⟨rfl, hst⟩
  have hab := hide (hst.above hr (k := w.heap.size + 1) (by omega) hlt)
  have hgr := hst.grows
  have HST := hide (hst.store hr hbx (k := w.heap.size + 1) (by omega) hlt)
  have n3 := hab.out.trans n2
  have z0 : w2.cell? ⟨w.heap.size + 1, 0, none⟩ = some _ := (cell_of_heap n3 0).trans rfl
  have z1 : w2.cell? ⟨w.heap.size + 1, 1, none⟩ = some _ := (cell_of_heap n3 1).trans rfl
  have z2 : w2.cell? ⟨w.heap.size + 1, 2, none⟩ = some _ := (cell_of_heap n3 2).trans rfl
  have rf := frozen_of_heap n3
  clear hst hab n1 n2 n3
  go_wp2_with fail
  exact bodyPost_ret (v := .agg (ansW 0 ⟨#[]⟩ E)) (by simp [results, Tryd.results19, go_sem, z0, z1, z2]) rfl ⟨rfl, HST.out _ _ _⟩

set_option maxHeartbeats 800000 in
set_option maxRecDepth 100000 in
theorem ruled_grant (db : Nat) (D : DepD) (x : TurnD) (house : ByteArray) (id : Int) (w : World) (hr : DepAt w db D) (hk : x.kind = 6) (h1 : -9223372036854775808 ≤ x.who) (h2 : x.who ≤ 9223372036854775807)
    (e1 : house = showsH x.who) (e2 : id = showsI x.who x.id) (t1 : I64 x.id) (E : Int) (hE : E = dgrantP D.pure house id x.s x.t) :
    Calls Tryd.prog 19 #[.pointer (some ⟨db, 0, none⟩), .agg (turnV x)] w fun e w' => e = .returned (.agg (ansW 0 ⟨#[]⟩ E)) ∧ DepStep w w' db D (stepP E D.pure (dgrantS D.pure house id x.s x.t)) := by
  have t0 : I64 id := e2 ▸ shows_i64 x.who t1
  have HE := hide hE
  clear hE
  obtain ⟨who, kd, xid, of, s, t, a, b, c⟩ := x
  obtain rfl : kd = 6 := hk
  have Hs := hide (fun W => shows_any ⟨who, 6, xid, of, s, t, a, b, c⟩ house id W h1 h2 e1 e2)
  clear e1 e2
  go_enter Tryd.func19, Tryd.ntmps19
  go_wp2_with fail
  refine (Hs.out _).mono ?_
  rintro e w1 ⟨rfl, hb1⟩
  obtain ⟨n1, n2, hlt, hbx⟩ := two_new hb1
  clear hb1
  have hr1 := hr.below hbx
  have o1 : w1.cell? ⟨w.heap.size, 1, none⟩ = some _ := (cell_of_heap n1 1).trans rfl
  have o4 : w1.cell? ⟨w.heap.size, 4, none⟩ = some _ := (cell_of_heap n1 4).trans rfl
  have o5 : w1.cell? ⟨w.heap.size, 5, none⟩ = some _ := (cell_of_heap n1 5).trans rfl
  go_wp2_with fail
  refine (grant_any db D house id s t _ hr1 t0 E HE.out).mono ?_
  rintro e w2 ⟨rfl, hst⟩
  have hab := hide (hst.above hr (k := w.heap.size + 1) (by omega) hlt)
  have hgr := hst.grows
  have HST := hide (hst.store hr hbx (k := w.heap.size + 1) (by omega) hlt)
  have n3 := hab.out.trans n2
  have z0 : w2.cell? ⟨w.heap.size + 1, 0, none⟩ = some _ := (cell_of_heap n3 0).trans rfl
  have z1 : w2.cell? ⟨w.heap.size + 1, 1, none⟩ = some _ := (cell_of_heap n3 1).trans rfl
  have z2 : w2.cell? ⟨w.heap.size + 1, 2, none⟩ = some _ := (cell_of_heap n3 2).trans rfl
  have rf := frozen_of_heap n3
  clear hst hab n1 n2 n3
  go_wp2_with fail
  exact bodyPost_ret (v := .agg (ansW 0 ⟨#[]⟩ E)) (by simp [results, Tryd.results19, go_sem, z0, z1, z2]) rfl ⟨rfl, HST.out _ _ _⟩

set_option maxHeartbeats 800000 in
set_option maxRecDepth 100000 in
theorem call_ruled1 (db : Nat) (D : DepD) (x : TurnD) (house : ByteArray) (id : Int) (w : World) (hr : DepAt w db D) (hk : x.kind = 1) (h1 : -9223372036854775808 ≤ x.who) (h2 : x.who ≤ 9223372036854775807)
    (e1 : house = showsH x.who) (e2 : id = showsI x.who x.id) (n E : Int) (R : PDep)
    (hC : ∀ W, DepAt W db D → Calls Tryd.prog 19 #[.pointer (some ⟨db, 0, none⟩), .agg (turnV x)] W fun e w' => e = .returned (.agg (ansW n ⟨#[]⟩ E)) ∧ DepStep W w' db D R) :
    Calls Tryd.prog 7 #[.pointer (some ⟨db, 0, none⟩), .agg (turnV x)] w fun e w' => e = .returned (.agg (ansW n ⟨#[]⟩ E)) ∧ DepStep w w' db D (R) := by
  have HC := hide hC
  clear hC
  obtain ⟨who, kd, xid, of, s, t, a, b, c⟩ := x
  obtain rfl : kd = 1 := hk
  have Hs := hide (fun W => shows_any ⟨who, 1, xid, of, s, t, a, b, c⟩ house id W h1 h2 e1 e2)
  clear e1 e2
  go_enter Tryd.func7, Tryd.ntmps7
  go_wp2_with fail
  refine (Hs.out _).mono ?_
  rintro e w1 ⟨rfl, hb1⟩
  obtain ⟨n1, n2, hlt, hbx⟩ := two_new hb1
  clear hb1
  have hr1 := hr.below hbx
  have o1 : w1.cell? ⟨w.heap.size, 1, none⟩ = some _ := (cell_of_heap n1 1).trans rfl
  have o0 : w1.cell? ⟨w.heap.size, 0, none⟩ = some _ := (cell_of_heap n1 0).trans rfl
  have o2 : w1.cell? ⟨w.heap.size, 2, none⟩ = some _ := (cell_of_heap n1 2).trans rfl
  have o3 : w1.cell? ⟨w.heap.size, 3, none⟩ = some _ := (cell_of_heap n1 3).trans rfl
  have o4 : w1.cell? ⟨w.heap.size, 4, none⟩ = some _ := (cell_of_heap n1 4).trans rfl
  have o5 : w1.cell? ⟨w.heap.size, 5, none⟩ = some _ := (cell_of_heap n1 5).trans rfl
  have o6 : w1.cell? ⟨w.heap.size, 6, none⟩ = some _ := (cell_of_heap n1 6).trans rfl
  have o7 : w1.cell? ⟨w.heap.size, 7, none⟩ = some _ := (cell_of_heap n1 7).trans rfl
  have o8 : w1.cell? ⟨w.heap.size, 8, none⟩ = some _ := (cell_of_heap n1 8).trans rfl
  go_wp2_with fail
  refine (HC.out _ hr1).mono ?_
  rintro e w2 ⟨rfl, hst⟩
  have hab := hide (hst.above hr (k := w.heap.size + 1) (by omega) hlt)
  have hgr := hst.grows
  have HST := hide (hst.store hr hbx (k := w.heap.size + 1) (by omega) hlt)
  have n3 := hab.out.trans n2
  have z0 : w2.cell? ⟨w.heap.size + 1, 0, none⟩ = some _ := (cell_of_heap n3 0).trans rfl
  have z1 : w2.cell? ⟨w.heap.size + 1, 1, none⟩ = some _ := (cell_of_heap n3 1).trans rfl
  have z2 : w2.cell? ⟨w.heap.size + 1, 2, none⟩ = some _ := (cell_of_heap n3 2).trans rfl
  have rf := frozen_of_heap n3
  clear hst hab n1 n2 n3
  go_wp2_with fail
  exact bodyPost_ret (v := .agg (ansW n ⟨#[]⟩ E)) (by simp [results, Tryd.results7, go_sem, z0, z1, z2]) rfl ⟨rfl, HST.out _ _ _⟩

set_option maxHeartbeats 800000 in
set_option maxRecDepth 100000 in
theorem call_ruled4 (db : Nat) (D : DepD) (x : TurnD) (house : ByteArray) (id : Int) (w : World) (hr : DepAt w db D) (hk : x.kind = 4) (h1 : -9223372036854775808 ≤ x.who) (h2 : x.who ≤ 9223372036854775807)
    (e1 : house = showsH x.who) (e2 : id = showsI x.who x.id) (n E : Int) (R : PDep)
    (hC : ∀ W, DepAt W db D → Calls Tryd.prog 19 #[.pointer (some ⟨db, 0, none⟩), .agg (turnV x)] W fun e w' => e = .returned (.agg (ansW n ⟨#[]⟩ E)) ∧ DepStep W w' db D R) :
    Calls Tryd.prog 7 #[.pointer (some ⟨db, 0, none⟩), .agg (turnV x)] w fun e w' => e = .returned (.agg (ansW n ⟨#[]⟩ E)) ∧ DepStep w w' db D (R) := by
  have HC := hide hC
  clear hC
  obtain ⟨who, kd, xid, of, s, t, a, b, c⟩ := x
  obtain rfl : kd = 4 := hk
  have Hs := hide (fun W => shows_any ⟨who, 4, xid, of, s, t, a, b, c⟩ house id W h1 h2 e1 e2)
  clear e1 e2
  go_enter Tryd.func7, Tryd.ntmps7
  go_wp2_with fail
  refine (Hs.out _).mono ?_
  rintro e w1 ⟨rfl, hb1⟩
  obtain ⟨n1, n2, hlt, hbx⟩ := two_new hb1
  clear hb1
  have hr1 := hr.below hbx
  have o1 : w1.cell? ⟨w.heap.size, 1, none⟩ = some _ := (cell_of_heap n1 1).trans rfl
  have o0 : w1.cell? ⟨w.heap.size, 0, none⟩ = some _ := (cell_of_heap n1 0).trans rfl
  have o2 : w1.cell? ⟨w.heap.size, 2, none⟩ = some _ := (cell_of_heap n1 2).trans rfl
  have o3 : w1.cell? ⟨w.heap.size, 3, none⟩ = some _ := (cell_of_heap n1 3).trans rfl
  have o4 : w1.cell? ⟨w.heap.size, 4, none⟩ = some _ := (cell_of_heap n1 4).trans rfl
  have o5 : w1.cell? ⟨w.heap.size, 5, none⟩ = some _ := (cell_of_heap n1 5).trans rfl
  have o6 : w1.cell? ⟨w.heap.size, 6, none⟩ = some _ := (cell_of_heap n1 6).trans rfl
  have o7 : w1.cell? ⟨w.heap.size, 7, none⟩ = some _ := (cell_of_heap n1 7).trans rfl
  have o8 : w1.cell? ⟨w.heap.size, 8, none⟩ = some _ := (cell_of_heap n1 8).trans rfl
  go_wp2_with fail
  refine (HC.out _ hr1).mono ?_
  rintro e w2 ⟨rfl, hst⟩
  have hab := hide (hst.above hr (k := w.heap.size + 1) (by omega) hlt)
  have hgr := hst.grows
  have HST := hide (hst.store hr hbx (k := w.heap.size + 1) (by omega) hlt)
  have n3 := hab.out.trans n2
  have z0 : w2.cell? ⟨w.heap.size + 1, 0, none⟩ = some _ := (cell_of_heap n3 0).trans rfl
  have z1 : w2.cell? ⟨w.heap.size + 1, 1, none⟩ = some _ := (cell_of_heap n3 1).trans rfl
  have z2 : w2.cell? ⟨w.heap.size + 1, 2, none⟩ = some _ := (cell_of_heap n3 2).trans rfl
  have rf := frozen_of_heap n3
  clear hst hab n1 n2 n3
  go_wp2_with fail
  exact bodyPost_ret (v := .agg (ansW n ⟨#[]⟩ E)) (by simp [results, Tryd.results7, go_sem, z0, z1, z2]) rfl ⟨rfl, HST.out _ _ _⟩

set_option maxHeartbeats 800000 in
set_option maxRecDepth 100000 in
theorem call_ruled5 (db : Nat) (D : DepD) (x : TurnD) (house : ByteArray) (id : Int) (w : World) (hr : DepAt w db D) (hk : x.kind = 5) (h1 : -9223372036854775808 ≤ x.who) (h2 : x.who ≤ 9223372036854775807)
    (e1 : house = showsH x.who) (e2 : id = showsI x.who x.id) (n E : Int) (R : PDep)
    (hC : ∀ W, DepAt W db D → Calls Tryd.prog 19 #[.pointer (some ⟨db, 0, none⟩), .agg (turnV x)] W fun e w' => e = .returned (.agg (ansW n ⟨#[]⟩ E)) ∧ DepStep W w' db D R) :
    Calls Tryd.prog 7 #[.pointer (some ⟨db, 0, none⟩), .agg (turnV x)] w fun e w' => e = .returned (.agg (ansW n ⟨#[]⟩ E)) ∧ DepStep w w' db D (R) := by
  have HC := hide hC
  clear hC
  obtain ⟨who, kd, xid, of, s, t, a, b, c⟩ := x
  obtain rfl : kd = 5 := hk
  have Hs := hide (fun W => shows_any ⟨who, 5, xid, of, s, t, a, b, c⟩ house id W h1 h2 e1 e2)
  clear e1 e2
  go_enter Tryd.func7, Tryd.ntmps7
  go_wp2_with fail
  refine (Hs.out _).mono ?_
  rintro e w1 ⟨rfl, hb1⟩
  obtain ⟨n1, n2, hlt, hbx⟩ := two_new hb1
  clear hb1
  have hr1 := hr.below hbx
  have o1 : w1.cell? ⟨w.heap.size, 1, none⟩ = some _ := (cell_of_heap n1 1).trans rfl
  have o0 : w1.cell? ⟨w.heap.size, 0, none⟩ = some _ := (cell_of_heap n1 0).trans rfl
  have o2 : w1.cell? ⟨w.heap.size, 2, none⟩ = some _ := (cell_of_heap n1 2).trans rfl
  have o3 : w1.cell? ⟨w.heap.size, 3, none⟩ = some _ := (cell_of_heap n1 3).trans rfl
  have o4 : w1.cell? ⟨w.heap.size, 4, none⟩ = some _ := (cell_of_heap n1 4).trans rfl
  have o5 : w1.cell? ⟨w.heap.size, 5, none⟩ = some _ := (cell_of_heap n1 5).trans rfl
  have o6 : w1.cell? ⟨w.heap.size, 6, none⟩ = some _ := (cell_of_heap n1 6).trans rfl
  have o7 : w1.cell? ⟨w.heap.size, 7, none⟩ = some _ := (cell_of_heap n1 7).trans rfl
  have o8 : w1.cell? ⟨w.heap.size, 8, none⟩ = some _ := (cell_of_heap n1 8).trans rfl
  go_wp2_with fail
  refine (HC.out _ hr1).mono ?_
  rintro e w2 ⟨rfl, hst⟩
  have hab := hide (hst.above hr (k := w.heap.size + 1) (by omega) hlt)
  have hgr := hst.grows
  have HST := hide (hst.store hr hbx (k := w.heap.size + 1) (by omega) hlt)
  have n3 := hab.out.trans n2
  have z0 : w2.cell? ⟨w.heap.size + 1, 0, none⟩ = some _ := (cell_of_heap n3 0).trans rfl
  have z1 : w2.cell? ⟨w.heap.size + 1, 1, none⟩ = some _ := (cell_of_heap n3 1).trans rfl
  have z2 : w2.cell? ⟨w.heap.size + 1, 2, none⟩ = some _ := (cell_of_heap n3 2).trans rfl
  have rf := frozen_of_heap n3
  clear hst hab n1 n2 n3
  go_wp2_with fail
  exact bodyPost_ret (v := .agg (ansW n ⟨#[]⟩ E)) (by simp [results, Tryd.results7, go_sem, z0, z1, z2]) rfl ⟨rfl, HST.out _ _ _⟩

set_option maxHeartbeats 800000 in
set_option maxRecDepth 100000 in
theorem call_ruled6 (db : Nat) (D : DepD) (x : TurnD) (house : ByteArray) (id : Int) (w : World) (hr : DepAt w db D) (hk : x.kind = 6) (h1 : -9223372036854775808 ≤ x.who) (h2 : x.who ≤ 9223372036854775807)
    (e1 : house = showsH x.who) (e2 : id = showsI x.who x.id) (n E : Int) (R : PDep)
    (hC : ∀ W, DepAt W db D → Calls Tryd.prog 19 #[.pointer (some ⟨db, 0, none⟩), .agg (turnV x)] W fun e w' => e = .returned (.agg (ansW n ⟨#[]⟩ E)) ∧ DepStep W w' db D R) :
    Calls Tryd.prog 7 #[.pointer (some ⟨db, 0, none⟩), .agg (turnV x)] w fun e w' => e = .returned (.agg (ansW n ⟨#[]⟩ E)) ∧ DepStep w w' db D (R) := by
  have HC := hide hC
  clear hC
  obtain ⟨who, kd, xid, of, s, t, a, b, c⟩ := x
  obtain rfl : kd = 6 := hk
  have Hs := hide (fun W => shows_any ⟨who, 6, xid, of, s, t, a, b, c⟩ house id W h1 h2 e1 e2)
  clear e1 e2
  go_enter Tryd.func7, Tryd.ntmps7
  go_wp2_with fail
  refine (Hs.out _).mono ?_
  rintro e w1 ⟨rfl, hb1⟩
  obtain ⟨n1, n2, hlt, hbx⟩ := two_new hb1
  clear hb1
  have hr1 := hr.below hbx
  have o1 : w1.cell? ⟨w.heap.size, 1, none⟩ = some _ := (cell_of_heap n1 1).trans rfl
  have o0 : w1.cell? ⟨w.heap.size, 0, none⟩ = some _ := (cell_of_heap n1 0).trans rfl
  have o2 : w1.cell? ⟨w.heap.size, 2, none⟩ = some _ := (cell_of_heap n1 2).trans rfl
  have o3 : w1.cell? ⟨w.heap.size, 3, none⟩ = some _ := (cell_of_heap n1 3).trans rfl
  have o4 : w1.cell? ⟨w.heap.size, 4, none⟩ = some _ := (cell_of_heap n1 4).trans rfl
  have o5 : w1.cell? ⟨w.heap.size, 5, none⟩ = some _ := (cell_of_heap n1 5).trans rfl
  have o6 : w1.cell? ⟨w.heap.size, 6, none⟩ = some _ := (cell_of_heap n1 6).trans rfl
  have o7 : w1.cell? ⟨w.heap.size, 7, none⟩ = some _ := (cell_of_heap n1 7).trans rfl
  have o8 : w1.cell? ⟨w.heap.size, 8, none⟩ = some _ := (cell_of_heap n1 8).trans rfl
  go_wp2_with fail
  refine (HC.out _ hr1).mono ?_
  rintro e w2 ⟨rfl, hst⟩
  have hab := hide (hst.above hr (k := w.heap.size + 1) (by omega) hlt)
  have hgr := hst.grows
  have HST := hide (hst.store hr hbx (k := w.heap.size + 1) (by omega) hlt)
  have n3 := hab.out.trans n2
  have z0 : w2.cell? ⟨w.heap.size + 1, 0, none⟩ = some _ := (cell_of_heap n3 0).trans rfl
  have z1 : w2.cell? ⟨w.heap.size + 1, 1, none⟩ = some _ := (cell_of_heap n3 1).trans rfl
  have z2 : w2.cell? ⟨w.heap.size + 1, 2, none⟩ = some _ := (cell_of_heap n3 2).trans rfl
  have rf := frozen_of_heap n3
  clear hst hab n1 n2 n3
  go_wp2_with fail
  exact bodyPost_ret (v := .agg (ansW n ⟨#[]⟩ E)) (by simp [results, Tryd.results7, go_sem, z0, z1, z2]) rfl ⟨rfl, HST.out _ _ _⟩

set_option maxHeartbeats 800000 in
set_option maxRecDepth 100000 in
theorem call_show (db : Nat) (D : DepD) (x : TurnD) (house : ByteArray) (id : Int) (w : World) (hr : DepAt w db D) (hk : x.kind = 7) (h1 : -9223372036854775808 ≤ x.who) (h2 : x.who ≤ 9223372036854775807)
    (e1 : house = showsH x.who) (e2 : id = showsI x.who x.id) (hs : x.s.size ≤ 4611686018427387000) :
    Calls Tryd.prog 7 #[.pointer (some ⟨db, 0, none⟩), .agg (turnV x)] w fun e w' => e = .returned (.agg (ansW 0 (dshowP D.pure house id x.s).1 (dshowP D.pure house id x.s).2)) ∧ DepStep w w' db D (D.pure) := by
  obtain ⟨who, kd, xid, of, s, t, a, b, c⟩ := x
  obtain rfl : kd = 7 := hk
  have Hs := hide (fun W => shows_any ⟨who, 7, xid, of, s, t, a, b, c⟩ house id W h1 h2 e1 e2)
  clear e1 e2
  go_enter Tryd.func7, Tryd.ntmps7
  go_wp2_with fail
  refine (Hs.out _).mono ?_
  rintro e w1 ⟨rfl, hb1⟩
  obtain ⟨n1, n2, hlt, hbx⟩ := two_new hb1
  clear hb1
  have hr1 := hr.below hbx
  have o1 : w1.cell? ⟨w.heap.size, 1, none⟩ = some _ := (cell_of_heap n1 1).trans rfl
  have o4 : w1.cell? ⟨w.heap.size, 4, none⟩ = some _ := (cell_of_heap n1 4).trans rfl
  go_wp2_with fail
  refine (show_dep db D house id s _ hr1 hs).mono ?_
  rintro e w2 ⟨rfl, hst⟩
  have hab := hide (hst.above hr (k := w.heap.size + 1) (by omega) hlt)
  have hgr := hst.grows
  have HST := hide (hst.store hr hbx (k := w.heap.size + 1) (by omega) hlt)
  have n3 := hab.out.trans n2
  have z0 : w2.cell? ⟨w.heap.size + 1, 0, none⟩ = some _ := (cell_of_heap n3 0).trans rfl
  have z1 : w2.cell? ⟨w.heap.size + 1, 1, none⟩ = some _ := (cell_of_heap n3 1).trans rfl
  have z2 : w2.cell? ⟨w.heap.size + 1, 2, none⟩ = some _ := (cell_of_heap n3 2).trans rfl
  have rf := frozen_of_heap n3
  clear hst hab n1 n2 n3
  go_wp2_with fail
  exact bodyPost_ret (v := .agg (ansW 0 (dshowP D.pure house id s).1 (dshowP D.pure house id s).2)) (by simp [results, Tryd.results7, go_sem, z0, z1, z2]) rfl ⟨rfl, HST.out _ _ _⟩

set_option maxHeartbeats 800000 in
set_option maxRecDepth 100000 in
theorem call_resolve (db : Nat) (D : DepD) (x : TurnD) (house : ByteArray) (id : Int) (w : World) (hr : DepAt w db D) (hk : x.kind = 8) (h1 : -9223372036854775808 ≤ x.who) (h2 : x.who ≤ 9223372036854775807)
    (e1 : house = showsH x.who) (e2 : id = showsI x.who x.id) (hs : x.s.size ≤ 4611686018427387000) :
    Calls Tryd.prog 7 #[.pointer (some ⟨db, 0, none⟩), .agg (turnV x)] w fun e w' => e = .returned (.agg (ansW (dresolveP D.pure house id x.s x.a).2.1 (dresolveP D.pure house id x.s x.a).1 (dresolveP D.pure house id x.s x.a).2.2)) ∧ DepStep w w' db D (D.pure) := by
  obtain ⟨who, kd, xid, of, s, t, a, b, c⟩ := x
  obtain rfl : kd = 8 := hk
  have Hs := hide (fun W => shows_any ⟨who, 8, xid, of, s, t, a, b, c⟩ house id W h1 h2 e1 e2)
  clear e1 e2
  go_enter Tryd.func7, Tryd.ntmps7
  go_wp2_with fail
  refine (Hs.out _).mono ?_
  rintro e w1 ⟨rfl, hb1⟩
  obtain ⟨n1, n2, hlt, hbx⟩ := two_new hb1
  clear hb1
  have hr1 := hr.below hbx
  have o1 : w1.cell? ⟨w.heap.size, 1, none⟩ = some _ := (cell_of_heap n1 1).trans rfl
  have o4 : w1.cell? ⟨w.heap.size, 4, none⟩ = some _ := (cell_of_heap n1 4).trans rfl
  have o6 : w1.cell? ⟨w.heap.size, 6, none⟩ = some _ := (cell_of_heap n1 6).trans rfl
  go_wp2_with fail
  refine (resolve_dep db D house id s a _ hr1 hs).mono ?_
  rintro e w2 ⟨rfl, hst⟩
  have hab := hide (hst.above hr (k := w.heap.size + 1) (by omega) hlt)
  have hgr := hst.grows
  have HST := hide (hst.store hr hbx (k := w.heap.size + 1) (by omega) hlt)
  have n3 := hab.out.trans n2
  have z0 : w2.cell? ⟨w.heap.size + 1, 0, none⟩ = some _ := (cell_of_heap n3 0).trans rfl
  have z1 : w2.cell? ⟨w.heap.size + 1, 1, none⟩ = some _ := (cell_of_heap n3 1).trans rfl
  have z2 : w2.cell? ⟨w.heap.size + 1, 2, none⟩ = some _ := (cell_of_heap n3 2).trans rfl
  have rf := frozen_of_heap n3
  clear hst hab n1 n2 n3
  go_wp2_with fail
  exact bodyPost_ret (v := .agg (ansW (dresolveP D.pure house id s a).2.1 (dresolveP D.pure house id s a).1 (dresolveP D.pure house id s a).2.2)) (by simp [results, Tryd.results7, go_sem, z0, z1, z2]) rfl ⟨rfl, HST.out _ _ _⟩

set_option maxHeartbeats 800000 in
set_option maxRecDepth 100000 in
theorem call_log (db : Nat) (D : DepD) (x : TurnD) (house : ByteArray) (id : Int) (w : World) (hr : DepAt w db D) (hk : x.kind = 9) (h1 : -9223372036854775808 ≤ x.who) (h2 : x.who ≤ 9223372036854775807)
    (e1 : house = showsH x.who) (e2 : id = showsI x.who x.id) :
    Calls Tryd.prog 7 #[.pointer (some ⟨db, 0, none⟩), .agg (turnV x)] w fun e w' => e = .returned (.agg (ansW 0 (dlogP D.pure house id).1 (dlogP D.pure house id).2)) ∧ DepStep w w' db D (D.pure) := by
  obtain ⟨who, kd, xid, of, s, t, a, b, c⟩ := x
  obtain rfl : kd = 9 := hk
  have Hs := hide (fun W => shows_any ⟨who, 9, xid, of, s, t, a, b, c⟩ house id W h1 h2 e1 e2)
  clear e1 e2
  go_enter Tryd.func7, Tryd.ntmps7
  go_wp2_with fail
  refine (Hs.out _).mono ?_
  rintro e w1 ⟨rfl, hb1⟩
  obtain ⟨n1, n2, hlt, hbx⟩ := two_new hb1
  clear hb1
  have hr1 := hr.below hbx
  have o1 : w1.cell? ⟨w.heap.size, 1, none⟩ = some _ := (cell_of_heap n1 1).trans rfl

  go_wp2_with fail
  refine (log_dep db D house id _ hr1).mono ?_
  rintro e w2 ⟨rfl, hst⟩
  have hab := hide (hst.above hr (k := w.heap.size + 1) (by omega) hlt)
  have hgr := hst.grows
  have HST := hide (hst.store hr hbx (k := w.heap.size + 1) (by omega) hlt)
  have n3 := hab.out.trans n2
  have z0 : w2.cell? ⟨w.heap.size + 1, 0, none⟩ = some _ := (cell_of_heap n3 0).trans rfl
  have z1 : w2.cell? ⟨w.heap.size + 1, 1, none⟩ = some _ := (cell_of_heap n3 1).trans rfl
  have z2 : w2.cell? ⟨w.heap.size + 1, 2, none⟩ = some _ := (cell_of_heap n3 2).trans rfl
  have rf := frozen_of_heap n3
  clear hst hab n1 n2 n3
  go_wp2_with fail
  exact bodyPost_ret (v := .agg (ansW 0 (dlogP D.pure house id).1 (dlogP D.pure house id).2)) (by simp [results, Tryd.results7, go_sem, z0, z1, z2]) rfl ⟨rfl, HST.out _ _ _⟩

set_option maxHeartbeats 800000 in
set_option maxRecDepth 100000 in
theorem call_head (db : Nat) (D : DepD) (x : TurnD) (house : ByteArray) (id : Int) (w : World) (hr : DepAt w db D) (hk : x.kind = 10) (h1 : -9223372036854775808 ≤ x.who) (h2 : x.who ≤ 9223372036854775807)
    (e1 : house = showsH x.who) (e2 : id = showsI x.who x.id) :
    Calls Tryd.prog 7 #[.pointer (some ⟨db, 0, none⟩), .agg (turnV x)] w fun e w' => e = .returned (.agg (ansW (dheadP D.pure house id).1 ⟨#[]⟩ (dheadP D.pure house id).2)) ∧ DepStep w w' db D (D.pure) := by
  obtain ⟨who, kd, xid, of, s, t, a, b, c⟩ := x
  obtain rfl : kd = 10 := hk
  have Hs := hide (fun W => shows_any ⟨who, 10, xid, of, s, t, a, b, c⟩ house id W h1 h2 e1 e2)
  clear e1 e2
  go_enter Tryd.func7, Tryd.ntmps7
  go_wp2_with fail
  refine (Hs.out _).mono ?_
  rintro e w1 ⟨rfl, hb1⟩
  obtain ⟨n1, n2, hlt, hbx⟩ := two_new hb1
  clear hb1
  have hr1 := hr.below hbx
  have o1 : w1.cell? ⟨w.heap.size, 1, none⟩ = some _ := (cell_of_heap n1 1).trans rfl

  go_wp2_with fail
  refine (head_dep db D house id _ hr1).mono ?_
  rintro e w2 ⟨rfl, hst⟩
  have hab := hide (hst.above hr (k := w.heap.size + 1) (by omega) hlt)
  have hgr := hst.grows
  have HST := hide (hst.store hr hbx (k := w.heap.size + 1) (by omega) hlt)
  have n3 := hab.out.trans n2
  have z0 : w2.cell? ⟨w.heap.size + 1, 0, none⟩ = some _ := (cell_of_heap n3 0).trans rfl
  have z1 : w2.cell? ⟨w.heap.size + 1, 1, none⟩ = some _ := (cell_of_heap n3 1).trans rfl
  have z2 : w2.cell? ⟨w.heap.size + 1, 2, none⟩ = some _ := (cell_of_heap n3 2).trans rfl
  have rf := frozen_of_heap n3
  clear hst hab n1 n2 n3
  go_wp2_with fail
  exact bodyPost_ret (v := .agg (ansW (dheadP D.pure house id).1 ⟨#[]⟩ (dheadP D.pure house id).2)) (by simp [results, Tryd.results7, go_sem, z0, z1, z2]) rfl ⟨rfl, HST.out _ _ _⟩

set_option maxHeartbeats 800000 in
set_option maxRecDepth 100000 in
theorem call_feed (db : Nat) (D : DepD) (x : TurnD) (house : ByteArray) (id : Int) (w : World) (hr : DepAt w db D) (hk : x.kind = 11) (h1 : -9223372036854775808 ≤ x.who) (h2 : x.who ≤ 9223372036854775807)
    (e1 : house = showsH x.who) (e2 : id = showsI x.who x.id) (hs : x.s.size ≤ 4611686018427387000) (ht : x.t.size ≤ 4611686018427387000) (E : Int) (hE : E = dfeedP D.pure x.s x.a x.t) :
    Calls Tryd.prog 7 #[.pointer (some ⟨db, 0, none⟩), .agg (turnV x)] w fun e w' => e = .returned (.agg (ansW 0 ⟨#[]⟩ E)) ∧ DepStep w w' db D (stepP E D.pure (dfeedS D.pure x.s x.a x.t)) := by
  have HE := hide hE
  clear hE
  obtain ⟨who, kd, xid, of, s, t, a, b, c⟩ := x
  obtain rfl : kd = 11 := hk
  have Hs := hide (fun W => shows_any ⟨who, 11, xid, of, s, t, a, b, c⟩ house id W h1 h2 e1 e2)
  clear e1 e2
  go_enter Tryd.func7, Tryd.ntmps7
  go_wp2_with fail
  refine (Hs.out _).mono ?_
  rintro e w1 ⟨rfl, hb1⟩
  obtain ⟨n1, n2, hlt, hbx⟩ := two_new hb1
  clear hb1
  have hr1 := hr.below hbx
  have o1 : w1.cell? ⟨w.heap.size, 1, none⟩ = some _ := (cell_of_heap n1 1).trans rfl
  have o4 : w1.cell? ⟨w.heap.size, 4, none⟩ = some _ := (cell_of_heap n1 4).trans rfl
  have o5 : w1.cell? ⟨w.heap.size, 5, none⟩ = some _ := (cell_of_heap n1 5).trans rfl
  have o6 : w1.cell? ⟨w.heap.size, 6, none⟩ = some _ := (cell_of_heap n1 6).trans rfl
  go_wp2_with fail
  refine (feed_any db D s a t _ hr1 hs ht E HE.out).mono ?_
  rintro e w2 ⟨rfl, hst⟩
  have hab := hide (hst.above hr (k := w.heap.size + 1) (by omega) hlt)
  have hgr := hst.grows
  have HST := hide (hst.store hr hbx (k := w.heap.size + 1) (by omega) hlt)
  have n3 := hab.out.trans n2
  have z0 : w2.cell? ⟨w.heap.size + 1, 0, none⟩ = some _ := (cell_of_heap n3 0).trans rfl
  have z1 : w2.cell? ⟨w.heap.size + 1, 1, none⟩ = some _ := (cell_of_heap n3 1).trans rfl
  have z2 : w2.cell? ⟨w.heap.size + 1, 2, none⟩ = some _ := (cell_of_heap n3 2).trans rfl
  have rf := frozen_of_heap n3
  clear hst hab n1 n2 n3
  go_wp2_with fail
  exact bodyPost_ret (v := .agg (ansW 0 ⟨#[]⟩ E)) (by simp [results, Tryd.results7, go_sem, z0, z1, z2]) rfl ⟨rfl, HST.out _ _ _⟩

/-- What a turn is answered: a number, a text, the error. -/
def callA (P : PDep) (x : TurnD) : Int × ByteArray × Int :=
  let house := showsH x.who
  let id := showsI x.who x.id
  if x.kind = 0 then ((mayF (heldF P house id)).1, ⟨#[]⟩, (mayF (heldF P house id)).2)
  else if x.kind = 1 then (0, ⟨#[]⟩, foundP (heldF P house id) (wordF x.s) (hseF P.hs x.s).isSome P.hs.length)
  else if x.kind = 2 then (0, ⟨#[]⟩, mintP (manageF (heldF P house id) (house.toList == x.of.toList)) P.hs x.of x.a x.b x.c)
  else if x.kind = 3 then (0, ⟨#[]⟩, revokeP (manageF (heldF P house id) (house.toList == x.of.toList)) P.hs x.of x.a)
  else if x.kind = 4 then (0, ⟨#[]⟩, dpublishP P house id x.s x.a x.t)
  else if x.kind = 5 then (0, ⟨#[]⟩, dyankP P house id x.s x.a)
  else if x.kind = 6 then (0, ⟨#[]⟩, dgrantP P house id x.s x.t)
  else if x.kind = 7 then (0, (dshowP P house id x.s).1, (dshowP P house id x.s).2)
  else if x.kind = 8 then ((dresolveP P house id x.s x.a).2.1, (dresolveP P house id x.s x.a).1, (dresolveP P house id x.s x.a).2.2)
  else if x.kind = 9 then (0, (dlogP P house id).1, (dlogP P house id).2)
  else if x.kind = 10 then ((dheadP P house id).1, ⟨#[]⟩, (dheadP P house id).2)
  else if x.kind = 11 then (0, ⟨#[]⟩, dfeedP P x.s x.a x.t)
  else if x.kind = 12 then (0, ⟨#[]⟩, if x.a < 0 then 1 else 0)
  else (P.clock, ⟨#[]⟩, 0)

/-- The depot behind a turn that was answered OK. -/
def callQ (P : PDep) (x : TurnD) : PDep :=
  let house := showsH x.who
  let id := showsI x.who x.id
  if x.kind = 1 then foundS P x.s
  else if x.kind = 2 then mintS P x.of id ⟨x.b, x.a, x.c, false⟩
  else if x.kind = 3 then revokeS P x.of id x.a
  else if x.kind = 4 then dpublishS P house id x.s x.a x.t
  else if x.kind = 5 then dyankS P house id x.s x.a (!(x.b.tmod 2 != 0))
  else if x.kind = 6 then dgrantS P house id x.s x.t
  else if x.kind = 11 then dfeedS P x.s x.a x.t
  else if x.kind = 12 then { P with clock := tickF P.clock x.a }
  else P

def callS (P : PDep) (x : TurnD) : PDep := stepP (callA P x).2.2 P (callQ P x)

/-- Turns that a machine can hold. -/
structure TurnFit (x : TurnD) : Prop where
  who : I64 x.who
  id : I64 x.id
  a : I64 x.a
  b : I64 x.b
  c : I64 x.c
  s : x.s.size ≤ 4611686018427387000
  t : x.t.size ≤ 4611686018427387000

theorem stepP_same (E : Int) (P : PDep) : stepP E P P = P := by unfold stepP; split <;> rfl

theorem call_any (db : Nat) (D : DepD) (x : TurnD) (w : World) (hr : DepAt w db D) (hx : TurnFit x) (hy : D.yanks < 200000000000) (hc0 : 0 ≤ D.clock) (hc1 : D.clock ≤ 1099511627776) :
    Calls Tryd.prog 7 #[.pointer (some ⟨db, 0, none⟩), .agg (turnV x)] w fun e w' => e = .returned (.agg (ansW (callA D.pure x).1 (callA D.pure x).2.1 (callA D.pure x).2.2)) ∧ DepStep w w' db D (callS D.pure x) := by
  have w1 := hx.who.1
  have w2 := hx.who.2
  by_cases k0 : x.kind = 0
  · have e1 : callA D.pure x = ((mayF (heldF D.pure (showsH x.who) (showsI x.who x.id))).1, ⟨#[]⟩, (mayF (heldF D.pure (showsH x.who) (showsI x.who x.id))).2) := by simp [callA, k0]
    have e2 : callS D.pure x = D.pure := by unfold callS; rw [show callQ D.pure x = D.pure by simp [callQ, k0], stepP_same]
    rw [e1, e2]
    exact call_ruled0 db D x _ _ w hr k0 w1 w2 rfl rfl _ _ _ (fun W hW => ruled_may db D x _ _ W hW k0 w1 w2 rfl rfl _ _ rfl)
  by_cases k1 : x.kind = 1
  · have e1 : callA D.pure x = (0, ⟨#[]⟩, foundP (heldF D.pure (showsH x.who) (showsI x.who x.id)) (wordF x.s) (hseF D.pure.hs x.s).isSome D.pure.hs.length) := by simp [callA, k1]
    have e2 : callQ D.pure x = foundS D.pure x.s := by simp [callQ, k1]
    unfold callS
    rw [e1, e2]
    exact call_ruled1 db D x _ _ w hr k1 w1 w2 rfl rfl _ _ _ (fun W hW => ruled_found db D x _ _ W hW k1 w1 w2 rfl rfl _ rfl)
  by_cases k2 : x.kind = 2
  · have e1 : callA D.pure x = (0, ⟨#[]⟩, mintP (manageF (heldF D.pure (showsH x.who) (showsI x.who x.id)) ((showsH x.who).toList == x.of.toList)) D.pure.hs x.of x.a x.b x.c) := by simp [callA, k2]
    have e2 : callQ D.pure x = mintS D.pure x.of (showsI x.who x.id) ⟨x.b, x.a, x.c, false⟩ := by simp [callQ, k2]
    unfold callS
    rw [e1, e2]
    exact call_ruled2 db D x _ _ w hr k2 w1 w2 rfl rfl _ _ _ (fun W hW => ruled_mint db D x _ _ W hW k2 w1 w2 rfl rfl hx.id hx.b hx.c _ rfl)
  by_cases k3 : x.kind = 3
  · have e1 : callA D.pure x = (0, ⟨#[]⟩, revokeP (manageF (heldF D.pure (showsH x.who) (showsI x.who x.id)) ((showsH x.who).toList == x.of.toList)) D.pure.hs x.of x.a) := by simp [callA, k3]
    have e2 : callQ D.pure x = revokeS D.pure x.of (showsI x.who x.id) x.a := by simp [callQ, k3]
    unfold callS
    rw [e1, e2]
    exact call_ruled3 db D x _ _ w hr k3 w1 w2 rfl rfl _ _ _ (fun W hW => ruled_revoke db D x _ _ W hW k3 w1 w2 rfl rfl hx.id hx.a _ rfl)
  by_cases k4 : x.kind = 4
  · have e1 : callA D.pure x = (0, ⟨#[]⟩, dpublishP D.pure (showsH x.who) (showsI x.who x.id) x.s x.a x.t) := by simp [callA, k4]
    have e2 : callQ D.pure x = dpublishS D.pure (showsH x.who) (showsI x.who x.id) x.s x.a x.t := by simp [callQ, k4]
    unfold callS
    rw [e1, e2]
    exact call_ruled4 db D x _ _ w hr k4 w1 w2 rfl rfl _ _ _ (fun W hW => ruled_publish db D x _ _ W hW k4 w1 w2 rfl rfl hx.id hx.t _ rfl)
  by_cases k5 : x.kind = 5
  · have e1 : callA D.pure x = (0, ⟨#[]⟩, dyankP D.pure (showsH x.who) (showsI x.who x.id) x.s x.a) := by simp [callA, k5]
    have e2 : callQ D.pure x = dyankS D.pure (showsH x.who) (showsI x.who x.id) x.s x.a (!(x.b.tmod 2 != 0)) := by simp [callQ, k5]
    unfold callS
    rw [e1, e2]
    exact call_ruled5 db D x _ _ w hr k5 w1 w2 rfl rfl _ _ _ (fun W hW => ruled_yank db D x _ _ W hW k5 w1 w2 rfl rfl hx.id hx.a hy _ rfl)
  by_cases k6 : x.kind = 6
  · have e1 : callA D.pure x = (0, ⟨#[]⟩, dgrantP D.pure (showsH x.who) (showsI x.who x.id) x.s x.t) := by simp [callA, k6]
    have e2 : callQ D.pure x = dgrantS D.pure (showsH x.who) (showsI x.who x.id) x.s x.t := by simp [callQ, k6]
    unfold callS
    rw [e1, e2]
    exact call_ruled6 db D x _ _ w hr k6 w1 w2 rfl rfl _ _ _ (fun W hW => ruled_grant db D x _ _ W hW k6 w1 w2 rfl rfl hx.id _ rfl)
  by_cases k7 : x.kind = 7
  · have e1 : callA D.pure x = (0, (dshowP D.pure (showsH x.who) (showsI x.who x.id) x.s).1, (dshowP D.pure (showsH x.who) (showsI x.who x.id) x.s).2) := by simp [callA, k7]
    have e2 : callS D.pure x = D.pure := by unfold callS; rw [show callQ D.pure x = D.pure by simp [callQ, k7], stepP_same]
    rw [e1, e2]
    exact call_show db D x _ _ w hr k7 w1 w2 rfl rfl hx.s
  by_cases k8 : x.kind = 8
  · have e1 : callA D.pure x = ((dresolveP D.pure (showsH x.who) (showsI x.who x.id) x.s x.a).2.1, (dresolveP D.pure (showsH x.who) (showsI x.who x.id) x.s x.a).1, (dresolveP D.pure (showsH x.who) (showsI x.who x.id) x.s x.a).2.2) := by simp [callA, k8]
    have e2 : callS D.pure x = D.pure := by unfold callS; rw [show callQ D.pure x = D.pure by simp [callQ, k8], stepP_same]
    rw [e1, e2]
    exact call_resolve db D x _ _ w hr k8 w1 w2 rfl rfl hx.s
  by_cases k9 : x.kind = 9
  · have e1 : callA D.pure x = (0, (dlogP D.pure (showsH x.who) (showsI x.who x.id)).1, (dlogP D.pure (showsH x.who) (showsI x.who x.id)).2) := by simp [callA, k9]
    have e2 : callS D.pure x = D.pure := by unfold callS; rw [show callQ D.pure x = D.pure by simp [callQ, k9], stepP_same]
    rw [e1, e2]
    exact call_log db D x _ _ w hr k9 w1 w2 rfl rfl
  by_cases k10 : x.kind = 10
  · have e1 : callA D.pure x = ((dheadP D.pure (showsH x.who) (showsI x.who x.id)).1, ⟨#[]⟩, (dheadP D.pure (showsH x.who) (showsI x.who x.id)).2) := by simp [callA, k10]
    have e2 : callS D.pure x = D.pure := by unfold callS; rw [show callQ D.pure x = D.pure by simp [callQ, k10], stepP_same]
    rw [e1, e2]
    exact call_head db D x _ _ w hr k10 w1 w2 rfl rfl
  by_cases k11 : x.kind = 11
  · have e1 : callA D.pure x = (0, ⟨#[]⟩, dfeedP D.pure x.s x.a x.t) := by simp [callA, k11]
    have e2 : callQ D.pure x = dfeedS D.pure x.s x.a x.t := by simp [callQ, k11]
    unfold callS
    rw [e1, e2]
    exact call_feed db D x _ _ w hr k11 w1 w2 rfl rfl hx.s hx.t _ rfl
  by_cases k12 : x.kind = 12
  · have e1 : callA D.pure x = (0, ⟨#[]⟩, if x.a < 0 then 1 else 0) := by simp [callA, k12]
    have e2 : callQ D.pure x = { D.pure with clock := tickF D.clock x.a } := by simp [callQ, k12, DepD.pure]
    unfold callS
    rw [e1, e2]
    by_cases ha : x.a < 0
    · simp only [if_pos ha]
      rw [stepP, if_neg (by decide)]
      exact call_tick_no db D x _ _ w hr k12 w1 w2 rfl rfl ha
    · simp only [if_neg ha]
      rw [stepP, if_pos rfl]
      exact call_tick db D x _ _ w hr k12 w1 w2 rfl rfl (by omega) hx.a.2 hc0 hc1
  · have e1 : callA D.pure x = (D.pure.clock, ⟨#[]⟩, 0) := by simp [callA, k0, k1, k2, k3, k4, k5, k6, k7, k8, k9, k10, k11, k12]
    have e2 : callS D.pure x = D.pure := by unfold callS; rw [show callQ D.pure x = D.pure by simp [callQ, k1, k2, k3, k4, k5, k6, k11, k12], stepP_same]
    rw [e1, e2]
    by_cases hneg : x.kind < 0
    · exact call_clock_lo db D x _ _ w hr w1 w2 rfl rfl hneg
    · exact call_clock_hi db D x _ _ w hr w1 w2 rfl rfl (by omega)

end Go.Proofs.YtgcldedkempjhabDoor
