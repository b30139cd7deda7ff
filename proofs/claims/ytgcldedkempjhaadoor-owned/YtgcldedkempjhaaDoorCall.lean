/-
  depotkeep: call: what the program answers to a turn of May, Mint, Revoke, Tick, Clock.
-/
import Derived.Test.YtgcldedkempjhaaDoorRuled
namespace Go.Proofs.YtgcldedkempjhaaDoor
open Go.RowKit

set_option maxHeartbeats 800000 in
set_option maxRecDepth 100000 in
theorem call_ruled0 (db : Nat) (D : DepD) (x : TurnD) (house : ByteArray) (id : Int) (w : World) (hr : DepAt w db D) (hk : x.kind = 0) (h1 : -9223372036854775808 ≤ x.who) (h2 : x.who ≤ 9223372036854775807)
    (e1 : house = showsH x.who) (e2 : id = showsI x.who x.id) (n E : Int) (R : PDep)
    (hC : ∀ W, DepAt W db D → Calls Tryd.prog 39 #[.pointer (some ⟨db, 0, none⟩), .agg (turnV x)] W fun e w' => e = .returned (.agg (ansV n E)) ∧ DepStep W w' db D R) :
    Calls Tryd.prog 11 #[.pointer (some ⟨db, 0, none⟩), .agg (turnV x)] w fun e w' => e = .returned (.agg (ansV (n) (E))) ∧ DepStep w w' db D (R) := by
  obtain ⟨who, kd, xid, of, s, t, a, b, c⟩ := x
  obtain rfl : kd = 0 := hk
  have Hs := hide (fun W => shows_any ⟨who, 0, xid, of, s, t, a, b, c⟩ house id W h1 h2 e1 e2)
  have HC := hide hC
  clear hC
  clear e1 e2
  go_enter Tryd.func11, Tryd.ntmps11
  go_wp2_with fail
  refine (Hs.out _).mono ?_
  rintro e w1 ⟨rfl, hb1⟩
  obtain ⟨n1, n2, hlt, hbx⟩ := two_new hb1
  clear hb1
  have hr1 := hr.below hbx
  have o1 : w1.cell? ⟨w.heap.size, 1, none⟩ = some _ := (cell_of_heap n1 1).trans rfl
  have o0 : w1.cell? ⟨w.heap.size, 0, none⟩ = some _ := (cell_of_heap n1 0).trans rfl
  have o2 : w1.cell? ⟨w.heap.size, 2, none⟩ = some _ := (cell_of_heap n1 2).trans rfl
  have o3 : w1.cell? ⟨w.heap.size, 3, none⟩ = some _ := (cell_of_heap n1 3).trans rfl
  have o4 : w1.cell? ⟨w.heap.size, 4, none⟩ = some _ := (cell_of_heap n1 4).trans rfl
  have o5 : w1.cell? ⟨w.heap.size, 5, none⟩ = some _ := (cell_of_heap n1 5).trans rfl
  have o6 : w1.cell? ⟨w.heap.size, 6, none⟩ = some _ := (cell_of_heap n1 6).trans rfl
  have o7 : w1.cell? ⟨w.heap.size, 7, none⟩ = some _ := (cell_of_heap n1 7).trans rfl
  have o8 : w1.cell? ⟨w.heap.size, 8, none⟩ = some _ := (cell_of_heap n1 8).trans rfl
  go_wp2_with fail
  refine (HC.out _ hr1).mono ?_
  rintro e w2 ⟨rfl, hst⟩
  have hab := hide (hst.above hr (k := w.heap.size + 1) (by omega) hlt)
  have hgr := hst.grows
  have HST := hide (hst.store hr hbx (k := w.heap.size + 1) (by omega) hlt)
  have n3 := hab.out.trans n2
  have z0 : w2.cell? ⟨w.heap.size + 1, 0, none⟩ = some _ := (cell_of_heap n3 0).trans rfl
  have z1 : w2.cell? ⟨w.heap.size + 1, 1, none⟩ = some _ := (cell_of_heap n3 1).trans rfl
  have z2 : w2.cell? ⟨w.heap.size + 1, 2, none⟩ = some _ := (cell_of_heap n3 2).trans rfl
  have rf := frozen_of_heap n3
  clear hst hab n1 n2 n3
  go_wp2_with fail
  exact bodyPost_ret (v := .agg (ansV (n) (E))) (by simp [results, Tryd.results11, go_sem, z0, z1, z2]) rfl ⟨rfl, HST.out _ _ _⟩

set_option maxHeartbeats 800000 in
set_option maxRecDepth 100000 in
theorem call_ruled2 (db : Nat) (D : DepD) (x : TurnD) (house : ByteArray) (id : Int) (w : World) (hr : DepAt w db D) (hk : x.kind = 2) (h1 : -9223372036854775808 ≤ x.who) (h2 : x.who ≤ 9223372036854775807)
    (e1 : house = showsH x.who) (e2 : id = showsI x.who x.id) (n E : Int) (R : PDep)
    (hC : ∀ W, DepAt W db D → Calls Tryd.prog 39 #[.pointer (some ⟨db, 0, none⟩), .agg (turnV x)] W fun e w' => e = .returned (.agg (ansV n E)) ∧ DepStep W w' db D R) :
    Calls Tryd.prog 11 #[.pointer (some ⟨db, 0, none⟩), .agg (turnV x)] w fun e w' => e = .returned (.agg (ansV (n) (E))) ∧ DepStep w w' db D (R) := by
  obtain ⟨who, kd, xid, of, s, t, a, b, c⟩ := x
  obtain rfl : kd = 2 := hk
  have Hs := hide (fun W => shows_any ⟨who, 2, xid, of, s, t, a, b, c⟩ house id W h1 h2 e1 e2)
  have HC := hide hC
  clear hC
  clear e1 e2
  go_enter Tryd.func11, Tryd.ntmps11
  go_wp2_with fail
  refine (Hs.out _).mono ?_
  rintro e w1 ⟨rfl, hb1⟩
  obtain ⟨n1, n2, hlt, hbx⟩ := two_new hb1
  clear hb1
  have hr1 := hr.below hbx
  have o1 : w1.cell? ⟨w.heap.size, 1, none⟩ = some _ := (cell_of_heap n1 1).trans rfl
  have o0 : w1.cell? ⟨w.heap.size, 0, none⟩ = some _ := (cell_of_heap n1 0).trans rfl
  have o2 : w1.cell? ⟨w.heap.size, 2, none⟩ = some _ := (cell_of_heap n1 2).trans rfl
  have o3 : w1.cell? ⟨w.heap.size, 3, none⟩ = some _ := (cell_of_heap n1 3).trans rfl
  have o4 : w1.cell? ⟨w.heap.size, 4, none⟩ = some _ := (cell_of_heap n1 4).trans rfl
  have o5 : w1.cell? ⟨w.heap.size, 5, none⟩ = some _ := (cell_of_heap n1 5).trans rfl
  have o6 : w1.cell? ⟨w.heap.size, 6, none⟩ = some _ := (cell_of_heap n1 6).trans rfl
  have o7 : w1.cell? ⟨w.heap.size, 7, none⟩ = some _ := (cell_of_heap n1 7).trans rfl
  have o8 : w1.cell? ⟨w.heap.size, 8, none⟩ = some _ := (cell_of_heap n1 8).trans rfl
  go_wp2_with fail
  refine (HC.out _ hr1).mono ?_
  rintro e w2 ⟨rfl, hst⟩
  have hab := hide (hst.above hr (k := w.heap.size + 1) (by omega) hlt)
  have hgr := hst.grows
  have HST := hide (hst.store hr hbx (k := w.heap.size + 1) (by omega) hlt)
  have n3 := hab.out.trans n2
  have z0 : w2.cell? ⟨w.heap.size + 1, 0, none⟩ = some _ := (cell_of_heap n3 0).trans rfl
  have z1 : w2.cell? ⟨w.heap.size + 1, 1, none⟩ = some _ := (cell_of_heap n3 1).trans rfl
  have z2 : w2.cell? ⟨w.heap.size + 1, 2, none⟩ = some _ := (cell_of_heap n3 2).trans rfl
  have rf := frozen_of_heap n3
  clear hst hab n1 n2 n3
  go_wp2_with fail
  exact bodyPost_ret (v := .agg (ansV (n) (E))) (by simp [results, Tryd.results11, go_sem, z0, z1, z2]) rfl ⟨rfl, HST.out _ _ _⟩

set_option maxHeartbeats 800000 in
set_option maxRecDepth 100000 in
theorem call_ruled3 (db : Nat) (D : DepD) (x : TurnD) (house : ByteArray) (id : Int) (w : World) (hr : DepAt w db D) (hk : x.kind = 3) (h1 : -9223372036854775808 ≤ x.who) (h2 : x.who ≤ 9223372036854775807)
    (e1 : house = showsH x.who) (e2 : id = showsI x.who x.id) (n E : Int) (R : PDep)
    (hC : ∀ W, DepAt W db D → Calls Tryd.prog 39 #[.pointer (some ⟨db, 0, none⟩), .agg (turnV x)] W fun e w' => e = .returned (.agg (ansV n E)) ∧ DepStep W w' db D R) :
    Calls Tryd.prog 11 #[.pointer (some ⟨db, 0, none⟩), .agg (turnV x)] w fun e w' => e = .returned (.agg (ansV (n) (E))) ∧ DepStep w w' db D (R) := by
  obtain ⟨who, kd, xid, of, s, t, a, b, c⟩ := x
  obtain rfl : kd = 3 := hk
  have Hs := hide (fun W => shows_any ⟨who, 3, xid, of, s, t, a, b, c⟩ house id W h1 h2 e1 e2)
  have HC := hide hC
  clear hC
  clear e1 e2
  go_enter Tryd.func11, Tryd.ntmps11
  go_wp2_with fail
  refine (Hs.out _).mono ?_
  rintro e w1 ⟨rfl, hb1⟩
  obtain ⟨n1, n2, hlt, hbx⟩ := two_new hb1
  clear hb1
  have hr1 := hr.below hbx
  have o1 : w1.cell? ⟨w.heap.size, 1, none⟩ = some _ := (cell_of_heap n1 1).trans rfl
  have o0 : w1.cell? ⟨w.heap.size, 0, none⟩ = some _ := (cell_of_heap n1 0).trans rfl
  have o2 : w1.cell? ⟨w.heap.size, 2, none⟩ = some _ := (cell_of_heap n1 2).trans rfl
  have o3 : w1.cell? ⟨w.heap.size, 3, none⟩ = some _ := (cell_of_heap n1 3).trans rfl
  have o4 : w1.cell? ⟨w.heap.size, 4, none⟩ = some _ := (cell_of_heap n1 4).trans rfl
  have o5 : w1.cell? ⟨w.heap.size, 5, none⟩ = some _ := (cell_of_heap n1 5).trans rfl
  have o6 : w1.cell? ⟨w.heap.size, 6, none⟩ = some _ := (cell_of_heap n1 6).trans rfl
  have o7 : w1.cell? ⟨w.heap.size, 7, none⟩ = some _ := (cell_of_heap n1 7).trans rfl
  have o8 : w1.cell? ⟨w.heap.size, 8, none⟩ = some _ := (cell_of_heap n1 8).trans rfl
  go_wp2_with fail
  refine (HC.out _ hr1).mono ?_
  rintro e w2 ⟨rfl, hst⟩
  have hab := hide (hst.above hr (k := w.heap.size + 1) (by omega) hlt)
  have hgr := hst.grows
  have HST := hide (hst.store hr hbx (k := w.heap.size + 1) (by omega) hlt)
  have n3 := hab.out.trans n2
  have z0 : w2.cell? ⟨w.heap.size + 1, 0, none⟩ = some _ := (cell_of_heap n3 0).trans rfl
  have z1 : w2.cell? ⟨w.heap.size + 1, 1, none⟩ = some _ := (cell_of_heap n3 1).trans rfl
  have z2 : w2.cell? ⟨w.heap.size + 1, 2, none⟩ = some _ := (cell_of_heap n3 2).trans rfl
  have rf := frozen_of_heap n3
  clear hst hab n1 n2 n3
  go_wp2_with fail
  exact bodyPost_ret (v := .agg (ansV (n) (E))) (by simp [results, Tryd.results11, go_sem, z0, z1, z2]) rfl ⟨rfl, HST.out _ _ _⟩

set_option maxHeartbeats 800000 in
set_option maxRecDepth 100000 in
theorem call_tick_no (db : Nat) (D : DepD) (x : TurnD) (house : ByteArray) (id : Int) (w : World) (hr : DepAt w db D) (hk : x.kind = 12) (h1 : -9223372036854775808 ≤ x.who) (h2 : x.who ≤ 9223372036854775807)
    (e1 : house = showsH x.who) (e2 : id = showsI x.who x.id) (ha : x.a < 0) :
    Calls Tryd.prog 11 #[.pointer (some ⟨db, 0, none⟩), .agg (turnV x)] w fun e w' => e = .returned (.agg (ansV (0) (1))) ∧ DepStep w w' db D (D.pure) := by
  obtain ⟨who, kd, xid, of, s, t, a, b, c⟩ := x
  obtain rfl : kd = 12 := hk
  have Hs := hide (fun W => shows_any ⟨who, 12, xid, of, s, t, a, b, c⟩ house id W h1 h2 e1 e2)
  clear e1 e2
  go_enter Tryd.func11, Tryd.ntmps11
  go_wp2_with fail
  refine (Hs.out _).mono ?_
  rintro e w1 ⟨rfl, hb1⟩
  obtain ⟨n1, n2, hlt, hbx⟩ := two_new hb1
  clear hb1
  have hr1 := hr.below hbx
  have o1 : w1.cell? ⟨w.heap.size, 1, none⟩ = some _ := (cell_of_heap n1 1).trans rfl
  have o6 : w1.cell? ⟨w.heap.size, 6, none⟩ = some _ := (cell_of_heap n1 6).trans rfl
  go_wp2_with fail
  refine (tickno_dep db D a _ hr1 ha).mono ?_
  rintro e w2 ⟨rfl, hst⟩
  have hab := hide (hst.above hr (k := w.heap.size + 1) (by omega) hlt)
  have hgr := hst.grows
  have HST := hide (hst.store hr hbx (k := w.heap.size + 1) (by omega) hlt)
  have n3 := hab.out.trans n2
  have z0 : w2.cell? ⟨w.heap.size + 1, 0, none⟩ = some _ := (cell_of_heap n3 0).trans rfl
  have z1 : w2.cell? ⟨w.heap.size + 1, 1, none⟩ = some _ := (cell_of_heap n3 1).trans rfl
  have z2 : w2.cell? ⟨w.heap.size + 1, 2, none⟩ = some _ := (cell_of_heap n3 2).trans rfl
  have rf := frozen_of_heap n3
  clear hst hab n1 n2 n3
  go_wp2_with fail
  exact bodyPost_ret (v := .agg (ansV (0) (1))) (by simp [results, Tryd.results11, go_sem, z0, z1, z2]) rfl ⟨rfl, HST.out _ _ _⟩

set_option maxHeartbeats 800000 in
set_option maxRecDepth 100000 in
theorem call_tick (db : Nat) (D : DepD) (x : TurnD) (house : ByteArray) (id : Int) (w : World) (hr : DepAt w db D) (hk : x.kind = 12) (h1 : -9223372036854775808 ≤ x.who) (h2 : x.who ≤ 9223372036854775807)
    (e1 : house = showsH x.who) (e2 : id = showsI x.who x.id) (ha : 0 ≤ x.a) (ha2 : x.a ≤ 9223372036854775807) (hc0 : 0 ≤ D.clock) (hc1 : D.clock ≤ 1099511627776) :
    Calls Tryd.prog 11 #[.pointer (some ⟨db, 0, none⟩), .agg (turnV x)] w fun e w' => e = .returned (.agg (ansV (0) (0))) ∧ DepStep w w' db D ({ D.pure with clock := tickF D.clock x.a }) := by
  obtain ⟨who, kd, xid, of, s, t, a, b, c⟩ := x
  obtain rfl : kd = 12 := hk
  have Hs := hide (fun W => shows_any ⟨who, 12, xid, of, s, t, a, b, c⟩ house id W h1 h2 e1 e2)
  clear e1 e2
  go_enter Tryd.func11, Tryd.ntmps11
  go_wp2_with fail
  refine (Hs.out _).mono ?_
  rintro e w1 ⟨rfl, hb1⟩
  obtain ⟨n1, n2, hlt, hbx⟩ := two_new hb1
  clear hb1
  have hr1 := hr.below hbx
  have o1 : w1.cell? ⟨w.heap.size, 1, none⟩ = some _ := (cell_of_heap n1 1).trans rfl
  have o6 : w1.cell? ⟨w.heap.size, 6, none⟩ = some _ := (cell_of_heap n1 6).trans rfl
  go_wp2_with fail
  refine (tick_yes db D a _ hr1 ha ha2 hc0 hc1).mono ?_
  rintro e w2 ⟨rfl, hst⟩
  have hab := hide (hst.above hr (k := w.heap.size + 1) (by omega) hlt)
  have hgr := hst.grows
  have HST := hide (hst.store hr hbx (k := w.heap.size + 1) (by omega) hlt)
  have n3 := hab.out.trans n2
  have z0 : w2.cell? ⟨w.heap.size + 1, 0, none⟩ = some _ := (cell_of_heap n3 0).trans rfl
  have z1 : w2.cell? ⟨w.heap.size + 1, 1, none⟩ = some _ := (cell_of_heap n3 1).trans rfl
  have z2 : w2.cell? ⟨w.heap.size + 1, 2, none⟩ = some _ := (cell_of_heap n3 2).trans rfl
  have rf := frozen_of_heap n3
  clear hst hab n1 n2 n3
  go_wp2_with fail
  exact bodyPost_ret (v := .agg (ansV (0) (0))) (by simp [results, Tryd.results11, go_sem, z0, z1, z2]) rfl ⟨rfl, HST.out _ _ _⟩

theorem clock_dep (db : Nat) (D : DepD) (w : World) (hr : DepAt w db D) :
    Calls Tryd.prog 41 #[.pointer (some ⟨db, 0, none⟩)] w fun e w' => e = .returned (.int .i64 D.pure.clock) ∧ DepStep w w' db D D.pure := by
  refine (clock_any db D w hr).mono ?_
  rintro e w' ⟨rfl, rfl⟩
  exact ⟨rfl, DepStep.ofBelow hr (Below.refl _ _)⟩

set_option maxHeartbeats 800000 in
set_option maxRecDepth 100000 in
theorem call_clock_lo (db : Nat) (D : DepD) (x : TurnD) (house : ByteArray) (id : Int) (w : World) (hr : DepAt w db D) (h1 : -9223372036854775808 ≤ x.who) (h2 : x.who ≤ 9223372036854775807)
    (e1 : house = showsH x.who) (e2 : id = showsI x.who x.id) (hk : x.kind < 0) :
    Calls Tryd.prog 11 #[.pointer (some ⟨db, 0, none⟩), .agg (turnV x)] w fun e w' => e = .returned (.agg (ansV (D.pure.clock) (0))) ∧ DepStep w w' db D (D.pure) := by
  obtain ⟨who, kd, xid, of, s, t, a, b, c⟩ := x
  have Hs := hide (fun W => shows_any ⟨who, kd, xid, of, s, t, a, b, c⟩ house id W h1 h2 e1 e2)
  clear e1 e2
  go_enter Tryd.func11, Tryd.ntmps11
  go_wp2_with fail
  refine (Hs.out _).mono ?_
  rintro e w1 ⟨rfl, hb1⟩
  obtain ⟨n1, n2, hlt, hbx⟩ := two_new hb1
  clear hb1
  have hr1 := hr.below hbx
  have o1 : w1.cell? ⟨w.heap.size, 1, none⟩ = some _ := (cell_of_heap n1 1).trans rfl

  go_wp2_with fail
  refine (clock_dep db D _ hr1).mono ?_
  rintro e w2 ⟨rfl, hst⟩
  have hab := hide (hst.above hr (k := w.heap.size + 1) (by omega) hlt)
  have hgr := hst.grows
  have HST := hide (hst.store hr hbx (k := w.heap.size + 1) (by omega) hlt)
  have n3 := hab.out.trans n2
  have z0 : w2.cell? ⟨w.heap.size + 1, 0, none⟩ = some _ := (cell_of_heap n3 0).trans rfl
  have z1 : w2.cell? ⟨w.heap.size + 1, 1, none⟩ = some _ := (cell_of_heap n3 1).trans rfl
  have z2 : w2.cell? ⟨w.heap.size + 1, 2, none⟩ = some _ := (cell_of_heap n3 2).trans rfl
  have rf := frozen_of_heap n3
  clear hst hab n1 n2 n3
  go_wp2_with fail
  exact bodyPost_ret (v := .agg (ansV (D.pure.clock) (0))) (by simp [results, Tryd.results11, go_sem, z0, z1, z2]) rfl ⟨rfl, HST.out _ _ _⟩

set_option maxHeartbeats 800000 in
set_option maxRecDepth 100000 in
theorem call_clock_hi (db : Nat) (D : DepD) (x : TurnD) (house : ByteArray) (id : Int) (w : World) (hr : DepAt w db D) (h1 : -9223372036854775808 ≤ x.who) (h2 : x.who ≤ 9223372036854775807)
    (e1 : house = showsH x.who) (e2 : id = showsI x.who x.id) (hk : 12 < x.kind) :
    Calls Tryd.prog 11 #[.pointer (some ⟨db, 0, none⟩), .agg (turnV x)] w fun e w' => e = .returned (.agg (ansV (D.pure.clock) (0))) ∧ DepStep w w' db D (D.pure) := by
  obtain ⟨who, kd, xid, of, s, t, a, b, c⟩ := x
  have Hs := hide (fun W => shows_any ⟨who, kd, xid, of, s, t, a, b, c⟩ house id W h1 h2 e1 e2)
  clear e1 e2
  go_enter Tryd.func11, Tryd.ntmps11
  go_wp2_with fail
  refine (Hs.out _).mono ?_
  rintro e w1 ⟨rfl, hb1⟩
  obtain ⟨n1, n2, hlt, hbx⟩ := two_new hb1
  clear hb1
  have hr1 := hr.below hbx
  have o1 : w1.cell? ⟨w.heap.size, 1, none⟩ = some _ := (cell_of_heap n1 1).trans rfl

  go_wp2_with fail
  refine (clock_dep db D _ hr1).mono ?_
  rintro e w2 ⟨rfl, hst⟩
  have hab := hide (hst.above hr (k := w.heap.size + 1) (by omega) hlt)
  have hgr := hst.grows
  have HST := hide (hst.store hr hbx (k := w.heap.size + 1) (by omega) hlt)
  have n3 := hab.out.trans n2
  have z0 : w2.cell? ⟨w.heap.size + 1, 0, none⟩ = some _ := (cell_of_heap n3 0).trans rfl
  have z1 : w2.cell? ⟨w.heap.size + 1, 1, none⟩ = some _ := (cell_of_heap n3 1).trans rfl
  have z2 : w2.cell? ⟨w.heap.size + 1, 2, none⟩ = some _ := (cell_of_heap n3 2).trans rfl
  have rf := frozen_of_heap n3
  clear hst hab n1 n2 n3
  go_wp2_with fail
  exact bodyPost_ret (v := .agg (ansV (D.pure.clock) (0))) (by simp [results, Tryd.results11, go_sem, z0, z1, z2]) rfl ⟨rfl, HST.out _ _ _⟩

end Go.Proofs.YtgcldedkempjhaaDoor
