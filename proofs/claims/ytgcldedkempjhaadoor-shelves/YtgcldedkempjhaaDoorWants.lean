/-
  depotkeep: what the book asks of a turn of May, Mint, Revoke, Tick, Clock.
-/
import Derived.Test.YtgcldedkempjhaaDoorTurnMint
import Derived.Test.YtgcldedkempjhaaDoorTurnRevoke
import Derived.Test.YtgcldedkempjhaaDoorRuled
namespace Go.Proofs.YtgcldedkempjhaaDoor
open Go.RowKit

theorem BookStep.store {w W w2 : World} {bb : Nat} {now now' : Int} {ao : Option Addr} {cap : Nat} {bs : List Bk} {R : List Bk → Prop} (hr : KBookAt w bb now ao cap bs) (hb : Below w.heap.size w W) (h : BookStep W w2 bb now' ao R)
    {k : Nat} (h1 : w.heap.size ≤ k) (h2 : k < W.heap.size) (v0 v1 v2 : Value) : BookStep w (((w2.setCell ⟨k, 0, none⟩ v0).setCell ⟨k, 1, none⟩ v1).setCell ⟨k, 2, none⟩ v2) bb now' ao R := by
  obtain ⟨ao', cap', bs', hD, hR, hC, hF⟩ := h
  have hkn : ∀ j, BookFoot bb ao' j → j ≠ k := by
    rintro j hj rfl
    rcases hF j hj with hh | hh
    · have := (hr.foot hh).2; omega
    · omega
  have hC0 : Chg (BookFoot bb ao) w w2 := (Chg.ofBelow hb).trans hC (fun _ h => Or.inl h)
  refine ⟨ao', cap', bs', hD.keep (fun j hj => ?_), hR, ((hC0.setCell (p := ⟨k, 0, none⟩) (Or.inr h1) _).setCell (p := ⟨k, 1, none⟩) (Or.inr h1) _).setCell (p := ⟨k, 2, none⟩) (Or.inr h1) _, fun j hj => (hF j hj).elim Or.inl (fun h => Or.inr (Nat.le_trans hb.size h))⟩
  have := hkn j hj
  rw [Below.heap_setCell _ _ _ _ (by exact this), Below.heap_setCell _ _ _ _ (by exact this), Below.heap_setCell _ _ _ _ (by exact this)]

theorem BookStep.above {w W w2 : World} {bb : Nat} {now now' : Int} {ao : Option Addr} {cap : Nat} {bs : List Bk} {R : List Bk → Prop} (hr : KBookAt w bb now ao cap bs) (h : BookStep W w2 bb now' ao R) {k : Nat} (h1 : w.heap.size ≤ k) (h2 : k < W.heap.size) : w2.heap[k]? = W.heap[k]? := by
  obtain ⟨ao', cap', bs', hD, hR, hC, hF⟩ := h
  exact hC.block k h2 (fun hk => by have := (hr.foot hk).2; omega)

theorem BookStep.grows {W w2 : World} {bb : Nat} {now : Int} {ao : Option Addr} {R : List Bk → Prop} (h : BookStep W w2 bb now ao R) : W.heap.size ≤ w2.heap.size := by
  obtain ⟨ao', cap', bs', hD, hR, hC, hF⟩ := h
  exact hC.size

theorem two_made (w : World) (o1 o2 : Obj) : Below ((w.alloc o1).alloc o2).heap.size ((w.alloc o1).alloc o2) ((w.alloc o1).alloc o2) := Below.refl _ _

theorem KBookAt.tick {w : World} {bb : Nat} {now : Int} {ao : Option Addr} {cap : Nat} {bs : List Bk} (h : KBookAt w bb now ao cap bs) (t : Int) : KBookAt (w.setCell ⟨bb, 1, none⟩ (.int .i64 t)) bb t ao cap bs := by
  refine ⟨?_, ?_, ?_, ?_, ?_, h.len⟩
  · rw [cell_setCell_ne (by omega)]; exact h.c0
  · rw [cell_setCell_same h.c1]
  · rw [frozen_setCell]; exact h.f0
  · rw [frozen_setCell]; exact h.f1
  · exact ownsRow_setCell_below h.own (Nat.lt_succ_self bb) _

theorem bstep_tick {w W : World} {bb : Nat} {now : Int} {ao : Option Addr} {cap : Nat} {bs : List Bk} (h : KBookAt W bb now ao cap bs) (hh : w.heap = W.heap) (h1 : w.os = W.os) (h2 : w.tape = W.tape) (h3 : w.output = W.output) (t t' : Int) (ht : t = t') :
    BookStep W (w.setCell ⟨bb, 1, none⟩ (.int .i64 t)) bb t' ao (fun bs' => bs' = bs) := by
  subst ht
  have hk : KBookAt w bb now ao cap bs := h.keep (fun _ _ => by rw [hh])
  exact ⟨ao, cap, bs, hk.tick t, rfl, Chg.setCell ⟨h1, h2, h3, by rw [hh]; exact Nat.le_refl _, fun k _ _ => by rw [hh]⟩ (p := ⟨bb, 1, none⟩) (Or.inl (Or.inl rfl)) _, fun _ h => Or.inl h⟩

theorem bstep_below {w W : World} {bb : Nat} {now : Int} {ao : Option Addr} {cap : Nat} {bs : List Bk} (h : KBookAt W bb now ao cap bs) (hb : Below W.heap.size W w) : BookStep W w bb now ao (fun bs' => bs' = bs) := BookStep.ofBelow h hb rfl

set_option maxHeartbeats 800000 in
set_option maxRecDepth 100000 in
theorem wants_may (bb : Nat) (now : Int) (ao : Option Addr) (cap : Nat) (bs : List Bk) (x : TurnD) (w : World) (hr : KBookAt w bb now ao cap bs) (hk : x.kind = 0)
    (house : ByteArray) (id : Int) (h1 : -9223372036854775808 ≤ x.who) (h2 : x.who ≤ 9223372036854775807) (e1 : house = showsH x.who) (e2 : id = showsI x.who x.id) (r1 r2 : Int) (hE : (r1, r2) = mayF (bookRole now bs house id)) :
    Calls Tryd.prog 12 #[.pointer (some ⟨bb, 0, none⟩), .agg (turnV x)] w fun e w' => e = .returned (.agg (ansV (r1) (r2))) ∧ BookStep w w' bb (now) ao (fun bs' => bs' = bs) := by
  obtain ⟨who, kd, xid, of, s, t, a, b, c⟩ := x
  obtain rfl : kd = 0 := hk
  have Hs := hide (fun W => shows_any ⟨who, 0, xid, of, s, t, a, b, c⟩ house id W h1 h2 e1 e2)
  have Hr := hide (fun W h => bookRole_any bb now ao cap bs house id W h)
  have HE := hide hE
  clear e1 e2 hE
  generalize bookRole now bs house id = r at *
  go_enter Tryd.func12, Tryd.ntmps12
  go_wp2_with fail
  refine (Hs.out _).mono ?_
  rintro e w1 ⟨rfl, hb1⟩
  obtain ⟨n1, n2, hlt, hbx⟩ := two_new hb1
  clear hb1
  have hr1 := hr.below hbx
  go_wp2_with fail
  refine (Hr.out _ hr1).mono ?_
  rintro e w2 ⟨rfl, hb2⟩
  have hst := bstep_below hr1 hb2
  have hab := hide (hst.above hr (k := w.heap.size + 1) (by omega) hlt)
  have HST := hide (hst.store hr hbx (k := w.heap.size + 1) (by omega) hlt)
  have hgr := hst.grows
  have n3 := hab.out.trans n2
  have z0 : w2.cell? ⟨w.heap.size + 1, 0, none⟩ = some _ := (cell_of_heap n3 0).trans rfl
  have z1 : w2.cell? ⟨w.heap.size + 1, 1, none⟩ = some _ := (cell_of_heap n3 1).trans rfl
  have z2 : w2.cell? ⟨w.heap.size + 1, 2, none⟩ = some _ := (cell_of_heap n3 2).trans rfl
  have rf := frozen_of_heap n3
  clear hst hab n1 n2 n3 hb2
  cases hz : (r == 0) with
  | true =>
    obtain ⟨rfl, rfl⟩ : r1 = 0 ∧ r2 = 3 := by have := HE.out; simp [mayF, hz] at this; exact this
    go_wp2_with fail
    exact bodyPost_ret (v := .agg (ansV (0) (3))) (by simp [results, Tryd.results12, go_sem, z0, z1, z2]) rfl ⟨rfl, HST.out _ _ _⟩
  | false =>
    obtain ⟨rfl, rfl⟩ : r1 = r ∧ r2 = 0 := by have := HE.out; simp [mayF, hz] at this; exact this
    clear HE
    go_wp2_with fail
    exact bodyPost_ret (v := .agg (ansV (r1) (0))) (by simp [results, Tryd.results12, go_sem, z0, z1, z2]) rfl ⟨rfl, HST.out _ _ _⟩

set_option maxHeartbeats 800000 in
set_option maxRecDepth 100000 in
theorem wants_mint (bb : Nat) (now : Int) (ao : Option Addr) (cap : Nat) (bs : List Bk) (x : TurnD) (w : World) (hr : KBookAt w bb now ao cap bs) (hk : x.kind = 2) (E : Int) (hC : ∀ W, KBookAt W bb now ao cap bs → Calls Tryd.prog 43 #[.pointer (some ⟨bb, 0, none⟩), .agg (turnV x)] W fun e w' => e = .returned (.int .i64 E) ∧ BookStep W w' bb now ao (BMintR E x bs)) :
    Calls Tryd.prog 12 #[.pointer (some ⟨bb, 0, none⟩), .agg (turnV x)] w fun e w' => e = .returned (.agg (ansV (0) (E))) ∧ BookStep w w' bb (now) ao (BMintR E x bs) := by
  obtain ⟨who, kd, xid, of, s, t, a, b, c⟩ := x
  obtain rfl : kd = 2 := hk
  have HC := hide hC
  clear hC
  obtain ⟨n1, n2, hlt, hbx⟩ := two_new (two_made w (.cells (turnV ⟨who, 2, xid, of, s, t, a, b, c⟩) 32) (.cells (ansV 0 0) 35))
  have hr1 := hr.below hbx
  go_enter Tryd.func12, Tryd.ntmps12
  go_wp2_with fail
  refine (HC.out _ hr1).mono ?_
  rintro e w2 ⟨rfl, hst⟩
  have hab := hide (hst.above hr (k := w.heap.size + 1) (by omega) hlt)
  have HST := hide (hst.store hr hbx (k := w.heap.size + 1) (by omega) hlt)
  have hgr := hst.grows
  have n3 := hab.out.trans n2
  have z0 : w2.cell? ⟨w.heap.size + 1, 0, none⟩ = some _ := (cell_of_heap n3 0).trans rfl
  have z1 : w2.cell? ⟨w.heap.size + 1, 1, none⟩ = some _ := (cell_of_heap n3 1).trans rfl
  have z2 : w2.cell? ⟨w.heap.size + 1, 2, none⟩ = some _ := (cell_of_heap n3 2).trans rfl
  have rf := frozen_of_heap n3
  clear hst hab n1 n2 n3 hbx hr1
  go_wp2_with fail
  exact bodyPost_ret (v := .agg (ansV (0) (E))) (by simp [results, Tryd.results12, go_sem, z0, z1, z2]) rfl ⟨rfl, HST.out _ _ _⟩

set_option maxHeartbeats 800000 in
set_option maxRecDepth 100000 in
theorem wants_revoke (bb : Nat) (now : Int) (ao : Option Addr) (cap : Nat) (bs : List Bk) (x : TurnD) (w : World) (hr : KBookAt w bb now ao cap bs) (hk : x.kind = 3) (E : Int) (hC : ∀ W, KBookAt W bb now ao cap bs → Calls Tryd.prog 44 #[.pointer (some ⟨bb, 0, none⟩), .agg (turnV x)] W fun e w' => e = .returned (.int .i64 E) ∧ BookStep W w' bb now ao (BRevokeR E x bs)) :
    Calls Tryd.prog 12 #[.pointer (some ⟨bb, 0, none⟩), .agg (turnV x)] w fun e w' => e = .returned (.agg (ansV (0) (E))) ∧ BookStep w w' bb (now) ao (BRevokeR E x bs) := by
  obtain ⟨who, kd, xid, of, s, t, a, b, c⟩ := x
  obtain rfl : kd = 3 := hk
  have HC := hide hC
  clear hC
  obtain ⟨n1, n2, hlt, hbx⟩ := two_new (two_made w (.cells (turnV ⟨who, 3, xid, of, s, t, a, b, c⟩) 32) (.cells (ansV 0 0) 35))
  have hr1 := hr.below hbx
  go_enter Tryd.func12, Tryd.ntmps12
  go_wp2_with fail
  refine (HC.out _ hr1).mono ?_
  rintro e w2 ⟨rfl, hst⟩
  have hab := hide (hst.above hr (k := w.heap.size + 1) (by omega) hlt)
  have HST := hide (hst.store hr hbx (k := w.heap.size + 1) (by omega) hlt)
  have hgr := hst.grows
  have n3 := hab.out.trans n2
  have z0 : w2.cell? ⟨w.heap.size + 1, 0, none⟩ = some _ := (cell_of_heap n3 0).trans rfl
  have z1 : w2.cell? ⟨w.heap.size + 1, 1, none⟩ = some _ := (cell_of_heap n3 1).trans rfl
  have z2 : w2.cell? ⟨w.heap.size + 1, 2, none⟩ = some _ := (cell_of_heap n3 2).trans rfl
  have rf := frozen_of_heap n3
  clear hst hab n1 n2 n3 hbx hr1
  go_wp2_with fail
  exact bodyPost_ret (v := .agg (ansV (0) (E))) (by simp [results, Tryd.results12, go_sem, z0, z1, z2]) rfl ⟨rfl, HST.out _ _ _⟩

set_option maxHeartbeats 800000 in
set_option maxRecDepth 100000 in
theorem wants_tick_no (bb : Nat) (now : Int) (ao : Option Addr) (cap : Nat) (bs : List Bk) (x : TurnD) (w : World) (hr : KBookAt w bb now ao cap bs) (hk : x.kind = 12) (ha : x.a < 0) :
    Calls Tryd.prog 12 #[.pointer (some ⟨bb, 0, none⟩), .agg (turnV x)] w fun e w' => e = .returned (.agg (ansV (0) (1))) ∧ BookStep w w' bb (now) ao (fun bs' => bs' = bs) := by
  obtain ⟨who, kd, xid, of, s, t, a, b, c⟩ := x
  obtain rfl : kd = 12 := hk
  have hlt := hr.lt
  have c1 := hr.c1
  have f1 := hr.f1
  go_enter Tryd.func12, Tryd.ntmps12
  go_wp2_with fail
  exact bodyPost_ret (v := .agg (ansV 0 1)) (by simp [results, Tryd.results12, go_sem]) rfl ⟨rfl, bstep_below hr (((Below.refl _ _).alloc (Nat.le_refl _) _).alloc (by simp) _)⟩

set_option maxHeartbeats 800000 in
set_option maxRecDepth 100000 in
theorem wants_now (bb : Nat) (now : Int) (ao : Option Addr) (cap : Nat) (bs : List Bk) (x : TurnD) (w : World) (hr : KBookAt w bb now ao cap bs) (k0 : (x.kind == 0) = false) (k2 : (x.kind == 2) = false) (k3 : (x.kind == 3) = false) (k12 : (x.kind == 12) = false) :
    Calls Tryd.prog 12 #[.pointer (some ⟨bb, 0, none⟩), .agg (turnV x)] w fun e w' => e = .returned (.agg (ansV (now) (0))) ∧ BookStep w w' bb (now) ao (fun bs' => bs' = bs) := by
  obtain ⟨who, kd, xid, of, s, t, a, b, c⟩ := x
  have hlt := hr.lt
  have c1 := hr.c1
  have f1 := hr.f1
  go_enter Tryd.func12, Tryd.ntmps12
  go_wp2_with fail
  exact bodyPost_ret (v := .agg (ansV now 0)) (by simp [results, Tryd.results12, go_sem]) rfl ⟨rfl, bstep_below hr (((Below.refl _ _).alloc (Nat.le_refl _) _).alloc (by simp) _)⟩

set_option maxHeartbeats 800000 in
set_option maxRecDepth 100000 in
theorem wants_tick_hi (bb : Nat) (now : Int) (ao : Option Addr) (cap : Nat) (bs : List Bk) (x : TurnD) (w : World) (hr : KBookAt w bb now ao cap bs) (hk : x.kind = 12) (ha : 0 ≤ x.a) (ha2 : x.a ≤ 9223372036854775807) (hc0 : 0 ≤ now) (hc1 : now ≤ 1099511627776) (hcd : 1099511627776 - now < x.a) :
    Calls Tryd.prog 12 #[.pointer (some ⟨bb, 0, none⟩), .agg (turnV x)] w fun e w' => e = .returned (.agg (ansV (0) (0))) ∧ BookStep w w' bb (tickF now x.a) ao (fun bs' => bs' = bs) := by
  obtain ⟨who, kd, xid, of, s, t, a, b, c⟩ := x
  obtain rfl : kd = 12 := hk
  have hlt := hr.lt
  have c1 := hr.c1
  have f1 := hr.f1
  have ha0 : ¬ a < 0 := Int.not_lt.2 ha
  have hcd : 1099511627776 - now < a := hcd
  obtain ⟨n1, n2, hlt2, hbx⟩ := two_new (two_made w (.cells (turnV ⟨who, 12, xid, of, s, t, a, b, c⟩) 32) (.cells (ansV 0 0) 35))
  have hr1 := hr.below hbx
  have HT := hide (show (1099511627776 : Int) = tickF now a by unfold tickF; split <;> omega)
  have HB := hide (And.intro hbx (And.intro hlt2 hr1))
  clear n1 n2 hlt2 hbx hr1
  go_enter Tryd.func12, Tryd.ntmps12
  go_wp2_with fail
  go_quiet (fail)
  go_wp2_with fail
  all_goals
    refine bodyPost_ret (v := .agg (ansV 0 0)) (by simp [results, Tryd.results12, go_sem]) rfl ⟨rfl, ?_⟩
    refine BookStep.store hr HB.out.1 (bstep_tick HB.out.2.2 ?_ ?_ ?_ ?_ _ _ HT.out) (by omega) HB.out.2.1 _ _ _
    all_goals rfl

set_option maxHeartbeats 800000 in
set_option maxRecDepth 100000 in
theorem wants_tick_lo (bb : Nat) (now : Int) (ao : Option Addr) (cap : Nat) (bs : List Bk) (x : TurnD) (w : World) (hr : KBookAt w bb now ao cap bs) (hk : x.kind = 12) (ha : 0 ≤ x.a) (ha2 : x.a ≤ 9223372036854775807) (hc0 : 0 ≤ now) (hc1 : now ≤ 1099511627776) (hcd : x.a ≤ 1099511627776 - now) :
    Calls Tryd.prog 12 #[.pointer (some ⟨bb, 0, none⟩), .agg (turnV x)] w fun e w' => e = .returned (.agg (ansV (0) (0))) ∧ BookStep w w' bb (tickF now x.a) ao (fun bs' => bs' = bs) := by
  obtain ⟨who, kd, xid, of, s, t, a, b, c⟩ := x
  obtain rfl : kd = 12 := hk
  have hlt := hr.lt
  have c1 := hr.c1
  have f1 := hr.f1
  have ha0 : ¬ a < 0 := Int.not_lt.2 ha
  have hcd : a ≤ 1099511627776 - now := hcd
  obtain ⟨n1, n2, hlt2, hbx⟩ := two_new (two_made w (.cells (turnV ⟨who, 12, xid, of, s, t, a, b, c⟩) 32) (.cells (ansV 0 0) 35))
  have hr1 := hr.below hbx
  have HT := hide (show now + a = tickF now a by unfold tickF; split <;> omega)
  have HB := hide (And.intro hbx (And.intro hlt2 hr1))
  clear n1 n2 hlt2 hbx hr1
  go_enter Tryd.func12, Tryd.ntmps12
  go_wp2_with fail
  go_quiet (fail)
  go_wp2_with fail
  go_region
  all_goals (try go_wp2_with fail)
  all_goals
    refine bodyPost_ret (v := .agg (ansV 0 0)) (by simp [results, Tryd.results12, go_sem]) rfl ⟨rfl, ?_⟩
    refine BookStep.store hr HB.out.1 (bstep_tick HB.out.2.2 ?_ ?_ ?_ ?_ _ _ HT.out) (by omega) HB.out.2.1 _ _ _
    all_goals rfl

end Go.Proofs.YtgcldedkempjhaaDoor
