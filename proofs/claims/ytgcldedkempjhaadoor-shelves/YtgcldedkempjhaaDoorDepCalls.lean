/-
  depot.Depot: New, Tick, Clock, May.
-/
import Derived.Test.YtgcldedkempjhaaDoorDepUpd
namespace Go.Proofs.YtgcldedkempjhaaDoor
open Go.RowKit

abbrev freshD (root : Int) : DepD := ⟨root, 0, none, 0, [], none, 0, [], 0⟩

theorem DepAt.fresh (w : World) (root : Int) (ht : TabOk w) : DepAt (w.alloc (.cells #[.int .i64 root, .int .i64 0, .slice none 0 0, .slice none 0 0] 116)) w.heap.size (freshD root) := by
  have h := heap_alloc_new w (.cells #[.int .i64 root, .int .i64 0, .slice none 0 0, .slice none 0 0] 116)
  have hnone : ∀ {k : Nat}, ¬ blockOf none k := fun ⟨a, e, _⟩ => by cases e
  have hrow : ∀ q r, (freshD root).row q = some r → r = ⟨133, 4, none, 0, 0, []⟩ := by
    intro q r hq
    match q, hq with
    | none, hq => injection hq with hq; exact hq.symm
    | some (f, i), hq => simp [DepD.row] at hq
  refine ⟨⟨(cell_of_heap h 0).trans rfl, (cell_of_heap h 1).trans rfl, (cell_of_heap h 2).trans rfl, (cell_of_heap h 3).trans rfl, fun j => frozen_of_heap h j, World.ownsRow_nil _ _ _ _⟩, ⟨?_, ?_, ?_⟩, ⟨by simp [DepD.pure], by simp [DepD.pure], by simp [DepD.pure], by simp [DepD.pure], by simp [DepD.pure], by simp [DepD.pure], by simp [DepD.pure], by simp [DepD.pure]⟩, ht.below ((Below.refl _ _).alloc (Nat.le_refl _) _), ht.lt⟩
  · intro q r hq
    rw [hrow q r hq]
    exact World.ownsRow_nil _ _ _ _
  · intro q q' r r' h1 _ _ k k1
    rw [hrow q r h1] at k1
    exact absurd k1 hnone
  · intro e he
    rcases he with he | ⟨x, hx, _⟩
    · cases he
    · cases hx

set_option maxHeartbeats 400000 in
theorem new_no (root : Int) (w : World) (h : root < 1) :
    Calls Tryd.prog 36 #[.int .i64 root] w fun e w' => e = .returned (.tuple #[.pointer none, .int .i64 1]) ∧ w' = w := by
  go_enter Tryd.func36, Tryd.ntmps36
  go_wp2
  go_ret2
  exact ⟨rfl, rfl⟩

set_option maxHeartbeats 400000 in
theorem new_yes (root : Int) (w : World) (h : 1 ≤ root) (ht : TabOk w) :
    Calls Tryd.prog 36 #[.int .i64 root] w fun e w' => e = .returned (.tuple #[.pointer (some ⟨w.heap.size, 0, none⟩), .int .i64 0]) ∧ DepAt w' w.heap.size (freshD root) ∧ Below w.heap.size w w' := by
  go_enter Tryd.func36, Tryd.ntmps36
  go_wp2
  go_ret2
  exact ⟨rfl, DepAt.fresh w root ht, (Below.refl _ _).alloc (Nat.le_refl _) _⟩

set_option maxHeartbeats 400000 in
theorem clock_any (db : Nat) (D : DepD) (w : World) (hr : DepAt w db D) :
    Calls Tryd.prog 41 #[.pointer (some ⟨db, 0, none⟩)] w fun e w' => e = .returned (.int .i64 D.pure.clock) ∧ w' = w := by
  have c1 := hr.head.c1
  go_enter Tryd.func41, Tryd.ntmps41
  go_wp2
  go_ret
  exact ⟨rfl, rfl⟩

theorem DepStep.tick {w : World} {db : Nat} {D : DepD} (h : DepAt w db D) (t : Int) : DepStep w (w.setCell ⟨db, 1, none⟩ (.int .i64 t)) db D { D.pure with clock := t } := by
  refine (DepTo.mk' (D' := { D with clock := t }) h ⟨?_, ?_, ?_, ?_, ?_, ?_⟩ ?_ ⟨h.lens.h, h.lens.t, h.lens.e, h.lens.g, h.lens.p, h.lens.w, h.lens.l, h.lens.y⟩ ((Chg.refl _ _).setCell (Or.inl (Or.inl rfl)) _) (fun k hk => Or.inl hk)).step rfl
  · rw [cell_setCell_ne (by omega)]; exact h.head.c0
  · rw [cell_setCell_same h.head.c1]
  · rw [cell_setCell_ne (by omega)]; exact h.head.c2
  · rw [cell_setCell_ne (by omega)]; exact h.head.c3
  · intro j; rw [frozen_setCell]; exact h.head.f j
  · exact ownsRow_setCell_below h.head.own (Nat.lt_succ_self db) _
  · have := h.rows.set (a := ⟨db, 1, none⟩) (Or.inl rfl) (.int .i64 t)
    exact ⟨this.row, this.sep, this.want⟩

set_option maxHeartbeats 400000 in
theorem tick_no (db : Nat) (n : Int) (w : World) (h : n < 0) :
    Calls Tryd.prog 40 #[.pointer (some ⟨db, 0, none⟩), .int .i64 n] w fun e w' => e = .returned (.int .i64 1) ∧ w' = w := by
  go_enter Tryd.func40, Tryd.ntmps40
  go_wp2
  go_ret
  exact ⟨rfl, rfl⟩

set_option maxHeartbeats 400000 in
theorem tick_yes (db : Nat) (D : DepD) (n : Int) (w : World) (hr : DepAt w db D) (h : 0 ≤ n) (hn : n ≤ 9223372036854775807) (ht0 : 0 ≤ D.clock) (ht : D.clock ≤ 1099511627776) :
    Calls Tryd.prog 40 #[.pointer (some ⟨db, 0, none⟩), .int .i64 n] w fun e w' => e = .returned (.int .i64 0) ∧
      DepStep w w' db D { D.pure with clock := tickF D.clock n } := by
  have c1 := hr.head.c1
  have f1 := hr.head.f 1
  have HU := hide (show ∀ (W : World) (t : Int), t = tickF D.clock n → W.setCell ⟨db, 1, none⟩ (.int .i64 t) = W.setCell ⟨db, 1, none⟩ (.int .i64 (tickF D.clock n)) from fun W t h => by rw [h])
  go_enter Tryd.func40, Tryd.ntmps40
  go_wp2
  all_goals
    go_ret
    rw [HU.out _ _ (by unfold tickF; split <;> omega)]
    exact ⟨rfl, DepStep.tick hr _⟩

set_option maxHeartbeats 400000 in
theorem may_any (db : Nat) (D : DepD) (house : ByteArray) (id : Int) (w : World) (hr : DepAt w db D) :
    Calls Tryd.prog 73 #[.pointer (some ⟨db, 0, none⟩), .string house, .int .i64 id] w fun e w' =>
      e = .returned (.tuple #[.int .i64 (mayF (heldF D.pure house id)).1, .int .i64 (mayF (heldF D.pure house id)).2]) ∧ Below w.heap.size w w' := by
  have Hc := hide (held_any db D house id w hr)
  generalize heldF D.pure house id = r at *
  cases h0 : (r == 0) with
  | true =>
    have hf : mayF r = (0, 3) := by simp [mayF, h0]
    rw [hf]
    clear hf
    go_enter Tryd.func73, Tryd.ntmps73
    go_wp2_with fail
    refine Hc.out.mono ?_
    rintro e w1 ⟨rfl, hb⟩
    go_wp2_with fail
    go_ret2
    exact ⟨rfl, hb⟩
  | false =>
    have hf : mayF r = (r, 0) := by simp [mayF, h0]
    rw [hf]
    clear hf
    go_enter Tryd.func73, Tryd.ntmps73
    go_wp2_with fail
    refine Hc.out.mono ?_
    rintro e w1 ⟨rfl, hb⟩
    go_wp2_with fail
    go_ret2
    exact ⟨rfl, hb⟩

end Go.Proofs.YtgcldedkempjhaaDoor
