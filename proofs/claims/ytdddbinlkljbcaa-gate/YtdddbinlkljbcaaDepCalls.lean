/-
  depot.Depot: New, Tick, Clock, May, Found.
-/
import Derived.Test.YtdddbinlkljbcaaDep
namespace Go.Proofs.Ytdddbinlkljbcaa
open Go.RowKit

/-- What a call leaves of the program's depot. -/
def DepStep (w w' : World) (db : Nat) (root clock : Int) (ho : Option Addr) (hs : List Hse) (R : List Hse → Prop) : Prop :=
  ∃ ho' hcap' hs', DepAt w' db root clock ho' hcap' hs' ∧ R hs' ∧ Chg (DepFoot db ho hs) w w' ∧ ∀ k, DepFoot db ho' hs' k → DepFoot db ho hs k ∨ w.heap.size ≤ k

theorem DepStep.ofBelow {w w' : World} {db : Nat} {root clock : Int} {ho : Option Addr} {hcap : Nat} {hs : List Hse} {R : List Hse → Prop} (hr : DepAt w db root clock ho hcap hs) (hb : Below w.heap.size w w') (hR : R hs) :
    DepStep w w' db root clock ho hs R :=
  ⟨ho, hcap, hs, hr.below hb, hR, Chg.ofBelow hb, fun _ h => Or.inl h⟩

theorem DepStep.behind {w w1 w' : World} {db : Nat} {root clock : Int} {ho : Option Addr} {hs : List Hse} {R : List Hse → Prop} (hb : Below w.heap.size w w1) (h : DepStep w1 w' db root clock ho hs R) : DepStep w w' db root clock ho hs R := by
  obtain ⟨ho', hcap', hs', h1, h0, h2, h3⟩ := h
  exact ⟨ho', hcap', hs', h1, h0, (Chg.ofBelow hb).trans h2 (fun _ h => Or.inl h), fun k hk => (h3 k hk).elim Or.inl (fun h => Or.inr (Nat.le_trans hb.size h))⟩

theorem DepAt.fresh (w : World) (root : Int) : DepAt (w.alloc (.cells #[.int .i64 root, .int .i64 0, .slice none 0 0] 71)) w.heap.size root 0 none 0 [] := by
  have h := heap_alloc_new w (.cells #[.int .i64 root, .int .i64 0, .slice none 0 0] 71)
  exact ⟨(cell_of_heap h 0).trans rfl, (cell_of_heap h 1).trans rfl, (cell_of_heap h 2).trans rfl, frozen_of_heap h 1, frozen_of_heap h 2, World.ownsRow_nil _ _ _ _,
    fun i hi => by simp at hi, fun i j hi => by simp at hi, by simp, fun i hi => by simp at hi⟩

set_option maxHeartbeats 400000 in
theorem new_no (root : Int) (w : World) (h : root < 1) :
    Calls Try.prog 9 #[.int .i64 root] w fun e w' => e = .returned (.tuple #[.pointer none, .int .i64 1]) ∧ w' = w := by
  go_enter Try.func9, Try.ntmps9
  go_wp2
  go_ret2
  exact ⟨rfl, rfl⟩

set_option maxHeartbeats 400000 in
theorem new_yes (root : Int) (w : World) (h : 1 ≤ root) :
    Calls Try.prog 9 #[.int .i64 root] w fun e w' => e = .returned (.tuple #[.pointer (some ⟨w.heap.size, 0, none⟩), .int .i64 0]) ∧ DepAt w' w.heap.size root 0 none 0 [] ∧ Below w.heap.size w w' := by
  go_enter Try.func9, Try.ntmps9
  go_wp2
  go_ret2
  exact ⟨rfl, DepAt.fresh w root, (Below.refl _ _).alloc (Nat.le_refl _) _⟩

set_option maxHeartbeats 400000 in
theorem clock_any (db : Nat) (root clock : Int) (ho : Option Addr) (hcap : Nat) (hs : List Hse) (w : World) (hr : DepAt w db root clock ho hcap hs) :
    Calls Try.prog 23 #[.pointer (some ⟨db, 0, none⟩)] w fun e w' => e = .returned (.int .i64 clock) ∧ w' = w := by
  have c1 := hr.c1
  go_enter Try.func23, Try.ntmps23
  go_wp2
  go_ret
  exact ⟨rfl, rfl⟩

theorem DepAt.tick {w : World} {db : Nat} {root clock : Int} {ho : Option Addr} {hcap : Nat} {hs : List Hse} (h : DepAt w db root clock ho hcap hs) (t : Int) :
    DepAt (w.setCell ⟨db, 1, none⟩ (.int .i64 t)) db root t ho hcap hs := by
  refine ⟨?_, ?_, ?_, ?_, ?_, ?_, ?_, h.sep, h.len, h.tlen⟩
  · rw [cell_setCell_ne (by omega)]; exact h.c0
  · rw [cell_setCell_same h.c1]
  · rw [cell_setCell_ne (by omega)]; exact h.c2
  · rw [frozen_setCell]; exact h.f1
  · rw [frozen_setCell]; exact h.f2
  · exact ownsRow_setCell_below h.own (Nat.lt_succ_self db) _
  · exact fun i hi => ownsRow_setCell_below (h.ring i hi) (Nat.lt_succ_self db) _

set_option maxHeartbeats 400000 in
theorem tick_no (db : Nat) (n : Int) (w : World) (h : n < 0) :
    Calls Try.prog 22 #[.pointer (some ⟨db, 0, none⟩), .int .i64 n] w fun e w' => e = .returned (.int .i64 1) ∧ w' = w := by
  go_enter Try.func22, Try.ntmps22
  go_wp2
  go_ret
  exact ⟨rfl, rfl⟩

set_option maxHeartbeats 400000 in
theorem tick_yes (db : Nat) (root clock : Int) (ho : Option Addr) (hcap : Nat) (hs : List Hse) (n : Int) (w : World) (hr : DepAt w db root clock ho hcap hs)
    (h : 0 ≤ n) (hn : n ≤ 9223372036854775807) (ht0 : 0 ≤ clock) (ht : clock ≤ 1099511627776) :
    Calls Try.prog 22 #[.pointer (some ⟨db, 0, none⟩), .int .i64 n] w fun e w' => e = .returned (.int .i64 0) ∧
      DepAt w' db root (tickF clock n) ho hcap hs ∧ Chg (DepFoot db ho hs) w w' := by
  have c1 := hr.c1
  have f1 := hr.f1
  have HU := hide (show ∀ (W : World) (t : Int), t = tickF clock n → W.setCell ⟨db, 1, none⟩ (.int .i64 t) = W.setCell ⟨db, 1, none⟩ (.int .i64 (tickF clock n)) from fun W t h => by rw [h])
  go_enter Try.func22, Try.ntmps22
  go_wp2
  all_goals
    go_ret
    rw [HU.out _ _ (by unfold tickF; split <;> omega)]
    exact ⟨rfl, hr.tick _, (Chg.refl _ _).setCell (Or.inl (Or.inl rfl)) _⟩

set_option maxHeartbeats 400000 in
theorem may_any (db : Nat) (root clock : Int) (ho : Option Addr) (hcap : Nat) (hs : List Hse) (house : ByteArray) (id : Int) (w : World) (hr : DepAt w db root clock ho hcap hs) :
    Calls Try.prog 36 #[.pointer (some ⟨db, 0, none⟩), .string house, .int .i64 id] w fun e w' =>
      e = .returned (.tuple #[.int .i64 (mayF (heldF root clock hs house id)).1, .int .i64 (mayF (heldF root clock hs house id)).2]) ∧ Below w.heap.size w w' := by
  have Hc := hide (held_any db root clock ho hcap hs house id w hr)
  generalize heldF root clock hs house id = r at *
  cases h0 : (r == 0) with
  | true =>
    have hf : mayF r = (0, 3) := by simp [mayF, h0]
    rw [hf]
    clear hf
    go_enter Try.func36, Try.ntmps36
    go_wp2_with fail
    refine Hc.out.mono ?_
    rintro e w1 ⟨rfl, hb⟩
    go_wp2_with fail
    go_ret2
    exact ⟨rfl, hb⟩
  | false =>
    have hf : mayF r = (r, 0) := by simp [mayF, h0]
    rw [hf]
    clear hf
    go_enter Try.func36, Try.ntmps36
    go_wp2_with fail
    refine Hc.out.mono ?_
    rintro e w1 ⟨rfl, hb⟩
    go_wp2_with fail
    go_ret2
    exact ⟨rfl, hb⟩

end Go.Proofs.Ytdddbinlkljbcaa
