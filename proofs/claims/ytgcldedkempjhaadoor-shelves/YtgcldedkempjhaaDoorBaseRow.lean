/-
  Rows of records in memory, whatever the record.
-/
import Derived.Test.YtgcldedkempjhaaDoorBase
namespace Go.Proofs.YtgcldedkempjhaaDoor
open Go.RowKit

theorem flat_get {α : Type} (f : α → List Value) (n : Nat) (hf : ∀ x, (f x).length = n) (l : List α) (k j : Nat) (hk : k < l.length) (hj : j < n) : (l.flatMap f)[n * k + j]? = (f l[k])[j]? := by
  induction l generalizing k with
  | nil => simp at hk
  | cons x l ih =>
    have hl := hf x
    cases k with
    | zero =>
      rw [List.flatMap_cons, List.getElem?_append_left (by rw [hl]; omega)]
      simp
    | succ k =>
      rw [List.flatMap_cons, List.getElem?_append_right (by rw [hl, Nat.mul_succ]; omega), hl, show n * (k + 1) + j - n = n * k + j from by rw [Nat.mul_succ]; omega]
      rw [ih k (by simpa using hk)]
      simp

theorem flat_set {α : Type} (f : α → List Value) (n : Nat) (hf : ∀ x, (f x).length = n) (l : List α) (i j : Nat) (x : α) (u : Value) (hi : i < l.length) (hj : j < n) (hx : f x = (f l[i]).set j u) : (l.set i x).flatMap f = (l.flatMap f).set (i * n + j) u := by
  induction l generalizing i with
  | nil => simp at hi
  | cons y l ih =>
    have hl := hf y
    cases i with
    | zero =>
      have hx' : f x = (f y).set j u := hx
      rw [List.set_cons_zero, List.flatMap_cons, List.flatMap_cons, List.set_append_left _ _ (by rw [hl]; omega), hx']
      simp
    | succ i =>
      rw [List.set_cons_succ, List.flatMap_cons, List.flatMap_cons, List.set_append_right _ _ (by rw [hl, Nat.succ_mul]; omega), hl, ih i (by simpa using hi) (by simpa using hx), show (i + 1) * n + j - n = i * n + j from by rw [Nat.succ_mul]; omega]

theorem flat_same {α : Type} (f : α → List Value) (l : List α) (i : Nat) (x : α) (hi : i < l.length) (hx : f x = f l[i]) : (l.set i x).flatMap f = l.flatMap f := by
  induction l generalizing i with
  | nil => simp at hi
  | cons y l ih =>
    cases i with
    | zero =>
      have hx' : f x = f y := hx
      rw [List.set_cons_zero, List.flatMap_cons, List.flatMap_cons, hx']
    | succ i => rw [List.set_cons_succ, List.flatMap_cons, List.flatMap_cons, ih i (by simpa using hi) (by simpa using hx)]

theorem row_cell {w : World} {base : Nat} {e : TypeId} {α : Type} {f : α → List Value} {n : Nat} (hf : ∀ x, (f x).length = n) {ao : Option Addr} {cap : Nat} {l : List α}
    (own : w.ownsRow base e n (.slice ao l.length cap) l.length (l.flatMap f)) (k : Nat) (hk : k < l.length) :
    ∃ g, ao = some ⟨g, 0, none⟩ ∧ g < w.heap.size ∧ base ≤ g ∧ (∀ j u, (f l[k])[j]? = some u → w.cell? ⟨g, k * n + j, none⟩ = some u) ∧ ∀ j, w.frozen? ⟨g, j, none⟩ = false := by
  rcases own.2 with ⟨hn, h0⟩ | ⟨g, cp, cur, hv, hb, hg, _⟩
  · omega
  · have hao : ao = some ⟨g, 0, none⟩ := by injection hv
    refine ⟨g, hao, (Array.getElem?_eq_some_iff.1 hg).1, hb, ?_, fun j => frozen_of_heap hg _⟩
    intro j u hu
    have hj : j < n := by rw [← hf l[k]]; exact (List.getElem?_eq_some_iff.1 hu).1
    have hget := flat_get f n hf l k j hk hj
    have := own.cells (g := g) (by rw [hao]; rfl) (n * k + j) u (hget.trans hu)
    rw [← this]
    congr 1
    have hadd : (⟨g, 0, none⟩ : Addr).add (n * k + j) = ⟨g, n * k + j, none⟩ := by unfold Addr.add; split <;> simp_all
    rw [hadd, Nat.mul_comm]

/-- A row with one record more, and its header in the cell b, o. -/
def RowPush (ty size : Nat) (w w' : World) (base b o : Nat) (ao : Option Addr) (len : Nat) (xs news : List Value) : Prop :=
  ∃ g' cap' w1, w1.ownsRow base ty size (.slice (some ⟨g', 0, none⟩) (len + 1) cap') (len + 1) (xs ++ news) ∧ Chg (blockOf ao) w w1 ∧ (blockOf ao g' ∨ w.heap.size ≤ g') ∧
    w' = w1.setCell ⟨b, o, none⟩ (.slice (some ⟨g', 0, none⟩) (len + 1) cap')

theorem row_of {ao : Option Addr} {n c k : Nat} (h : Value.ownBlock (.slice ao n c) = some k) : blockOf ao k := by
  cases ao with
  | none => cases h
  | some a => exact ⟨a, rfl, by injection h⟩

theorem ownsRow_set {w : World} {base : Nat} {e : TypeId} {size g n cap : Nat} {xs : List Value} (h : w.ownsRow base e size (.slice (some ⟨g, 0, none⟩) n cap) n xs) (j : Nat) (u : Value) :
    (w.setCell ⟨g, j, none⟩ u).ownsRow base e size (.slice (some ⟨g, 0, none⟩) n cap) n (xs.set j u) := by
  refine ⟨by rw [List.length_set]; exact h.1, ?_⟩
  rcases h.2 with ⟨h0, _⟩ | ⟨g1, cp, cur, hv, hb, hg, h1, h2, h3, h4⟩
  · cases h0
  · have e1 : g = g1 := by injection hv with e1 _ _; injection e1 with e1; injection e1
    subst e1
    refine Or.inr ⟨g, cp, cur.setIfInBounds j u, hv, hb, ?_, h1, h2, by rw [Array.size_setIfInBounds]; exact h3, ?_⟩
    · simp [World.setCell, Array.getElem?_modify, hg]
    · rw [Array.toList_setIfInBounds, List.take_set, h4]

theorem ownsRow_keep' {w w' : World} {base : Nat} {e : TypeId} {size m : Nat} {v : Value} {xs : List Value} (h : w.ownsRow base e size v m xs) (hb : Below w.heap.size w w') : w'.ownsRow base e size v m xs := by
  refine ⟨h.1, ?_⟩
  rcases h.2 with h0 | ⟨g, cp, cur, hv, hg0, hg, r⟩
  · exact Or.inl h0
  · refine Or.inr ⟨g, cp, cur, hv, hg0, ?_, r⟩
    rw [hb.block g (Array.getElem?_eq_some_iff.1 hg).1]; exact hg

section
variable {w w' : World}

theorem blockOf_lt {base : Nat} {e : TypeId} {size n c m : Nat} {ao : Option Addr} {xs : List Value} (h : w.ownsRow base e size (.slice ao n c) m xs) {k : Nat} (hk : blockOf ao k) : base ≤ k ∧ k < w.heap.size := by
  obtain ⟨a, rfl, rfl⟩ := hk
  exact h.lt a.block rfl

theorem blockOf_heap {base : Nat} {e : TypeId} {size n c m : Nat} {ao : Option Addr} {xs : List Value} (h : w.ownsRow base e size (.slice ao n c) m xs) {k : Nat} (hk : blockOf ao k) : ∃ cur, w.heap[k]? = some (.cells cur e (0, 0)) := by
  obtain ⟨a, rfl, rfl⟩ := hk
  rcases h.2 with ⟨h0, _⟩ | ⟨g, cp, cur, hv, _, hg, _⟩
  · cases h0
  · injection hv with e1 _ _
    injection e1 with e1
    subst e1
    exact ⟨cur, hg⟩

/-- Rows of two types lie in two blocks. -/
theorem blocks_apart {b1 b2 : Nat} {e1 e2 : TypeId} {s1 s2 n1 n2 c1 c2 m1 m2 : Nat} {a1 a2 : Option Addr} {x1 x2 : List Value} (h1 : w.ownsRow b1 e1 s1 (.slice a1 n1 c1) m1 x1) (h2 : w.ownsRow b2 e2 s2 (.slice a2 n2 c2) m2 x2) (hne : e1 ≠ e2) {k : Nat} (k1 : blockOf a1 k) : ¬ blockOf a2 k := by
  intro k2
  obtain ⟨c1, q1⟩ := blockOf_heap h1 k1
  obtain ⟨c2, q2⟩ := blockOf_heap h2 k2
  rw [q1] at q2
  injection q2 with q
  injection q with _ q _
  exact hne q

theorem ownsRow_keep {base : Nat} {e : TypeId} {size n c m : Nat} {ao : Option Addr} {xs : List Value} (h : w.ownsRow base e size (.slice ao n c) m xs) (hk : ∀ k, blockOf ao k → w'.heap[k]? = w.heap[k]?) : w'.ownsRow base e size (.slice ao n c) m xs := by
  refine ⟨h.1, ?_⟩
  rcases h.2 with h0 | ⟨g, cp, cur, hv, hb, hg, r⟩
  · exact Or.inl h0
  · refine Or.inr ⟨g, cp, cur, hv, hb, ?_, r⟩
    have hao : ao = some ⟨g, 0, none⟩ := by injection hv
    rw [hk g ⟨_, hao, rfl⟩]; exact hg

theorem ownsRow_setCell_other {base : Nat} {e : TypeId} {size n c m : Nat} {ao : Option Addr} {xs : List Value} (h : w.ownsRow base e size (.slice ao n c) m xs) {a : Addr} (ha : ¬ blockOf ao a.block) (u : Value) : (w.setCell a u).ownsRow base e size (.slice ao n c) m xs :=
  ownsRow_keep h fun _ hk => Below.heap_setCell _ _ _ _ (fun e => ha (e ▸ hk))

/-- A row that was made above a bound is one above any lower bound. -/
theorem ownsRow_base {base base' : Nat} {e : TypeId} {size m : Nat} {v : Value} {xs : List Value} (h : w.ownsRow base e size v m xs) (hb : base' ≤ base) : w.ownsRow base' e size v m xs := by
  refine ⟨h.1, ?_⟩
  rcases h.2 with h0 | ⟨g, cp, cur, hv, hb0, r⟩
  · exact Or.inl h0
  · exact Or.inr ⟨g, cp, cur, hv, Nat.le_trans hb hb0, r⟩

end

theorem find_cases {α : Type} (p : α → Bool) (l : List α) :
    (∃ i, ∃ hi : i < l.length, p l[i] = true ∧ (∀ j, (hj : j < l.length) → j < i → p l[j] = false) ∧ l.find? p = some l[i]) ∨
    ((∀ j, (hj : j < l.length) → p l[j] = false) ∧ l.find? p = none) := by
  induction l with
  | nil => exact Or.inr ⟨fun j hj => by simp at hj, rfl⟩
  | cons t ts ih =>
    cases hb : p t with
    | true => exact Or.inl ⟨0, by simp, by simpa using hb, fun j _ h => by omega, by simp [hb]⟩
    | false =>
      rcases ih with ⟨i, hi, h1, h2, h3⟩ | ⟨h1, h2⟩
      · refine Or.inl ⟨i + 1, by simp; omega, by simpa using h1, ?_, ?_⟩
        · intro j hj hlt
          cases j with
          | zero => simpa using hb
          | succ j => simpa using h2 j (by simpa using hj) (by omega)
        · simp [hb, h3]
      · refine Or.inr ⟨?_, ?_⟩
        · intro j hj
          cases j with
          | zero => simpa using hb
          | succ j => simpa using h1 j (by simpa using hj)
        · simp [hb, h2]

end Go.Proofs.YtgcldedkempjhaaDoor
