/-
  tokens.Ring: the tokens of one house, in memory; find, Role, Mint, Revoke.
-/
import Derived.Test.YtgcldedkempjhaaDoorRows
import Derived.Test.YtgcldedkempjhaaDoorBaseRow
namespace Go.Proofs.YtgcldedkempjhaaDoor
open Go.RowKit

structure Tok where
  num : Int
  role : Int
  till : Int
  gone : Bool

def Tok.cells (x : Tok) : List Value := [.int .i64 x.num, .int .i64 x.role, .int .i64 x.till, .bool x.gone]

def toksCells (ts : List Tok) : List Value := ts.flatMap Tok.cells

theorem toksCells_get (ts : List Tok) (k j : Nat) (hk : k < ts.length) (hj : j < 4) : (toksCells ts)[4 * k + j]? = (ts[k]).cells[j]? := by
  induction ts generalizing k with
  | nil => simp at hk
  | cons x ts ih =>
    have hl : x.cells.length = 4 := rfl
    cases k with
    | zero =>
      show (x.cells ++ toksCells ts)[4 * 0 + j]? = _
      rw [List.getElem?_append_left (by rw [hl]; omega)]
      simp
    | succ k =>
      show (x.cells ++ toksCells ts)[4 * (k + 1) + j]? = _
      rw [List.getElem?_append_right (by rw [hl]; omega), hl, show 4 * (k + 1) + j - 4 = 4 * k + j from by omega]
      rw [ih k (by simpa using hk)]
      simp

/-- A ring at the cell b, o: its row's cells are those of the tokens ts. -/
structure RingAt (w : World) (base b o : Nat) (ao : Option Addr) (cap : Nat) (ts : List Tok) : Prop where
  c : w.cell? ⟨b, o, none⟩ = some (.slice ao ts.length cap)
  f : w.frozen? ⟨b, o, none⟩ = false
  own : w.ownsRow base 158 4 (.slice ao ts.length cap) ts.length (toksCells ts)

structure TokAt (w : World) (g o : Nat) (x : Tok) : Prop where
  d0 : w.cell? ⟨g, o, none⟩ = some (.int .i64 x.num)
  d1 : w.cell? ⟨g, o + 1, none⟩ = some (.int .i64 x.role)
  d2 : w.cell? ⟨g, o + 2, none⟩ = some (.int .i64 x.till)
  d3 : w.cell? ⟨g, o + 3, none⟩ = some (.bool x.gone)
  f3 : w.frozen? ⟨g, o + 3, none⟩ = false

theorem RingAt.tok {w : World} {base b o : Nat} {ao : Option Addr} {cap : Nat} {ts : List Tok} (h : RingAt w base b o ao cap ts) (k : Nat) (hk : k < ts.length) :
    ∃ g, ao = some ⟨g, 0, none⟩ ∧ g < w.heap.size ∧ TokAt w g (k * 4) ts[k] := by
  rcases h.own.2 with ⟨hn, h0⟩ | ⟨g, cp, cur, hv, _, hg, _⟩
  · omega
  · have hao : ao = some ⟨g, 0, none⟩ := by injection hv
    have key : ∀ j u, (ts[k]).cells[j]? = some u → w.cell? ⟨g, k * 4 + j, none⟩ = some u := by
      intro j u hu
      have hj : j < 4 := (List.getElem?_eq_some_iff.1 hu).1
      have hget := toksCells_get ts k j hk hj
      have := h.own.cells (g := g) (by rw [hao]; rfl) (4 * k + j) u (hget.trans hu)
      rw [← this]
      congr 1
      unfold Addr.add; split <;> simp_all <;> omega
    exact ⟨g, hao, (Array.getElem?_eq_some_iff.1 hg).1, key 0 _ rfl, key 1 _ rfl, key 2 _ rfl, key 3 _ rfl, frozen_of_heap hg _⟩

theorem RingAt.lt {w : World} {base b o : Nat} {ao : Option Addr} {cap : Nat} {ts : List Tok} (h : RingAt w base b o ao cap ts) : b < w.heap.size := World.block_lt_of_cell? w _ h.c

set_option maxHeartbeats 400000 in
theorem ringFind_some (base b o : Nat) (ao : Option Addr) (cap : Nat) (ts : List Tok) (n : Int) (w : World) (hr : RingAt w base b o ao cap ts) (hlen : ts.length ≤ 1000)
    (i : Nat) (hi : i < ts.length) (hm : ts[i].num = n) (hno : ∀ j, (hj : j < ts.length) → j < i → ts[j].num ≠ n) :
    Calls Tryd.prog 96 #[.pointer (some ⟨b, o, none⟩), .int .i64 n] w fun e w' => e = .returned (.int .i64 i) ∧ w' = w := by
  have c := hr.c
  have HM := hide hm
  have HN := hide hno
  clear hm hno
  go_enter Tryd.func96, Tryd.ntmps96
  go_wp2
  go_loop [5] (fun x => ∃ k : Nat, k ≤ i ∧ x = .int .i64 k) (fun x => ts.length - (intOf x).toNat)
  case atStart => exact ⟨0, Nat.zero_le _, rfl⟩
  case round =>
    obtain ⟨k, hk, rfl⟩ := hrel
    obtain ⟨g, rfl, hg, hx⟩ := hr.tok k (by omega)
    have d0 := hx.d0
    by_cases hlt : k < i
    · have h1 : (ts[k].num == n) = false := beq_eq_false_iff_ne.2 (HN.out k (by omega) hlt)
      go_wp2
      go_round
      case rel => exact ⟨k + 1, by omega, by go_num⟩
      case measure => simp [intOf] <;> omega
    · obtain rfl : k = i := by omega
      have h1 : (ts[k].num == n) = true := beq_iff_eq.2 HM.out
      go_wp2
      go_ret
      exact ⟨rfl, rfl⟩

set_option maxHeartbeats 400000 in
theorem ringFind_none (base b o : Nat) (ao : Option Addr) (cap : Nat) (ts : List Tok) (n : Int) (w : World) (hr : RingAt w base b o ao cap ts) (hlen : ts.length ≤ 1000)
    (hno : ∀ j, (hj : j < ts.length) → ts[j].num ≠ n) :
    Calls Tryd.prog 96 #[.pointer (some ⟨b, o, none⟩), .int .i64 n] w fun e w' => e = .returned (.int .i64 (-1)) ∧ w' = w := by
  have c := hr.c
  have HN := hide hno
  clear hno
  go_enter Tryd.func96, Tryd.ntmps96
  go_wp2
  go_loop [5] (fun x => ∃ k : Nat, k ≤ ts.length ∧ x = .int .i64 k) (fun x => ts.length - (intOf x).toNat)
  case atStart => exact ⟨0, Nat.zero_le _, rfl⟩
  case round =>
    obtain ⟨k, hk, rfl⟩ := hrel
    by_cases hlt : k < ts.length
    · obtain ⟨g, rfl, hg, hx⟩ := hr.tok k (by omega)
      have d0 := hx.d0
      have h1 : (ts[k].num == n) = false := beq_eq_false_iff_ne.2 (HN.out k (by omega))
      go_wp2
      go_round
      case rel => exact ⟨k + 1, by omega, by go_num⟩
      case measure => simp [intOf] <;> omega
    · go_wp2
      go_ret
      exact ⟨rfl, rfl⟩

def tokF (ts : List Tok) (n : Int) : Option Tok := ts.find? fun t => t.num == n

theorem tok_cases (ts : List Tok) (n : Int) :
    (∃ i, ∃ hi : i < ts.length, ts[i].num = n ∧ (∀ j, (hj : j < ts.length) → j < i → ts[j].num ≠ n) ∧ tokF ts n = some ts[i]) ∨
    ((∀ j, (hj : j < ts.length) → ts[j].num ≠ n) ∧ tokF ts n = none) := by
  induction ts with
  | nil => exact Or.inr ⟨fun j hj => by simp at hj, rfl⟩
  | cons t ts ih =>
    by_cases ht : t.num = n
    · exact Or.inl ⟨0, by simp, by simpa using ht, fun j _ h => by omega, by simp [tokF, ht]⟩
    · have hb : (t.num == n) = false := beq_eq_false_iff_ne.2 ht
      rcases ih with ⟨i, hi, h1, h2, h3⟩ | ⟨h1, h2⟩
      · refine Or.inl ⟨i + 1, by simp; omega, by simpa using h1, ?_, ?_⟩
        · intro j hj hlt
          cases j with
          | zero => simpa using ht
          | succ j => simpa using h2 j (by simpa using hj) (by omega)
        · simp only [tokF, List.find?_cons, hb] at *
          simpa using h3
      · refine Or.inr ⟨?_, ?_⟩
        · intro j hj
          cases j with
          | zero => simpa using ht
          | succ j => simpa using h1 j (by simpa using hj)
        · simp only [tokF, List.find?_cons, hb] at *
          exact h2

def roleT (ts : List Tok) (n clock : Int) : Int :=
  match tokF ts n with
  | none => 0
  | some t => if t.gone || decide (t.till ≤ clock) then 0 else t.role

set_option maxHeartbeats 400000 in
theorem ringRole_any (base b o : Nat) (ao : Option Addr) (cap : Nat) (ts : List Tok) (n clock : Int) (w : World) (hr : RingAt w base b o ao cap ts) (hlen : ts.length ≤ 1000) :
    Calls Tryd.prog 83 #[.pointer (some ⟨b, o, none⟩), .int .i64 n, .int .i64 clock] w fun e w' => e = .returned (.int .i64 (roleT ts n clock)) ∧ Below w.heap.size w w' := by
  have c := hr.c
  rcases tok_cases ts n with ⟨i, hi, h1, h2, h3⟩ | ⟨h1, h3⟩
  · obtain ⟨g, rfl, hg, hx⟩ := hr.tok i hi
    obtain ⟨d0, d1, d2, d3, f3⟩ := hx
    have Hc := hide (ringFind_some base b o _ cap ts n w hr hlen i hi h1 h2)
    have HF := hide (show roleT ts n clock = if ts[i].gone || decide (ts[i].till ≤ clock) then 0 else ts[i].role by simp [roleT, h3])
    clear h1 h2 h3
    go_enter Tryd.func83, Tryd.ntmps83
    go_wp2_with fail
    refine Hc.out.mono ?_
    rintro e w1 ⟨rfl, h⟩
    subst h
    go_wp2_with fail
    · go_ret
      exact ⟨ret_int (by rw [HF.out]; simp [*]), (Below.refl _ _).alloc (Nat.le_refl _) _⟩
    · go_ret
      exact ⟨ret_int (by rw [HF.out]; simp [*]), (Below.refl _ _).alloc (Nat.le_refl _) _⟩
    · go_ret
      exact ⟨ret_int (by rw [HF.out, if_neg]; simp [*]), (Below.refl _ _).alloc (Nat.le_refl _) _⟩
  · have Hc := hide (ringFind_none base b o ao cap ts n w hr hlen h1)
    have HF := hide (show roleT ts n clock = 0 by simp [roleT, h3])
    clear h1 h3
    go_enter Tryd.func83, Tryd.ntmps83
    go_wp2_with fail
    refine Hc.out.mono ?_
    rintro e w1 ⟨rfl, h⟩
    subst h
    go_wp2_with fail
    go_ret
    exact ⟨ret_int HF.out.symm, Below.refl _ _⟩

end Go.Proofs.YtgcldedkempjhaaDoor
