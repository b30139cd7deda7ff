/-
  shelf.Shelf: the versions on one shelf, in memory; find, Has, Yank.
-/
import Derived.Test.YtgcldedkempjhaaDoorWntB
namespace Go.Proofs.YtgcldedkempjhaaDoor
open Go.RowKit

structure Ed where
  label : ByteArray
  ver : Int
  wao : Option Addr
  wcap : Nat
  wants : List WantD
  off : Bool

def Ed.cells (x : Ed) : List Value := [.string x.label, .int .i64 x.ver, .slice x.wao x.wants.length x.wcap, .bool x.off]

def edsCells (l : List Ed) : List Value := l.flatMap Ed.cells

theorem Ed.cells_length (x : Ed) : x.cells.length = 4 := rfl

/-- A shelf whose header lies in the cell b, o. -/
structure ShelfAt (w : World) (base b o : Nat) (ao : Option Addr) (cap : Nat) (es : List Ed) : Prop where
  c : w.cell? ⟨b, o, none⟩ = some (.slice ao es.length cap)
  f : w.frozen? ⟨b, o, none⟩ = false
  own : w.ownsRow base 133 4 (.slice ao es.length cap) es.length (edsCells es)

structure EdAt (w : World) (g o : Nat) (x : Ed) : Prop where
  d0 : w.cell? ⟨g, o, none⟩ = some (.string x.label)
  d1 : w.cell? ⟨g, o + 1, none⟩ = some (.int .i64 x.ver)
  d2 : w.cell? ⟨g, o + 2, none⟩ = some (.slice x.wao x.wants.length x.wcap)
  d3 : w.cell? ⟨g, o + 3, none⟩ = some (.bool x.off)
  f3 : w.frozen? ⟨g, o + 3, none⟩ = false

theorem ShelfAt.ed {w : World} {base b o : Nat} {ao : Option Addr} {cap : Nat} {es : List Ed} (h : ShelfAt w base b o ao cap es) (k : Nat) (hk : k < es.length) :
    ∃ g, ao = some ⟨g, 0, none⟩ ∧ g < w.heap.size ∧ EdAt w g (k * 4) es[k] := by
  obtain ⟨g, hg, hlt, _, hc, hf⟩ := row_cell Ed.cells_length h.own k hk
  exact ⟨g, hg, hlt, hc 0 _ rfl, hc 1 _ rfl, hc 2 _ rfl, hc 3 _ rfl, hf _⟩

theorem ShelfAt.lt {w : World} {base b o : Nat} {ao : Option Addr} {cap : Nat} {es : List Ed} (h : ShelfAt w base b o ao cap es) : b < w.heap.size := World.block_lt_of_cell? w _ h.c

theorem ShelfAt.below {w w' : World} {base b o : Nat} {ao : Option Addr} {cap : Nat} {es : List Ed} (h : ShelfAt w base b o ao cap es) (hb : Below w.heap.size w w') : ShelfAt w' base b o ao cap es :=
  ⟨(hb.cell (p := ⟨b, o, none⟩) h.lt).trans h.c, (World.frozen?_of_block (a := ⟨b, o, none⟩) (hb.block b h.lt)).trans h.f, ownsRow_keep' h.own hb⟩

def edP (label : ByteArray) (v : Int) (e : Ed) : Bool := e.ver == v && e.label.toList == label.toList

def edF (es : List Ed) (label : ByteArray) (v : Int) : Option Ed := es.find? (edP label v)

set_option maxHeartbeats 400000 in
theorem shelfFind_some (base b o : Nat) (ao : Option Addr) (cap : Nat) (es : List Ed) (label : ByteArray) (v : Int) (w : World) (hr : ShelfAt w base b o ao cap es) (hlen : es.length ≤ 1000)
    (i : Nat) (hi : i < es.length) (hm : edP label v es[i] = true) (hno : ∀ j, (hj : j < es.length) → j < i → edP label v es[j] = false) :
    Calls Tryd.prog 91 #[.pointer (some ⟨b, o, none⟩), .string label, .int .i64 v] w fun e w' => e = .returned (.int .i64 i) ∧ w' = w := by
  have c := hr.c
  have HM := hide hm
  have HN := hide hno
  clear hm hno
  go_enter Tryd.func91, Tryd.ntmps91
  go_wp2
  go_loop [7] (fun x => ∃ k : Nat, k ≤ i ∧ x = .int .i64 k) (fun x => es.length - (intOf x).toNat)
  case atStart => exact ⟨0, Nat.zero_le _, rfl⟩
  case round =>
    obtain ⟨k, hk, rfl⟩ := hrel
    obtain ⟨g, rfl, hg, hx⟩ := hr.ed k (by omega)
    obtain ⟨d0, d1, d2, d3, f3⟩ := hx
    by_cases hlt : k < i
    · have H1 := hide (HN.out k (by omega) hlt)
      go_wp2
      all_goals first
        | (exfalso; have := H1.out; simp [edP, *] at this; done)
        | (go_round
           case rel => exact ⟨k + 1, by omega, by go_num⟩
           case measure => simp [intOf] <;> omega)
    · obtain rfl : k = i := by omega
      have t := HM.out
      unfold edP at t
      rw [Bool.and_eq_true] at t
      obtain ⟨t1, t2⟩ := t
      go_wp2
      go_ret
      exact ⟨rfl, rfl⟩

set_option maxHeartbeats 400000 in
theorem shelfFind_none (base b o : Nat) (ao : Option Addr) (cap : Nat) (es : List Ed) (label : ByteArray) (v : Int) (w : World) (hr : ShelfAt w base b o ao cap es) (hlen : es.length ≤ 1000)
    (hno : ∀ j, (hj : j < es.length) → edP label v es[j] = false) :
    Calls Tryd.prog 91 #[.pointer (some ⟨b, o, none⟩), .string label, .int .i64 v] w fun e w' => e = .returned (.int .i64 (-1)) ∧ w' = w := by
  have c := hr.c
  have HN := hide hno
  clear hno
  go_enter Tryd.func91, Tryd.ntmps91
  go_wp2
  go_loop [7] (fun x => ∃ k : Nat, k ≤ es.length ∧ x = .int .i64 k) (fun x => es.length - (intOf x).toNat)
  case atStart => exact ⟨0, Nat.zero_le _, rfl⟩
  case round =>
    obtain ⟨k, hk, rfl⟩ := hrel
    by_cases hlt : k < es.length
    · obtain ⟨g, rfl, hg, hx⟩ := hr.ed k (by omega)
      obtain ⟨d0, d1, d2, d3, f3⟩ := hx
      have H1 := hide (HN.out k (by omega))
      go_wp2
      all_goals first
        | (exfalso; have := H1.out; simp [edP, *] at this; done)
        | (go_round
           case rel => exact ⟨k + 1, by omega, by go_num⟩
           case measure => simp [intOf] <;> omega)
    · go_wp2
      go_ret
      exact ⟨rfl, rfl⟩

def hasE (es : List Ed) (label : ByteArray) : Bool := es.any fun e => e.label.toList == label.toList

set_option maxHeartbeats 400000 in
theorem shelfHas_any (base b o : Nat) (ao : Option Addr) (cap : Nat) (es : List Ed) (label : ByteArray) (w : World) (hr : ShelfAt w base b o ao cap es) (hlen : es.length ≤ 1000) :
    Calls Tryd.prog 50 #[.pointer (some ⟨b, o, none⟩), .string label] w fun e w' => e = .returned (.bool (hasE es label)) ∧ w' = w := by
  have c := hr.c
  go_enter Tryd.func50, Tryd.ntmps50
  go_wp2
  go_loop [5] (fun x => ∃ k : Nat, k ≤ es.length ∧ x = .int .i64 k ∧ ∀ j, (hj : j < es.length) → j < k → (es[j].label.toList == label.toList) = false) (fun x => es.length - (intOf x).toNat)
  case atStart => exact ⟨0, Nat.zero_le _, rfl, fun j _ h => by omega⟩
  case round =>
    obtain ⟨k, hk, rfl, hno⟩ := hrel
    have HN := hide hno
    clear hno
    by_cases hlt : k < es.length
    · obtain ⟨g, rfl, hg, hx⟩ := hr.ed k (by omega)
      obtain ⟨d0, d1, d2, d3, f3⟩ := hx
      cases ht : (es[k].label.toList == label.toList) with
      | true =>
        have HF := hide (show hasE es label = true by unfold hasE; rw [List.any_eq_true]; exact ⟨es[k], List.getElem_mem _, ht⟩)
        go_wp2
        go_ret
        exact ⟨ret_bool HF.out.symm, rfl⟩
      | false =>
        have HT := hide ht
        go_wp2
        go_round
        case rel =>
          refine ⟨k + 1, by omega, by go_num, fun j hj hlt' => ?_⟩
          by_cases hjk : j = k
          · subst hjk; exact HT.out
          · exact HN.out j hj (by omega)
        case measure => simp [intOf] <;> omega
    · have HF := hide (show hasE es label = false by
        unfold hasE
        rw [List.any_eq_false]
        intro x hx
        obtain ⟨j, hj, rfl⟩ := List.mem_iff_getElem.1 hx
        rw [HN.out j hj (by omega)]; decide)
      go_wp2
      go_ret
      exact ⟨ret_bool HF.out.symm, rfl⟩

/-- A shelf of which one version was taken back, or let count again. -/
def ShelfSet (w w' : World) (ao : Option Addr) (es : List Ed) (label : ByteArray) (v : Int) (off : Bool) : Prop :=
  ∃ i, ∃ hi : i < es.length, ∃ g, ao = some ⟨g, 0, none⟩ ∧ edP label v es[i] = true ∧ (∀ j, (hj : j < es.length) → j < i → edP label v es[j] = false) ∧ w' = w.setCell ⟨g, i * 4 + 3, none⟩ (.bool off)

set_option maxHeartbeats 400000 in
theorem shelfYank_any (base b o : Nat) (ao : Option Addr) (cap : Nat) (es : List Ed) (label : ByteArray) (v : Int) (off : Bool) (w : World) (hr : ShelfAt w base b o ao cap es) (hlen : es.length ≤ 1000) (E : Int)
    (hE : E = if (edF es label v).isSome then 0 else 7) :
    Calls Tryd.prog 100 #[.pointer (some ⟨b, o, none⟩), .string label, .int .i64 v, .bool off] w fun e w' => e = .returned (.int .i64 E) ∧
      ((E ≠ 0 ∧ w' = w) ∨ (E = 0 ∧ ShelfSet w w' ao es label v off)) := by
  have c := hr.c
  rcases find_cases (edP label v) es with ⟨i, hi, h1, h2, h3⟩ | ⟨h1, h3⟩
  · obtain ⟨g, rfl, hg, hx⟩ := hr.ed i hi
    obtain ⟨d0, d1, d2, d3, f3⟩ := hx
    have Hc := hide (shelfFind_some base b o _ cap es label v w hr hlen i hi h1 h2)
    have HP := hide (And.intro h1 h2)
    have H0 := hide (show E = 0 by rw [hE, edF, h3]; rfl)
    clear h1 h2 h3 hE
    go_enter Tryd.func100, Tryd.ntmps100
    go_wp2_with fail
    refine Hc.out.mono ?_
    rintro e w1 ⟨rfl, h⟩
    subst h
    go_wp2_with fail
    go_ret
    rw [H0.out]
    exact ⟨rfl, Or.inr ⟨rfl, i, hi, g, rfl, HP.out.1, HP.out.2, rfl⟩⟩
  · have Hc := hide (shelfFind_none base b o ao cap es label v w hr hlen h1)
    have H7 := hide (show E = 7 by rw [hE, edF, h3]; rfl)
    clear h1 h3 hE
    go_enter Tryd.func100, Tryd.ntmps100
    go_wp2_with fail
    refine Hc.out.mono ?_
    rintro e w1 ⟨rfl, h⟩
    subst h
    go_wp2_with fail
    go_ret
    rw [H7.out]
    exact ⟨rfl, Or.inl ⟨by decide, rfl⟩⟩

end Go.Proofs.YtgcldedkempjhaaDoor
