/-
  depotkeep: items and needs, out of their reading.
-/
import Derived.Test.YtgcldedkempjhaaDoorShopM
import Derived.Lib.LaidTab
import Derived.Deep.DeepHandedRow
import Derived.ChangeOld
import Derived.ShutString
import Derived.OpenShut
import Derived.ProofKit
import Derived.Test.YtgcldedkempjhaaDoorRows
import Derived.Deep.Slices
namespace Go.Proofs.YtgcldedkempjhaaDoor
open Go.ChangeShapes Go.WideShapes Go.ChangeAt Go.RowKit

theorem Tryd.cellsItem : Tryd.prog.cellsOf 65 = 4 := by kernel_rfl
theorem Tryd.cellsNeed : Tryd.prog.cellsOf 62 = 3 := by kernel_rfl
theorem Tryd.cellsIntI : Tryd.prog.cellsOf 3 = 1 := by kernel_rfl
theorem Tryd.cellsBoolI : Tryd.prog.cellsOf 4 = 1 := by kernel_rfl
theorem Tryd.cellsNeedsI : Tryd.prog.cellsOf 49 = 1 := by kernel_rfl

theorem iaddr_cell {w : World} {a : Addr} {j : Nat} {v : Value} (h : w.cell? (a.add j) = some v) : w.cell? ⟨a.block, a.off + j, none⟩ = some v := by
  obtain ⟨b, o, sp⟩ := a
  have hs := World.cell?_spot h
  by_cases hj : j = 0
  · subst hj
    simp [Addr.add] at hs h ⊢
    subst hs
    exact h
  · simpa [Addr.add, hj] using h

theorem iaddr_spot {w : World} {a : Addr} {v : Value} (h : w.cell? (a.add 0) = some v) : a.spot = none := by
  have hs := World.cell?_spot h
  simpa [Addr.add] using hs

section
variable {H : Type} {enc : TypeId × Value → H} {w : World} {spare : Nat → Bool} {held : Bool}

set_option maxRecDepth 100000 in
theorem need_open {n i : Nat} {a : Addr} {cs : List Value} {d : DataW H} {pl : List MemPlace}
    (h1 : w.cells? 0 (a.add (i * 3)) 3 = some cs) (h2 : DataW.trod enc Tryd.prog w 0 spare held n 62 cs = some (d, pl)) :
    ∃ x : RNd, (i = 0 → a.spot = none) ∧ a.block < w.heap.size ∧ RNdAt w a.block (a.off + i * 3) x ∧ RNdOk x := by
  obtain ⟨_, hlen, hcell⟩ := World.cells?_some h1
  obtain ⟨xs, k, _, _, _, hxl, hf⟩ := DataW.trod_struct Tryd.underlying62 h2
  have hxl' : xs.length = 3 := hxl
  match cs, hlen with
  | [v0, v1, v2], _ =>
    have hx : ∀ j, j < 3 → ∃ y, xs[j]? = some y := fun j hj => ⟨xs[j]'(by omega), List.getElem?_eq_getElem _⟩
    have g0 : DataW.trod enc Tryd.prog w 0 spare held k 3 ((([v0, v1, v2] : List Value).drop 0).take (Tryd.prog.cellsOf 3)) = xs[0]? := hf 0 _ rfl
    rw [Tryd.cellsIntI] at g0
    obtain ⟨y0, e0⟩ := hx 0 (by omega)
    have g1 : DataW.trod enc Tryd.prog w 0 spare held k 3 ((([v0, v1, v2] : List Value).drop 1).take (Tryd.prog.cellsOf 3)) = xs[1]? := hf 1 _ rfl
    rw [Tryd.cellsIntI] at g1
    obtain ⟨y1, e1⟩ := hx 1 (by omega)
    have g2 : DataW.trod enc Tryd.prog w 0 spare held k 3 ((([v0, v1, v2] : List Value).drop 2).take (Tryd.prog.cellsOf 3)) = xs[2]? := hf 2 _ rfl
    rw [Tryd.cellsIntI] at g2
    obtain ⟨y2, e2⟩ := hx 2 (by omega)
    obtain ⟨n0, q0, _, u0⟩ := DataW.trod_int Tryd.underlying3 (g0.trans e0)
    obtain ⟨n1, q1, _, u1⟩ := DataW.trod_int Tryd.underlying3 (g1.trans e1)
    obtain ⟨n2, q2, _, u2⟩ := DataW.trod_int Tryd.underlying3 (g2.trans e2)
    simp at q0 q1 q2
    subst q0 q1 q2
    have c : ∀ j v, j < 3 → [Value.int .i64 n0, Value.int .i64 n1, Value.int .i64 n2][j]? = some v → w.cell? ⟨a.block, a.off + i * 3 + j, none⟩ = some v := by
      intro j v hj hv
      have := (hcell j hj).trans hv
      rw [Go.Deep.add_add] at this
      have := iaddr_cell this
      rwa [← Nat.add_assoc] at this
    refine ⟨⟨n0, n1, n2⟩, ?_, ?_, ⟨c 0 _ (by omega) rfl, c 1 _ (by omega) rfl, c 2 _ (by omega) rfl⟩, ⟨(bounds_i64 u0).1, (bounds_i64 u0).2, (bounds_i64 u1).1, (bounds_i64 u1).2, (bounds_i64 u2).1, (bounds_i64 u2).2⟩⟩
    · intro hi
      subst hi
      have := (hcell 0 (by omega)).trans rfl
      rw [Go.Deep.add_add] at this
      exact iaddr_spot this
    · exact World.block_lt_of_cell? w ⟨a.block, a.off + i * 3 + 0, none⟩ (c 0 _ (by omega) rfl)

/-- A slice of needs. -/
theorem needs_open {n : Nat} {v : Value} {d : DataW H} {pl : List MemPlace} (h : DataW.trod enc Tryd.prog w 0 spare held n 49 [v] = some (d, pl)) :
    ∃ so len cap f, v = .slice so len cap ∧ len ≤ 9223372036854775807 ∧ RNds w so len f := by
  rcases Go.Deep.open_slice Tryd.underlying49 h with ⟨hcs, _⟩ | ⟨a, len, cap, m, n', D, Pl, hcs, _, hl, hm, hmm, _, hx⟩
  · simp at hcs
    subst hcs
    exact ⟨none, 0, 0, fun _ => ⟨0, 0, 0⟩, rfl, by omega, fun i hi => by omega⟩
  · simp at hcs
    subst hcs
    rw [Tryd.cellsNeed] at hx
    have hlm : len ≤ m := by rw [hmm]; split <;> omega
    have each : ∀ i, i < len → ∃ x : RNd, (i = 0 → a.spot = none) ∧ a.block < w.heap.size ∧ RNdAt w a.block (a.off + i * 3) x ∧ RNdOk x := by
      intro i hi
      obtain ⟨cs', e1, e2⟩ := hx i (by omega)
      exact need_open e1 e2
    have hsp : 0 < len → a = ⟨a.block, a.off, none⟩ := by
      intro h
      obtain ⟨x, hs, _⟩ := each 0 h
      have := hs rfl
      cases a
      simp_all
    refine ⟨some a, len, cap, fun i => if hi : i < len then Classical.choose (each i hi) else ⟨0, 0, 0⟩, rfl, by unfold maxLen at hm; omega, fun i hi _ => ?_⟩
    have hs := Classical.choose_spec (each i hi)
    refine ⟨a.block, a.off, by rw [← hsp (by omega)], hs.2.1, ?_, ?_⟩
    · simp only [dif_pos hi]; exact hs.2.2.1
    · simp only [dif_pos hi]; exact hs.2.2.2

set_option maxRecDepth 100000 in
theorem item_open {n i : Nat} {a : Addr} {cs : List Value} {d : DataW H} {pl : List MemPlace}
    (h1 : w.cells? 0 (a.add (i * 4)) 4 = some cs) (h2 : DataW.trod enc Tryd.prog w 0 spare held n 65 cs = some (d, pl)) :
    ∃ x : RIt, (i = 0 → a.spot = none) ∧ a.block < w.heap.size ∧ RItAt w a.block (a.off + i * 4) x ∧ RItOk w x := by
  obtain ⟨_, hlen, hcell⟩ := World.cells?_some h1
  obtain ⟨xs, k, _, _, _, hxl, hf⟩ := DataW.trod_struct Tryd.underlying65 h2
  have hxl' : xs.length = 4 := hxl
  match cs, hlen with
  | [v0, v1, v2, v3], _ =>
    have hx : ∀ j, j < 4 → ∃ y, xs[j]? = some y := fun j hj => ⟨xs[j]'(by omega), List.getElem?_eq_getElem _⟩
    have g0 : DataW.trod enc Tryd.prog w 0 spare held k 3 ((([v0, v1, v2, v3] : List Value).drop 0).take (Tryd.prog.cellsOf 3)) = xs[0]? := hf 0 _ rfl
    rw [Tryd.cellsIntI] at g0
    obtain ⟨y0, e0⟩ := hx 0 (by omega)
    have g1 : DataW.trod enc Tryd.prog w 0 spare held k 3 ((([v0, v1, v2, v3] : List Value).drop 1).take (Tryd.prog.cellsOf 3)) = xs[1]? := hf 1 _ rfl
    rw [Tryd.cellsIntI] at g1
    obtain ⟨y1, e1⟩ := hx 1 (by omega)
    have g2 : DataW.trod enc Tryd.prog w 0 spare held k 4 ((([v0, v1, v2, v3] : List Value).drop 2).take (Tryd.prog.cellsOf 4)) = xs[2]? := hf 2 _ rfl
    rw [Tryd.cellsBoolI] at g2
    obtain ⟨y2, e2⟩ := hx 2 (by omega)
    have g3 : DataW.trod enc Tryd.prog w 0 spare held k 49 ((([v0, v1, v2, v3] : List Value).drop 3).take (Tryd.prog.cellsOf 49)) = xs[3]? := hf 3 _ rfl
    rw [Tryd.cellsNeedsI] at g3
    obtain ⟨y3, e3⟩ := hx 3 (by omega)
    obtain ⟨n0, q0, _, u0⟩ := DataW.trod_int Tryd.underlying3 (g0.trans e0)
    obtain ⟨n1, q1, _, u1⟩ := DataW.trod_int Tryd.underlying3 (g1.trans e1)
    obtain ⟨b2, q2, _⟩ := DataW.trod_bool Tryd.underlying4 (g2.trans e2)
    obtain ⟨so, len, cap, f, q3, hl, hnd⟩ := needs_open (d := y3.1) (pl := y3.2) (g3.trans e3)
    simp at q0 q1 q2
    subst q0 q1 q2 q3
    have c : ∀ j v, j < 4 → [Value.int .i64 n0, Value.int .i64 n1, Value.bool b2, Value.slice so len cap][j]? = some v → w.cell? ⟨a.block, a.off + i * 4 + j, none⟩ = some v := by
      intro j v hj hv
      have := (hcell j hj).trans hv
      rw [Go.Deep.add_add] at this
      have := iaddr_cell this
      rwa [← Nat.add_assoc] at this
    refine ⟨⟨n0, n1, b2, so, len, cap, f⟩, ?_, ?_, ⟨c 0 _ (by omega) rfl, c 1 _ (by omega) rfl, c 2 _ (by omega) rfl, c 3 _ (by omega) rfl⟩, ⟨(bounds_i64 u0).1, (bounds_i64 u0).2, (bounds_i64 u1).1, (bounds_i64 u1).2, hl, hnd⟩⟩
    · intro hi
      subst hi
      have := (hcell 0 (by omega)).trans rfl
      rw [Go.Deep.add_add] at this
      exact iaddr_spot this
    · exact World.block_lt_of_cell? w ⟨a.block, a.off + i * 4 + 0, none⟩ (c 0 _ (by omega) rfl)

/-- The items, out of their reading. -/
theorem items_open {n : Nat} {so : Option Addr} {len cap : Nat} {d : DataW H} {pl : List MemPlace} (h : DataW.trod enc Tryd.prog w 0 spare held n 39 [.slice so len cap] = some (d, pl)) :
    ∃ F, len ≤ 9223372036854775807 ∧ RIts w so len F := by
  rcases Go.Deep.open_slice Tryd.underlying39 h with ⟨hcs, _⟩ | ⟨a, l, c, m, n', D, Pl, hcs, _, hl, hm, hmm, _, hx⟩
  · simp at hcs
    obtain ⟨rfl, rfl, rfl⟩ := hcs
    exact ⟨fun _ => ⟨0, 0, false, none, 0, 0, fun _ => ⟨0, 0, 0⟩⟩, by omega, fun i hi => by omega⟩
  · simp at hcs
    obtain ⟨rfl, rfl, rfl⟩ := hcs
    rw [Tryd.cellsItem] at hx
    have hlm : len ≤ m := by rw [hmm]; split <;> omega
    have each : ∀ i, i < len → ∃ x : RIt, (i = 0 → a.spot = none) ∧ a.block < w.heap.size ∧ RItAt w a.block (a.off + i * 4) x ∧ RItOk w x := by
      intro i hi
      obtain ⟨cs', e1, e2⟩ := hx i (by omega)
      exact item_open e1 e2
    have hsp : 0 < len → a = ⟨a.block, a.off, none⟩ := by
      intro h
      obtain ⟨x, hs, _⟩ := each 0 h
      have := hs rfl
      cases a
      simp_all
    refine ⟨fun i => if hi : i < len then Classical.choose (each i hi) else ⟨0, 0, false, none, 0, 0, fun _ => ⟨0, 0, 0⟩⟩, by unfold maxLen at hm; omega, fun i hi => ?_⟩
    have hs := Classical.choose_spec (each i hi)
    refine ⟨a.block, a.off, by rw [← hsp (by omega)], hs.2.1, ?_, ?_⟩
    · simp only [dif_pos hi]; exact hs.2.2.1
    · simp only [dif_pos hi]; exact hs.2.2.2

end

end Go.Proofs.YtgcldedkempjhaaDoor
