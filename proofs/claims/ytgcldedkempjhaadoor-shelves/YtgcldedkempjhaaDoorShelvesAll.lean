/-
  For every slice of items and every number the law Shelves (who sees what of any versions that were let in, ahead of a grant and behind it; what is there twice, or for what there is no room, is refused) returns true, and the items read behind the call as they did before it.
  Its conditions: no condition beside: every slice of items that can be read, every int; the tables of strconv and math/bits hold what the program's text lays (the card ties them to that text).
-/
import Derived.Test.YtgcldedkempjhaaDoorRows
import Derived.Test.YtgcldedkempjhaaDoorBaseRow
import Derived.ProofKit
import Derived.OpenShut
import Derived.ShutString
import Derived.ChangeOld
import Derived.Deep.Slices
import Derived.Deep.DeepHandedRow
import Derived.Lib.LaidTab
import Derived.Test.YtgcldedkempjhaaDoorShopG
import Derived.Test.YtgcldedkempjhaaDoorCards
import Derived.Test.YtgcldedkempjhaaDoorTie
import Derived.Test.YtgcldedkempjhaaDoorShopV
import Derived.Test.YtgcldedkempjhaaDoorTab
namespace Go.Proofs.YtgcldedkempjhaaDoor
section
open Go.ChangeShapes Go.WideShapes Go.ChangeAt Go.RowKit

theorem ownNone : ownKnob Tryd.prog.godebug = none := by kernel_rfl
theorem laidOut : laidOutB Tryd.prog = true := by kernel_rfl

/-- An object whose cells hold these values. -/
def layCells (c : Array Value) : Obj → Obj
  | .cells _ t frozen => .cells c t frozen
  | o => o

/-- A world in which the listed tables hold what the program's text lays. -/
def laidWorldOf (P : Program) (os : Os) : World :=
  { World.holding P os ⟨#[], #[], []⟩ with heap := ((((World.holding P os ⟨#[], #[], []⟩).heap.modify 0 (layCells #[.int .u64 1, .int .u64 10, .int .u64 100, .int .u64 1000, .int .u64 10000, .int .u64 100000, .int .u64 1000000, .int .u64 10000000, .int .u64 100000000, .int .u64 1000000000, .int .u64 10000000000, .int .u64 100000000000, .int .u64 1000000000000, .int .u64 10000000000000, .int .u64 100000000000000, .int .u64 1000000000000000, .int .u64 10000000000000000, .int .u64 100000000000000000, .int .u64 1000000000000000000, .int .u64 10000000000000000000])).modify 1 (layCells #[.int .u8 0, .int .u8 1, .int .u8 28, .int .u8 2, .int .u8 29, .int .u8 14, .int .u8 24, .int .u8 3, .int .u8 30, .int .u8 22, .int .u8 20, .int .u8 15, .int .u8 25, .int .u8 17, .int .u8 4, .int .u8 8, .int .u8 31, .int .u8 27, .int .u8 13, .int .u8 23, .int .u8 21, .int .u8 19, .int .u8 16, .int .u8 7, .int .u8 26, .int .u8 12, .int .u8 18, .int .u8 6, .int .u8 11, .int .u8 5, .int .u8 10, .int .u8 9])).modify 2 (layCells #[.int .u8 0, .int .u8 1, .int .u8 56, .int .u8 2, .int .u8 57, .int .u8 49, .int .u8 28, .int .u8 3, .int .u8 61, .int .u8 58, .int .u8 42, .int .u8 50, .int .u8 38, .int .u8 29, .int .u8 17, .int .u8 4, .int .u8 62, .int .u8 47, .int .u8 59, .int .u8 36, .int .u8 45, .int .u8 43, .int .u8 51, .int .u8 22, .int .u8 53, .int .u8 39, .int .u8 33, .int .u8 30, .int .u8 24, .int .u8 18, .int .u8 12, .int .u8 5, .int .u8 63, .int .u8 55, .int .u8 48, .int .u8 27, .int .u8 60, .int .u8 41, .int .u8 37, .int .u8 16, .int .u8 46, .int .u8 35, .int .u8 44, .int .u8 21, .int .u8 52, .int .u8 32, .int .u8 23, .int .u8 11, .int .u8 54, .int .u8 26, .int .u8 40, .int .u8 15, .int .u8 34, .int .u8 20, .int .u8 31, .int .u8 10, .int .u8 25, .int .u8 14, .int .u8 19, .int .u8 9, .int .u8 13, .int .u8 8, .int .u8 7, .int .u8 6])) }

end

section
open Go.ChangeShapes Go.WideShapes Go.ChangeAt Go.RowKit

theorem Tryd.cellsItem : Tryd.prog.cellsOf 65 = 4 := by kernel_rfl
theorem Tryd.cellsNeed : Tryd.prog.cellsOf 62 = 3 := by kernel_rfl
theorem Tryd.cellsIntI : Tryd.prog.cellsOf 3 = 1 := by kernel_rfl
theorem Tryd.cellsBoolI : Tryd.prog.cellsOf 4 = 1 := by kernel_rfl
theorem Tryd.cellsNeedsI : Tryd.prog.cellsOf 49 = 1 := by kernel_rfl

theorem iaddr_cell {w : World} {a : Addr} {j : Nat} {v : Value} (h : w.cell? (a.add j) = some v) : w.cell? ⟨a.block, a.off + j, none⟩ = some v := by
  obtain ⟨b, o, sp⟩ := a
  have hs := World.cell?_spot h
  by_cases hj : j = 0
  · subst hj
    simp [Addr.add] at hs h ⊢
    subst hs
    exact h
  · simpa [Addr.add, hj] using h

theorem iaddr_spot {w : World} {a : Addr} {v : Value} (h : w.cell? (a.add 0) = some v) : a.spot = none := by
  have hs := World.cell?_spot h
  simpa [Addr.add] using hs

section
variable {H : Type} {enc : TypeId × Value → H} {w : World} {spare : Nat → Bool} {held : Bool}

set_option maxRecDepth 100000 in
theorem need_open {n i : Nat} {a : Addr} {cs : List Value} {d : DataW H} {pl : List MemPlace}
    (h1 : w.cells? 0 (a.add (i * 3)) 3 = some cs) (h2 : DataW.trod enc Tryd.prog w 0 spare held n 62 cs = some (d, pl)) :
    ∃ x : RNd, (i = 0 → a.spot = none) ∧ a.block < w.heap.size ∧ RNdAt w a.block (a.off + i * 3) x ∧ RNdOk x := by
  obtain ⟨_, hlen, hcell⟩ := World.cells?_some h1
  obtain ⟨xs, k, _, _, _, hxl, hf⟩ := DataW.trod_struct Tryd.underlying62 h2
  have hxl' : xs.length = 3 := hxl
  match cs, hlen with
  | [v0, v1, v2], _ =>
    have hx : ∀ j, j < 3 → ∃ y, xs[j]? = some y := fun j hj => ⟨xs[j]'(by omega), List.getElem?_eq_getElem _⟩
    have g0 : DataW.trod enc Tryd.prog w 0 spare held k 3 ((([v0, v1, v2] : List Value).drop 0).take (Tryd.prog.cellsOf 3)) = xs[0]? := hf 0 _ rfl
    rw [Tryd.cellsIntI] at g0
    obtain ⟨y0, e0⟩ := hx 0 (by omega)
    have g1 : DataW.trod enc Tryd.prog w 0 spare held k 3 ((([v0, v1, v2] : List Value).drop 1).take (Tryd.prog.cellsOf 3)) = xs[1]? := hf 1 _ rfl
    rw [Tryd.cellsIntI] at g1
    obtain ⟨y1, e1⟩ := hx 1 (by omega)
    have g2 : DataW.trod enc Tryd.prog w 0 spare held k 3 ((([v0, v1, v2] : List Value).drop 2).take (Tryd.prog.cellsOf 3)) = xs[2]? := hf 2 _ rfl
    rw [Tryd.cellsIntI] at g2
    obtain ⟨y2, e2⟩ := hx 2 (by omega)
    obtain ⟨n0, q0, _, u0⟩ := DataW.trod_int Tryd.underlying3 (g0.trans e0)
    obtain ⟨n1, q1, _, u1⟩ := DataW.trod_int Tryd.underlying3 (g1.trans e1)
    obtain ⟨n2, q2, _, u2⟩ := DataW.trod_int Tryd.underlying3 (g2.trans e2)
    simp at q0 q1 q2
    subst q0 q1 q2
    have c : ∀ j v, j < 3 → [Value.int .i64 n0, Value.int .i64 n1, Value.int .i64 n2][j]? = some v → w.cell? ⟨a.block, a.off + i * 3 + j, none⟩ = some v := by
      intro j v hj hv
      have := (hcell j hj).trans hv
      rw [Go.Deep.add_add] at this
      have := iaddr_cell this
      rwa [← Nat.add_assoc] at this
    refine ⟨⟨n0, n1, n2⟩, ?_, ?_, ⟨c 0 _ (by omega) rfl, c 1 _ (by omega) rfl, c 2 _ (by omega) rfl⟩, ⟨(bounds_i64 u0).1, (bounds_i64 u0).2, (bounds_i64 u1).1, (bounds_i64 u1).2, (bounds_i64 u2).1, (bounds_i64 u2).2⟩⟩
    · intro hi
      subst hi
      have := (hcell 0 (by omega)).trans rfl
      rw [Go.Deep.add_add] at this
      exact iaddr_spot this
    · exact World.block_lt_of_cell? w ⟨a.block, a.off + i * 3 + 0, none⟩ (c 0 _ (by omega) rfl)

/-- A slice of needs. -/
theorem needs_open {n : Nat} {v : Value} {d : DataW H} {pl : List MemPlace} (h : DataW.trod enc Tryd.prog w 0 spare held n 49 [v] = some (d, pl)) :
    ∃ so len cap f, v = .slice so len cap ∧ len ≤ 9223372036854775807 ∧ RNds w so len f := by
  rcases Go.Deep.open_slice Tryd.underlying49 h with ⟨hcs, _⟩ | ⟨a, len, cap, m, n', D, Pl, hcs, _, hl, hm, hmm, _, hx⟩
  · simp at hcs
    subst hcs
    exact ⟨none, 0, 0, fun _ => ⟨0, 0, 0⟩, rfl, by omega, fun i hi => by omega⟩
  · simp at hcs
    subst hcs
    rw [Tryd.cellsNeed] at hx
    have hlm : len ≤ m := by rw [hmm]; split <;> omega
    have each : ∀ i, i < len → ∃ x : RNd, (i = 0 → a.spot = none) ∧ a.block < w.heap.size ∧ RNdAt w a.block (a.off + i * 3) x ∧ RNdOk x := by
      intro i hi
      obtain ⟨cs', e1, e2⟩ := hx i (by omega)
      exact need_open e1 e2
    have hsp : 0 < len → a = ⟨a.block, a.off, none⟩ := by
      intro h
      obtain ⟨x, hs, _⟩ := each 0 h
      have := hs rfl
      cases a
      simp_all
    refine ⟨some a, len, cap, fun i => if hi : i < len then Classical.choose (each i hi) else ⟨0, 0, 0⟩, rfl, by unfold maxLen at hm; omega, fun i hi _ => ?_⟩
    have hs := Classical.choose_spec (each i hi)
    refine ⟨a.block, a.off, by rw [← hsp (by omega)], hs.2.1, ?_, ?_⟩
    · simp only [dif_pos hi]; exact hs.2.2.1
    · simp only [dif_pos hi]; exact hs.2.2.2

set_option maxRecDepth 100000 in
theorem item_open {n i : Nat} {a : Addr} {cs : List Value} {d : DataW H} {pl : List MemPlace}
    (h1 : w.cells? 0 (a.add (i * 4)) 4 = some cs) (h2 : DataW.trod enc Tryd.prog w 0 spare held n 65 cs = some (d, pl)) :
    ∃ x : RIt, (i = 0 → a.spot = none) ∧ a.block < w.heap.size ∧ RItAt w a.block (a.off + i * 4) x ∧ RItOk w x := by
  obtain ⟨_, hlen, hcell⟩ := World.cells?_some h1
  obtain ⟨xs, k, _, _, _, hxl, hf⟩ := DataW.trod_struct Tryd.underlying65 h2
  have hxl' : xs.length = 4 := hxl
  match cs, hlen with
  | [v0, v1, v2, v3], _ =>
    have hx : ∀ j, j < 4 → ∃ y, xs[j]? = some y := fun j hj => ⟨xs[j]'(by omega), List.getElem?_eq_getElem _⟩
    have g0 : DataW.trod enc Tryd.prog w 0 spare held k 3 ((([v0, v1, v2, v3] : List Value).drop 0).take (Tryd.prog.cellsOf 3)) = xs[0]? := hf 0 _ rfl
    rw [Tryd.cellsIntI] at g0
    obtain ⟨y0, e0⟩ := hx 0 (by omega)
    have g1 : DataW.trod enc Tryd.prog w 0 spare held k 3 ((([v0, v1, v2, v3] : List Value).drop 1).take (Tryd.prog.cellsOf 3)) = xs[1]? := hf 1 _ rfl
    rw [Tryd.cellsIntI] at g1
    obtain ⟨y1, e1⟩ := hx 1 (by omega)
    have g2 : DataW.trod enc Tryd.prog w 0 spare held k 4 ((([v0, v1, v2, v3] : List Value).drop 2).take (Tryd.prog.cellsOf 4)) = xs[2]? := hf 2 _ rfl
    rw [Tryd.cellsBoolI] at g2
    obtain ⟨y2, e2⟩ := hx 2 (by omega)
    have g3 : DataW.trod enc Tryd.prog w 0 spare held k 49 ((([v0, v1, v2, v3] : List Value).drop 3).take (Tryd.prog.cellsOf 49)) = xs[3]? := hf 3 _ rfl
    rw [Tryd.cellsNeedsI] at g3
    obtain ⟨y3, e3⟩ := hx 3 (by omega)
    obtain ⟨n0, q0, _, u0⟩ := DataW.trod_int Tryd.underlying3 (g0.trans e0)
    obtain ⟨n1, q1, _, u1⟩ := DataW.trod_int Tryd.underlying3 (g1.trans e1)
    obtain ⟨b2, q2, _⟩ := DataW.trod_bool Tryd.underlying4 (g2.trans e2)
    obtain ⟨so, len, cap, f, q3, hl, hnd⟩ := needs_open (d := y3.1) (pl := y3.2) (g3.trans e3)
    simp at q0 q1 q2
    subst q0 q1 q2 q3
    have c : ∀ j v, j < 4 → [Value.int .i64 n0, Value.int .i64 n1, Value.bool b2, Value.slice so len cap][j]? = some v → w.cell? ⟨a.block, a.off + i * 4 + j, none⟩ = some v := by
      intro j v hj hv
      have := (hcell j hj).trans hv
      rw [Go.Deep.add_add] at this
      have := iaddr_cell this
      rwa [← Nat.add_assoc] at this
    refine ⟨⟨n0, n1, b2, so, len, cap, f⟩, ?_, ?_, ⟨c 0 _ (by omega) rfl, c 1 _ (by omega) rfl, c 2 _ (by omega) rfl, c 3 _ (by omega) rfl⟩, ⟨(bounds_i64 u0).1, (bounds_i64 u0).2, (bounds_i64 u1).1, (bounds_i64 u1).2, hl, hnd⟩⟩
    · intro hi
      subst hi
      have := (hcell 0 (by omega)).trans rfl
      rw [Go.Deep.add_add] at this
      exact iaddr_spot this
    · exact World.block_lt_of_cell? w ⟨a.block, a.off + i * 4 + 0, none⟩ (c 0 _ (by omega) rfl)

/-- The items, out of their reading. -/
theorem items_open {n : Nat} {so : Option Addr} {len cap : Nat} {d : DataW H} {pl : List MemPlace} (h : DataW.trod enc Tryd.prog w 0 spare held n 39 [.slice so len cap] = some (d, pl)) :
    ∃ F, len ≤ 9223372036854775807 ∧ RIts w so len F := by
  rcases Go.Deep.open_slice Tryd.underlying39 h with ⟨hcs, _⟩ | ⟨a, l, c, m, n', D, Pl, hcs, _, hl, hm, hmm, _, hx⟩
  · simp at hcs
    obtain ⟨rfl, rfl, rfl⟩ := hcs
    exact ⟨fun _ => ⟨0, 0, false, none, 0, 0, fun _ => ⟨0, 0, 0⟩⟩, by omega, fun i hi => by omega⟩
  · simp at hcs
    obtain ⟨rfl, rfl, rfl⟩ := hcs
    rw [Tryd.cellsItem] at hx
    have hlm : len ≤ m := by rw [hmm]; split <;> omega
    have each : ∀ i, i < len → ∃ x : RIt, (i = 0 → a.spot = none) ∧ a.block < w.heap.size ∧ RItAt w a.block (a.off + i * 4) x ∧ RItOk w x := by
      intro i hi
      obtain ⟨cs', e1, e2⟩ := hx i (by omega)
      exact item_open e1 e2
    have hsp : 0 < len → a = ⟨a.block, a.off, none⟩ := by
      intro h
      obtain ⟨x, hs, _⟩ := each 0 h
      have := hs rfl
      cases a
      simp_all
    refine ⟨fun i => if hi : i < len then Classical.choose (each i hi) else ⟨0, 0, false, none, 0, 0, fun _ => ⟨0, 0, 0⟩⟩, by unfold maxLen at hm; omega, fun i hi => ?_⟩
    have hs := Classical.choose_spec (each i hi)
    refine ⟨a.block, a.off, by rw [← hsp (by omega)], hs.2.1, ?_, ?_⟩
    · simp only [dif_pos hi]; exact hs.2.2.1
    · simp only [dif_pos hi]; exact hs.2.2.2

end

end

section
open Go.ChangeShapes Go.WideShapes Go.ChangeAt Go.RowKit

theorem shelves_laid_met (os : Os) : laidMet Tryd.prog Rows.shelvesRow.laid ((laidWorldOf Tryd.prog os).forCall (fun _ _ => 0) ⟨#[], #[.slice none 0 0, .int .i64 0], []⟩).memory :=
  laidMet_of_run' 8 (by kernel_rfl) (by kernel_rfl)

theorem shelves_reads (os : Os) {H : Type} (enc : TypeId × Value → H) : ∃ places, DataW.whole enc Tryd.prog ((laidWorldOf Tryd.prog os).forCall (fun _ _ => 0) ⟨#[], #[.slice none 0 0, .int .i64 0], []⟩).memory Tryd.f4.params.toList Rows.shelvesSpec.vars false #[Value.slice none 0 0, Value.int .i64 0].toList 8 = some ([.nil, .lit (.int .i64 0)], [], places) :=
  ⟨[], by kernel_rfl⟩

set_option maxRecDepth 100000 in
theorem shelves_contract (H : Type) (enc : TypeId × Value → H) (W : World) (base : Nat) (args : Array Value) (ds gs : List (DataW H)) (before : List MemPlace)
    (hval0 : ∀ (j : Nat) t v, Tryd.f4.params[j]? = some t → args[j]? = some v → Value.okWide Tryd.prog W .any base t v)
    (hW : DataW.Whole enc Tryd.prog Tryd.f4.params.toList Rows.shelvesSpec.vars false W args.toList ds gs before) (htab : TabOk W) :
    Calls Tryd.prog 4 args W fun e W' => ∃ v, e = .returned v ∧ Rows.shelvesSpec.post enc Tryd.prog Tryd.f4 false true false false W args v W' := by
  have hval : ∀ (j : Nat) t v, Tryd.f4.params[j]? = some t → args[j]? = some v → Value.okWide Tryd.prog W .any base t v := hval0
  have hW' := hW
  obtain ⟨p, q, hA0, hV, rfl, hfz, hnd⟩ := hW
  have hA : DataW.TrodAll enc Tryd.prog W 0 (fun _ => true) true Tryd.f4.params.toList args.toList ds p := hA0
  rw [Tryd.params4] at hA hval
  obtain ⟨v1, vs1, d1, ds1, p1, q1, hargs, rfl, rfl, h1, r1⟩ := trodAll_cons hA
  obtain ⟨v2, vs2, d2, ds2, p2, q2, rfl, rfl, rfl, h2, r2⟩ := trodAll_cons r1
  obtain ⟨rfl, rfl, rfl⟩ := trodAll_nil r2
  obtain rfl : args = #[v1, v2] := by cases args; simp_all
  obtain ⟨rfl, rfl⟩ := trodVars_none hV
  obtain ⟨so, len, cap, rfl⟩ := okWide_slice Tryd.underlying39 (hval 0 39 v1 rfl rfl)
  obtain ⟨G, rfl, rfl, rfl, wG⟩ := open_int Tryd.underlying3 (hval 1 3 v2 rfl rfl) h2
  have k1 := h1
  have lt1 : ∀ x ∈ p1, x.block < W.heap.size := by obtain ⟨m, hm⟩ := k1; exact DataW.trod_lt m _ _ _ hm
  obtain ⟨F, hlen, hits⟩ : ∃ F, len ≤ 9223372036854775807 ∧ RIts W so len F := by
    obtain ⟨fuel, hf⟩ := h1
    exact items_open hf
  clear hA0 hval0
  refine (shelves_any so len cap F G W htab hlen hits (bounds_i64 wG).1 (bounds_i64 wG).2).mono fun e W' ⟨he, bel⟩ => ?_
  subst he
  exact ⟨_, rfl, _, _, _, [], _, [], hW', trodAll_mk1 (shut_bool Tryd.underlying4 _), (trodAll_cons_mk (Below.trod laidOut (by kernel_rfl) (of_decide_eq_true (by kernel_rfl)) k1 bel lt1) (trodAll_cons_mk (shut_int Tryd.underlying3 wG) trodAll_mk0)), rfl, bel.frame _, fun h => by cases h⟩

set_option maxRecDepth 100000 in
theorem shelves_lifted (os : Os) (started : os.Started) (H : Type) (enc : TypeId × Value → H) (F : Stop.Interp) :
    ReturnsInHanded {} Tryd.checked os 4 .any ((OpenSpec.ofChange Rows.shelvesSpec).preRow enc Tryd.prog Tryd.f4 Rows.shelvesRow.domain false Rows.shelvesRow.laid) (((OpenSpec.ofChange Rows.shelvesSpec).at F).post enc Tryd.prog Tryd.f4 false true false false) := by
  obtain ⟨places, hx⟩ := shelves_reads os enc
  refine returnsInHanded_of_row (C := Tryd.checked) (s := OpenSpec.ofChange Rows.shelvesSpec) ownNone started (by kernel_rfl) Tryd.func4
    (witness_row_at (enc := enc) (C := Tryd.checked) false (laidWorldOf Tryd.prog os) #[.slice none 0 0, .int .i64 0] rfl (by kernel_rfl) (by kernel_rfl) (by kernel_rfl)
      (OpenSpec.preRow_of_cond 8 hx (by kernel_rfl) (fun k hk => by cases hk) (by kernel_rfl) (shelves_laid_met os))) ?_
  intro W base args ds gs before hval hW _ _ _ hlaid _ _
  exact shelves_contract H enc W base args ds gs before hval hW (tab_of (l := Rows.shelvesRow.laid) (by kernel_rfl) (by kernel_rfl) hlaid)

theorem shelves_said : Rows.ShelvesSaid :=
  OpenClaim.holds_of_cond 4 Tryd.f4 rfl rfl rfl rfl rfl rfl rfl ⟨rfl, rfl, rfl, rfl, rfl⟩ rfl rfl rfl rfl rfl (by kernel_rfl) Tryd.func4 (by kernel_rfl)
    (of_decide_eq_true (by kernel_rfl)) (by unfold Func.isWrapper; first | (rw [if_pos (by decide +kernel)]; kernel_rfl) | (rw [if_neg (by decide +kernel)]; exact ⟨rfl, rfl⟩))
    (fun os started H enc _ F => by rw [OpenClaim.pre_eq_preRow]; exact shelves_lifted os started H enc F)

theorem shelves_plain (f : FuncId) (fn : Func) (hf : Tryd.pinned.checked.prog.funcNamed "depot/depotkeep.Shelves" = some f) (hfn : Tryd.pinned.checked.prog.funcs[f]? = some fn) :
    false = Tryd.pinned.checked.prog.looks [] ∧ ∀ (j : Nat) t, fn.params[j]? = some t → Tryd.pinned.checked.prog.wantsStandIn t = false := by
  obtain rfl : f = 4 := Option.some.inj ((show Tryd.prog.funcNamed "depot/depotkeep.Shelves" = some 4 by kernel_rfl).symm.trans hf) |>.symm
  obtain rfl : fn = Tryd.f4 := (Option.some.inj (Tryd.func4.symm.trans hfn)).symm
  refine ⟨by kernel_rfl, fun j t ht => ?_⟩
  rw [Tryd.params4] at ht
  have hm := Array.mem_of_getElem? ht
  simp at hm
  rcases hm with rfl | rfl
  · exact (show Tryd.prog.wantsStandIn 39 = false by kernel_rfl)
  · exact (show Tryd.prog.wantsStandIn 3 = false by kernel_rfl)

theorem shelves_card : Rows.ShelvesCardSaid :=
  Claim7.holds_tied_plain_at .later [] _ _ _ _ shelves_said (fun _ h => by cases h) (by kernel_rfl) (fun _ h => by cases h) shelves_row_tie rfl ⟨rfl, rfl⟩ (by kernel_rfl) rfl shelves_plain (by kernel_rfl)

#print axioms shelves_card

end

end Go.Proofs.YtgcldedkempjhaaDoor
