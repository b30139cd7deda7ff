/-
  depotlaw: a script out of its reading; a world for the witness.
-/
import Derived.Test.YtgcldedkempjhabGreatDoorRows
import Derived.Test.YtgcldedkempjhabGreatDoorLawPlay
import Derived.ProofKit
import Derived.OpenShut
import Derived.ShutString
import Derived.ChangeOld
import Derived.Deep.Slices
import Derived.Deep.DeepHandedRow
import Derived.Lib.LaidTab
import Derived.Test.YtgcldedkempjhabGreatDoorJrnMem
import Derived.LaidSub
import Derived.Test.YtgcldedkempjhabGreatDoorBaseRow
namespace Go.Proofs.YtgcldedkempjhabGreatDoor
section
open Go.RowKit

def keep20 (x : String × DataW Unit) : Bool :=
  match x.2 with
  | .agg l => l.length == 20
  | _ => false

def nm20 (l : List (String × DataW Unit)) : String := ((l.filter keep20).map fun x => x.1).headD ""

theorem tab_of {W : World} {l : List (String × DataW Unit)} (e : l.filter keep20 = [(nm20 l, Lib.tabData .u64 Lib.pow10Tab)]) (hn : Tryz.prog.globalNamed (nm20 l) = some 0) (h : laidMetH Tryz.prog l W) : TabOk W := by
  have h1 := h.filter keep20
  rw [e] at h1
  have h2 : laidMet Tryz.prog [(nm20 l, Lib.tabData .u64 Lib.pow10Tab)] W := h1
  have h3 := Lib.tabIs_of_head hn (show (Tryz.prog.globals[0]?).map (·.type) = some 208 by kernel_rfl) Tryz.underlying208 Tryz.underlying201 (by kernel_rfl) (by kernel_rfl) h2
  unfold Lib.TabIs World.var? at h3
  rw [hn] at h3
  simp only [Option.bind_some] at h3
  split at h3
  · rename_i cs t fr hh
    injection h3 with h3
    exact ⟨t, fr, by rw [hh, h3]⟩
  · cases h3

end

section
open Go.ChangeShapes Go.WideShapes Go.ChangeAt Go.RowKit

theorem ownNone : ownKnob Tryz.prog.godebug = none := by kernel_rfl
theorem laidOut : laidOutB Tryz.prog = true := by kernel_rfl

/-- An object whose cells hold these values. -/
def layCells (c : Array Value) : Obj → Obj
  | .cells _ t frozen => .cells c t frozen
  | o => o

/-- A world in which the listed tables hold what the program's text lays. -/
def laidWorldOf (P : Program) (os : Os) : World :=
  { World.holding P os ⟨#[], #[], []⟩ with heap := ((((World.holding P os ⟨#[], #[], []⟩).heap.modify 0 (layCells #[.int .u64 1, .int .u64 10, .int .u64 100, .int .u64 1000, .int .u64 10000, .int .u64 100000, .int .u64 1000000, .int .u64 10000000, .int .u64 100000000, .int .u64 1000000000, .int .u64 10000000000, .int .u64 100000000000, .int .u64 1000000000000, .int .u64 10000000000000, .int .u64 100000000000000, .int .u64 1000000000000000, .int .u64 10000000000000000, .int .u64 100000000000000000, .int .u64 1000000000000000000, .int .u64 10000000000000000000])).modify 1 (layCells #[.int .u8 0, .int .u8 1, .int .u8 28, .int .u8 2, .int .u8 29, .int .u8 14, .int .u8 24, .int .u8 3, .int .u8 30, .int .u8 22, .int .u8 20, .int .u8 15, .int .u8 25, .int .u8 17, .int .u8 4, .int .u8 8, .int .u8 31, .int .u8 27, .int .u8 13, .int .u8 23, .int .u8 21, .int .u8 19, .int .u8 16, .int .u8 7, .int .u8 26, .int .u8 12, .int .u8 18, .int .u8 6, .int .u8 11, .int .u8 5, .int .u8 10, .int .u8 9])).modify 2 (layCells #[.int .u8 0, .int .u8 1, .int .u8 56, .int .u8 2, .int .u8 57, .int .u8 49, .int .u8 28, .int .u8 3, .int .u8 61, .int .u8 58, .int .u8 42, .int .u8 50, .int .u8 38, .int .u8 29, .int .u8 17, .int .u8 4, .int .u8 62, .int .u8 47, .int .u8 59, .int .u8 36, .int .u8 45, .int .u8 43, .int .u8 51, .int .u8 22, .int .u8 53, .int .u8 39, .int .u8 33, .int .u8 30, .int .u8 24, .int .u8 18, .int .u8 12, .int .u8 5, .int .u8 63, .int .u8 55, .int .u8 48, .int .u8 27, .int .u8 60, .int .u8 41, .int .u8 37, .int .u8 16, .int .u8 46, .int .u8 35, .int .u8 44, .int .u8 21, .int .u8 52, .int .u8 32, .int .u8 23, .int .u8 11, .int .u8 54, .int .u8 26, .int .u8 40, .int .u8 15, .int .u8 34, .int .u8 20, .int .u8 31, .int .u8 10, .int .u8 25, .int .u8 14, .int .u8 19, .int .u8 9, .int .u8 13, .int .u8 8, .int .u8 7, .int .u8 6])) }

end

section
open Go.ChangeShapes Go.WideShapes Go.ChangeAt Go.RowKit


theorem Tryz.cellsOp : Tryz.prog.cellsOf 37 = 8 := by kernel_rfl
theorem Tryz.cellsInt : Tryz.prog.cellsOf 3 = 1 := by kernel_rfl
theorem Tryz.cellsStr : Tryz.prog.cellsOf 9 = 1 := by kernel_rfl

/-- A part's bulk is at most the whole's. -/
theorem part_le {H : Type} {d : DataW H} {l : List (DataW H)} (h : d ∈ l) : Rows.uptoBulk d ≤ Rows.uptoBulkAll l := by
  induction l with
  | nil => cases h
  | cons x r ih =>
    simp only [Rows.uptoBulkAll]
    cases List.mem_cons.1 h with
    | inl e => subst e; omega
    | inr e => have := ih e; omega

theorem bulk_one {H : Type} (d : DataW H) : 1 ≤ Rows.uptoBulk d := by
  cases d with
  | lit l => cases l <;> simp [Rows.uptoBulk]
  | nil => simp [Rows.uptoBulk]
  | ptr d => simp [Rows.uptoBulk]
  | slice elems spare => simp [Rows.uptoBulk]
  | agg parts => simp [Rows.uptoBulk]
  | iface t d => simp [Rows.uptoBulk]
  | map entries => simp [Rows.uptoBulk]
  | held h => simp [Rows.uptoBulk]

theorem bulk_length {H : Type} (l : List (DataW H)) : l.length ≤ Rows.uptoBulkAll l := by
  induction l with
  | nil => simp [Rows.uptoBulkAll]
  | cons x r ih => have := bulk_one x; simp only [Rows.uptoBulkAll, List.length_cons]; omega

theorem addr_cell {w : World} {a : Addr} {j : Nat} {v : Value} (h : w.cell? (a.add j) = some v) : w.cell? ⟨a.block, a.off + j, none⟩ = some v := by
  obtain ⟨b, o, sp⟩ := a
  have hs := World.cell?_spot h
  by_cases hj : j = 0
  · subst hj
    simp [Addr.add] at hs h ⊢
    subst hs
    exact h
  · simpa [Addr.add, hj] using h

theorem addr_spot {w : World} {a : Addr} {v : Value} (h : w.cell? (a.add 0) = some v) : a.spot = none := by
  have hs := World.cell?_spot h
  simpa [Addr.add] using hs

set_option maxRecDepth 100000 in
/-- One step of a script, out of its reading. -/
theorem op_open {H : Type} {enc : TypeId × Value → H} {w : World} {spare : Nat → Bool} {held : Bool} {n i : Nat} {a : Addr} {cs : List Value} {d : DataW H} {pl : List MemPlace}
    (h1 : w.cells? 0 (a.add (i * 8)) 8 = some cs) (h2 : DataW.trod enc Tryz.prog w 0 spare held n 37 cs = some (d, pl)) :
    ∃ x : OpD, (i = 0 → a.spot = none) ∧ a.block < w.heap.size ∧ OpAt w a.block (a.off + i * 8) x ∧ OpInt x ∧ x.s.size ≤ Rows.uptoBulk d ∧ x.t.size ≤ Rows.uptoBulk d := by
  obtain ⟨_, hlen, hcell⟩ := World.cells?_some h1
  obtain ⟨xs, k, _, hdx, _, hxl, hf⟩ := DataW.trod_struct Tryz.underlying37 h2
  have hxl' : xs.length = 8 := hxl
  match cs, hlen with
  | [v0, v1, v2, v3, v4, v5, v6, v7], _ =>
    have hx : ∀ j, j < 8 → ∃ y, xs[j]? = some y := fun j hj => ⟨xs[j]'(by omega), List.getElem?_eq_getElem _⟩
    have g0 : DataW.trod enc Tryz.prog w 0 spare held k 3 ((([v0, v1, v2, v3, v4, v5, v6, v7] : List Value).drop 0).take (Tryz.prog.cellsOf 3)) = xs[0]? := hf 0 _ rfl
    rw [Tryz.cellsInt] at g0
    have g1 : DataW.trod enc Tryz.prog w 0 spare held k 9 ((([v0, v1, v2, v3, v4, v5, v6, v7] : List Value).drop 1).take (Tryz.prog.cellsOf 9)) = xs[1]? := hf 1 _ rfl
    rw [Tryz.cellsStr] at g1
    have g2 : DataW.trod enc Tryz.prog w 0 spare held k 3 ((([v0, v1, v2, v3, v4, v5, v6, v7] : List Value).drop 2).take (Tryz.prog.cellsOf 3)) = xs[2]? := hf 2 _ rfl
    rw [Tryz.cellsInt] at g2
    have g3 : DataW.trod enc Tryz.prog w 0 spare held k 9 ((([v0, v1, v2, v3, v4, v5, v6, v7] : List Value).drop 3).take (Tryz.prog.cellsOf 9)) = xs[3]? := hf 3 _ rfl
    rw [Tryz.cellsStr] at g3
    have g4 : DataW.trod enc Tryz.prog w 0 spare held k 9 ((([v0, v1, v2, v3, v4, v5, v6, v7] : List Value).drop 4).take (Tryz.prog.cellsOf 9)) = xs[4]? := hf 4 _ rfl
    rw [Tryz.cellsStr] at g4
    have g5 : DataW.trod enc Tryz.prog w 0 spare held k 3 ((([v0, v1, v2, v3, v4, v5, v6, v7] : List Value).drop 5).take (Tryz.prog.cellsOf 3)) = xs[5]? := hf 5 _ rfl
    rw [Tryz.cellsInt] at g5
    have g6 : DataW.trod enc Tryz.prog w 0 spare held k 3 ((([v0, v1, v2, v3, v4, v5, v6, v7] : List Value).drop 6).take (Tryz.prog.cellsOf 3)) = xs[6]? := hf 6 _ rfl
    rw [Tryz.cellsInt] at g6
    have g7 : DataW.trod enc Tryz.prog w 0 spare held k 3 ((([v0, v1, v2, v3, v4, v5, v6, v7] : List Value).drop 7).take (Tryz.prog.cellsOf 3)) = xs[7]? := hf 7 _ rfl
    rw [Tryz.cellsInt] at g7
    obtain ⟨y0, e0⟩ := hx 0 (by omega)
    obtain ⟨y1, e1⟩ := hx 1 (by omega)
    obtain ⟨y2, e2⟩ := hx 2 (by omega)
    obtain ⟨y3, e3⟩ := hx 3 (by omega)
    obtain ⟨y4, e4⟩ := hx 4 (by omega)
    obtain ⟨y5, e5⟩ := hx 5 (by omega)
    obtain ⟨y6, e6⟩ := hx 6 (by omega)
    obtain ⟨y7, e7⟩ := hx 7 (by omega)
    obtain ⟨n0, q0, _, _⟩ := DataW.trod_int Tryz.underlying3 (g0.trans e0)
    obtain ⟨n1, q1, _, _⟩ := DataW.trod_string Tryz.underlying9 (g1.trans e1)
    obtain ⟨n2, q2, _, w2⟩ := DataW.trod_int Tryz.underlying3 (g2.trans e2)
    obtain ⟨n3, q3, z3, _⟩ := DataW.trod_string Tryz.underlying9 (g3.trans e3)
    obtain ⟨n4, q4, z4, _⟩ := DataW.trod_string Tryz.underlying9 (g4.trans e4)
    obtain ⟨n5, q5, _, w5⟩ := DataW.trod_int Tryz.underlying3 (g5.trans e5)
    obtain ⟨n6, q6, _, w6⟩ := DataW.trod_int Tryz.underlying3 (g6.trans e6)
    obtain ⟨n7, q7, _, w7⟩ := DataW.trod_int Tryz.underlying3 (g7.trans e7)
    simp at q0 q1 q2 q3 q4 q5 q6 q7
    subst q0 q1 q2 q3 q4 q5 q6 q7
    have c : ∀ j v, j < 8 → [Value.int .i64 n0, .string n1, .int .i64 n2, .string n3, .string n4, .int .i64 n5, .int .i64 n6, .int .i64 n7][j]? = some v → w.cell? ⟨a.block, a.off + i * 8 + j, none⟩ = some v := by
      intro j v hj hv
      have := (hcell j hj).trans hv
      rw [Go.Deep.add_add] at this
      have := addr_cell this
      rwa [← Nat.add_assoc] at this
    refine ⟨⟨n0, n1, n2, n3, n4, n5, n6, n7⟩, ?_, ?_, ⟨c 0 _ (by omega) rfl, c 1 _ (by omega) rfl, c 2 _ (by omega) rfl, c 3 _ (by omega) rfl, c 4 _ (by omega) rfl, c 5 _ (by omega) rfl, c 6 _ (by omega) rfl, c 7 _ (by omega) rfl⟩, ⟨bounds_i64 w2, bounds_i64 w5, bounds_i64 w6, bounds_i64 w7⟩, ?_, ?_⟩
    · intro hi
      subst hi
      have := (hcell 0 (by omega)).trans rfl
      rw [Go.Deep.add_add] at this
      exact addr_spot this
    · exact World.block_lt_of_cell? w ⟨a.block, a.off + i * 8 + 0, none⟩ (c 0 _ (by omega) rfl)
    · have hd : d = .agg (xs.map (·.1)) := congrArg Prod.fst hdx
      have hm : y3.1 ∈ xs.map (·.1) := List.mem_map_of_mem (List.mem_of_getElem? e3)
      have := part_le hm
      rw [z3] at this
      rw [hd]
      simp only [Rows.uptoBulk] at this ⊢
      have : n3.data.toList.length = n3.size := by simp
      omega
    · have hd : d = .agg (xs.map (·.1)) := congrArg Prod.fst hdx
      have hm : y4.1 ∈ xs.map (·.1) := List.mem_map_of_mem (List.mem_of_getElem? e4)
      have := part_le hm
      rw [z4] at this
      rw [hd]
      simp only [Rows.uptoBulk] at this ⊢
      have : n4.data.toList.length = n4.size := by simp
      omega


/-- A script, out of its reading: its steps, their numbers' bounds, and that its texts and its length are within its bulk. -/
theorem script_open {H : Type} {enc : TypeId × Value → H} {W : World} {so : Option Addr} {len cap : Nat} {d : DataW H} {pl : List MemPlace}
    (h1 : ∃ m, DataW.trod enc Tryz.prog W 0 (fun _ => true) true m 22 (Value.slice so len cap).cells.toList = some (d, pl)) :
    ∃ f : Nat → OpD, len ≤ 9223372036854775807 ∧ len ≤ Rows.uptoBulk d ∧ ∀ i, i < len → ∃ g o, so = some ⟨g, o, none⟩ ∧ g < W.heap.size ∧ OpAt W g (o + i * 8) (f i) ∧ OpInt (f i) ∧ (f i).s.size ≤ Rows.uptoBulk d ∧ (f i).t.size ≤ Rows.uptoBulk d := by
  obtain ⟨fuel, hf⟩ := h1
  rcases Go.Deep.open_slice Tryz.underlying22 hf with ⟨hcs, _⟩ | ⟨a, l, c, m, n, D, Pl, hcs, _, hl, hm, hmm, hd, hx⟩
  · simp [Value.cells] at hcs
    obtain ⟨rfl, rfl, rfl⟩ := hcs
    exact ⟨fun _ => ⟨0, ⟨#[]⟩, 0, ⟨#[]⟩, ⟨#[]⟩, 0, 0, 0⟩, by omega, by omega, fun i hi => by omega⟩
  · simp [Value.cells] at hcs
    obtain ⟨rfl, rfl, rfl⟩ := hcs
    rw [Tryz.cellsOp] at hx
    simp only [if_true] at hmm
    subst hmm
    have hd' : d = .slice ((List.range len).map D) ((List.range (m - len)).map fun j => D (len + j)) := congrArg Prod.fst hd
    have hb : Rows.uptoBulkAll ((List.range len).map D) ≤ Rows.uptoBulk d := by rw [hd']; simp only [Rows.uptoBulk]; omega
    have hlen : len ≤ Rows.uptoBulk d := by
      have := bulk_length ((List.range len).map D)
      simp at this
      omega
    have each : ∀ i, i < len → ∃ x : OpD, (i = 0 → a.spot = none) ∧ a.block < W.heap.size ∧ OpAt W a.block (a.off + i * 8) x ∧ OpInt x ∧ x.s.size ≤ Rows.uptoBulk d ∧ x.t.size ≤ Rows.uptoBulk d := by
      intro i hi
      obtain ⟨cs', e1, e2⟩ := hx i (by omega)
      obtain ⟨x, x1, x2, x3, x4, x5, x6⟩ := op_open e1 e2
      have hp : Rows.uptoBulk (D i) ≤ Rows.uptoBulkAll ((List.range len).map D) := part_le (List.mem_map_of_mem (by simpa using hi))
      exact ⟨x, x1, x2, x3, x4, by omega, by omega⟩
    have hsp : 0 < len → a = ⟨a.block, a.off, none⟩ := by
      intro h
      obtain ⟨x, hs, _⟩ := each 0 h
      have := hs rfl
      cases a
      simp_all
    refine ⟨fun i => if hi : i < len then Classical.choose (each i hi) else ⟨0, ⟨#[]⟩, 0, ⟨#[]⟩, ⟨#[]⟩, 0, 0, 0⟩, by unfold maxLen at hm; omega, hlen, fun i hi => ?_⟩
    have hs := Classical.choose_spec (each i hi)
    refine ⟨a.block, a.off, by rw [← hsp (by omega)], hs.2.1, ?_, ?_⟩
    · simp only [dif_pos hi]; exact hs.2.2.1
    · simp only [dif_pos hi]; exact hs.2.2.2

end

end Go.Proofs.YtgcldedkempjhabGreatDoor
