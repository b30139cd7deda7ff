/-
  depotkeep: a script of turns out of its reading, with its bulk.
-/
import Derived.Test.YtgcldedkempjhabDoorLaid
import Derived.Test.YtgcldedkempjhabDoorOpenA
import Derived.Test.YtgcldedkempjhabDoorPlay
namespace Go.Proofs.YtgcldedkempjhabDoor
open Go.ChangeShapes Go.WideShapes Go.ChangeAt Go.RowKit

structure TurnNum (x : TurnD) : Prop where
  who : I64 x.who
  id : I64 x.id
  a : I64 x.a
  b : I64 x.b
  c : I64 x.c

theorem TurnNum.fit {x : TurnD} {n : Nat} (h : TurnNum x) (hs : x.s.size ≤ n) (ht : x.t.size ≤ n) (hn : n ≤ 1048576) : TurnFit x :=
  ⟨h.who, h.id, h.a, h.b, h.c, by omega, by omega⟩

/-- A part's bulk is at most the whole's. -/
theorem part_le {H : Type} {d : DataW H} {l : List (DataW H)} (h : d ∈ l) : Rows.uptoBulk d ≤ Rows.uptoBulkAll l := by
  induction l with
  | nil => cases h
  | cons x r ih =>
    simp only [Rows.uptoBulkAll]
    cases List.mem_cons.1 h with
    | inl e => subst e; omega
    | inr e => have := ih e; omega

theorem bulk_one {H : Type} (d : DataW H) : 1 ≤ Rows.uptoBulk d := by
  cases d with
  | lit l => cases l <;> simp [Rows.uptoBulk]
  | nil => simp [Rows.uptoBulk]
  | ptr d => simp [Rows.uptoBulk]
  | slice elems spare => simp [Rows.uptoBulk]
  | agg parts => simp [Rows.uptoBulk]
  | iface t d => simp [Rows.uptoBulk]
  | map entries => simp [Rows.uptoBulk]
  | held h => simp [Rows.uptoBulk]

theorem bulk_length {H : Type} (l : List (DataW H)) : l.length ≤ Rows.uptoBulkAll l := by
  induction l with
  | nil => simp [Rows.uptoBulkAll]
  | cons x r ih => have := bulk_one x; simp only [Rows.uptoBulkAll, List.length_cons]; omega

theorem Tryd.cellsTurn : Tryd.prog.cellsOf 27 = 9 := by kernel_rfl
theorem Tryd.cellsIntG : Tryd.prog.cellsOf 3 = 1 := by kernel_rfl
theorem Tryd.cellsStrG : Tryd.prog.cellsOf 9 = 1 := by kernel_rfl

theorem gaddr_cell {w : World} {a : Addr} {j : Nat} {v : Value} (h : w.cell? (a.add j) = some v) : w.cell? ⟨a.block, a.off + j, none⟩ = some v := by
  obtain ⟨b, o, sp⟩ := a
  have hs := World.cell?_spot h
  by_cases hj : j = 0
  · subst hj
    simp [Addr.add] at hs h ⊢
    subst hs
    exact h
  · simpa [Addr.add, hj] using h

theorem gaddr_spot {w : World} {a : Addr} {v : Value} (h : w.cell? (a.add 0) = some v) : a.spot = none := by
  have hs := World.cell?_spot h
  simpa [Addr.add] using hs

set_option maxRecDepth 100000 in
/-- One turn of a script, out of its reading. -/
theorem turn_open {H : Type} {enc : TypeId × Value → H} {w : World} {spare : Nat → Bool} {held : Bool} {n i : Nat} {a : Addr} {cs : List Value} {d : DataW H} {pl : List MemPlace}
    (h1 : w.cells? 0 (a.add (i * 9)) 9 = some cs) (h2 : DataW.trod enc Tryd.prog w 0 spare held n 27 cs = some (d, pl)) :
    ∃ x : TurnD, (i = 0 → a.spot = none) ∧ a.block < w.heap.size ∧ TurnAt w a.block (a.off + i * 9) x ∧ TurnNum x ∧ x.s.size ≤ Rows.uptoBulk d ∧ x.t.size ≤ Rows.uptoBulk d := by
  obtain ⟨_, hlen, hcell⟩ := World.cells?_some h1
  obtain ⟨xs, k, _, hdx, _, hxl, hf⟩ := DataW.trod_struct Tryd.underlying27 h2
  have hxl' : xs.length = 9 := hxl
  match cs, hlen with
  | [v0, v1, v2, v3, v4, v5, v6, v7, v8], _ =>
    have hx : ∀ j, j < 9 → ∃ y, xs[j]? = some y := fun j hj => ⟨xs[j]'(by omega), List.getElem?_eq_getElem _⟩
    have g0 : DataW.trod enc Tryd.prog w 0 spare held k 3 ((([v0, v1, v2, v3, v4, v5, v6, v7, v8] : List Value).drop 0).take (Tryd.prog.cellsOf 3)) = xs[0]? := hf 0 _ rfl
    rw [Tryd.cellsIntG] at g0
    obtain ⟨y0, e0⟩ := hx 0 (by omega)
    have g1 : DataW.trod enc Tryd.prog w 0 spare held k 3 ((([v0, v1, v2, v3, v4, v5, v6, v7, v8] : List Value).drop 1).take (Tryd.prog.cellsOf 3)) = xs[1]? := hf 1 _ rfl
    rw [Tryd.cellsIntG] at g1
    obtain ⟨y1, e1⟩ := hx 1 (by omega)
    have g2 : DataW.trod enc Tryd.prog w 0 spare held k 3 ((([v0, v1, v2, v3, v4, v5, v6, v7, v8] : List Value).drop 2).take (Tryd.prog.cellsOf 3)) = xs[2]? := hf 2 _ rfl
    rw [Tryd.cellsIntG] at g2
    obtain ⟨y2, e2⟩ := hx 2 (by omega)
    have g3 : DataW.trod enc Tryd.prog w 0 spare held k 9 ((([v0, v1, v2, v3, v4, v5, v6, v7, v8] : List Value).drop 3).take (Tryd.prog.cellsOf 9)) = xs[3]? := hf 3 _ rfl
    rw [Tryd.cellsStrG] at g3
    obtain ⟨y3, e3⟩ := hx 3 (by omega)
    have g4 : DataW.trod enc Tryd.prog w 0 spare held k 9 ((([v0, v1, v2, v3, v4, v5, v6, v7, v8] : List Value).drop 4).take (Tryd.prog.cellsOf 9)) = xs[4]? := hf 4 _ rfl
    rw [Tryd.cellsStrG] at g4
    obtain ⟨y4, e4⟩ := hx 4 (by omega)
    have g5 : DataW.trod enc Tryd.prog w 0 spare held k 9 ((([v0, v1, v2, v3, v4, v5, v6, v7, v8] : List Value).drop 5).take (Tryd.prog.cellsOf 9)) = xs[5]? := hf 5 _ rfl
    rw [Tryd.cellsStrG] at g5
    obtain ⟨y5, e5⟩ := hx 5 (by omega)
    have g6 : DataW.trod enc Tryd.prog w 0 spare held k 3 ((([v0, v1, v2, v3, v4, v5, v6, v7, v8] : List Value).drop 6).take (Tryd.prog.cellsOf 3)) = xs[6]? := hf 6 _ rfl
    rw [Tryd.cellsIntG] at g6
    obtain ⟨y6, e6⟩ := hx 6 (by omega)
    have g7 : DataW.trod enc Tryd.prog w 0 spare held k 3 ((([v0, v1, v2, v3, v4, v5, v6, v7, v8] : List Value).drop 7).take (Tryd.prog.cellsOf 3)) = xs[7]? := hf 7 _ rfl
    rw [Tryd.cellsIntG] at g7
    obtain ⟨y7, e7⟩ := hx 7 (by omega)
    have g8 : DataW.trod enc Tryd.prog w 0 spare held k 3 ((([v0, v1, v2, v3, v4, v5, v6, v7, v8] : List Value).drop 8).take (Tryd.prog.cellsOf 3)) = xs[8]? := hf 8 _ rfl
    rw [Tryd.cellsIntG] at g8
    obtain ⟨y8, e8⟩ := hx 8 (by omega)
    obtain ⟨n0, q0, _, u0⟩ := DataW.trod_int Tryd.underlying3 (g0.trans e0)
    obtain ⟨n1, q1, _, _⟩ := DataW.trod_int Tryd.underlying3 (g1.trans e1)
    obtain ⟨n2, q2, _, u2⟩ := DataW.trod_int Tryd.underlying3 (g2.trans e2)
    obtain ⟨n3, q3, _, _⟩ := DataW.trod_string Tryd.underlying9 (g3.trans e3)
    obtain ⟨n4, q4, z4, _⟩ := DataW.trod_string Tryd.underlying9 (g4.trans e4)
    obtain ⟨n5, q5, z5, _⟩ := DataW.trod_string Tryd.underlying9 (g5.trans e5)
    obtain ⟨n6, q6, _, u6⟩ := DataW.trod_int Tryd.underlying3 (g6.trans e6)
    obtain ⟨n7, q7, _, u7⟩ := DataW.trod_int Tryd.underlying3 (g7.trans e7)
    obtain ⟨n8, q8, _, u8⟩ := DataW.trod_int Tryd.underlying3 (g8.trans e8)
    simp at q0 q1 q2 q3 q4 q5 q6 q7 q8
    subst q0 q1 q2 q3 q4 q5 q6 q7 q8
    have c : ∀ j v, j < 9 → [Value.int .i64 n0, Value.int .i64 n1, Value.int .i64 n2, Value.string n3, Value.string n4, Value.string n5, Value.int .i64 n6, Value.int .i64 n7, Value.int .i64 n8][j]? = some v → w.cell? ⟨a.block, a.off + i * 9 + j, none⟩ = some v := by
      intro j v hj hv
      have := (hcell j hj).trans hv
      rw [Go.Deep.add_add] at this
      have := gaddr_cell this
      rwa [← Nat.add_assoc] at this
    refine ⟨⟨n0, n1, n2, n3, n4, n5, n6, n7, n8⟩, ?_, ?_, ⟨c 0 _ (by omega) rfl, c 1 _ (by omega) rfl, c 2 _ (by omega) rfl, c 3 _ (by omega) rfl, c 4 _ (by omega) rfl, c 5 _ (by omega) rfl, c 6 _ (by omega) rfl, c 7 _ (by omega) rfl, c 8 _ (by omega) rfl⟩, ⟨bounds_i64 u0, bounds_i64 u2, bounds_i64 u6, bounds_i64 u7, bounds_i64 u8⟩, ?_, ?_⟩
    · intro hi
      subst hi
      have := (hcell 0 (by omega)).trans rfl
      rw [Go.Deep.add_add] at this
      exact gaddr_spot this
    · exact World.block_lt_of_cell? w ⟨a.block, a.off + i * 9 + 0, none⟩ (c 0 _ (by omega) rfl)
    · have hd : d = .agg (xs.map (·.1)) := congrArg Prod.fst hdx
      have hm : y4.1 ∈ xs.map (·.1) := List.mem_map_of_mem (List.mem_of_getElem? e4)
      have := part_le hm
      rw [z4] at this
      rw [hd]
      simp only [Rows.uptoBulk] at this ⊢
      have : n4.data.toList.length = n4.size := by simp
      omega
    · have hd : d = .agg (xs.map (·.1)) := congrArg Prod.fst hdx
      have hm : y5.1 ∈ xs.map (·.1) := List.mem_map_of_mem (List.mem_of_getElem? e5)
      have := part_le hm
      rw [z5] at this
      rw [hd]
      simp only [Rows.uptoBulk] at this ⊢
      have : n5.data.toList.length = n5.size := by simp
      omega

/-- A script, out of its reading: its turns, their numbers' bounds, and that its texts and its length are within its bulk. -/
theorem script_open {H : Type} {enc : TypeId × Value → H} {W : World} {so : Option Addr} {len cap : Nat} {d : DataW H} {pl : List MemPlace}
    (h1 : ∃ m, DataW.trod enc Tryd.prog W 0 (fun _ => true) true m 22 (Value.slice so len cap).cells.toList = some (d, pl)) :
    ∃ f : Nat → TurnD, len ≤ 9223372036854775807 ∧ len ≤ Rows.uptoBulk d ∧ ∀ i, i < len → ∃ g o, so = some ⟨g, o, none⟩ ∧ g < W.heap.size ∧ TurnAt W g (o + i * 9) (f i) ∧ TurnNum (f i) ∧ (f i).s.size ≤ Rows.uptoBulk d ∧ (f i).t.size ≤ Rows.uptoBulk d := by
  obtain ⟨fuel, hf⟩ := h1
  rcases Go.Deep.open_slice Tryd.underlying22 hf with ⟨hcs, _⟩ | ⟨a, l, c, m, n, D, Pl, hcs, _, hl, hm, hmm, hd, hx⟩
  · simp [Value.cells] at hcs
    obtain ⟨rfl, rfl, rfl⟩ := hcs
    exact ⟨fun _ => ⟨0, 0, 0, ⟨#[]⟩, ⟨#[]⟩, ⟨#[]⟩, 0, 0, 0⟩, by omega, by omega, fun i hi => by omega⟩
  · simp [Value.cells] at hcs
    obtain ⟨rfl, rfl, rfl⟩ := hcs
    rw [Tryd.cellsTurn] at hx
    simp only [if_true] at hmm
    subst hmm
    have hd' : d = .slice ((List.range len).map D) ((List.range (m - len)).map fun j => D (len + j)) := congrArg Prod.fst hd
    have hb : Rows.uptoBulkAll ((List.range len).map D) ≤ Rows.uptoBulk d := by rw [hd']; simp only [Rows.uptoBulk]; omega
    have hlen : len ≤ Rows.uptoBulk d := by
      have := bulk_length ((List.range len).map D)
      simp at this
      omega
    have each : ∀ i, i < len → ∃ x : TurnD, (i = 0 → a.spot = none) ∧ a.block < W.heap.size ∧ TurnAt W a.block (a.off + i * 9) x ∧ TurnNum x ∧ x.s.size ≤ Rows.uptoBulk d ∧ x.t.size ≤ Rows.uptoBulk d := by
      intro i hi
      obtain ⟨cs', e1, e2⟩ := hx i (by omega)
      obtain ⟨x, x1, x2, x3, x4, x5, x6⟩ := turn_open e1 e2
      have hp : Rows.uptoBulk (D i) ≤ Rows.uptoBulkAll ((List.range len).map D) := part_le (List.mem_map_of_mem (by simpa using hi))
      exact ⟨x, x1, x2, x3, x4, by omega, by omega⟩
    have hsp : 0 < len → a = ⟨a.block, a.off, none⟩ := by
      intro h
      obtain ⟨x, hs, _⟩ := each 0 h
      have := hs rfl
      cases a
      simp_all
    refine ⟨fun i => if hi : i < len then Classical.choose (each i hi) else ⟨0, 0, 0, ⟨#[]⟩, ⟨#[]⟩, ⟨#[]⟩, 0, 0, 0⟩, by unfold maxLen at hm; omega, hlen, fun i hi => ?_⟩
    have hs := Classical.choose_spec (each i hi)
    refine ⟨a.block, a.off, by rw [← hsp (by omega)], hs.2.1, ?_, ?_⟩
    · simp only [dif_pos hi]; exact hs.2.2.1
    · simp only [dif_pos hi]; exact hs.2.2.2

end Go.Proofs.YtgcldedkempjhabDoor
