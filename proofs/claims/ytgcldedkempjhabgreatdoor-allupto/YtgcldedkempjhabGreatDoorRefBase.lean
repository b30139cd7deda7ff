/-
  depotref: one deed more.
-/
import Derived.Test.YtgcldedkempjhabGreatDoorBaseRow
import Derived.Test.YtgcldedkempjhabGreatDoorRows
namespace Go.Proofs.YtgcldedkempjhabGreatDoor
section
open Go.RowKit

structure Deed where
  kind : ByteArray
  house : ByteArray
  who : Int
  pack : ByteArray
  to : ByteArray
  num : Int
  role : Int
  till : Int
  wants : ByteArray

def Deed.cells (x : Deed) : List Value :=
  [.string x.kind, .string x.house, .int .i64 x.who, .string x.pack, .string x.to, .int .i64 x.num, .int .i64 x.role, .int .i64 x.till, .string x.wants]

def noDeed : Deed := ⟨⟨#[]⟩, ⟨#[]⟩, 0, ⟨#[]⟩, ⟨#[]⟩, 0, 0, 0, ⟨#[]⟩⟩

theorem Deed.cells_length (x : Deed) : x.cells.length = 9 := rfl

def deedsCells (ds : List Deed) : List Value := ds.flatMap Deed.cells

theorem deedsCells_length (ds : List Deed) : (deedsCells ds).length = ds.length * 9 := by
  induction ds with
  | nil => rfl
  | cons x ds ih => simp [deedsCells, Deed.cells_length] at *; omega

theorem deedsCells_append (a b : List Deed) : deedsCells (a ++ b) = deedsCells a ++ deedsCells b := by simp [deedsCells]

theorem deedsCells_get (ds : List Deed) (k j : Nat) (hk : k < ds.length) (hj : j < 9) : (deedsCells ds)[9 * k + j]? = (ds[k]).cells[j]? := by
  induction ds generalizing k with
  | nil => simp at hk
  | cons x ds ih =>
    cases k with
    | zero =>
      show (x.cells ++ deedsCells ds)[9 * 0 + j]? = _
      rw [List.getElem?_append_left (by rw [Deed.cells_length]; omega)]
      simp
    | succ k =>
      show (x.cells ++ deedsCells ds)[9 * (k + 1) + j]? = _
      rw [List.getElem?_append_right (by rw [Deed.cells_length]; omega), Deed.cells_length, show 9 * (k + 1) + j - 9 = 9 * k + j from by omega]
      rw [ih k (by simpa using hk)]
      simp

/-- The document's depot at block rb: its three cells, its deeds' row. -/
structure RefAt (w : World) (rb : Nat) (root time : Int) (ao : Option Addr) (cap : Nat) (ds : List Deed) : Prop where
  c0 : w.cell? ⟨rb, 0, none⟩ = some (.int .i64 root)
  c1 : w.cell? ⟨rb, 1, none⟩ = some (.int .i64 time)
  c2 : w.cell? ⟨rb, 2, none⟩ = some (.slice ao ds.length cap)
  f1 : w.frozen? ⟨rb, 1, none⟩ = false
  f2 : w.frozen? ⟨rb, 2, none⟩ = false
  own : w.ownsRow (rb + 1) 93 9 (.slice ao ds.length cap) ds.length (deedsCells ds)

theorem RefAt.lt {w : World} {rb : Nat} {root time : Int} {ao : Option Addr} {cap : Nat} {ds : List Deed} (h : RefAt w rb root time ao cap ds) : rb < w.heap.size :=
  World.block_lt_of_cell? w _ h.c0

/-- The blocks of the document's depot. -/
def RefFoot (rb : Nat) (ao : Option Addr) (k : Nat) : Prop := k = rb ∨ blockOf ao k

theorem RefAt.foot_lt {w : World} {rb : Nat} {root time : Int} {ao : Option Addr} {cap : Nat} {ds : List Deed} (h : RefAt w rb root time ao cap ds) (k : Nat) (hk : RefFoot rb ao k) : k < w.heap.size := by
  rcases hk with rfl | ⟨a, rfl, rfl⟩
  · exact h.lt
  · exact (h.own.lt a.block rfl).2

theorem RefAt.keep {w w' : World} {rb : Nat} {root time : Int} {ao : Option Addr} {cap : Nat} {ds : List Deed} (h : RefAt w rb root time ao cap ds) (hk : ∀ k, RefFoot rb ao k → w'.heap[k]? = w.heap[k]?) : RefAt w' rb root time ao cap ds := by
  have h0 : w'.heap[rb]? = w.heap[rb]? := hk rb (Or.inl rfl)
  refine ⟨(World.cell?_of_block h0).trans h.c0, (World.cell?_of_block h0).trans h.c1, (World.cell?_of_block h0).trans h.c2, (World.frozen?_of_block h0).trans h.f1, (World.frozen?_of_block h0).trans h.f2, h.own.1, ?_⟩
  rcases h.own.2 with hn | ⟨g, cp, cur, hv, hb, hg, r⟩
  · exact Or.inl hn
  · refine Or.inr ⟨g, cp, cur, hv, hb, ?_, r⟩
    have hao : ao = some ⟨g, 0, none⟩ := by injection hv
    rw [hk g (Or.inr ⟨_, hao, rfl⟩)]; exact hg

theorem RefAt.below {w w' : World} {rb : Nat} {root time : Int} {ao : Option Addr} {cap : Nat} {ds : List Deed} (h : RefAt w rb root time ao cap ds) (hb : Below w.heap.size w w') : RefAt w' rb root time ao cap ds :=
  h.keep fun k hk => hb.block k (h.foot_lt k hk)

/-- A deed more: the row has grown, the depot's cell holds it. -/
theorem RefAt.push {w w' : World} {rb : Nat} {root time : Int} {ao : Option Addr} {cap : Nat} {ds : List Deed} {x : Deed} {g' cap' : Nat} (h : RefAt w rb root time ao cap ds)
    (hk : w'.heap[rb]? = w.heap[rb]?) (hown : w'.ownsRow (rb + 1) 93 9 (.slice (some ⟨g', 0, none⟩) (ds.length + 1) cap') (ds.length + 1) (deedsCells ds ++ x.cells)) :
    RefAt (w'.setCell ⟨rb, 2, none⟩ (.slice (some ⟨g', 0, none⟩) (ds.length + 1) cap')) rb root time (some ⟨g', 0, none⟩) cap' (ds ++ [x]) := by
  have e0 := (World.cell?_of_block (a := ⟨rb, 0, none⟩) hk).trans h.c0
  have e1 := (World.cell?_of_block (a := ⟨rb, 1, none⟩) hk).trans h.c1
  have e2 := (World.cell?_of_block (a := ⟨rb, 2, none⟩) hk).trans h.c2
  refine ⟨?_, ?_, ?_, ?_, ?_, ?_⟩
  · rw [cell_setCell_ne (by omega)]; exact e0
  · rw [cell_setCell_ne (by omega)]; exact e1
  · rw [cell_setCell_same e2]; simp
  · rw [frozen_setCell]; exact (World.frozen?_of_block (a := ⟨rb, 1, none⟩) hk).trans h.f1
  · rw [frozen_setCell]; exact (World.frozen?_of_block (a := ⟨rb, 2, none⟩) hk).trans h.f2
  · have hd : deedsCells (ds ++ [x]) = deedsCells ds ++ x.cells := by simp [deedsCells]
    rw [hd, List.length_append, List.length_singleton]
    exact ownsRow_setCell_below hown (Nat.lt_succ_self rb) _

/-- The cells of one deed in its row. -/
structure DeedAt (w : World) (g o : Nat) (x : Deed) : Prop where
  d0 : w.cell? ⟨g, o, none⟩ = some (.string x.kind)
  d1 : w.cell? ⟨g, o + 1, none⟩ = some (.string x.house)
  d2 : w.cell? ⟨g, o + 2, none⟩ = some (.int .i64 x.who)
  d3 : w.cell? ⟨g, o + 3, none⟩ = some (.string x.pack)
  d4 : w.cell? ⟨g, o + 4, none⟩ = some (.string x.to)
  d5 : w.cell? ⟨g, o + 5, none⟩ = some (.int .i64 x.num)
  d6 : w.cell? ⟨g, o + 6, none⟩ = some (.int .i64 x.role)
  d7 : w.cell? ⟨g, o + 7, none⟩ = some (.int .i64 x.till)
  d8 : w.cell? ⟨g, o + 8, none⟩ = some (.string x.wants)

theorem DeedAt.of_cells {w w' : World} {g o : Nat} {x : Deed} (h : DeedAt w g o x) (hc : ∀ j, w'.cell? ⟨g, j, none⟩ = w.cell? ⟨g, j, none⟩) : DeedAt w' g o x :=
  ⟨(hc _).trans h.d0, (hc _).trans h.d1, (hc _).trans h.d2, (hc _).trans h.d3, (hc _).trans h.d4, (hc _).trans h.d5, (hc _).trans h.d6, (hc _).trans h.d7, (hc _).trans h.d8⟩

theorem DeedAt.below {w w' : World} {B g o : Nat} {x : Deed} (h : DeedAt w g o x) (hb : Below B w w') (hg : g < B) : DeedAt w' g o x :=
  h.of_cells fun j => hb.cell (p := ⟨g, j, none⟩) hg

theorem RefAt.deed {w : World} {rb : Nat} {root time : Int} {ao : Option Addr} {cap : Nat} {ds : List Deed} (h : RefAt w rb root time ao cap ds) (k : Nat) (hk : k < ds.length) :
    ∃ g, ao = some ⟨g, 0, none⟩ ∧ g < w.heap.size ∧ DeedAt w g (k * 9) ds[k] := by
  rcases h.own.2 with ⟨hn, h0⟩ | ⟨g, cp, cur, hv, _, hg, _⟩
  · omega
  · have hao : ao = some ⟨g, 0, none⟩ := by injection hv
    have key : ∀ j u, (ds[k]).cells[j]? = some u → w.cell? ⟨g, k * 9 + j, none⟩ = some u := by
      intro j u hu
      have hj : j < 9 := by
        have := (List.getElem?_eq_some_iff.1 hu).1
        rw [Deed.cells_length] at this; exact this
      have hget := deedsCells_get ds k j hk hj
      have := h.own.cells (g := g) (by rw [hao]; rfl) (9 * k + j) u (hget.trans hu)
      rw [← this]
      congr 1
      unfold Addr.add; split <;> simp_all <;> omega
    exact ⟨g, hao, (Array.getElem?_eq_some_iff.1 hg).1, key 0 _ rfl, key 1 _ rfl, key 2 _ rfl, key 3 _ rfl, key 4 _ rfl, key 5 _ rfl, key 6 _ rfl, key 7 _ rfl, key 8 _ rfl⟩

end

section
open Go.RowKit

def didF (ds : List Deed) (kind house : ByteArray) : Nat := (ds.filter fun x => x.kind.toList == kind.toList && x.house.toList == house.toList).length

theorem didF_le (ds : List Deed) (kind house : ByteArray) : didF ds kind house ≤ ds.length := List.length_filter_le _ _

theorem didF_take_succ (ds : List Deed) (kind house : ByteArray) (k : Nat) (h : k < ds.length) :
    didF (ds.take (k + 1)) kind house = didF (ds.take k) kind house + if (ds[k].kind.toList == kind.toList && ds[k].house.toList == house.toList) then 1 else 0 := by
  unfold didF
  rw [List.take_succ_eq_append_getElem h, List.filter_append]
  by_cases hc : (ds[k].kind.toList == kind.toList && ds[k].house.toList == house.toList) <;> simp [hc]

set_option maxHeartbeats 400000 in
theorem did_any (rb : Nat) (root time : Int) (ao : Option Addr) (cap : Nat) (ds : List Deed) (kind house : ByteArray) (w : World)
    (hr : RefAt w rb root time ao cap ds) (hlen : ds.length ≤ 1000000000000) :
    Calls Tryz.prog 52 #[.pointer (some ⟨rb, 0, none⟩), .string kind, .string house] w fun e w' => e = .returned (.int .i64 (didF ds kind house)) ∧ w' = w := by
  have c2 := hr.c2
  go_enter Tryz.func52, Tryz.ntmps52
  go_wp2
  go_loop [7, 8] (fun n i => ∃ k : Nat, k ≤ ds.length ∧ i = .int .i64 k ∧ n = .int .i64 (didF (ds.take k) kind house)) (fun _ i => ds.length - (intOf i).toNat)
  case atStart => exact ⟨0, Nat.zero_le _, rfl, rfl⟩
  case round =>
    obtain ⟨k, hk, rfl, rfl⟩ := hrel
    have hd := didF_le (ds.take k) kind house
    have hl : (ds.take k).length ≤ k := List.length_take_le _ _
    by_cases hlt : k < ds.length
    · have hsn := hide (didF_take_succ ds kind house k hlt)
      obtain ⟨g, rfl, _, hx⟩ := hr.deed k hlt
      have d0 := hx.d0
      have d1 := hx.d1
      go_wp2
      all_goals
        go_round
        case rel => exact ⟨k + 1, by omega, by go_num, by rw [hsn.out]; simp [*]⟩
        case measure => simp [intOf]; omega
    · go_wp2
      go_ret
      exact ⟨ret_int (by rw [List.take_of_length_le (by omega)]), rfl⟩

end

section
open Go.RowKit

def deedP (kind house : ByteArray) (n : Int) (x : Deed) : Bool := x.kind.toList == kind.toList && x.house.toList == house.toList && x.num == n

def deedF (ds : List Deed) (kind house : ByteArray) (n : Int) : Option Deed := ds.reverse.find? (deedP kind house n)

theorem deedF_take_succ (ds : List Deed) (kind house : ByteArray) (n : Int) (k : Nat) (h : k < ds.length) :
    deedF (ds.take (k + 1)) kind house n = if deedP kind house n ds[k] = true then some ds[k] else deedF (ds.take k) kind house n := by
  unfold deedF
  rw [List.take_succ_eq_append_getElem h, List.reverse_append]
  simp only [List.reverse_cons, List.reverse_nil, List.nil_append, List.singleton_append, List.find?_cons]
  cases deedP kind house n ds[k] <;> rfl

set_option maxHeartbeats 400000 in
theorem deed_any (rb : Nat) (root time : Int) (ao : Option Addr) (cap : Nat) (ds : List Deed) (kind house : ByteArray) (n : Int) (w : World)
    (hr : RefAt w rb root time ao cap ds) (hlen : ds.length ≤ 1000000000000) :
    Calls Tryz.prog 51 #[.pointer (some ⟨rb, 0, none⟩), .string kind, .string house, .int .i64 n] w fun e w' =>
      (∃ x, ((deedF ds kind house n = none ∧ x = noDeed) ∨ deedF ds kind house n = some x) ∧ e = .returned (.tuple #[.agg x.cells.toArray, .bool (deedF ds kind house n).isSome])) ∧ Below w.heap.size w w' := by
  have c2 := hr.c2
  have hrb := hr.lt
  go_enter Tryz.func51, Tryz.ntmps51
  go_wp2
  go_loopw [10, 11] (fun i _ wr => ∃ k : Nat, k ≤ ds.length ∧ i = .int .i64 ((k : Int) - 1) ∧ deedF ds kind house n = deedF (ds.take k) kind house n ∧ Below w.heap.size w wr ∧ wr.heap[w.heap.size]? = some (.cells noDeed.cells.toArray 93 (0, 0))) (fun i _ _ => (intOf i + 1).toNat)
  case atStart => exact ⟨ds.length, Nat.le_refl _, rfl, by rw [List.take_length], (Below.refl _ _).alloc (Nat.le_refl _) _, heap_alloc_new w _⟩
  case round =>
    obtain ⟨k, hk, rfl, hde, hb, hres⟩ := hrel
    by_cases hlt : 0 < k
    · obtain ⟨k, rfl⟩ : ∃ j, k = j + 1 := ⟨k - 1, by omega⟩
      have HD := hide hde
      clear hde
      obtain ⟨g, rfl, hg, hx⟩ := hr.deed k (by omega)
      have c2' := (hb.cell (p := ⟨rb, 2, none⟩) hrb).trans c2
      obtain ⟨d0, d1, d2, d3, d4, d5, d6, d7, d8⟩ := hx.below hb hg
      have hsz : w.heap.size < wr.heap.size := (Array.getElem?_eq_some_iff.1 hres).1
      have r0 : wr.cell? ⟨w.heap.size, 0, none⟩ = some _ := (cell_of_heap hres 0).trans rfl
      have r1 : wr.cell? ⟨w.heap.size, 1, none⟩ = some _ := (cell_of_heap hres 1).trans rfl
      have r2 : wr.cell? ⟨w.heap.size, 2, none⟩ = some _ := (cell_of_heap hres 2).trans rfl
      have r3 : wr.cell? ⟨w.heap.size, 3, none⟩ = some _ := (cell_of_heap hres 3).trans rfl
      have r4 : wr.cell? ⟨w.heap.size, 4, none⟩ = some _ := (cell_of_heap hres 4).trans rfl
      have r5 : wr.cell? ⟨w.heap.size, 5, none⟩ = some _ := (cell_of_heap hres 5).trans rfl
      have r6 : wr.cell? ⟨w.heap.size, 6, none⟩ = some _ := (cell_of_heap hres 6).trans rfl
      have r7 : wr.cell? ⟨w.heap.size, 7, none⟩ = some _ := (cell_of_heap hres 7).trans rfl
      have r8 : wr.cell? ⟨w.heap.size, 8, none⟩ = some _ := (cell_of_heap hres 8).trans rfl
      have rf := frozen_of_heap hres
      have HS := hide (deedF_take_succ ds kind house n k (by omega))
      go_wp2
      · have hp : deedP kind house n ds[k] = true := by simp [deedP, *]
        have hfin : deedF ds kind house n = some ds[k] := by rw [HD.out, HS.out, if_pos hp]
        refine bodyPost_ret (v := .tuple #[.agg ds[k].cells.toArray, .bool true]) (by simp [results, Tryz.results51, go_sem, hsz, Deed.cells, r0, r1, r2, r3, r4, r5, r6, r7, r8]) rfl ⟨⟨ds[k], Or.inr hfin, by rw [hfin]; rfl⟩, ?_⟩
        exact (below_set9 hb (Nat.le_refl _) _ _ _ _ _ _ _ _ _).alloc (by simp; omega) _
      all_goals
        have hp : deedP kind house n ds[k] = false := by simp [deedP, *]
        go_roundw
        case rel => exact ⟨k, by omega, rfl, by rw [HD.out, HS.out, if_neg (by rw [hp]; decide)], hb.alloc hb.size _, by rw [Below.heap_alloc _ _ _ hsz]; exact hres⟩
        case measure => simp [intOf] <;> omega
    · obtain rfl : k = 0 := by omega
      have hfin : deedF ds kind house n = none := by rw [hde]; rfl
      have HF := hide hfin
      clear hde hfin
      have hsz : w.heap.size < wr.heap.size := (Array.getElem?_eq_some_iff.1 hres).1
      have r0 : wr.cell? ⟨w.heap.size, 0, none⟩ = some _ := (cell_of_heap hres 0).trans rfl
      have r1 : wr.cell? ⟨w.heap.size, 1, none⟩ = some _ := (cell_of_heap hres 1).trans rfl
      have r2 : wr.cell? ⟨w.heap.size, 2, none⟩ = some _ := (cell_of_heap hres 2).trans rfl
      have r3 : wr.cell? ⟨w.heap.size, 3, none⟩ = some _ := (cell_of_heap hres 3).trans rfl
      have r4 : wr.cell? ⟨w.heap.size, 4, none⟩ = some _ := (cell_of_heap hres 4).trans rfl
      have r5 : wr.cell? ⟨w.heap.size, 5, none⟩ = some _ := (cell_of_heap hres 5).trans rfl
      have r6 : wr.cell? ⟨w.heap.size, 6, none⟩ = some _ := (cell_of_heap hres 6).trans rfl
      have r7 : wr.cell? ⟨w.heap.size, 7, none⟩ = some _ := (cell_of_heap hres 7).trans rfl
      have r8 : wr.cell? ⟨w.heap.size, 8, none⟩ = some _ := (cell_of_heap hres 8).trans rfl
      have rf := frozen_of_heap hres
      go_wp2
      refine bodyPost_ret (v := .tuple #[.agg noDeed.cells.toArray, .bool false]) (by simp [results, Tryz.results51, go_sem, Deed.cells, noDeed, r0, r1, r2, r3, r4, r5, r6, r7, r8]) rfl ⟨⟨noDeed, Or.inl ⟨HF.out, rfl⟩, by rw [HF.out]; rfl⟩, ?_⟩
      exact below_set9 hb (Nat.le_refl _) _ _ _ _ _ _ _ _ _

end

section
open Go.RowKit

theorem Tryz.infoDeed : (Tryz.prog.info? 93).map (fun i => (i.zero, i.size, i.bytes)) = some (some (.agg noDeed.cells.toArray), 9, 112) := by kernel_rfl

theorem ref_row {w : World} {rb : Nat} {root time : Int} {ao : Option Addr} {cap : Nat} {ds : List Deed} (hr : RefAt w rb root time ao cap ds) {n c k : Nat} (h : Value.ownBlock (.slice ao n c) = some k) : RefFoot rb ao k ∧ k ≠ rb := by
  cases ao with
  | none => cases h
  | some a =>
    have := (hr.own.lt a.block rfl).1
    have e : a.block = k := by injection h
    exact ⟨Or.inr ⟨a, rfl, e⟩, by omega⟩

theorem done_foot {w : World} {rb : Nat} {root time : Int} {ao : Option Addr} {cap : Nat} {ds : List Deed} (hr : RefAt w rb root time ao cap ds) {n c g' N : Nat} (h : Value.ownBlock (.slice ao n c) = some g' ∨ N ≤ g') :
    ∀ k, RefFoot rb (some ⟨g', 0, none⟩) k → RefFoot rb ao k ∨ N ≤ k := by
  intro k hk
  rcases hk with rfl | ⟨a, e, rfl⟩
  · exact Or.inl (Or.inl rfl)
  · injection e with e
    subst e
    exact h.elim (fun h => Or.inl (ref_row hr h).1) Or.inr

set_option maxHeartbeats 400000 in
theorem done_any (rb : Nat) (root time : Int) (ao : Option Addr) (cap : Nat) (ds : List Deed) (x : Deed) (w : World)
    (hr : RefAt w rb root time ao cap ds) (hlen : ds.length ≤ 1000000000000) :
    Calls Tryz.prog 46 #[.pointer (some ⟨rb, 0, none⟩), .agg x.cells.toArray] w fun e w' =>
      e = .returned (.int .i64 0) ∧ ∃ ao' cap', RefAt w' rb root time ao' cap' (ds ++ [x]) ∧ Chg (RefFoot rb ao) w w' ∧ ∀ k, RefFoot rb ao' k → RefFoot rb ao k ∨ w.heap.size ≤ k := by
  have c2 := hr.c2
  have hrb := hr.lt
  have f2 := hr.f2
  have hown := hr.own
  simp only [Deed.cells]
  obtain ⟨i0, hi, hz0, hz1, hz2⟩ := info_parts Tryz.infoDeed
  go_enter Tryz.func46, Tryz.ntmps46
  go_wp2
  have B1 := hide (show ds.length + 1 ≤ maxLen by unfold maxLen; omega)
  have B2 := hide (show (ds.length + 1) * 112 ≤ 140737488355328 by omega)
  go_region_law (refine step_append_own rfl (.tmp 9) (.tmp 11) 45 rfl (rb + 1) 93 i0 (.agg noDeed.cells.toArray) 9 112 Tryz.underlying45 hi hz0 hz1 hz2 rfl (by decide) (.slice ao ds.length cap) ds.length (deedsCells ds) ?_ ?_ ⟨w.heap.size + 1, 0, none⟩ 1 1 x.cells ?_ rfl ?_ ?_ B1.out B2.out ?_ (Nat.succ_pos _) ?_; simp [Act.eval]; exact (hown.alloc _).alloc _; simp [Act.eval]; exact news_at (t := 93) (fr := (0, 0)) (heap2_new w _ _); simp [Deed.cells, Value.oneCell']; exact Nat.le_trans (show rb + 1 ≤ w.heap.size + 2 by omega) (Nat.le_of_eq (size2 w _ _).symm); intro g' cap' w' hown' hgrow hnew; have hchg : Chg (fun k => RefFoot rb ao k ∧ k ≠ rb) w w' := Chg.ofGrown hgrow rfl rfl rfl (Nat.le_trans (Nat.le_add_right _ 2) (Nat.le_of_eq (size2 w _ _).symm)) (fun k hk => heap2_old w _ _ k hk) (fun k hk => Or.inl (ref_row hr hk)); have hk : w'.heap[rb]? = w.heap[rb]? := hchg.block rb hrb (fun h => h.2 rfl); have k2 := (World.cell?_of_block (a := ⟨rb, 2, none⟩) hk).trans c2; have kf := (World.frozen?_of_block (a := ⟨rb, 2, none⟩) hk).trans f2)
  all_goals
    have hfoot := hide (done_foot hr (N := w.heap.size) (hnew.elim Or.inl (fun h => Or.inr <| Nat.le_trans (Nat.le_trans (Nat.le_add_right _ 2) (Nat.le_of_eq (size2 w _ _).symm)) h)))
    clear hnew hgrow
    go_wp2
    go_ret
    exact ⟨rfl, some ⟨g', 0, none⟩, cap', hr.push hk hown', (hchg.mono (fun _ h => h.1)).setCell (Or.inl (Or.inl rfl)) _, hfoot.out⟩

end

end Go.Proofs.YtgcldedkempjhabGreatDoor
