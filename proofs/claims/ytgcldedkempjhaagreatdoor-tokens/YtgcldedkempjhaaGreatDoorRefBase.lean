/-
  What is kept in memory by depotref.Depot, said of cells.
-/
import Derived.Test.YtgcldedkempjhaaGreatDoorBase
namespace Go.Proofs.YtgcldedkempjhaaGreatDoor
open Go.RowKit

structure Deed where
  kind : ByteArray
  house : ByteArray
  who : Int
  pack : ByteArray
  to : ByteArray
  num : Int
  role : Int
  till : Int
  wants : ByteArray

def Deed.cells (x : Deed) : List Value :=
  [.string x.kind, .string x.house, .int .i64 x.who, .string x.pack, .string x.to, .int .i64 x.num, .int .i64 x.role, .int .i64 x.till, .string x.wants]

def noDeed : Deed := ⟨⟨#[]⟩, ⟨#[]⟩, 0, ⟨#[]⟩, ⟨#[]⟩, 0, 0, 0, ⟨#[]⟩⟩

theorem Deed.cells_length (x : Deed) : x.cells.length = 9 := rfl

def deedsCells (ds : List Deed) : List Value := ds.flatMap Deed.cells

theorem deedsCells_length (ds : List Deed) : (deedsCells ds).length = ds.length * 9 := by
  induction ds with
  | nil => rfl
  | cons x ds ih => simp [deedsCells, Deed.cells_length] at *; omega

theorem deedsCells_append (a b : List Deed) : deedsCells (a ++ b) = deedsCells a ++ deedsCells b := by simp [deedsCells]

theorem deedsCells_get (ds : List Deed) (k j : Nat) (hk : k < ds.length) (hj : j < 9) : (deedsCells ds)[9 * k + j]? = (ds[k]).cells[j]? := by
  induction ds generalizing k with
  | nil => simp at hk
  | cons x ds ih =>
    cases k with
    | zero =>
      show (x.cells ++ deedsCells ds)[9 * 0 + j]? = _
      rw [List.getElem?_append_left (by rw [Deed.cells_length]; omega)]
      simp
    | succ k =>
      show (x.cells ++ deedsCells ds)[9 * (k + 1) + j]? = _
      rw [List.getElem?_append_right (by rw [Deed.cells_length]; omega), Deed.cells_length, show 9 * (k + 1) + j - 9 = 9 * k + j from by omega]
      rw [ih k (by simpa using hk)]
      simp

/-- The document's depot at block rb: its three cells, its deeds' row. -/
structure RefAt (w : World) (rb : Nat) (root time : Int) (ao : Option Addr) (cap : Nat) (ds : List Deed) : Prop where
  c0 : w.cell? ⟨rb, 0, none⟩ = some (.int .i64 root)
  c1 : w.cell? ⟨rb, 1, none⟩ = some (.int .i64 time)
  c2 : w.cell? ⟨rb, 2, none⟩ = some (.slice ao ds.length cap)
  f1 : w.frozen? ⟨rb, 1, none⟩ = false
  f2 : w.frozen? ⟨rb, 2, none⟩ = false
  own : w.ownsRow (rb + 1) 93 9 (.slice ao ds.length cap) ds.length (deedsCells ds)

theorem RefAt.lt {w : World} {rb : Nat} {root time : Int} {ao : Option Addr} {cap : Nat} {ds : List Deed} (h : RefAt w rb root time ao cap ds) : rb < w.heap.size :=
  World.block_lt_of_cell? w _ h.c0

/-- The blocks of the document's depot. -/
def RefFoot (rb : Nat) (ao : Option Addr) (k : Nat) : Prop := k = rb ∨ blockOf ao k

theorem RefAt.foot_lt {w : World} {rb : Nat} {root time : Int} {ao : Option Addr} {cap : Nat} {ds : List Deed} (h : RefAt w rb root time ao cap ds) (k : Nat) (hk : RefFoot rb ao k) : k < w.heap.size := by
  rcases hk with rfl | ⟨a, rfl, rfl⟩
  · exact h.lt
  · exact (h.own.lt a.block rfl).2

theorem RefAt.keep {w w' : World} {rb : Nat} {root time : Int} {ao : Option Addr} {cap : Nat} {ds : List Deed} (h : RefAt w rb root time ao cap ds) (hk : ∀ k, RefFoot rb ao k → w'.heap[k]? = w.heap[k]?) : RefAt w' rb root time ao cap ds := by
  have h0 : w'.heap[rb]? = w.heap[rb]? := hk rb (Or.inl rfl)
  refine ⟨(World.cell?_of_block h0).trans h.c0, (World.cell?_of_block h0).trans h.c1, (World.cell?_of_block h0).trans h.c2, (World.frozen?_of_block h0).trans h.f1, (World.frozen?_of_block h0).trans h.f2, h.own.1, ?_⟩
  rcases h.own.2 with hn | ⟨g, cp, cur, hv, hb, hg, r⟩
  · exact Or.inl hn
  · refine Or.inr ⟨g, cp, cur, hv, hb, ?_, r⟩
    have hao : ao = some ⟨g, 0, none⟩ := by injection hv
    rw [hk g (Or.inr ⟨_, hao, rfl⟩)]; exact hg

theorem RefAt.below {w w' : World} {rb : Nat} {root time : Int} {ao : Option Addr} {cap : Nat} {ds : List Deed} (h : RefAt w rb root time ao cap ds) (hb : Below w.heap.size w w') : RefAt w' rb root time ao cap ds :=
  h.keep fun k hk => hb.block k (h.foot_lt k hk)

/-- A deed more: the row has grown, the depot's cell holds it. -/
theorem RefAt.push {w w' : World} {rb : Nat} {root time : Int} {ao : Option Addr} {cap : Nat} {ds : List Deed} {x : Deed} {g' cap' : Nat} (h : RefAt w rb root time ao cap ds)
    (hk : w'.heap[rb]? = w.heap[rb]?) (hown : w'.ownsRow (rb + 1) 93 9 (.slice (some ⟨g', 0, none⟩) (ds.length + 1) cap') (ds.length + 1) (deedsCells ds ++ x.cells)) :
    RefAt (w'.setCell ⟨rb, 2, none⟩ (.slice (some ⟨g', 0, none⟩) (ds.length + 1) cap')) rb root time (some ⟨g', 0, none⟩) cap' (ds ++ [x]) := by
  have e0 := (World.cell?_of_block (a := ⟨rb, 0, none⟩) hk).trans h.c0
  have e1 := (World.cell?_of_block (a := ⟨rb, 1, none⟩) hk).trans h.c1
  have e2 := (World.cell?_of_block (a := ⟨rb, 2, none⟩) hk).trans h.c2
  refine ⟨?_, ?_, ?_, ?_, ?_, ?_⟩
  · rw [cell_setCell_ne (by omega)]; exact e0
  · rw [cell_setCell_ne (by omega)]; exact e1
  · rw [cell_setCell_same e2]; simp
  · rw [frozen_setCell]; exact (World.frozen?_of_block (a := ⟨rb, 1, none⟩) hk).trans h.f1
  · rw [frozen_setCell]; exact (World.frozen?_of_block (a := ⟨rb, 2, none⟩) hk).trans h.f2
  · have hd : deedsCells (ds ++ [x]) = deedsCells ds ++ x.cells := by simp [deedsCells]
    rw [hd, List.length_append, List.length_singleton]
    exact ownsRow_setCell_below hown (Nat.lt_succ_self rb) _

/-- The cells of one deed in its row. -/
structure DeedAt (w : World) (g o : Nat) (x : Deed) : Prop where
  d0 : w.cell? ⟨g, o, none⟩ = some (.string x.kind)
  d1 : w.cell? ⟨g, o + 1, none⟩ = some (.string x.house)
  d2 : w.cell? ⟨g, o + 2, none⟩ = some (.int .i64 x.who)
  d3 : w.cell? ⟨g, o + 3, none⟩ = some (.string x.pack)
  d4 : w.cell? ⟨g, o + 4, none⟩ = some (.string x.to)
  d5 : w.cell? ⟨g, o + 5, none⟩ = some (.int .i64 x.num)
  d6 : w.cell? ⟨g, o + 6, none⟩ = some (.int .i64 x.role)
  d7 : w.cell? ⟨g, o + 7, none⟩ = some (.int .i64 x.till)
  d8 : w.cell? ⟨g, o + 8, none⟩ = some (.string x.wants)

theorem DeedAt.of_cells {w w' : World} {g o : Nat} {x : Deed} (h : DeedAt w g o x) (hc : ∀ j, w'.cell? ⟨g, j, none⟩ = w.cell? ⟨g, j, none⟩) : DeedAt w' g o x :=
  ⟨(hc _).trans h.d0, (hc _).trans h.d1, (hc _).trans h.d2, (hc _).trans h.d3, (hc _).trans h.d4, (hc _).trans h.d5, (hc _).trans h.d6, (hc _).trans h.d7, (hc _).trans h.d8⟩

theorem DeedAt.below {w w' : World} {B g o : Nat} {x : Deed} (h : DeedAt w g o x) (hb : Below B w w') (hg : g < B) : DeedAt w' g o x :=
  h.of_cells fun j => hb.cell (p := ⟨g, j, none⟩) hg

theorem RefAt.deed {w : World} {rb : Nat} {root time : Int} {ao : Option Addr} {cap : Nat} {ds : List Deed} (h : RefAt w rb root time ao cap ds) (k : Nat) (hk : k < ds.length) :
    ∃ g, ao = some ⟨g, 0, none⟩ ∧ g < w.heap.size ∧ DeedAt w g (k * 9) ds[k] := by
  rcases h.own.2 with ⟨hn, h0⟩ | ⟨g, cp, cur, hv, _, hg, _⟩
  · omega
  · have hao : ao = some ⟨g, 0, none⟩ := by injection hv
    have key : ∀ j u, (ds[k]).cells[j]? = some u → w.cell? ⟨g, k * 9 + j, none⟩ = some u := by
      intro j u hu
      have hj : j < 9 := by
        have := (List.getElem?_eq_some_iff.1 hu).1
        rw [Deed.cells_length] at this; exact this
      have hget := deedsCells_get ds k j hk hj
      have := h.own.cells (g := g) (by rw [hao]; rfl) (9 * k + j) u (hget.trans hu)
      rw [← this]
      congr 1
      unfold Addr.add; split <;> simp_all <;> omega
    exact ⟨g, hao, (Array.getElem?_eq_some_iff.1 hg).1, key 0 _ rfl, key 1 _ rfl, key 2 _ rfl, key 3 _ rfl, key 4 _ rfl, key 5 _ rfl, key 6 _ rfl, key 7 _ rfl, key 8 _ rfl⟩

end Go.Proofs.YtgcldedkempjhaaGreatDoor
