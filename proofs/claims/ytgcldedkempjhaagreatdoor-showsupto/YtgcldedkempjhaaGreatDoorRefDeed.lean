/-
  depotref: the last deed of a kind, of a house, with a number.
-/
import Derived.Test.YtgcldedkempjhaaGreatDoorRows
import Derived.Test.YtgcldedkempjhaaGreatDoorRefBase
namespace Go.Proofs.YtgcldedkempjhaaGreatDoor
open Go.RowKit

def deedP (kind house : ByteArray) (n : Int) (x : Deed) : Bool := x.kind.toList == kind.toList && x.house.toList == house.toList && x.num == n

def deedF (ds : List Deed) (kind house : ByteArray) (n : Int) : Option Deed := ds.reverse.find? (deedP kind house n)

theorem deedF_take_succ (ds : List Deed) (kind house : ByteArray) (n : Int) (k : Nat) (h : k < ds.length) :
    deedF (ds.take (k + 1)) kind house n = if deedP kind house n ds[k] = true then some ds[k] else deedF (ds.take k) kind house n := by
  unfold deedF
  rw [List.take_succ_eq_append_getElem h, List.reverse_append]
  simp only [List.reverse_cons, List.reverse_nil, List.nil_append, List.singleton_append, List.find?_cons]
  cases deedP kind house n ds[k] <;> rfl

set_option maxHeartbeats 400000 in
theorem deed_any (rb : Nat) (root time : Int) (ao : Option Addr) (cap : Nat) (ds : List Deed) (kind house : ByteArray) (n : Int) (w : World)
    (hr : RefAt w rb root time ao cap ds) (hlen : ds.length ≤ 1000000000000) :
    Calls Tryz.prog 55 #[.pointer (some ⟨rb, 0, none⟩), .string kind, .string house, .int .i64 n] w fun e w' =>
      (∃ x, ((deedF ds kind house n = none ∧ x = noDeed) ∨ deedF ds kind house n = some x) ∧ e = .returned (.tuple #[.agg x.cells.toArray, .bool (deedF ds kind house n).isSome])) ∧ Below w.heap.size w w' := by
  have c2 := hr.c2
  have hrb := hr.lt
  go_enter Tryz.func55, Tryz.ntmps55
  go_wp2
  go_loopw [10, 11] (fun i _ wr => ∃ k : Nat, k ≤ ds.length ∧ i = .int .i64 ((k : Int) - 1) ∧ deedF ds kind house n = deedF (ds.take k) kind house n ∧ Below w.heap.size w wr ∧ wr.heap[w.heap.size]? = some (.cells noDeed.cells.toArray 93 (0, 0))) (fun i _ _ => (intOf i + 1).toNat)
  case atStart => exact ⟨ds.length, Nat.le_refl _, rfl, by rw [List.take_length], (Below.refl _ _).alloc (Nat.le_refl _) _, heap_alloc_new w _⟩
  case round =>
    obtain ⟨k, hk, rfl, hde, hb, hres⟩ := hrel
    by_cases hlt : 0 < k
    · obtain ⟨k, rfl⟩ : ∃ j, k = j + 1 := ⟨k - 1, by omega⟩
      have HD := hide hde
      clear hde
      obtain ⟨g, rfl, hg, hx⟩ := hr.deed k (by omega)
      have c2' := (hb.cell (p := ⟨rb, 2, none⟩) hrb).trans c2
      obtain ⟨d0, d1, d2, d3, d4, d5, d6, d7, d8⟩ := hx.below hb hg
      have hsz : w.heap.size < wr.heap.size := (Array.getElem?_eq_some_iff.1 hres).1
      have r0 : wr.cell? ⟨w.heap.size, 0, none⟩ = some _ := (cell_of_heap hres 0).trans rfl
      have r1 : wr.cell? ⟨w.heap.size, 1, none⟩ = some _ := (cell_of_heap hres 1).trans rfl
      have r2 : wr.cell? ⟨w.heap.size, 2, none⟩ = some _ := (cell_of_heap hres 2).trans rfl
      have r3 : wr.cell? ⟨w.heap.size, 3, none⟩ = some _ := (cell_of_heap hres 3).trans rfl
      have r4 : wr.cell? ⟨w.heap.size, 4, none⟩ = some _ := (cell_of_heap hres 4).trans rfl
      have r5 : wr.cell? ⟨w.heap.size, 5, none⟩ = some _ := (cell_of_heap hres 5).trans rfl
      have r6 : wr.cell? ⟨w.heap.size, 6, none⟩ = some _ := (cell_of_heap hres 6).trans rfl
      have r7 : wr.cell? ⟨w.heap.size, 7, none⟩ = some _ := (cell_of_heap hres 7).trans rfl
      have r8 : wr.cell? ⟨w.heap.size, 8, none⟩ = some _ := (cell_of_heap hres 8).trans rfl
      have rf := frozen_of_heap hres
      have HS := hide (deedF_take_succ ds kind house n k (by omega))
      go_wp2
      · have hp : deedP kind house n ds[k] = true := by simp [deedP, *]
        have hfin : deedF ds kind house n = some ds[k] := by rw [HD.out, HS.out, if_pos hp]
        refine bodyPost_ret (v := .tuple #[.agg ds[k].cells.toArray, .bool true]) (by simp [results, Tryz.results55, go_sem, hsz, Deed.cells, r0, r1, r2, r3, r4, r5, r6, r7, r8]) rfl ⟨⟨ds[k], Or.inr hfin, by rw [hfin]; rfl⟩, ?_⟩
        exact (below_set9 hb (Nat.le_refl _) _ _ _ _ _ _ _ _ _).alloc (by simp; omega) _
      all_goals
        have hp : deedP kind house n ds[k] = false := by simp [deedP, *]
        go_roundw
        case rel => exact ⟨k, by omega, rfl, by rw [HD.out, HS.out, if_neg (by rw [hp]; decide)], hb.alloc hb.size _, by rw [Below.heap_alloc _ _ _ hsz]; exact hres⟩
        case measure => simp [intOf] <;> omega
    · obtain rfl : k = 0 := by omega
      have hfin : deedF ds kind house n = none := by rw [hde]; rfl
      have HF := hide hfin
      clear hde hfin
      have hsz : w.heap.size < wr.heap.size := (Array.getElem?_eq_some_iff.1 hres).1
      have r0 : wr.cell? ⟨w.heap.size, 0, none⟩ = some _ := (cell_of_heap hres 0).trans rfl
      have r1 : wr.cell? ⟨w.heap.size, 1, none⟩ = some _ := (cell_of_heap hres 1).trans rfl
      have r2 : wr.cell? ⟨w.heap.size, 2, none⟩ = some _ := (cell_of_heap hres 2).trans rfl
      have r3 : wr.cell? ⟨w.heap.size, 3, none⟩ = some _ := (cell_of_heap hres 3).trans rfl
      have r4 : wr.cell? ⟨w.heap.size, 4, none⟩ = some _ := (cell_of_heap hres 4).trans rfl
      have r5 : wr.cell? ⟨w.heap.size, 5, none⟩ = some _ := (cell_of_heap hres 5).trans rfl
      have r6 : wr.cell? ⟨w.heap.size, 6, none⟩ = some _ := (cell_of_heap hres 6).trans rfl
      have r7 : wr.cell? ⟨w.heap.size, 7, none⟩ = some _ := (cell_of_heap hres 7).trans rfl
      have r8 : wr.cell? ⟨w.heap.size, 8, none⟩ = some _ := (cell_of_heap hres 8).trans rfl
      have rf := frozen_of_heap hres
      go_wp2
      refine bodyPost_ret (v := .tuple #[.agg noDeed.cells.toArray, .bool false]) (by simp [results, Tryz.results55, go_sem, Deed.cells, noDeed, r0, r1, r2, r3, r4, r5, r6, r7, r8]) rfl ⟨⟨noDeed, Or.inl ⟨HF.out, rfl⟩, by rw [HF.out]; rfl⟩, ?_⟩
      exact below_set9 hb (Nat.le_refl _) _ _ _ _ _ _ _ _ _

end Go.Proofs.YtgcldedkempjhaaGreatDoor
