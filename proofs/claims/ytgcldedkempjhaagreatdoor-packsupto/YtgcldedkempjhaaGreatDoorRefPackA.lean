/-
  depotref: release, granted, yanked, has.
-/
import Derived.Test.YtgcldedkempjhaaGreatDoorRefRole
namespace Go.Proofs.YtgcldedkempjhaaGreatDoor
open Go.RowKit

abbrev kPublish : ByteArray := ⟨#[112, 117, 98, 108, 105, 115, 104]⟩
abbrev kFeed : ByteArray := ⟨#[102, 101, 101, 100]⟩
abbrev kGrant : ByteArray := ⟨#[103, 114, 97, 110, 116]⟩
abbrev kYank : ByteArray := ⟨#[121, 97, 110, 107]⟩
abbrev kBack : ByteArray := ⟨#[98, 97, 99, 107]⟩

def relP (kind house pack : ByteArray) (v : Int) (x : Deed) : Bool := x.kind.toList == kind.toList && x.house.toList == house.toList && x.pack.toList == pack.toList && x.num == v

def relKind (house : ByteArray) : ByteArray := if house.toList.isEmpty then kFeed else kPublish

def relF (ds : List Deed) (house pack : ByteArray) (v : Int) : Option Deed := ds.find? (relP (relKind house) house pack v)

theorem find_take_succ {α : Type} (p : α → Bool) (l : List α) (k : Nat) (h : k < l.length) (hn : (l.take k).find? p = none) : (l.take (k + 1)).find? p = if p l[k] = true then some l[k] else none := by
  rw [List.take_succ_eq_append_getElem h, List.find?_append, hn]
  simp only [Option.none_or, List.find?_cons, List.find?_nil]
  cases p l[k] <;> rfl

theorem find_of_take {α : Type} (p : α → Bool) (l : List α) (k : Nat) {x : α} (h : (l.take k).find? p = some x) : l.find? p = some x := by
  have := List.take_append_drop k l
  rw [← this, List.find?_append, h]
  rfl

set_option maxHeartbeats 800000 in
theorem release_any (rb : Nat) (root time : Int) (ao : Option Addr) (cap : Nat) (ds : List Deed) (house pack : ByteArray) (v : Int) (w : World)
    (hr : RefAt w rb root time ao cap ds) (hlen : ds.length ≤ 1000000000000) :
    Calls Tryz.prog 68 #[.pointer (some ⟨rb, 0, none⟩), .string house, .string pack, .int .i64 v] w fun e w' =>
      (∃ x : Deed, ((relF ds house pack v = none ∧ x = noDeed) ∨ relF ds house pack v = some x) ∧ e = .returned (.tuple #[.agg #[.string x.kind, .string x.house, .int .i64 x.who, .string x.pack, .string x.to, .int .i64 x.num, .int .i64 x.role, .int .i64 x.till, .string x.wants], .bool (relF ds house pack v).isSome])) ∧ Below w.heap.size w w' := by
  have c2 := hr.c2
  have hrb := hr.lt
  obtain ⟨kind, hkd⟩ : ∃ k, k = relKind house := ⟨_, rfl⟩
  have HK := hide hkd
  have hrel : relF ds house pack v = ds.find? (relP kind house pack v) := by rw [hkd]; rfl
  rw [hrel]
  clear hrel
  have hcase : (house.toList.isEmpty = true ∧ kind = kFeed) ∨ (house.toList.isEmpty = false ∧ kind = kPublish) := by
    rw [hkd]; unfold relKind
    cases house.toList.isEmpty <;> simp
  clear hkd HK
  rcases hcase with ⟨hemp, rfl⟩ | ⟨hemp, rfl⟩
  all_goals
    go_enter Tryz.func68, Tryz.ntmps68
    go_wp2
  · go_loopw [11, 12] (fun i _ wr => ∃ k : Nat, k ≤ ds.length ∧ i = .int .i64 k ∧ (ds.take k).find? (relP kFeed house pack v) = none ∧ Below w.heap.size w wr ∧ wr.heap[w.heap.size]? = some (.cells noDeed.cells.toArray 93 (0, 0))) (fun i _ _ => ds.length - (intOf i).toNat)
    case atStart => exact ⟨0, Nat.zero_le _, rfl, rfl, (Below.refl _ _).alloc (Nat.le_refl _) _, heap_alloc_new w _⟩
    case round =>
      obtain ⟨k, hk, rfl, hno, hb, hres⟩ := hrel
      have hsz : w.heap.size < wr.heap.size := (Array.getElem?_eq_some_iff.1 hres).1
      have r0 : wr.cell? ⟨w.heap.size, 0, none⟩ = some _ := (cell_of_heap hres 0).trans rfl
      have r1 : wr.cell? ⟨w.heap.size, 1, none⟩ = some _ := (cell_of_heap hres 1).trans rfl
      have r2 : wr.cell? ⟨w.heap.size, 2, none⟩ = some _ := (cell_of_heap hres 2).trans rfl
      have r3 : wr.cell? ⟨w.heap.size, 3, none⟩ = some _ := (cell_of_heap hres 3).trans rfl
      have r4 : wr.cell? ⟨w.heap.size, 4, none⟩ = some _ := (cell_of_heap hres 4).trans rfl
      have r5 : wr.cell? ⟨w.heap.size, 5, none⟩ = some _ := (cell_of_heap hres 5).trans rfl
      have r6 : wr.cell? ⟨w.heap.size, 6, none⟩ = some _ := (cell_of_heap hres 6).trans rfl
      have r7 : wr.cell? ⟨w.heap.size, 7, none⟩ = some _ := (cell_of_heap hres 7).trans rfl
      have r8 : wr.cell? ⟨w.heap.size, 8, none⟩ = some _ := (cell_of_heap hres 8).trans rfl
      have rf := frozen_of_heap hres
      have c2' := (hb.cell (p := ⟨rb, 2, none⟩) hrb).trans c2
      by_cases hlt : k < ds.length
      · have HS := hide (find_take_succ (relP kFeed house pack v) ds k hlt hno)
        clear hno
        obtain ⟨g, rfl, hg, hx⟩ := hr.deed k hlt
        obtain ⟨d0, d1, d2, d3, d4, d5, d6, d7, d8⟩ := hx.below hb hg
        have HP := hide (show relP kFeed house pack v ds[k] = (ds[k].kind.toList == (kFeed : ByteArray).toList && ds[k].house.toList == house.toList && ds[k].pack.toList == pack.toList && ds[k].num == v) from rfl)
        cases hp : relP kFeed house pack v ds[k] with
        | true =>
          have hfin := hide (find_of_take (relP kFeed house pack v) ds (k + 1) (x := ds[k]) (by rw [HS.out, hp]; rfl))
          have hq := HP.out
          rw [hp] at hq
          simp only [Bool.true_eq, Bool.and_eq_true] at hq
          obtain ⟨⟨⟨t1, t2⟩, t3⟩, t4⟩ := hq
          have t0 : (ds[k].kind.toList == [102, 101, 101, 100]) = true := by simpa using t1
          clear t1
          clear hp
          go_wp2
          refine bodyPost_ret (v := .tuple #[.agg ds[k].cells.toArray, .bool true]) (by simp [results, Tryz.results68, go_sem, hsz, Deed.cells, r0, r1, r2, r3, r4, r5, r6, r7, r8]) rfl ⟨⟨ds[k], Or.inr hfin.out, by rw [hfin.out]; rfl⟩, ?_⟩
          exact (below_set9 hb (Nat.le_refl _) _ _ _ _ _ _ _ _ _).alloc (by simp; omega) _
        | false =>
          have HQ := hide (HP.out.symm.trans hp)
          have HE := hide (show (ds.take (k + 1)).find? (relP kFeed house pack v) = none by rw [HS.out, hp]; rfl)
          clear hp
          go_wp2
          all_goals first
            | (exfalso; have := HQ.out; simp [*] at this; done)
            | (go_roundw
               case rel => exact ⟨k + 1, by omega, by go_num, HE.out, hb.alloc hb.size _, by rw [Below.heap_alloc _ _ _ hsz]; exact hres⟩
               case measure => simp [intOf] <;> omega)
      · have hfin := hide (show ds.find? (relP kFeed house pack v) = none by rw [List.take_of_length_le (by omega)] at hno; exact hno)
        clear hno
        go_wp2
        refine bodyPost_ret (v := .tuple #[.agg noDeed.cells.toArray, .bool false]) (by simp [results, Tryz.results68, go_sem, Deed.cells, noDeed, r0, r1, r2, r3, r4, r5, r6, r7, r8]) rfl ⟨⟨noDeed, Or.inl ⟨hfin.out, rfl⟩, by rw [hfin.out]; rfl⟩, ?_⟩
        exact below_set9 hb (Nat.le_refl _) _ _ _ _ _ _ _ _ _
  · go_loopw [11, 12] (fun i _ wr => ∃ k : Nat, k ≤ ds.length ∧ i = .int .i64 k ∧ (ds.take k).find? (relP kPublish house pack v) = none ∧ Below w.heap.size w wr ∧ wr.heap[w.heap.size]? = some (.cells noDeed.cells.toArray 93 (0, 0))) (fun i _ _ => ds.length - (intOf i).toNat)
    case atStart => exact ⟨0, Nat.zero_le _, rfl, rfl, (Below.refl _ _).alloc (Nat.le_refl _) _, heap_alloc_new w _⟩
    case round =>
      obtain ⟨k, hk, rfl, hno, hb, hres⟩ := hrel
      have hsz : w.heap.size < wr.heap.size := (Array.getElem?_eq_some_iff.1 hres).1
      have r0 : wr.cell? ⟨w.heap.size, 0, none⟩ = some _ := (cell_of_heap hres 0).trans rfl
      have r1 : wr.cell? ⟨w.heap.size, 1, none⟩ = some _ := (cell_of_heap hres 1).trans rfl
      have r2 : wr.cell? ⟨w.heap.size, 2, none⟩ = some _ := (cell_of_heap hres 2).trans rfl
      have r3 : wr.cell? ⟨w.heap.size, 3, none⟩ = some _ := (cell_of_heap hres 3).trans rfl
      have r4 : wr.cell? ⟨w.heap.size, 4, none⟩ = some _ := (cell_of_heap hres 4).trans rfl
      have r5 : wr.cell? ⟨w.heap.size, 5, none⟩ = some _ := (cell_of_heap hres 5).trans rfl
      have r6 : wr.cell? ⟨w.heap.size, 6, none⟩ = some _ := (cell_of_heap hres 6).trans rfl
      have r7 : wr.cell? ⟨w.heap.size, 7, none⟩ = some _ := (cell_of_heap hres 7).trans rfl
      have r8 : wr.cell? ⟨w.heap.size, 8, none⟩ = some _ := (cell_of_heap hres 8).trans rfl
      have rf := frozen_of_heap hres
      have c2' := (hb.cell (p := ⟨rb, 2, none⟩) hrb).trans c2
      by_cases hlt : k < ds.length
      · have HS := hide (find_take_succ (relP kPublish house pack v) ds k hlt hno)
        clear hno
        obtain ⟨g, rfl, hg, hx⟩ := hr.deed k hlt
        obtain ⟨d0, d1, d2, d3, d4, d5, d6, d7, d8⟩ := hx.below hb hg
        have HP := hide (show relP kPublish house pack v ds[k] = (ds[k].kind.toList == (kPublish : ByteArray).toList && ds[k].house.toList == house.toList && ds[k].pack.toList == pack.toList && ds[k].num == v) from rfl)
        cases hp : relP kPublish house pack v ds[k] with
        | true =>
          have hfin := hide (find_of_take (relP kPublish house pack v) ds (k + 1) (x := ds[k]) (by rw [HS.out, hp]; rfl))
          have hq := HP.out
          rw [hp] at hq
          simp only [Bool.true_eq, Bool.and_eq_true] at hq
          obtain ⟨⟨⟨t1, t2⟩, t3⟩, t4⟩ := hq
          have t0 : (ds[k].kind.toList == [112, 117, 98, 108, 105, 115, 104]) = true := by simpa using t1
          clear t1
          clear hp
          go_wp2
          refine bodyPost_ret (v := .tuple #[.agg ds[k].cells.toArray, .bool true]) (by simp [results, Tryz.results68, go_sem, hsz, Deed.cells, r0, r1, r2, r3, r4, r5, r6, r7, r8]) rfl ⟨⟨ds[k], Or.inr hfin.out, by rw [hfin.out]; rfl⟩, ?_⟩
          exact (below_set9 hb (Nat.le_refl _) _ _ _ _ _ _ _ _ _).alloc (by simp; omega) _
        | false =>
          have HQ := hide (HP.out.symm.trans hp)
          have HE := hide (show (ds.take (k + 1)).find? (relP kPublish house pack v) = none by rw [HS.out, hp]; rfl)
          clear hp
          go_wp2
          all_goals first
            | (exfalso; have := HQ.out; simp [*] at this; done)
            | (go_roundw
               case rel => exact ⟨k + 1, by omega, by go_num, HE.out, hb.alloc hb.size _, by rw [Below.heap_alloc _ _ _ hsz]; exact hres⟩
               case measure => simp [intOf] <;> omega)
      · have hfin := hide (show ds.find? (relP kPublish house pack v) = none by rw [List.take_of_length_le (by omega)] at hno; exact hno)
        clear hno
        go_wp2
        refine bodyPost_ret (v := .tuple #[.agg noDeed.cells.toArray, .bool false]) (by simp [results, Tryz.results68, go_sem, Deed.cells, noDeed, r0, r1, r2, r3, r4, r5, r6, r7, r8]) rfl ⟨⟨noDeed, Or.inl ⟨hfin.out, rfl⟩, by rw [hfin.out]; rfl⟩, ?_⟩
        exact below_set9 hb (Nat.le_refl _) _ _ _ _ _ _ _ _ _

end Go.Proofs.YtgcldedkempjhaaGreatDoor
