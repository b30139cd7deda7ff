/-
  depotref: cut, name, whose, number of one digit, owner.
-/
import Derived.Test.YtgcldedkempjhabGreatDoorRefRole
namespace Go.Proofs.YtgcldedkempjhabGreatDoor
section
open Go.RowKit

abbrev kPublish : ByteArray := ⟨#[112, 117, 98, 108, 105, 115, 104]⟩
abbrev kFeed : ByteArray := ⟨#[102, 101, 101, 100]⟩
abbrev kGrant : ByteArray := ⟨#[103, 114, 97, 110, 116]⟩
abbrev kYank : ByteArray := ⟨#[121, 97, 110, 107]⟩
abbrev kBack : ByteArray := ⟨#[98, 97, 99, 107]⟩

def relP (kind house pack : ByteArray) (v : Int) (x : Deed) : Bool := x.kind.toList == kind.toList && x.house.toList == house.toList && x.pack.toList == pack.toList && x.num == v

def relKind (house : ByteArray) : ByteArray := if house.toList.isEmpty then kFeed else kPublish

def relF (ds : List Deed) (house pack : ByteArray) (v : Int) : Option Deed := ds.find? (relP (relKind house) house pack v)

theorem find_take_succ {α : Type} (p : α → Bool) (l : List α) (k : Nat) (h : k < l.length) (hn : (l.take k).find? p = none) : (l.take (k + 1)).find? p = if p l[k] = true then some l[k] else none := by
  rw [List.take_succ_eq_append_getElem h, List.find?_append, hn]
  simp only [Option.none_or, List.find?_cons, List.find?_nil]
  cases p l[k] <;> rfl

theorem find_of_take {α : Type} (p : α → Bool) (l : List α) (k : Nat) {x : α} (h : (l.take k).find? p = some x) : l.find? p = some x := by
  have := List.take_append_drop k l
  rw [← this, List.find?_append, h]
  rfl

set_option maxHeartbeats 800000 in
theorem release_any (rb : Nat) (root time : Int) (ao : Option Addr) (cap : Nat) (ds : List Deed) (house pack : ByteArray) (v : Int) (w : World)
    (hr : RefAt w rb root time ao cap ds) (hlen : ds.length ≤ 1000000000000) :
    Calls Tryz.prog 64 #[.pointer (some ⟨rb, 0, none⟩), .string house, .string pack, .int .i64 v] w fun e w' =>
      (∃ x : Deed, ((relF ds house pack v = none ∧ x = noDeed) ∨ relF ds house pack v = some x) ∧ e = .returned (.tuple #[.agg #[.string x.kind, .string x.house, .int .i64 x.who, .string x.pack, .string x.to, .int .i64 x.num, .int .i64 x.role, .int .i64 x.till, .string x.wants], .bool (relF ds house pack v).isSome])) ∧ Below w.heap.size w w' := by
  have c2 := hr.c2
  have hrb := hr.lt
  obtain ⟨kind, hkd⟩ : ∃ k, k = relKind house := ⟨_, rfl⟩
  have HK := hide hkd
  have hrel : relF ds house pack v = ds.find? (relP kind house pack v) := by rw [hkd]; rfl
  rw [hrel]
  clear hrel
  have hcase : (house.toList.isEmpty = true ∧ kind = kFeed) ∨ (house.toList.isEmpty = false ∧ kind = kPublish) := by
    rw [hkd]; unfold relKind
    cases house.toList.isEmpty <;> simp
  clear hkd HK
  rcases hcase with ⟨hemp, rfl⟩ | ⟨hemp, rfl⟩
  all_goals
    go_enter Tryz.func64, Tryz.ntmps64
    go_wp2
  · go_loopw [11, 12] (fun i _ wr => ∃ k : Nat, k ≤ ds.length ∧ i = .int .i64 k ∧ (ds.take k).find? (relP kFeed house pack v) = none ∧ Below w.heap.size w wr ∧ wr.heap[w.heap.size]? = some (.cells noDeed.cells.toArray 93 (0, 0))) (fun i _ _ => ds.length - (intOf i).toNat)
    case atStart => exact ⟨0, Nat.zero_le _, rfl, rfl, (Below.refl _ _).alloc (Nat.le_refl _) _, heap_alloc_new w _⟩
    case round =>
      obtain ⟨k, hk, rfl, hno, hb, hres⟩ := hrel
      have hsz : w.heap.size < wr.heap.size := (Array.getElem?_eq_some_iff.1 hres).1
      have r0 : wr.cell? ⟨w.heap.size, 0, none⟩ = some _ := (cell_of_heap hres 0).trans rfl
      have r1 : wr.cell? ⟨w.heap.size, 1, none⟩ = some _ := (cell_of_heap hres 1).trans rfl
      have r2 : wr.cell? ⟨w.heap.size, 2, none⟩ = some _ := (cell_of_heap hres 2).trans rfl
      have r3 : wr.cell? ⟨w.heap.size, 3, none⟩ = some _ := (cell_of_heap hres 3).trans rfl
      have r4 : wr.cell? ⟨w.heap.size, 4, none⟩ = some _ := (cell_of_heap hres 4).trans rfl
      have r5 : wr.cell? ⟨w.heap.size, 5, none⟩ = some _ := (cell_of_heap hres 5).trans rfl
      have r6 : wr.cell? ⟨w.heap.size, 6, none⟩ = some _ := (cell_of_heap hres 6).trans rfl
      have r7 : wr.cell? ⟨w.heap.size, 7, none⟩ = some _ := (cell_of_heap hres 7).trans rfl
      have r8 : wr.cell? ⟨w.heap.size, 8, none⟩ = some _ := (cell_of_heap hres 8).trans rfl
      have rf := frozen_of_heap hres
      have c2' := (hb.cell (p := ⟨rb, 2, none⟩) hrb).trans c2
      by_cases hlt : k < ds.length
      · have HS := hide (find_take_succ (relP kFeed house pack v) ds k hlt hno)
        clear hno
        obtain ⟨g, rfl, hg, hx⟩ := hr.deed k hlt
        obtain ⟨d0, d1, d2, d3, d4, d5, d6, d7, d8⟩ := hx.below hb hg
        have HP := hide (show relP kFeed house pack v ds[k] = (ds[k].kind.toList == (kFeed : ByteArray).toList && ds[k].house.toList == house.toList && ds[k].pack.toList == pack.toList && ds[k].num == v) from rfl)
        cases hp : relP kFeed house pack v ds[k] with
        | true =>
          have hfin := hide (find_of_take (relP kFeed house pack v) ds (k + 1) (x := ds[k]) (by rw [HS.out, hp]; rfl))
          have hq := HP.out
          rw [hp] at hq
          simp only [Bool.true_eq, Bool.and_eq_true] at hq
          obtain ⟨⟨⟨t1, t2⟩, t3⟩, t4⟩ := hq
          have t0 : (ds[k].kind.toList == [102, 101, 101, 100]) = true := by simpa using t1
          clear t1
          clear hp
          go_wp2
          refine bodyPost_ret (v := .tuple #[.agg ds[k].cells.toArray, .bool true]) (by simp [results, Tryz.results64, go_sem, hsz, Deed.cells, r0, r1, r2, r3, r4, r5, r6, r7, r8]) rfl ⟨⟨ds[k], Or.inr hfin.out, by rw [hfin.out]; rfl⟩, ?_⟩
          exact (below_set9 hb (Nat.le_refl _) _ _ _ _ _ _ _ _ _).alloc (by simp; omega) _
        | false =>
          have HQ := hide (HP.out.symm.trans hp)
          have HE := hide (show (ds.take (k + 1)).find? (relP kFeed house pack v) = none by rw [HS.out, hp]; rfl)
          clear hp
          go_wp2
          all_goals first
            | (exfalso; have := HQ.out; simp [*] at this; done)
            | (go_roundw
               case rel => exact ⟨k + 1, by omega, by go_num, HE.out, hb.alloc hb.size _, by rw [Below.heap_alloc _ _ _ hsz]; exact hres⟩
               case measure => simp [intOf] <;> omega)
      · have hfin := hide (show ds.find? (relP kFeed house pack v) = none by rw [List.take_of_length_le (by omega)] at hno; exact hno)
        clear hno
        go_wp2
        refine bodyPost_ret (v := .tuple #[.agg noDeed.cells.toArray, .bool false]) (by simp [results, Tryz.results64, go_sem, Deed.cells, noDeed, r0, r1, r2, r3, r4, r5, r6, r7, r8]) rfl ⟨⟨noDeed, Or.inl ⟨hfin.out, rfl⟩, by rw [hfin.out]; rfl⟩, ?_⟩
        exact below_set9 hb (Nat.le_refl _) _ _ _ _ _ _ _ _ _
  · go_loopw [11, 12] (fun i _ wr => ∃ k : Nat, k ≤ ds.length ∧ i = .int .i64 k ∧ (ds.take k).find? (relP kPublish house pack v) = none ∧ Below w.heap.size w wr ∧ wr.heap[w.heap.size]? = some (.cells noDeed.cells.toArray 93 (0, 0))) (fun i _ _ => ds.length - (intOf i).toNat)
    case atStart => exact ⟨0, Nat.zero_le _, rfl, rfl, (Below.refl _ _).alloc (Nat.le_refl _) _, heap_alloc_new w _⟩
    case round =>
      obtain ⟨k, hk, rfl, hno, hb, hres⟩ := hrel
      have hsz : w.heap.size < wr.heap.size := (Array.getElem?_eq_some_iff.1 hres).1
      have r0 : wr.cell? ⟨w.heap.size, 0, none⟩ = some _ := (cell_of_heap hres 0).trans rfl
      have r1 : wr.cell? ⟨w.heap.size, 1, none⟩ = some _ := (cell_of_heap hres 1).trans rfl
      have r2 : wr.cell? ⟨w.heap.size, 2, none⟩ = some _ := (cell_of_heap hres 2).trans rfl
      have r3 : wr.cell? ⟨w.heap.size, 3, none⟩ = some _ := (cell_of_heap hres 3).trans rfl
      have r4 : wr.cell? ⟨w.heap.size, 4, none⟩ = some _ := (cell_of_heap hres 4).trans rfl
      have r5 : wr.cell? ⟨w.heap.size, 5, none⟩ = some _ := (cell_of_heap hres 5).trans rfl
      have r6 : wr.cell? ⟨w.heap.size, 6, none⟩ = some _ := (cell_of_heap hres 6).trans rfl
      have r7 : wr.cell? ⟨w.heap.size, 7, none⟩ = some _ := (cell_of_heap hres 7).trans rfl
      have r8 : wr.cell? ⟨w.heap.size, 8, none⟩ = some _ := (cell_of_heap hres 8).trans rfl
      have rf := frozen_of_heap hres
      have c2' := (hb.cell (p := ⟨rb, 2, none⟩) hrb).trans c2
      by_cases hlt : k < ds.length
      · have HS := hide (find_take_succ (relP kPublish house pack v) ds k hlt hno)
        clear hno
        obtain ⟨g, rfl, hg, hx⟩ := hr.deed k hlt
        obtain ⟨d0, d1, d2, d3, d4, d5, d6, d7, d8⟩ := hx.below hb hg
        have HP := hide (show relP kPublish house pack v ds[k] = (ds[k].kind.toList == (kPublish : ByteArray).toList && ds[k].house.toList == house.toList && ds[k].pack.toList == pack.toList && ds[k].num == v) from rfl)
        cases hp : relP kPublish house pack v ds[k] with
        | true =>
          have hfin := hide (find_of_take (relP kPublish house pack v) ds (k + 1) (x := ds[k]) (by rw [HS.out, hp]; rfl))
          have hq := HP.out
          rw [hp] at hq
          simp only [Bool.true_eq, Bool.and_eq_true] at hq
          obtain ⟨⟨⟨t1, t2⟩, t3⟩, t4⟩ := hq
          have t0 : (ds[k].kind.toList == [112, 117, 98, 108, 105, 115, 104]) = true := by simpa using t1
          clear t1
          clear hp
          go_wp2
          refine bodyPost_ret (v := .tuple #[.agg ds[k].cells.toArray, .bool true]) (by simp [results, Tryz.results64, go_sem, hsz, Deed.cells, r0, r1, r2, r3, r4, r5, r6, r7, r8]) rfl ⟨⟨ds[k], Or.inr hfin.out, by rw [hfin.out]; rfl⟩, ?_⟩
          exact (below_set9 hb (Nat.le_refl _) _ _ _ _ _ _ _ _ _).alloc (by simp; omega) _
        | false =>
          have HQ := hide (HP.out.symm.trans hp)
          have HE := hide (show (ds.take (k + 1)).find? (relP kPublish house pack v) = none by rw [HS.out, hp]; rfl)
          clear hp
          go_wp2
          all_goals first
            | (exfalso; have := HQ.out; simp [*] at this; done)
            | (go_roundw
               case rel => exact ⟨k + 1, by omega, by go_num, HE.out, hb.alloc hb.size _, by rw [Below.heap_alloc _ _ _ hsz]; exact hres⟩
               case measure => simp [intOf] <;> omega)
      · have hfin := hide (show ds.find? (relP kPublish house pack v) = none by rw [List.take_of_length_le (by omega)] at hno; exact hno)
        clear hno
        go_wp2
        refine bodyPost_ret (v := .tuple #[.agg noDeed.cells.toArray, .bool false]) (by simp [results, Tryz.results64, go_sem, Deed.cells, noDeed, r0, r1, r2, r3, r4, r5, r6, r7, r8]) rfl ⟨⟨noDeed, Or.inl ⟨hfin.out, rfl⟩, by rw [hfin.out]; rfl⟩, ?_⟩
        exact below_set9 hb (Nat.le_refl _) _ _ _ _ _ _ _ _ _

end

section
open Go.RowKit

def grantP (house pack to : ByteArray) (x : Deed) : Bool := x.kind.toList == kGrant.toList && x.house.toList == house.toList && x.pack.toList == pack.toList && x.to.toList == to.toList

def grantF (ds : List Deed) (house pack to : ByteArray) : Bool := ds.any (grantP house pack to)

theorem any_take_succ {α : Type} (p : α → Bool) (l : List α) (k : Nat) (h : k < l.length) : (l.take (k + 1)).any p = ((l.take k).any p || p l[k]) := by
  rw [List.take_succ_eq_append_getElem h, List.any_append]
  simp

theorem any_of_take {α : Type} (p : α → Bool) (l : List α) (k : Nat) (h : (l.take k).any p = true) : l.any p = true := by
  rw [List.any_eq_true] at h ⊢
  obtain ⟨x, hx, hp⟩ := h
  exact ⟨x, List.mem_of_mem_take hx, hp⟩

set_option maxHeartbeats 800000 in
theorem granted_any (rb : Nat) (root time : Int) (ao : Option Addr) (cap : Nat) (ds : List Deed) (house pack to : ByteArray) (w : World)
    (hr : RefAt w rb root time ao cap ds) (hlen : ds.length ≤ 1000000000000) :
    Calls Tryz.prog 69 #[.pointer (some ⟨rb, 0, none⟩), .string house, .string pack, .string to] w fun e w' => e = .returned (.bool (grantF ds house pack to)) ∧ Below w.heap.size w w' := by
  have c2 := hr.c2
  have hrb := hr.lt
  go_enter Tryz.func69, Tryz.ntmps69
  go_wp2
  go_loopw [9, 10] (fun i _ wr => ∃ k : Nat, k ≤ ds.length ∧ i = .int .i64 k ∧ (ds.take k).any (grantP house pack to) = false ∧ Below w.heap.size w wr) (fun i _ _ => ds.length - (intOf i).toNat)
  case atStart => exact ⟨0, Nat.zero_le _, rfl, rfl, Below.refl _ _⟩
  case round =>
    obtain ⟨k, hk, rfl, hno, hb⟩ := hrel
    have c2' := (hb.cell (p := ⟨rb, 2, none⟩) hrb).trans c2
    have HN := hide hno
    clear hno
    by_cases hlt : k < ds.length
    · have HS := hide (any_take_succ (grantP house pack to) ds k hlt)
      obtain ⟨g, rfl, hg, hx⟩ := hr.deed k hlt
      obtain ⟨d0, d1, d2, d3, d4, d5, d6, d7, d8⟩ := hx.below hb hg
      have HP := hide (show grantP house pack to ds[k] = (ds[k].kind.toList == kGrant.toList && ds[k].house.toList == house.toList && ds[k].pack.toList == pack.toList && ds[k].to.toList == to.toList) from rfl)
      cases hp : grantP house pack to ds[k] with
      | true =>
        have hfin := hide (any_of_take (grantP house pack to) ds (k + 1) (by rw [HS.out, hp]; simp))
        have hq := HP.out
        rw [hp] at hq
        simp only [Bool.true_eq, Bool.and_eq_true] at hq
        obtain ⟨⟨⟨t1, t2⟩, t3⟩, t4⟩ := hq
        have t0 : (ds[k].kind.toList == [103, 114, 97, 110, 116]) = true := by simpa using t1
        clear hp t1
        go_wp2
        go_ret
        exact ⟨ret_bool hfin.out.symm, hb.alloc hb.size _⟩
      | false =>
        have HQ := hide (HP.out.symm.trans hp)
        have HE := hide (show (ds.take (k + 1)).any (grantP house pack to) = false by rw [HS.out, hp, HN.out]; rfl)
        clear hp
        go_wp2
        all_goals first
          | (exfalso; have := HQ.out; simp [*] at this; done)
          | (go_roundw
             case rel => exact ⟨k + 1, by omega, by go_num, HE.out, hb.alloc hb.size _⟩
             case measure => simp [intOf] <;> omega)
    · go_wp2
      go_ret
      exact ⟨ret_bool (by have := HN.out; rw [List.take_of_length_le (by omega)] at this; exact this.symm), hb⟩

def yankP (house pack : ByteArray) (v : Int) (x : Deed) : Bool := x.house.toList == house.toList && x.pack.toList == pack.toList && x.num == v && (x.kind.toList == kYank.toList || x.kind.toList == kBack.toList)

def yankF (ds : List Deed) (house pack : ByteArray) (v : Int) : Bool := ds.foldl (fun out x => if yankP house pack v x then x.kind.toList == kYank.toList else out) false

theorem yankF_take_succ (ds : List Deed) (house pack : ByteArray) (v : Int) (k : Nat) (h : k < ds.length) :
    yankF (ds.take (k + 1)) house pack v = if yankP house pack v ds[k] then ds[k].kind.toList == kYank.toList else yankF (ds.take k) house pack v := by
  unfold yankF
  rw [List.take_succ_eq_append_getElem h, List.foldl_append]
  rfl

set_option maxHeartbeats 800000 in
theorem yanked_any (rb : Nat) (root time : Int) (ao : Option Addr) (cap : Nat) (ds : List Deed) (house pack : ByteArray) (v : Int) (w : World)
    (hr : RefAt w rb root time ao cap ds) (hlen : ds.length ≤ 1000000000000) :
    Calls Tryz.prog 75 #[.pointer (some ⟨rb, 0, none⟩), .string house, .string pack, .int .i64 v] w fun e w' => e = .returned (.bool (yankF ds house pack v)) ∧ Below w.heap.size w w' := by
  have c2 := hr.c2
  have hrb := hr.lt
  go_enter Tryz.func75, Tryz.ntmps75
  go_wp2
  go_loopw [9, 10, 11] (fun o i _ wr => ∃ k : Nat, k ≤ ds.length ∧ i = .int .i64 k ∧ o = .bool (yankF (ds.take k) house pack v) ∧ Below w.heap.size w wr) (fun _ i _ _ => ds.length - (intOf i).toNat)
  case atStart => exact ⟨0, Nat.zero_le _, rfl, rfl, Below.refl _ _⟩
  case round =>
    obtain ⟨k, hk, rfl, rfl, hb⟩ := hrel
    have c2' := (hb.cell (p := ⟨rb, 2, none⟩) hrb).trans c2
    by_cases hlt : k < ds.length
    · have HS := hide (yankF_take_succ ds house pack v k hlt)
      obtain ⟨g, rfl, hg, hx⟩ := hr.deed k hlt
      obtain ⟨d0, d1, d2, d3, d4, d5, d6, d7, d8⟩ := hx.below hb hg
      generalize yankF (ds.take k) house pack v = b at *
      go_wp2
      all_goals
        go_roundw
        case rel => exact ⟨k + 1, by omega, by go_num, by rw [HS.out]; first | (simp [yankP, *]; done) | (rcases ‹(ds[k].kind.toList == [121, 97, 110, 107]) = true ∨ (ds[k].kind.toList == [98, 97, 99, 107]) = true› with h | h <;> simp at h <;> simp [yankP, *]), hb.alloc hb.size _⟩
        case measure => simp [intOf] <;> omega
    · go_wp2
      go_ret
      exact ⟨ret_bool (by rw [List.take_of_length_le (by omega)]), hb⟩

def hasF (ds : List Deed) (house pack : ByteArray) : Bool := (List.range 9).any fun i => (relF ds house pack ((i : Int) + 1)).isSome

set_option maxHeartbeats 800000 in
theorem has_any (rb : Nat) (root time : Int) (ao : Option Addr) (cap : Nat) (ds : List Deed) (house pack : ByteArray) (w : World)
    (hr : RefAt w rb root time ao cap ds) (hlen : ds.length ≤ 1000000000000) :
    Calls Tryz.prog 68 #[.pointer (some ⟨rb, 0, none⟩), .string house, .string pack] w fun e w' => e = .returned (.bool (hasF ds house pack)) ∧ Below w.heap.size w w' := by
  have Hc := hide (fun v W h => release_any rb root time ao cap ds house pack v W h hlen)
  go_enter Tryz.func68, Tryz.ntmps68
  go_wp2_with fail
  go_loopw [7, 8, 9] (fun i _ _ wr => ∃ k : Nat, k ≤ 9 ∧ i = .int .i64 ((k : Int) + 1) ∧ ((List.range 9).take k).any (fun i => (relF ds house pack ((i : Int) + 1)).isSome) = false ∧ Below w.heap.size w wr) (fun i _ _ _ => (10 - intOf i).toNat)
  case atStart => exact ⟨0, Nat.zero_le _, rfl, rfl, Below.refl _ _⟩
  case round =>
    obtain ⟨k, hk, rfl, hno, hb⟩ := hrel
    have HN := hide hno
    clear hno
    have hr1 := hr.below hb
    by_cases hlt : k < 9
    · have HS := hide (any_take_succ (fun i : Nat => (relF ds house pack ((i : Int) + 1)).isSome) (List.range 9) k (by simpa using hlt))
      have HG := hide (show (List.range 9)[k]'(by simpa using hlt) = k by simp)
      cases hp : (relF ds house pack ((k : Int) + 1)).isSome with
      | true =>
        have hfin := hide (any_of_take (fun i : Nat => (relF ds house pack ((i : Int) + 1)).isSome) (List.range 9) (k + 1) (by rw [HS.out, HG.out, hp]; simp))
        have HP := hide hp
        clear hp
        go_wp2_with fail
        refine (Hc.out ((k : Int) + 1) _ hr1).mono ?_
        rintro e w2 ⟨⟨x, _, rfl⟩, hb2⟩
        rw [HP.out]
        have hb3 := below_call hb hb2
        go_wp2_with fail
        go_ret
        exact ⟨ret_bool hfin.out.symm, hb3.alloc hb3.size _⟩
      | false =>
        have HE := hide (show ((List.range 9).take (k + 1)).any (fun i => (relF ds house pack ((i : Int) + 1)).isSome) = false by rw [HS.out, HG.out, hp, HN.out]; rfl)
        have HP := hide hp
        clear hp
        go_wp2_with fail
        refine (Hc.out ((k : Int) + 1) _ hr1).mono ?_
        rintro e w2 ⟨⟨x, _, rfl⟩, hb2⟩
        rw [HP.out]
        have hb3 := below_call hb hb2
        go_wp2_with fail
        go_roundw
        case rel => exact ⟨k + 1, by omega, by go_num, HE.out, hb3.alloc hb3.size _⟩
        case measure => simp [intOf] <;> omega
    · go_wp2_with fail
      go_ret
      exact ⟨ret_bool (by have := HN.out; rw [List.take_of_length_le (by simp; omega)] at this; exact this.symm), hb⟩

def writesE (r : Int) (wd : Bool) : Int := if r == 0 then 3 else if r == 1 || r == 4 then 4 else if !wd then 2 else 0

set_option maxHeartbeats 400000 in
theorem writes_any (rb : Nat) (root time : Int) (ao : Option Addr) (cap : Nat) (ds : List Deed) (house : ByteArray) (id : Int) (pack : ByteArray) (w : World)
    (hr : RefAt w rb root time ao cap ds) (hlen : ds.length ≤ 1000000000000) :
    Calls Tryz.prog 61 #[.pointer (some ⟨rb, 0, none⟩), .string house, .int .i64 id, .string pack] w fun e w' => e = .returned (.int .i64 (writesE (roleF root time ds house id) (wordF pack))) ∧ Below w.heap.size w w' := by
  have Hrole := hide (role_any rb root time ao cap ds house id w hr hlen)
  have Hword := hide (word_any pack)
  generalize roleF root time ds house id = r at *
  generalize wordF pack = b1 at *
  go_enter Tryz.func61, Tryz.ntmps61
  go_wp2_with fail
  refine Hrole.out.mono ?_
  rintro e w1 ⟨rfl, hb⟩
  go_wp2_with fail
  refine (Hword.out _).mono ?_
  rintro e w2 ⟨rfl, h2⟩
  subst h2
  go_wp2_with fail
  all_goals
    go_ret
    exact ⟨ret_int (by first | (simp [writesE, *]; done) | (rcases ‹(r == 1) = true ∨ (r == 4) = true› with h | h <;> simp at h <;> simp [writesE, *])), hb⟩

end

section
open Go.RowKit

theorem Tryz.infoStr : (Tryz.prog.info? 9).map (fun i => (i.zero, i.size, i.bytes)) = some (some (.string ⟨#[]⟩), 1, 16) := by kernel_rfl

def strs (l : List ByteArray) : List Value := l.map Value.string

set_option maxHeartbeats 800000 in
set_option maxRecDepth 100000 in
theorem cut_any (s : ByteArray) (c : Int) (w : World) (hs : s.size ≤ 1000000000) :
    Calls Tryz.prog 93 #[.string s, .int .u8 c] w fun e w' =>
      ∃ g cap, e = .returned (.slice (some ⟨g, 0, none⟩) (cutF s c).length cap) ∧ w'.ownsRow w.heap.size 9 1 (.slice (some ⟨g, 0, none⟩) (cutF s c).length cap) (cutF s c).length (strs (cutF s c)) ∧ Below w.heap.size w w' := by
  obtain ⟨i0, ti, hz0, hz1, hz2⟩ := info_parts Tryz.infoStr
  go_enter Tryz.func93, Tryz.ntmps93
  go_wp2_with fail
  go_loopw [5, 6, 7] (fun v fr i wr => ∃ k : Nat, k ≤ s.size ∧ i = .int .i64 k ∧ fr = .int .i64 ((cutTo s c k).2 : Nat) ∧ wr.ownsRow w.heap.size 9 1 v (cutTo s c k).1.length (strs (cutTo s c k).1) ∧ Below w.heap.size w wr) (fun _ _ i _ => s.size - (intOf i).toNat)
  case atStart => exact ⟨0, Nat.zero_le _, rfl, rfl, World.ownsRow_nil _ _ _ _, Below.refl _ _⟩
  case round =>
    obtain ⟨k, hk, rfl, rfl, hown, hb⟩ := hrel
    obtain ⟨hl1, hl2⟩ := cutTo_le s c k
    by_cases hlt : k < s.size
    · have HC := hide (show cutTo s c (k + 1) = if ((s[k].toNat : Int) == c) = true then ((cutTo s c k).1 ++ [s.extract (cutTo s c k).2 k], k + 1) else cutTo s c k by rw [← byteAt_lt s k hlt]; rfl)
      generalize cutTo s c k = p at *
      obtain ⟨l, f⟩ := p
      simp only at hl1 hl2 hown
      cases ht : ((s[k].toNat : Int) == c) with
      | true =>
        have HC2 := hide (show cutTo s c (k + 1) = (l ++ [s.extract f k], k + 1) by rw [HC.out, if_pos ht])
        clear HC
        go_wp2_with (at_builtin; refine wpList_append_own2 _ rfl (.tmp 19) (.tmp 24) 144 rfl w.heap.size 9 i0 (.string ⟨#[]⟩) 1 16 Tryz.underlying144 ti hz0 hz1 hz2 rfl (by decide) _ l.length (strs l) rfl (hown.alloc _) ⟨wr.heap.size, 0, none⟩ 1 1 [.string (s.extract f k)] rfl rfl (news_at (t := 9) (fr := (0, 0)) (heap_alloc_new wr _)) ?_ (by unfold maxLen; omega) (by omega) ?_ (by omega) ?_)
        · intro u hu
          simp at hu
          subst hu
          rfl
        · have := hb.size; simp; omega
        · intro g' cap' w2 hown2 hgrow _
          have hb2 : Below w.heap.size w w2 := (hb.alloc hb.size _).grown hgrow (by have := hb.size; simp; omega) (fun k' hk' => (hown.lt k' hk').1)
          have HO := hide hown2
          clear hown hown2 hgrow hb
          go_wp2_with fail
          go_roundw
          case rel => exact ⟨k + 1, by omega, by go_num, by rw [HC2.out]; simp, by rw [HC2.out]; simpa [strs] using HO.out, hb2⟩
          case measure => simp [intOf] <;> omega
      | false =>
        have HC2 := hide (show cutTo s c (k + 1) = (l, f) by rw [HC.out, if_neg (by rw [ht]; decide)])
        clear HC
        go_wp2_with fail
        go_roundw
        case rel => exact ⟨k + 1, by omega, by go_num, by rw [HC2.out], by rw [HC2.out]; exact hown, hb⟩
        case measure => simp [intOf] <;> omega
    · obtain rfl : k = s.size := by omega
      have HC := hide (show cutF s c = (cutTo s c s.size).1 ++ [s.extract (cutTo s c s.size).2 s.size] from rfl)
      generalize cutTo s c s.size = p at *
      obtain ⟨l, f⟩ := p
      simp only at hl1 hl2 hown HC
      go_wp2_with (at_builtin; refine wpList_append_own2 _ rfl (.tmp 28) (.tmp 32) 144 rfl w.heap.size 9 i0 (.string ⟨#[]⟩) 1 16 Tryz.underlying144 ti hz0 hz1 hz2 rfl (by decide) _ l.length (strs l) rfl (hown.alloc _) ⟨wr.heap.size, 0, none⟩ 1 1 [.string (s.extract f s.size)] rfl rfl (news_at (t := 9) (fr := (0, 0)) (heap_alloc_new wr _)) ?_ (by unfold maxLen; omega) (by omega) ?_ (by omega) ?_)
      · intro u hu
        simp at hu
        subst hu
        rfl
      · have := hb.size; simp; omega
      · intro g' cap' w2 hown2 hgrow _
        have hb2 : Below w.heap.size w w2 := (hb.alloc hb.size _).grown hgrow (by have := hb.size; simp; omega) (fun k' hk' => (hown.lt k' hk').1)
        have HO := hide hown2
        clear hown hown2 hgrow hb
        go_wp2_with fail
        go_ret
        rw [HC.out]
        exact ⟨g', cap', by simp, by simpa [strs] using HO.out, hb2⟩

set_option maxHeartbeats 400000 in
theorem whose_any (o : ByteArray) (w : World) : Calls Tryz.prog 76 #[.string o] w fun e w' => e = .returned (.string (if o.toList.isEmpty then ⟨#[112, 117, 98, 108, 105, 99]⟩ else o)) ∧ w' = w := by
  cases h : o.toList.isEmpty with
  | true =>
    go_enter Tryz.func76, Tryz.ntmps76
    go_wp2
    go_ret
    exact ⟨rfl, rfl⟩
  | false =>
    go_enter Tryz.func76, Tryz.ntmps76
    go_wp2
    go_ret
    exact ⟨rfl, rfl⟩

theorem str_cell {w : World} {base g n cap : Nat} {l : List ByteArray} (h : w.ownsRow base 9 1 (.slice (some ⟨g, 0, none⟩) n cap) n (strs l)) (j : Nat) (hj : j < l.length) : w.cell? ⟨g, j, none⟩ = some (.string l[j]) := by
  have := h.cells (g := g) rfl j (.string l[j]) (by simp [strs, hj])
  rw [← this]
  congr 1
  unfold Addr.add; split <;> simp_all


set_option maxHeartbeats 800000 in
theorem name_any (s : ByteArray) (w : World) (hs : s.size ≤ 1000000000) :
    Calls Tryz.prog 57 #[.string s] w fun e w' => e = .returned (.bool (nameF s)) ∧ Below w.heap.size w w' := by
  have Hc := hide (cut_any s 47 w hs)
  have HN := hide (show nameF s = (decide ((cutF s 47).length ≤ 2) && (cutF s 47).all wordF) from rfl)
  generalize cutF s 47 = l at *
  have Hw := hide (fun x W => word_any x W)
  go_enter Tryz.func57, Tryz.ntmps57
  go_wp2_with fail
  refine Hc.out.mono ?_
  rintro e w1 ⟨g, cap, rfl, hown, hb⟩
  by_cases h2 : 2 < l.length
  · go_wp2_with fail
    go_ret
    exact ⟨ret_bool (by rw [HN.out]; simp; omega), hb⟩
  · go_wp2_with fail
    go_loop [4, 5] (fun i _ => ∃ k : Nat, k ≤ l.length ∧ i = .int .i64 k ∧ (l.take k).all wordF = true) (fun i _ => l.length - (intOf i).toNat)
    case atStart => exact ⟨0, Nat.zero_le _, rfl, rfl⟩
    case round =>
      obtain ⟨k, hk, rfl, hall⟩ := hrel
      have HA := hide hall
      clear hall
      by_cases hlt : k < l.length
      · have d0 := str_cell hown k hlt
        have HS := hide (show (l.take (k + 1)).all wordF = ((l.take k).all wordF && wordF l[k]) by rw [List.take_succ_eq_append_getElem hlt, List.all_append]; simp)
        cases hw : wordF l[k] with
        | true =>
          have HE := hide (show (l.take (k + 1)).all wordF = true by rw [HS.out, HA.out, hw]; rfl)
          have HW := hide hw
          clear hw
          go_wp2_with fail
          refine (Hw.out _ _).mono ?_
          rintro e w2 ⟨rfl, h⟩
          subst h
          rw [HW.out]
          go_wp2_with fail
          go_round
          case rel => exact ⟨k + 1, by omega, by go_num, HE.out⟩
          case measure => simp [intOf] <;> omega
        | false =>
          have HE := hide (show l.all wordF = false by
            rw [List.all_eq_false]
            exact ⟨l[k], List.getElem_mem _, by rw [hw]; decide⟩)
          have HW := hide hw
          clear hw
          go_wp2_with fail
          refine (Hw.out _ _).mono ?_
          rintro e w2 ⟨rfl, h⟩
          subst h
          rw [HW.out]
          go_wp2_with fail
          go_ret
          exact ⟨ret_bool (by rw [HN.out, HE.out]; simp), hb⟩
      · go_wp2_with fail
        go_ret
        exact ⟨ret_bool (by have := HA.out; rw [List.take_of_length_le (by omega)] at this; rw [HN.out, this]; simp; omega), hb⟩

/-- Whose a name is, and the package's name there. -/
def ownerF (ds : List Deed) (s : ByteArray) : ByteArray × ByteArray :=
  match cutF s 47 with
  | [a, b] => if 0 < didF ds kFound a then (a, b) else (⟨#[]⟩, s)
  | _ => (⟨#[]⟩, s)

set_option maxHeartbeats 800000 in
theorem owner_any (rb : Nat) (root time : Int) (ao : Option Addr) (cap : Nat) (ds : List Deed) (s : ByteArray) (w : World)
    (hr : RefAt w rb root time ao cap ds) (hlen : ds.length ≤ 1000000000000) (hs : s.size ≤ 1000000000) :
    Calls Tryz.prog 99 #[.pointer (some ⟨rb, 0, none⟩), .string s] w fun e w' => e = .returned (.tuple #[.string (ownerF ds s).1, .string (ownerF ds s).2]) ∧ Below w.heap.size w w' := by
  have Hc := hide (cut_any s 47 w hs)
  have Hi := hide (fun x W h => is_any rb root time ao cap ds x W h hlen)
  obtain ⟨p, hp⟩ : ∃ p, p = ownerF ds s := ⟨_, rfl⟩
  rw [← hp]
  unfold ownerF at hp
  generalize cutF s 47 = l at *
  by_cases h2 : l.length = 2
  · match l, h2 with
    | [a, b], _ =>
      simp only at hp
      cases hd : decide (0 < didF ds kFound a) with
      | true =>
        have hd' : 0 < didF ds kFound a := of_decide_eq_true hd
        rw [if_pos hd'] at hp
        subst hp
        have HD := hide hd
        clear hd hd'
        go_enter Tryz.func99, Tryz.ntmps99
        go_wp2_with fail
        refine Hc.out.mono ?_
        rintro e w1 ⟨g, cp, rfl, hown, hb⟩
        have d0 := str_cell hown 0 (by simp)
        have d1 := str_cell hown 1 (by simp)
        simp only [List.getElem_cons_zero, List.getElem_cons_succ] at d0 d1
        have hr1 := hr.below hb
        go_wp2_with fail
        refine (Hi.out _ _ hr1).mono ?_
        rintro e w2 ⟨rfl, h⟩
        subst h
        rw [HD.out]
        go_wp2_with fail
        go_quiet (fail)
        go_wp2_with fail
        go_ret2
        exact ⟨rfl, below_drawn hb _⟩
      | false =>
        have hd' : ¬ 0 < didF ds kFound a := of_decide_eq_false hd
        rw [if_neg hd'] at hp
        subst hp
        have HD := hide hd
        clear hd hd'
        go_enter Tryz.func99, Tryz.ntmps99
        go_wp2_with fail
        refine Hc.out.mono ?_
        rintro e w1 ⟨g, cp, rfl, hown, hb⟩
        have d0 := str_cell hown 0 (by simp)
        simp only [List.getElem_cons_zero] at d0
        have hr1 := hr.below hb
        go_wp2_with fail
        refine (Hi.out _ _ hr1).mono ?_
        rintro e w2 ⟨rfl, h⟩
        subst h
        rw [HD.out]
        go_wp2_with fail
        go_ret2
        exact ⟨rfl, hb⟩
  · have hp' : p = (⟨#[]⟩, s) := by
      rw [hp]
      split
      · simp at h2
      · rfl
    subst hp'
    have h2' : ((l.length : Int) == 2) = false := by rw [beq_eq_false_iff_ne]; omega
    clear hp h2
    go_enter Tryz.func99, Tryz.ntmps99
    go_wp2_with fail
    refine Hc.out.mono ?_
    rintro e w1 ⟨g, cp, rfl, hown, hb⟩
    go_wp2_with fail
    go_ret2
    exact ⟨rfl, hb⟩

end

end Go.Proofs.YtgcldedkempjhabGreatDoor
