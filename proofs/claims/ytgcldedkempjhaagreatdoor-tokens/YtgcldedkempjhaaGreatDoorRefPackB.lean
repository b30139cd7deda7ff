/-
  depotref: granted, yanked, has, writes.
-/
import Derived.Test.YtgcldedkempjhaaGreatDoorRefPackA
import Derived.Test.YtgcldedkempjhaaGreatDoorRefSmall
namespace Go.Proofs.YtgcldedkempjhaaGreatDoor
open Go.RowKit

def grantP (house pack to : ByteArray) (x : Deed) : Bool := x.kind.toList == kGrant.toList && x.house.toList == house.toList && x.pack.toList == pack.toList && x.to.toList == to.toList

def grantF (ds : List Deed) (house pack to : ByteArray) : Bool := ds.any (grantP house pack to)

theorem any_take_succ {α : Type} (p : α → Bool) (l : List α) (k : Nat) (h : k < l.length) : (l.take (k + 1)).any p = ((l.take k).any p || p l[k]) := by
  rw [List.take_succ_eq_append_getElem h, List.any_append]
  simp

theorem any_of_take {α : Type} (p : α → Bool) (l : List α) (k : Nat) (h : (l.take k).any p = true) : l.any p = true := by
  rw [List.any_eq_true] at h ⊢
  obtain ⟨x, hx, hp⟩ := h
  exact ⟨x, List.mem_of_mem_take hx, hp⟩

set_option maxHeartbeats 800000 in
theorem granted_any (rb : Nat) (root time : Int) (ao : Option Addr) (cap : Nat) (ds : List Deed) (house pack to : ByteArray) (w : World)
    (hr : RefAt w rb root time ao cap ds) (hlen : ds.length ≤ 1000000000000) :
    Calls Tryz.prog 73 #[.pointer (some ⟨rb, 0, none⟩), .string house, .string pack, .string to] w fun e w' => e = .returned (.bool (grantF ds house pack to)) ∧ Below w.heap.size w w' := by
  have c2 := hr.c2
  have hrb := hr.lt
  go_enter Tryz.func73, Tryz.ntmps73
  go_wp2
  go_loopw [9, 10] (fun i _ wr => ∃ k : Nat, k ≤ ds.length ∧ i = .int .i64 k ∧ (ds.take k).any (grantP house pack to) = false ∧ Below w.heap.size w wr) (fun i _ _ => ds.length - (intOf i).toNat)
  case atStart => exact ⟨0, Nat.zero_le _, rfl, rfl, Below.refl _ _⟩
  case round =>
    obtain ⟨k, hk, rfl, hno, hb⟩ := hrel
    have c2' := (hb.cell (p := ⟨rb, 2, none⟩) hrb).trans c2
    have HN := hide hno
    clear hno
    by_cases hlt : k < ds.length
    · have HS := hide (any_take_succ (grantP house pack to) ds k hlt)
      obtain ⟨g, rfl, hg, hx⟩ := hr.deed k hlt
      obtain ⟨d0, d1, d2, d3, d4, d5, d6, d7, d8⟩ := hx.below hb hg
      have HP := hide (show grantP house pack to ds[k] = (ds[k].kind.toList == kGrant.toList && ds[k].house.toList == house.toList && ds[k].pack.toList == pack.toList && ds[k].to.toList == to.toList) from rfl)
      cases hp : grantP house pack to ds[k] with
      | true =>
        have hfin := hide (any_of_take (grantP house pack to) ds (k + 1) (by rw [HS.out, hp]; simp))
        have hq := HP.out
        rw [hp] at hq
        simp only [Bool.true_eq, Bool.and_eq_true] at hq
        obtain ⟨⟨⟨t1, t2⟩, t3⟩, t4⟩ := hq
        have t0 : (ds[k].kind.toList == [103, 114, 97, 110, 116]) = true := by simpa using t1
        clear hp t1
        go_wp2
        go_ret
        exact ⟨ret_bool hfin.out.symm, hb.alloc hb.size _⟩
      | false =>
        have HQ := hide (HP.out.symm.trans hp)
        have HE := hide (show (ds.take (k + 1)).any (grantP house pack to) = false by rw [HS.out, hp, HN.out]; rfl)
        clear hp
        go_wp2
        all_goals first
          | (exfalso; have := HQ.out; simp [*] at this; done)
          | (go_roundw
             case rel => exact ⟨k + 1, by omega, by go_num, HE.out, hb.alloc hb.size _⟩
             case measure => simp [intOf] <;> omega)
    · go_wp2
      go_ret
      exact ⟨ret_bool (by have := HN.out; rw [List.take_of_length_le (by omega)] at this; exact this.symm), hb⟩

def yankP (house pack : ByteArray) (v : Int) (x : Deed) : Bool := x.house.toList == house.toList && x.pack.toList == pack.toList && x.num == v && (x.kind.toList == kYank.toList || x.kind.toList == kBack.toList)

def yankF (ds : List Deed) (house pack : ByteArray) (v : Int) : Bool := ds.foldl (fun out x => if yankP house pack v x then x.kind.toList == kYank.toList else out) false

theorem yankF_take_succ (ds : List Deed) (house pack : ByteArray) (v : Int) (k : Nat) (h : k < ds.length) :
    yankF (ds.take (k + 1)) house pack v = if yankP house pack v ds[k] then ds[k].kind.toList == kYank.toList else yankF (ds.take k) house pack v := by
  unfold yankF
  rw [List.take_succ_eq_append_getElem h, List.foldl_append]
  rfl

set_option maxHeartbeats 800000 in
theorem yanked_any (rb : Nat) (root time : Int) (ao : Option Addr) (cap : Nat) (ds : List Deed) (house pack : ByteArray) (v : Int) (w : World)
    (hr : RefAt w rb root time ao cap ds) (hlen : ds.length ≤ 1000000000000) :
    Calls Tryz.prog 79 #[.pointer (some ⟨rb, 0, none⟩), .string house, .string pack, .int .i64 v] w fun e w' => e = .returned (.bool (yankF ds house pack v)) ∧ Below w.heap.size w w' := by
  have c2 := hr.c2
  have hrb := hr.lt
  go_enter Tryz.func79, Tryz.ntmps79
  go_wp2
  go_loopw [9, 10, 11] (fun o i _ wr => ∃ k : Nat, k ≤ ds.length ∧ i = .int .i64 k ∧ o = .bool (yankF (ds.take k) house pack v) ∧ Below w.heap.size w wr) (fun _ i _ _ => ds.length - (intOf i).toNat)
  case atStart => exact ⟨0, Nat.zero_le _, rfl, rfl, Below.refl _ _⟩
  case round =>
    obtain ⟨k, hk, rfl, rfl, hb⟩ := hrel
    have c2' := (hb.cell (p := ⟨rb, 2, none⟩) hrb).trans c2
    by_cases hlt : k < ds.length
    · have HS := hide (yankF_take_succ ds house pack v k hlt)
      obtain ⟨g, rfl, hg, hx⟩ := hr.deed k hlt
      obtain ⟨d0, d1, d2, d3, d4, d5, d6, d7, d8⟩ := hx.below hb hg
      generalize yankF (ds.take k) house pack v = b at *
      go_wp2
      all_goals
        go_roundw
        case rel => exact ⟨k + 1, by omega, by go_num, by rw [HS.out]; first | (simp [yankP, *]; done) | (rcases ‹(ds[k].kind.toList == [121, 97, 110, 107]) = true ∨ (ds[k].kind.toList == [98, 97, 99, 107]) = true› with h | h <;> simp at h <;> simp [yankP, *]), hb.alloc hb.size _⟩
        case measure => simp [intOf] <;> omega
    · go_wp2
      go_ret
      exact ⟨ret_bool (by rw [List.take_of_length_le (by omega)]), hb⟩

def hasF (ds : List Deed) (house pack : ByteArray) : Bool := (List.range 9).any fun i => (relF ds house pack ((i : Int) + 1)).isSome

set_option maxHeartbeats 800000 in
theorem has_any (rb : Nat) (root time : Int) (ao : Option Addr) (cap : Nat) (ds : List Deed) (house pack : ByteArray) (w : World)
    (hr : RefAt w rb root time ao cap ds) (hlen : ds.length ≤ 1000000000000) :
    Calls Tryz.prog 72 #[.pointer (some ⟨rb, 0, none⟩), .string house, .string pack] w fun e w' => e = .returned (.bool (hasF ds house pack)) ∧ Below w.heap.size w w' := by
  have Hc := hide (fun v W h => release_any rb root time ao cap ds house pack v W h hlen)
  go_enter Tryz.func72, Tryz.ntmps72
  go_wp2_with fail
  go_loopw [7, 8, 9] (fun i _ _ wr => ∃ k : Nat, k ≤ 9 ∧ i = .int .i64 ((k : Int) + 1) ∧ ((List.range 9).take k).any (fun i => (relF ds house pack ((i : Int) + 1)).isSome) = false ∧ Below w.heap.size w wr) (fun i _ _ _ => (10 - intOf i).toNat)
  case atStart => exact ⟨0, Nat.zero_le _, rfl, rfl, Below.refl _ _⟩
  case round =>
    obtain ⟨k, hk, rfl, hno, hb⟩ := hrel
    have HN := hide hno
    clear hno
    have hr1 := hr.below hb
    by_cases hlt : k < 9
    · have HS := hide (any_take_succ (fun i : Nat => (relF ds house pack ((i : Int) + 1)).isSome) (List.range 9) k (by simpa using hlt))
      have HG := hide (show (List.range 9)[k]'(by simpa using hlt) = k by simp)
      cases hp : (relF ds house pack ((k : Int) + 1)).isSome with
      | true =>
        have hfin := hide (any_of_take (fun i : Nat => (relF ds house pack ((i : Int) + 1)).isSome) (List.range 9) (k + 1) (by rw [HS.out, HG.out, hp]; simp))
        have HP := hide hp
        clear hp
        go_wp2_with fail
        refine (Hc.out ((k : Int) + 1) _ hr1).mono ?_
        rintro e w2 ⟨⟨x, _, rfl⟩, hb2⟩
        rw [HP.out]
        have hb3 := below_call hb hb2
        go_wp2_with fail
        go_ret
        exact ⟨ret_bool hfin.out.symm, hb3.alloc hb3.size _⟩
      | false =>
        have HE := hide (show ((List.range 9).take (k + 1)).any (fun i => (relF ds house pack ((i : Int) + 1)).isSome) = false by rw [HS.out, HG.out, hp, HN.out]; rfl)
        have HP := hide hp
        clear hp
        go_wp2_with fail
        refine (Hc.out ((k : Int) + 1) _ hr1).mono ?_
        rintro e w2 ⟨⟨x, _, rfl⟩, hb2⟩
        rw [HP.out]
        have hb3 := below_call hb hb2
        go_wp2_with fail
        go_roundw
        case rel => exact ⟨k + 1, by omega, by go_num, HE.out, hb3.alloc hb3.size _⟩
        case measure => simp [intOf] <;> omega
    · go_wp2_with fail
      go_ret
      exact ⟨ret_bool (by have := HN.out; rw [List.take_of_length_le (by simp; omega)] at this; exact this.symm), hb⟩

def writesE (r : Int) (wd : Bool) : Int := if r == 0 then 3 else if r == 1 || r == 4 then 4 else if !wd then 2 else 0

set_option maxHeartbeats 400000 in
theorem writes_any (rb : Nat) (root time : Int) (ao : Option Addr) (cap : Nat) (ds : List Deed) (house : ByteArray) (id : Int) (pack : ByteArray) (w : World)
    (hr : RefAt w rb root time ao cap ds) (hlen : ds.length ≤ 1000000000000) :
    Calls Tryz.prog 65 #[.pointer (some ⟨rb, 0, none⟩), .string house, .int .i64 id, .string pack] w fun e w' => e = .returned (.int .i64 (writesE (roleF root time ds house id) (wordF pack))) ∧ Below w.heap.size w w' := by
  have Hrole := hide (role_any rb root time ao cap ds house id w hr hlen)
  have Hword := hide (word_any pack)
  generalize roleF root time ds house id = r at *
  generalize wordF pack = b1 at *
  go_enter Tryz.func65, Tryz.ntmps65
  go_wp2_with fail
  refine Hrole.out.mono ?_
  rintro e w1 ⟨rfl, hb⟩
  go_wp2_with fail
  refine (Hword.out _).mono ?_
  rintro e w2 ⟨rfl, h2⟩
  subst h2
  go_wp2_with fail
  all_goals
    go_ret
    exact ⟨ret_int (by first | (simp [writesE, *]; done) | (rcases ‹(r == 1) = true ∨ (r == 4) = true› with h | h <;> simp at h <;> simp [writesE, *])), hb⟩

end Go.Proofs.YtgcldedkempjhaaGreatDoor
