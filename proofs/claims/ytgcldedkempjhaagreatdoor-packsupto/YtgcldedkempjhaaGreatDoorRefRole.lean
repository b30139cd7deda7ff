/-
  depotref: the role that is held; is there a house; what is a word.
-/
import Derived.Test.YtgcldedkempjhaaGreatDoorRefDid
import Derived.Test.YtgcldedkempjhaaGreatDoorRefDeed
import Derived.Deep.QuietTactic
import Derived.BigQuiet
namespace Go.Proofs.YtgcldedkempjhaaGreatDoor
open Go.RowKit

abbrev kMint : ByteArray := ⟨#[109, 105, 110, 116]⟩
abbrev kRevoke : ByteArray := ⟨#[114, 101, 118, 111, 107, 101]⟩
abbrev kFound : ByteArray := ⟨#[102, 111, 117, 110, 100]⟩

theorem deed_some (rb : Nat) (root time : Int) (ao : Option Addr) (cap : Nat) (ds : List Deed) (kind house : ByteArray) (n : Int) (x : Deed) (w : World)
    (hr : RefAt w rb root time ao cap ds) (hlen : ds.length ≤ 1000000000000) (hx : deedF ds kind house n = some x) :
    Calls Tryz.prog 55 #[.pointer (some ⟨rb, 0, none⟩), .string kind, .string house, .int .i64 n] w fun e w' =>
      e = .returned (.tuple #[.agg #[.string x.kind, .string x.house, .int .i64 x.who, .string x.pack, .string x.to, .int .i64 x.num, .int .i64 x.role, .int .i64 x.till, .string x.wants], .bool true]) ∧ Below w.heap.size w w' := by
  refine (deed_any rb root time ao cap ds kind house n w hr hlen).mono ?_
  rintro e w' ⟨⟨y, hy, rfl⟩, hb⟩
  rw [hx] at hy ⊢
  rcases hy with ⟨h, _⟩ | h
  · cases h
  · injection h with h
    subst h
    exact ⟨rfl, hb⟩

theorem deed_none (rb : Nat) (root time : Int) (ao : Option Addr) (cap : Nat) (ds : List Deed) (kind house : ByteArray) (n : Int) (w : World)
    (hr : RefAt w rb root time ao cap ds) (hlen : ds.length ≤ 1000000000000) (hx : deedF ds kind house n = none) :
    Calls Tryz.prog 55 #[.pointer (some ⟨rb, 0, none⟩), .string kind, .string house, .int .i64 n] w fun e w' =>
      e = .returned (.tuple #[.agg #[.string ⟨#[]⟩, .string ⟨#[]⟩, .int .i64 0, .string ⟨#[]⟩, .string ⟨#[]⟩, .int .i64 0, .int .i64 0, .int .i64 0, .string ⟨#[]⟩], .bool false]) ∧ Below w.heap.size w w' := by
  refine (deed_any rb root time ao cap ds kind house n w hr hlen).mono ?_
  rintro e w' ⟨⟨y, hy, rfl⟩, hb⟩
  rw [hx] at hy ⊢
  rcases hy with ⟨_, rfl⟩ | h
  · exact ⟨rfl, hb⟩
  · cases h

def roleF (root time : Int) (ds : List Deed) (house : ByteArray) (id : Int) : Int :=
  if house.toList.isEmpty then (if id == root then 4 else 0) else
  match deedF ds kMint house id with
  | none => 0
  | some x => if (deedF ds kRevoke house id).isSome || decide (x.till ≤ time) then 0 else x.role

set_option maxHeartbeats 400000 in
theorem role_any (rb : Nat) (root time : Int) (ao : Option Addr) (cap : Nat) (ds : List Deed) (house : ByteArray) (id : Int) (w : World)
    (hr : RefAt w rb root time ao cap ds) (hlen : ds.length ≤ 1000000000000) :
    Calls Tryz.prog 45 #[.pointer (some ⟨rb, 0, none⟩), .string house, .int .i64 id] w fun e w' =>
      e = .returned (.int .i64 (roleF root time ds house id)) ∧ Below w.heap.size w w' := by
  have c0 := hr.c0
  have c1 := hr.c1
  have hrb := hr.lt
  cases hemp : house.toList.isEmpty with
  | true =>
    cases hid : (id == root) with
    | true =>
      have hfin := hide (show roleF root time ds house id = 4 by simp [roleF, hemp, hid])
      go_enter Tryz.func45, Tryz.ntmps45
      go_wp2
      go_ret
      exact ⟨ret_int hfin.out.symm, Below.refl _ _⟩
    | false =>
      have hfin := hide (show roleF root time ds house id = 0 by simp [roleF, hemp, hid])
      go_enter Tryz.func45, Tryz.ntmps45
      go_wp2
      go_ret
      exact ⟨ret_int hfin.out.symm, Below.refl _ _⟩
  | false =>
    cases hm : deedF ds kMint house id with
    | none =>
      have hfin := hide (show roleF root time ds house id = 0 by simp [roleF, hemp, hm])
      have HM := hide hm
      clear hm
      cases hv : deedF ds kRevoke house id with
      | none =>
        have HV := hide hv
        clear hv
        go_enter Tryz.func45, Tryz.ntmps45
        go_wp2_with fail
        refine (deed_none rb root time ao cap ds kMint house id _ hr hlen HM.out).mono ?_
        rintro e w1 ⟨rfl, hb1⟩
        go_wp2_with fail
        refine (deed_none rb root time ao cap ds kRevoke house id _ (hr.below (hb1.alloc hb1.size _)) hlen HV.out).mono ?_
        rintro e w2 ⟨rfl, hb2⟩
        have hb := below_alloc_call hb1 hb2
        go_wp2_with fail
        go_quiet (fail)
        go_wp2_with fail
        go_ret
        exact ⟨ret_int hfin.out.symm, below_drawn (hb.alloc hb.size _) _⟩
      | some y =>
        have HV := hide hv
        clear hv
        go_enter Tryz.func45, Tryz.ntmps45
        go_wp2_with fail
        refine (deed_none rb root time ao cap ds kMint house id _ hr hlen HM.out).mono ?_
        rintro e w1 ⟨rfl, hb1⟩
        go_wp2_with fail
        refine (deed_some rb root time ao cap ds kRevoke house id y _ (hr.below (hb1.alloc hb1.size _)) hlen HV.out).mono ?_
        rintro e w2 ⟨rfl, hb2⟩
        have hb := below_alloc_call hb1 hb2
        go_wp2_with fail
        go_quiet (fail)
        go_wp2_with fail
        go_ret
        exact ⟨ret_int hfin.out.symm, below_drawn (hb.alloc hb.size _) _⟩
    | some x =>
      cases hv : deedF ds kRevoke house id with
      | some y =>
        have hfin := hide (show roleF root time ds house id = 0 by simp [roleF, hemp, hm, hv])
        have HM := hide hm
        clear hm
        have HV := hide hv
        clear hv
        go_enter Tryz.func45, Tryz.ntmps45
        go_wp2_with fail
        refine (deed_some rb root time ao cap ds kMint house id x _ hr hlen HM.out).mono ?_
        rintro e w1 ⟨rfl, hb1⟩
        go_wp2_with fail
        refine (deed_some rb root time ao cap ds kRevoke house id y _ (hr.below (hb1.alloc hb1.size _)) hlen HV.out).mono ?_
        rintro e w2 ⟨rfl, hb2⟩
        have hb := below_alloc_call hb1 hb2
        have k1 := (hb.cell (p := ⟨rb, 1, none⟩) hrb).trans c1
        have x6 : w2.cell? ⟨w1.heap.size, 6, none⟩ = some (.int .i64 x.role) := new_cell (c := x.cells) hb2 6
        have x7 : w2.cell? ⟨w1.heap.size, 7, none⟩ = some (.int .i64 x.till) := new_cell (c := x.cells) hb2 7
        have hlt1 := new_lt hb2
        have hrb2 : rb < w2.heap.size := Nat.lt_of_lt_of_le hrb hb.size
        go_wp2_with fail
        go_quiet (fail)
        go_wp2_with fail
        go_ret
        exact ⟨ret_int hfin.out.symm, below_drawn (hb.alloc hb.size _) _⟩
      | none =>
        by_cases ht : x.till ≤ time
        · have hfin := hide (show roleF root time ds house id = 0 by simp [roleF, hemp, hm, hv, ht])
          have HM := hide hm
          clear hm
          have HV := hide hv
          clear hv
          go_enter Tryz.func45, Tryz.ntmps45
          go_wp2_with fail
          refine (deed_some rb root time ao cap ds kMint house id x _ hr hlen HM.out).mono ?_
          rintro e w1 ⟨rfl, hb1⟩
          go_wp2_with fail
          refine (deed_none rb root time ao cap ds kRevoke house id _ (hr.below (hb1.alloc hb1.size _)) hlen HV.out).mono ?_
          rintro e w2 ⟨rfl, hb2⟩
          have hb := below_alloc_call hb1 hb2
          have k1 := (hb.cell (p := ⟨rb, 1, none⟩) hrb).trans c1
          have x6 : w2.cell? ⟨w1.heap.size, 6, none⟩ = some (.int .i64 x.role) := new_cell (c := x.cells) hb2 6
          have x7 : w2.cell? ⟨w1.heap.size, 7, none⟩ = some (.int .i64 x.till) := new_cell (c := x.cells) hb2 7
          have hlt1 := new_lt hb2
          have hrb2 : rb < w2.heap.size := Nat.lt_of_lt_of_le hrb hb.size
          go_wp2_with fail
          go_quiet (fail)
          go_wp2_with fail
          go_ret
          exact ⟨ret_int hfin.out.symm, below_drawn (hb.alloc hb.size _) _⟩
        · have hfin := hide (show roleF root time ds house id = x.role by simp [roleF, hemp, hm, hv, ht])
          have HM := hide hm
          clear hm
          have HV := hide hv
          clear hv
          go_enter Tryz.func45, Tryz.ntmps45
          go_wp2_with fail
          refine (deed_some rb root time ao cap ds kMint house id x _ hr hlen HM.out).mono ?_
          rintro e w1 ⟨rfl, hb1⟩
          go_wp2_with fail
          refine (deed_none rb root time ao cap ds kRevoke house id _ (hr.below (hb1.alloc hb1.size _)) hlen HV.out).mono ?_
          rintro e w2 ⟨rfl, hb2⟩
          have hb := below_alloc_call hb1 hb2
          have k1 := (hb.cell (p := ⟨rb, 1, none⟩) hrb).trans c1
          have x6 : w2.cell? ⟨w1.heap.size, 6, none⟩ = some (.int .i64 x.role) := new_cell (c := x.cells) hb2 6
          have x7 : w2.cell? ⟨w1.heap.size, 7, none⟩ = some (.int .i64 x.till) := new_cell (c := x.cells) hb2 7
          have hlt1 := new_lt hb2
          have hrb2 : rb < w2.heap.size := Nat.lt_of_lt_of_le hrb hb.size
          go_wp2_with fail
          go_quiet (fail)
          go_wp2_with fail
          go_ret
          exact ⟨ret_int hfin.out.symm, below_drawn (hb.alloc hb.size _) _⟩

end Go.Proofs.YtgcldedkempjhaaGreatDoor
