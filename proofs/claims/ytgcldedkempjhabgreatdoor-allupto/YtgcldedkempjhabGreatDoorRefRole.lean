/-
  depotref: a word; is there a house; May, Clock, Tick, New; who may make or revoke tokens.
-/
import Derived.Test.YtgcldedkempjhabGreatDoorRefBase
import Derived.Deep.QuietTactic
import Derived.BigQuiet
import Derived.Test.YtgcldedkempjhabGreatDoorWords
namespace Go.Proofs.YtgcldedkempjhabGreatDoor
section
open Go.RowKit

abbrev kMint : ByteArray := ⟨#[109, 105, 110, 116]⟩
abbrev kRevoke : ByteArray := ⟨#[114, 101, 118, 111, 107, 101]⟩
abbrev kFound : ByteArray := ⟨#[102, 111, 117, 110, 100]⟩

theorem deed_some (rb : Nat) (root time : Int) (ao : Option Addr) (cap : Nat) (ds : List Deed) (kind house : ByteArray) (n : Int) (x : Deed) (w : World)
    (hr : RefAt w rb root time ao cap ds) (hlen : ds.length ≤ 1000000000000) (hx : deedF ds kind house n = some x) :
    Calls Tryz.prog 51 #[.pointer (some ⟨rb, 0, none⟩), .string kind, .string house, .int .i64 n] w fun e w' =>
      e = .returned (.tuple #[.agg #[.string x.kind, .string x.house, .int .i64 x.who, .string x.pack, .string x.to, .int .i64 x.num, .int .i64 x.role, .int .i64 x.till, .string x.wants], .bool true]) ∧ Below w.heap.size w w' := by
  refine (deed_any rb root time ao cap ds kind house n w hr hlen).mono ?_
  rintro e w' ⟨⟨y, hy, rfl⟩, hb⟩
  rw [hx] at hy ⊢
  rcases hy with ⟨h, _⟩ | h
  · cases h
  · injection h with h
    subst h
    exact ⟨rfl, hb⟩

theorem deed_none (rb : Nat) (root time : Int) (ao : Option Addr) (cap : Nat) (ds : List Deed) (kind house : ByteArray) (n : Int) (w : World)
    (hr : RefAt w rb root time ao cap ds) (hlen : ds.length ≤ 1000000000000) (hx : deedF ds kind house n = none) :
    Calls Tryz.prog 51 #[.pointer (some ⟨rb, 0, none⟩), .string kind, .string house, .int .i64 n] w fun e w' =>
      e = .returned (.tuple #[.agg #[.string ⟨#[]⟩, .string ⟨#[]⟩, .int .i64 0, .string ⟨#[]⟩, .string ⟨#[]⟩, .int .i64 0, .int .i64 0, .int .i64 0, .string ⟨#[]⟩], .bool false]) ∧ Below w.heap.size w w' := by
  refine (deed_any rb root time ao cap ds kind house n w hr hlen).mono ?_
  rintro e w' ⟨⟨y, hy, rfl⟩, hb⟩
  rw [hx] at hy ⊢
  rcases hy with ⟨_, rfl⟩ | h
  · exact ⟨rfl, hb⟩
  · cases h

def roleF (root time : Int) (ds : List Deed) (house : ByteArray) (id : Int) : Int :=
  if house.toList.isEmpty then (if id == root then 4 else 0) else
  match deedF ds kMint house id with
  | none => 0
  | some x => if (deedF ds kRevoke house id).isSome || decide (x.till ≤ time) then 0 else x.role

set_option maxHeartbeats 400000 in
theorem role_any (rb : Nat) (root time : Int) (ao : Option Addr) (cap : Nat) (ds : List Deed) (house : ByteArray) (id : Int) (w : World)
    (hr : RefAt w rb root time ao cap ds) (hlen : ds.length ≤ 1000000000000) :
    Calls Tryz.prog 41 #[.pointer (some ⟨rb, 0, none⟩), .string house, .int .i64 id] w fun e w' =>
      e = .returned (.int .i64 (roleF root time ds house id)) ∧ Below w.heap.size w w' := by
  have c0 := hr.c0
  have c1 := hr.c1
  have hrb := hr.lt
  cases hemp : house.toList.isEmpty with
  | true =>
    cases hid : (id == root) with
    | true =>
      have hfin := hide (show roleF root time ds house id = 4 by simp [roleF, hemp, hid])
      go_enter Tryz.func41, Tryz.ntmps41
      go_wp2
      go_ret
      exact ⟨ret_int hfin.out.symm, Below.refl _ _⟩
    | false =>
      have hfin := hide (show roleF root time ds house id = 0 by simp [roleF, hemp, hid])
      go_enter Tryz.func41, Tryz.ntmps41
      go_wp2
      go_ret
      exact ⟨ret_int hfin.out.symm, Below.refl _ _⟩
  | false =>
    cases hm : deedF ds kMint house id with
    | none =>
      have hfin := hide (show roleF root time ds house id = 0 by simp [roleF, hemp, hm])
      have HM := hide hm
      clear hm
      cases hv : deedF ds kRevoke house id with
      | none =>
        have HV := hide hv
        clear hv
        go_enter Tryz.func41, Tryz.ntmps41
        go_wp2_with fail
        refine (deed_none rb root time ao cap ds kMint house id _ hr hlen HM.out).mono ?_
        rintro e w1 ⟨rfl, hb1⟩
        go_wp2_with fail
        refine (deed_none rb root time ao cap ds kRevoke house id _ (hr.below (hb1.alloc hb1.size _)) hlen HV.out).mono ?_
        rintro e w2 ⟨rfl, hb2⟩
        have hb := below_alloc_call hb1 hb2
        go_wp2_with fail
        go_quiet (fail)
        go_wp2_with fail
        go_ret
        exact ⟨ret_int hfin.out.symm, below_drawn (hb.alloc hb.size _) _⟩
      | some y =>
        have HV := hide hv
        clear hv
        go_enter Tryz.func41, Tryz.ntmps41
        go_wp2_with fail
        refine (deed_none rb root time ao cap ds kMint house id _ hr hlen HM.out).mono ?_
        rintro e w1 ⟨rfl, hb1⟩
        go_wp2_with fail
        refine (deed_some rb root time ao cap ds kRevoke house id y _ (hr.below (hb1.alloc hb1.size _)) hlen HV.out).mono ?_
        rintro e w2 ⟨rfl, hb2⟩
        have hb := below_alloc_call hb1 hb2
        go_wp2_with fail
        go_quiet (fail)
        go_wp2_with fail
        go_ret
        exact ⟨ret_int hfin.out.symm, below_drawn (hb.alloc hb.size _) _⟩
    | some x =>
      cases hv : deedF ds kRevoke house id with
      | some y =>
        have hfin := hide (show roleF root time ds house id = 0 by simp [roleF, hemp, hm, hv])
        have HM := hide hm
        clear hm
        have HV := hide hv
        clear hv
        go_enter Tryz.func41, Tryz.ntmps41
        go_wp2_with fail
        refine (deed_some rb root time ao cap ds kMint house id x _ hr hlen HM.out).mono ?_
        rintro e w1 ⟨rfl, hb1⟩
        go_wp2_with fail
        refine (deed_some rb root time ao cap ds kRevoke house id y _ (hr.below (hb1.alloc hb1.size _)) hlen HV.out).mono ?_
        rintro e w2 ⟨rfl, hb2⟩
        have hb := below_alloc_call hb1 hb2
        have k1 := (hb.cell (p := ⟨rb, 1, none⟩) hrb).trans c1
        have x6 : w2.cell? ⟨w1.heap.size, 6, none⟩ = some (.int .i64 x.role) := new_cell (c := x.cells) hb2 6
        have x7 : w2.cell? ⟨w1.heap.size, 7, none⟩ = some (.int .i64 x.till) := new_cell (c := x.cells) hb2 7
        have hlt1 := new_lt hb2
        have hrb2 : rb < w2.heap.size := Nat.lt_of_lt_of_le hrb hb.size
        go_wp2_with fail
        go_quiet (fail)
        go_wp2_with fail
        go_ret
        exact ⟨ret_int hfin.out.symm, below_drawn (hb.alloc hb.size _) _⟩
      | none =>
        by_cases ht : x.till ≤ time
        · have hfin := hide (show roleF root time ds house id = 0 by simp [roleF, hemp, hm, hv, ht])
          have HM := hide hm
          clear hm
          have HV := hide hv
          clear hv
          go_enter Tryz.func41, Tryz.ntmps41
          go_wp2_with fail
          refine (deed_some rb root time ao cap ds kMint house id x _ hr hlen HM.out).mono ?_
          rintro e w1 ⟨rfl, hb1⟩
          go_wp2_with fail
          refine (deed_none rb root time ao cap ds kRevoke house id _ (hr.below (hb1.alloc hb1.size _)) hlen HV.out).mono ?_
          rintro e w2 ⟨rfl, hb2⟩
          have hb := below_alloc_call hb1 hb2
          have k1 := (hb.cell (p := ⟨rb, 1, none⟩) hrb).trans c1
          have x6 : w2.cell? ⟨w1.heap.size, 6, none⟩ = some (.int .i64 x.role) := new_cell (c := x.cells) hb2 6
          have x7 : w2.cell? ⟨w1.heap.size, 7, none⟩ = some (.int .i64 x.till) := new_cell (c := x.cells) hb2 7
          have hlt1 := new_lt hb2
          have hrb2 : rb < w2.heap.size := Nat.lt_of_lt_of_le hrb hb.size
          go_wp2_with fail
          go_quiet (fail)
          go_wp2_with fail
          go_ret
          exact ⟨ret_int hfin.out.symm, below_drawn (hb.alloc hb.size _) _⟩
        · have hfin := hide (show roleF root time ds house id = x.role by simp [roleF, hemp, hm, hv, ht])
          have HM := hide hm
          clear hm
          have HV := hide hv
          clear hv
          go_enter Tryz.func41, Tryz.ntmps41
          go_wp2_with fail
          refine (deed_some rb root time ao cap ds kMint house id x _ hr hlen HM.out).mono ?_
          rintro e w1 ⟨rfl, hb1⟩
          go_wp2_with fail
          refine (deed_none rb root time ao cap ds kRevoke house id _ (hr.below (hb1.alloc hb1.size _)) hlen HV.out).mono ?_
          rintro e w2 ⟨rfl, hb2⟩
          have hb := below_alloc_call hb1 hb2
          have k1 := (hb.cell (p := ⟨rb, 1, none⟩) hrb).trans c1
          have x6 : w2.cell? ⟨w1.heap.size, 6, none⟩ = some (.int .i64 x.role) := new_cell (c := x.cells) hb2 6
          have x7 : w2.cell? ⟨w1.heap.size, 7, none⟩ = some (.int .i64 x.till) := new_cell (c := x.cells) hb2 7
          have hlt1 := new_lt hb2
          have hrb2 : rb < w2.heap.size := Nat.lt_of_lt_of_le hrb hb.size
          go_wp2_with fail
          go_quiet (fail)
          go_wp2_with fail
          go_ret
          exact ⟨ret_int hfin.out.symm, below_drawn (hb.alloc hb.size _) _⟩

end

section
open Go.RowKit

set_option maxHeartbeats 400000 in
theorem word_any (s : ByteArray) (w : World) :
    Calls Tryz.prog 44 #[.string s] w fun e w' => e = .returned (.bool (wordF s)) ∧ w' = w := by
  by_cases h1 : s.size < 1
  · have hf := hide (wordF_short s h1)
    go_enter Tryz.func44, Tryz.ntmps44
    go_wp2
    go_ret
    exact ⟨ret_bool hf.out.symm, rfl⟩
  · by_cases h2 : 4 < s.size
    · have hf := hide (wordF_long s h2)
      go_enter Tryz.func44, Tryz.ntmps44
      go_wp2
      go_ret
      exact ⟨ret_bool hf.out.symm, rfl⟩
    · go_enter Tryz.func44, Tryz.ntmps44
      go_wp2
      go_loop [3] (fun i => ∃ k : Nat, k ≤ s.size ∧ i = .int .i64 k ∧ (s.data.toList.take k).all lowB = true) (fun i => s.size - (intOf i).toNat)
      case atStart => exact ⟨0, Nat.zero_le _, rfl, rfl⟩
      case round =>
        obtain ⟨k, hk, rfl, hall⟩ := hrel
        have HA := hide hall
        clear hall
        by_cases hlt : k < s.size
        · have HT := hide (take_snoc s k hlt)
          have HL := hide (lowB_iff s[k])
          have HN := hide (fun h => wordF_no s k hlt h)
          go_wp2
          · go_ret
            exact ⟨ret_bool (HN.out (by rw [← Bool.not_eq_true, HL.out]; omega)).symm, rfl⟩
          · go_round
            case rel => exact ⟨k + 1, by omega, by go_num, by rw [HT.out, List.all_append, HA.out]; simp [HL.out]; omega⟩
            case measure => simp [intOf] <;> omega
          · go_ret
            exact ⟨ret_bool (HN.out (by rw [← Bool.not_eq_true, HL.out]; omega)).symm, rfl⟩
        · go_wp2
          go_ret
          refine ⟨ret_bool ?_, rfl⟩
          have := HA.out
          rw [List.take_of_length_le (by simp; omega)] at this
          simp [wordF, this]; omega

set_option maxHeartbeats 400000 in
theorem is_any (rb : Nat) (root time : Int) (ao : Option Addr) (cap : Nat) (ds : List Deed) (house : ByteArray) (w : World)
    (hr : RefAt w rb root time ao cap ds) (hlen : ds.length ≤ 1000000000000) :
    Calls Tryz.prog 45 #[.pointer (some ⟨rb, 0, none⟩), .string house] w fun e w' =>
      e = .returned (.bool (decide (0 < didF ds kFound house))) ∧ w' = w := by
  go_enter Tryz.func45, Tryz.ntmps45
  go_wp2_with fail
  refine (did_any rb root time ao cap ds kFound house _ hr hlen).mono ?_
  rintro e w1 ⟨rfl, rfl⟩
  go_wp2_with fail
  go_ret
  refine ⟨?_, rfl⟩
  simp

set_option maxHeartbeats 400000 in
theorem rclock_any (rb : Nat) (root time : Int) (ao : Option Addr) (cap : Nat) (ds : List Deed) (w : World)
    (hr : RefAt w rb root time ao cap ds) :
    Calls Tryz.prog 15 #[.pointer (some ⟨rb, 0, none⟩)] w fun e w' => e = .returned (.int .i64 time) ∧ w' = w := by
  have c1 := hr.c1
  go_enter Tryz.func15, Tryz.ntmps15
  go_wp2
  go_ret
  exact ⟨rfl, rfl⟩


set_option maxHeartbeats 400000 in
theorem rmay_any (rb : Nat) (root time : Int) (ao : Option Addr) (cap : Nat) (ds : List Deed) (house : ByteArray) (id : Int) (w : World)
    (hr : RefAt w rb root time ao cap ds) (hlen : ds.length ≤ 1000000000000) :
    Calls Tryz.prog 17 #[.pointer (some ⟨rb, 0, none⟩), .string house, .int .i64 id] w fun e w' =>
      e = .returned (.tuple #[.int .i64 (mayF (roleF root time ds house id)).1, .int .i64 (mayF (roleF root time ds house id)).2]) ∧ Below w.heap.size w w' := by
  have Hc := hide (role_any rb root time ao cap ds house id w hr hlen)
  generalize roleF root time ds house id = r at *
  cases h0 : (r == 0) with
  | true =>
    have hf : mayF r = (0, 3) := by simp [mayF, h0]
    rw [hf]
    clear hf
    go_enter Tryz.func17, Tryz.ntmps17
    go_wp2_with fail
    refine Hc.out.mono ?_
    rintro e w1 ⟨rfl, hb⟩
    go_wp2_with fail
    go_ret2
    exact ⟨rfl, hb⟩
  | false =>
    have hf : mayF r = (r, 0) := by simp [mayF, h0]
    rw [hf]
    clear hf
    go_enter Tryz.func17, Tryz.ntmps17
    go_wp2_with fail
    refine Hc.out.mono ?_
    rintro e w1 ⟨rfl, hb⟩
    go_wp2_with fail
    go_ret2
    exact ⟨rfl, hb⟩

set_option maxHeartbeats 400000 in
theorem rnew_no (root : Int) (w : World) (h : root < 1) :
    Calls Tryz.prog 6 #[.int .i64 root] w fun e w' => e = .returned (.tuple #[.pointer none, .int .i64 1]) ∧ w' = w := by
  go_enter Tryz.func6, Tryz.ntmps6
  go_wp2
  go_ret2
  exact ⟨rfl, rfl⟩

theorem RefAt.fresh (w : World) (root : Int) : RefAt (w.alloc (.cells #[.int .i64 root, .int .i64 0, .slice none 0 0] 47)) w.heap.size root 0 none 0 [] := by
  have h := heap_alloc_new w (.cells #[.int .i64 root, .int .i64 0, .slice none 0 0] 47)
  exact ⟨(cell_of_heap h 0).trans rfl, (cell_of_heap h 1).trans rfl, (cell_of_heap h 2).trans rfl, frozen_of_heap h 1, frozen_of_heap h 2, World.ownsRow_nil _ _ _ _⟩

set_option maxHeartbeats 400000 in
theorem rnew_yes (root : Int) (w : World) (h : 1 ≤ root) :
    Calls Tryz.prog 6 #[.int .i64 root] w fun e w' => e = .returned (.tuple #[.pointer (some ⟨w.heap.size, 0, none⟩), .int .i64 0]) ∧ RefAt w' w.heap.size root 0 none 0 [] ∧ Below w.heap.size w w' := by
  go_enter Tryz.func6, Tryz.ntmps6
  go_wp2
  go_ret2
  exact ⟨rfl, RefAt.fresh w root, (Below.refl _ _).alloc (Nat.le_refl _) _⟩

/-- The clock behind a Tick. -/

theorem RefAt.tick {w : World} {rb : Nat} {root time : Int} {ao : Option Addr} {cap : Nat} {ds : List Deed} (h : RefAt w rb root time ao cap ds) (t : Int) :
    RefAt (w.setCell ⟨rb, 1, none⟩ (.int .i64 t)) rb root t ao cap ds := by
  refine ⟨?_, ?_, ?_, ?_, ?_, ?_⟩
  · rw [cell_setCell_ne (by omega)]; exact h.c0
  · rw [cell_setCell_same h.c1]
  · rw [cell_setCell_ne (by omega)]; exact h.c2
  · rw [frozen_setCell]; exact h.f1
  · rw [frozen_setCell]; exact h.f2
  · exact ownsRow_setCell_below h.own (Nat.lt_succ_self rb) _

set_option maxHeartbeats 400000 in
theorem rtick_no (rb : Nat) (n : Int) (w : World) (h : n < 0) :
    Calls Tryz.prog 13 #[.pointer (some ⟨rb, 0, none⟩), .int .i64 n] w fun e w' => e = .returned (.int .i64 1) ∧ w' = w := by
  go_enter Tryz.func13, Tryz.ntmps13
  go_wp2
  go_ret
  exact ⟨rfl, rfl⟩

set_option maxHeartbeats 400000 in
theorem rtick_yes (rb : Nat) (root time : Int) (ao : Option Addr) (cap : Nat) (ds : List Deed) (n : Int) (w : World)
    (hr : RefAt w rb root time ao cap ds) (h : 0 ≤ n) (hn : n ≤ 9223372036854775807) (ht0 : 0 ≤ time) (ht : time ≤ 1099511627776) :
    Calls Tryz.prog 13 #[.pointer (some ⟨rb, 0, none⟩), .int .i64 n] w fun e w' => e = .returned (.int .i64 0) ∧
      RefAt w' rb root (tickF time n) ao cap ds ∧ Chg (RefFoot rb ao) w w' := by
  have c1 := hr.c1
  have f1 := hr.f1
  go_enter Tryz.func13, Tryz.ntmps13
  go_wp2
  go_loopw [1, 5] (fun i _ wr => (i = .int .i64 n ∧ wr = w) ∨ (i = .int .i64 0 ∧ wr = w.setCell ⟨rb, 1, none⟩ (.int .i64 (tickF time n)))) (fun i _ _ => (intOf i).toNat)
  case atStart => exact Or.inl ⟨rfl, rfl⟩
  case round =>
    rcases hrel with ⟨rfl, rfl⟩ | ⟨rfl, rfl⟩
    · have HT := hide (show (1099511627776 ≤ time ∨ n ≤ 0) → tickF time n = time from fun h => by unfold tickF; split <;> omega)
      have HU := hide (show ∀ (W : World) (t : Int), t = tickF time n → W.setCell ⟨rb, 1, none⟩ (.int .i64 t) = W.setCell ⟨rb, 1, none⟩ (.int .i64 (tickF time n)) from fun W t h => by rw [h])
      go_wp2
      · go_roundw
        case rel => exact Or.inr ⟨rfl, HU.out _ _ (by unfold tickF; split <;> omega)⟩
        case measure => simp [intOf] <;> omega
      · go_roundw
        case rel => exact Or.inr ⟨rfl, HU.out _ _ (by unfold tickF; split <;> omega)⟩
        case measure => simp [intOf] <;> omega
      · go_ret
        exact ⟨rfl, by rw [HT.out (by omega)]; exact hr, Chg.refl _ _⟩
      · go_ret
        exact ⟨rfl, by rw [HT.out (by omega)]; exact hr, Chg.refl _ _⟩
    · go_wp2
      · go_ret
        exact ⟨rfl, hr.tick _, (Chg.refl _ _).setCell (Or.inl (Or.inl rfl)) _⟩
      · go_ret
        exact ⟨rfl, hr.tick _, (Chg.refl _ _).setCell (Or.inl (Or.inl rfl)) _⟩

end

end Go.Proofs.YtgcldedkempjhabGreatDoor
