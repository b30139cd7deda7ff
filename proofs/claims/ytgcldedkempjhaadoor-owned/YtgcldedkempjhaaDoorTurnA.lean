/-
  depotkeep: a turn, what it shows.
-/
import Derived.Test.YtgcldedkempjhaaDoorRows
import Derived.Test.YtgcldedkempjhaaDoorBaseRow
import Derived.Test.YtgcldedkempjhaaDoorRingMint
import Derived.Deep.RegionHeld3
import Derived.BigQuiet
import Derived.Deep.QuietTactic
namespace Go.Proofs.YtgcldedkempjhaaDoor
open Go.RowKit

abbrev kH : ByteArray := ⟨#[104]⟩
abbrev kG : ByteArray := ⟨#[103]⟩

structure TurnD where
  who : Int
  kind : Int
  id : Int
  of : ByteArray
  s : ByteArray
  t : ByteArray
  a : Int
  b : Int
  c : Int

/-- A turn, as a value. -/
abbrev turnV (x : TurnD) : Array Value :=
  #[.int .i64 x.who, .int .i64 x.kind, .int .i64 x.id, .string x.of, .string x.s, .string x.t, .int .i64 x.a, .int .i64 x.b, .int .i64 x.c]

def pickF (c : Int) : Int := if c < 0 then (-(c + 1)) % 4 else c % 4

def showsH (who : Int) : ByteArray := if pickF who == 1 then kH else if pickF who == 2 then kG else ⟨#[]⟩
def showsI (who id : Int) : Int := if pickF who == 1 then id else if pickF who == 2 then id else 77

theorem tmod4 (c : Int) (h : c < 0) : -(c + 1).tmod 4 = (-(c + 1)) % 4 := by
  have h1 : (-(c + 1)).tmod 4 = (-(c + 1)) % 4 := Int.tmod_eq_emod_of_nonneg (by omega)
  rw [← h1, Int.neg_tmod]

set_option maxHeartbeats 400000 in
theorem pick_any (c : Int) (w : World) (h1 : -9223372036854775808 ≤ c) (h2 : c ≤ 9223372036854775807) :
    Calls Tryd.prog 16 #[.int .i64 c, .int .i64 4] w fun e w' => e = .returned (.int .i64 (pickF c)) ∧ w' = w := by
  by_cases h0 : c < 0
  · have hf := hide (show pickF c = (-(c + 1)) % 4 by simp [pickF, h0])
    go_enter Tryd.func16, Tryd.ntmps16
    go_wp2
    go_ret
    exact ⟨ret_int (by rw [hf.out]; exact tmod4 c h0), rfl⟩
  · have hf := hide (show pickF c = c % 4 by simp [pickF, h0])
    go_enter Tryd.func16, Tryd.ntmps16
    go_wp2
    go_ret
    exact ⟨ret_int (by rw [hf.out]), rfl⟩

set_option maxHeartbeats 400000 in
theorem shows_any (x : TurnD) (house : ByteArray) (id : Int) (w : World) (h1 : -9223372036854775808 ≤ x.who) (h2 : x.who ≤ 9223372036854775807) (e1 : house = showsH x.who) (e2 : id = showsI x.who x.id) :
    Calls Tryd.prog 33 #[.agg (turnV x)] w fun e w' => e = .returned (.tuple #[.string house, .int .i64 id]) ∧ Below w.heap.size w w' := by
  have Hp := hide (fun W => pick_any x.who W h1 h2)
  subst e1
  subst e2
  have HH := hide (show showsH x.who = if pickF x.who == 1 then kH else if pickF x.who == 2 then kG else ⟨#[]⟩ from rfl)
  have HI := hide (show showsI x.who x.id = if pickF x.who == 1 then x.id else if pickF x.who == 2 then x.id else 77 from rfl)
  rw [HH.out, HI.out]
  clear HH HI
  generalize pickF x.who = p at *
  cases c1 : (p == 1) with
  | true =>
    simp only [if_true]
    go_enter Tryd.func33, Tryd.ntmps33
    go_wp2_with fail
    refine (Hp.out _).mono ?_
    rintro e w1 ⟨rfl, h⟩
    subst h
    go_wp2_with fail
    go_quiet (fail)
    go_wp2_with fail
    go_ret2
    exact ⟨rfl, below_drawn ((Below.refl _ _).alloc (Nat.le_refl _) _) _⟩
  | false =>
    cases c2 : (p == 2) with
    | true =>
      simp only [if_true, Bool.false_eq_true, if_false]
      go_enter Tryd.func33, Tryd.ntmps33
      go_wp2_with fail
      refine (Hp.out _).mono ?_
      rintro e w1 ⟨rfl, h⟩
      subst h
      go_wp2_with fail
      go_quiet (fail)
      go_wp2_with fail
      go_ret2
      exact ⟨rfl, below_drawn ((Below.refl _ _).alloc (Nat.le_refl _) _) _⟩
    | false =>
      simp only [Bool.false_eq_true, if_false]
      go_enter Tryd.func33, Tryd.ntmps33
      go_wp2_with fail
      refine (Hp.out _).mono ?_
      rintro e w1 ⟨rfl, h⟩
      subst h
      go_wp2_with fail
      go_ret2
      exact ⟨rfl, (Below.refl _ _).alloc (Nat.le_refl _) _⟩

end Go.Proofs.YtgcldedkempjhaaDoor
