/-
  shelf.Shelf: Tell.
-/
import Derived.Test.YtgcldedkempjhabGreatDoorRows
import Derived.Test.YtgcldedkempjhabGreatDoorBaseRow
import Derived.Test.YtgcldedkempjhabGreatDoorWords
import Derived.Test.YtgcldedkempjhabGreatDoorShelf
namespace Go.Proofs.YtgcldedkempjhabGreatDoor
section
open Go.RowKit

def digitS (v : Nat) : ByteArray := ⟨#[UInt8.ofNat (48 + v)]⟩

set_option maxHeartbeats 400000 in
theorem itoa_one (v : Nat) (h1 : v < 10) (w : World) :
    Calls Tryz.prog 98 #[.int .i64 v] w fun e w' => e = .returned (.string (digitS v)) ∧ w' = w := by
  have hv : v = 0 ∨ v = 1 ∨ v = 2 ∨ v = 3 ∨ v = 4 ∨ v = 5 ∨ v = 6 ∨ v = 7 ∨ v = 8 ∨ v = 9 := by omega
  rcases hv with rfl | rfl | rfl | rfl | rfl | rfl | rfl | rfl | rfl | rfl
  all_goals
    go_enter Tryz.func98, Tryz.ntmps98
    go_wp2
    go_ret
    exact ⟨rfl, rfl⟩

end

section
open Go.RowKit

/-- The versions of a label up to k, as they are told. -/
def tellTo (es : List Ed) (label : ByteArray) : Nat → ByteArray
  | 0 => ⟨#[]⟩
  | k + 1 => match edF es label ((k : Int) + 1) with
    | none => tellTo es label k
    | some e => (if (tellTo es label k).toList.isEmpty then tellTo es label k else tellTo es label k ++ ⟨#[44]⟩) ++ digitS (k + 1) ++ (if e.off then ⟨#[42]⟩ else ⟨#[]⟩)

theorem tellTo_size (es : List Ed) (label : ByteArray) (k : Nat) : (tellTo es label k).size ≤ 3 * k := by
  induction k with
  | zero => exact Nat.le_refl 0
  | succ k ih =>
    unfold tellTo
    split
    · omega
    · rename_i e _
      have h1 : (digitS (k + 1)).size = 1 := rfl
      have h2 : (if e.off then (⟨#[42]⟩ : ByteArray) else ⟨#[]⟩).size ≤ 1 := by cases e.off <;> decide
      rw [ByteArray.size_append, ByteArray.size_append, h1]
      split
      · omega
      · rw [ByteArray.size_append]
        have h3 : (⟨#[44]⟩ : ByteArray).size = 1 := rfl
        omega

theorem itoa_ver (k : Nat) (h : k < 9) (w : World) : Calls Tryz.prog 98 #[.int .i64 ((k : Int) + 1)] w fun e w' => e = .returned (.string (digitS (k + 1))) ∧ w' = w :=
  itoa_one (k + 1) (by omega) w

theorem append_none (t : ByteArray) : t ++ (⟨#[]⟩ : ByteArray) = t := ByteArray.append_empty

set_option maxHeartbeats 800000 in
theorem shelfTell_any (base b o : Nat) (ao : Option Addr) (cap : Nat) (es : List Ed) (label : ByteArray) (w : World) (hr : ShelfAt w base b o ao cap es) (hlen : es.length ≤ 1000) :
    Calls Tryz.prog 71 #[.pointer (some ⟨b, o, none⟩), .string label] w fun e w' => e = .returned (.string (tellTo es label 9)) ∧ w' = w := by
  have c := hr.c
  go_enter Tryz.func71, Tryz.ntmps71
  go_wp2_with fail
  go_loop [5, 6, 7] (fun t x _ => ∃ k : Nat, k ≤ 9 ∧ x = .int .i64 ((k : Int) + 1) ∧ t = .string (tellTo es label k)) (fun _ x _ => (10 - intOf x).toNat)
  case atStart => exact ⟨0, Nat.zero_le _, rfl, rfl⟩
  case round =>
    obtain ⟨k, hk, rfl, rfl⟩ := hrel
    by_cases hlt : k < 9
    · rcases find_cases (edP label ((k : Int) + 1)) es with ⟨i, hi, h1, h2, h3⟩ | ⟨h1, h3⟩
      · have Hc := hide (shelfFind_some base b o _ cap es label ((k : Int) + 1) w hr hlen i hi h1 h2)
        obtain ⟨g, rfl, hg, hx⟩ := hr.ed i hi
        obtain ⟨d0, d1, d2, d3, f3⟩ := hx
        have HS := hide (show tellTo es label (k + 1) = (if (tellTo es label k).toList.isEmpty then tellTo es label k else tellTo es label k ++ ⟨#[44]⟩) ++ digitS (k + 1) ++ (if es[i].off then ⟨#[42]⟩ else ⟨#[]⟩) by rw [tellTo, edF, h3])
        clear h1 h2 h3
        have htl := tellTo_size es label k
        have hd : (digitS (k + 1)).size = 1 := rfl
        have HI2 := hide (fun W => itoa_ver k hlt W)
        generalize tellTo es label k = t at *
        generalize digitS (k + 1) = dg at *
        cases ht : t.toList.isEmpty with
        | true =>
          cases hoff : es[i].off with
          | true =>
            have HR := hide (show tellTo es label (k + 1) = t ++ dg ++ ⟨#[42]⟩ by rw [HS.out, ht, hoff]; rfl)
            clear HS
            go_wp2_with fail
            refine Hc.out.mono ?_
            rintro e w1 ⟨rfl, h⟩
            subst h
            go_wp2_with fail
            refine (HI2.out _).mono ?_
            rintro e w2 ⟨rfl, h⟩
            subst h
            go_wp2_with fail
            go_round
            case rel => exact ⟨k + 1, by omega, by go_num, by rw [HR.out]⟩
            case measure => simp [intOf] <;> omega
          | false =>
            have HR := hide (show tellTo es label (k + 1) = t ++ dg by rw [HS.out, ht, hoff]; exact append_none _)
            clear HS
            go_wp2_with fail
            refine Hc.out.mono ?_
            rintro e w1 ⟨rfl, h⟩
            subst h
            go_wp2_with fail
            refine (HI2.out _).mono ?_
            rintro e w2 ⟨rfl, h⟩
            subst h
            go_wp2_with fail
            go_round
            case rel => exact ⟨k + 1, by omega, by go_num, by rw [HR.out]⟩
            case measure => simp [intOf] <;> omega
        | false =>
          cases hoff : es[i].off with
          | true =>
            have HR := hide (show tellTo es label (k + 1) = t ++ ⟨#[44]⟩ ++ dg ++ ⟨#[42]⟩ by rw [HS.out, ht, hoff]; rfl)
            clear HS
            go_wp2_with fail
            refine Hc.out.mono ?_
            rintro e w1 ⟨rfl, h⟩
            subst h
            go_wp2_with fail
            refine (HI2.out _).mono ?_
            rintro e w2 ⟨rfl, h⟩
            subst h
            go_wp2_with fail
            go_round
            case rel => exact ⟨k + 1, by omega, by go_num, by rw [HR.out]⟩
            case measure => simp [intOf] <;> omega
          | false =>
            have HR := hide (show tellTo es label (k + 1) = t ++ ⟨#[44]⟩ ++ dg by rw [HS.out, ht, hoff]; exact append_none _)
            clear HS
            go_wp2_with fail
            refine Hc.out.mono ?_
            rintro e w1 ⟨rfl, h⟩
            subst h
            go_wp2_with fail
            refine (HI2.out _).mono ?_
            rintro e w2 ⟨rfl, h⟩
            subst h
            go_wp2_with fail
            go_round
            case rel => exact ⟨k + 1, by omega, by go_num, by rw [HR.out]⟩
            case measure => simp [intOf] <;> omega
      · have Hc := hide (shelfFind_none base b o ao cap es label ((k : Int) + 1) w hr hlen h1)
        have HS := hide (show tellTo es label (k + 1) = tellTo es label k by rw [tellTo, edF, h3])
        clear h1 h3
        go_wp2_with fail
        refine Hc.out.mono ?_
        rintro e w1 ⟨rfl, h⟩
        subst h
        go_wp2_with fail
        go_round
        case rel => exact ⟨k + 1, by omega, by go_num, by rw [HS.out]⟩
        case measure => simp [intOf] <;> omega
    · obtain rfl : k = 9 := by omega
      go_wp2_with fail
      go_ret
      exact ⟨rfl, rfl⟩

end

end Go.Proofs.YtgcldedkempjhabGreatDoor
