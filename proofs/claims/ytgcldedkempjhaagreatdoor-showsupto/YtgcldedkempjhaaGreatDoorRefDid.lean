/-
  depotref: how many deeds of a kind a house has.
-/
import Derived.Test.YtgcldedkempjhaaGreatDoorRows
import Derived.Test.YtgcldedkempjhaaGreatDoorRefBase
namespace Go.Proofs.YtgcldedkempjhaaGreatDoor
open Go.RowKit

def didF (ds : List Deed) (kind house : ByteArray) : Nat := (ds.filter fun x => x.kind.toList == kind.toList && x.house.toList == house.toList).length

theorem didF_le (ds : List Deed) (kind house : ByteArray) : didF ds kind house ≤ ds.length := List.length_filter_le _ _

theorem didF_take_succ (ds : List Deed) (kind house : ByteArray) (k : Nat) (h : k < ds.length) :
    didF (ds.take (k + 1)) kind house = didF (ds.take k) kind house + if (ds[k].kind.toList == kind.toList && ds[k].house.toList == house.toList) then 1 else 0 := by
  unfold didF
  rw [List.take_succ_eq_append_getElem h, List.filter_append]
  by_cases hc : (ds[k].kind.toList == kind.toList && ds[k].house.toList == house.toList) <;> simp [hc]

set_option maxHeartbeats 400000 in
theorem did_any (rb : Nat) (root time : Int) (ao : Option Addr) (cap : Nat) (ds : List Deed) (kind house : ByteArray) (w : World)
    (hr : RefAt w rb root time ao cap ds) (hlen : ds.length ≤ 1000000000000) :
    Calls Tryz.prog 56 #[.pointer (some ⟨rb, 0, none⟩), .string kind, .string house] w fun e w' => e = .returned (.int .i64 (didF ds kind house)) ∧ w' = w := by
  have c2 := hr.c2
  go_enter Tryz.func56, Tryz.ntmps56
  go_wp2
  go_loop [7, 8] (fun n i => ∃ k : Nat, k ≤ ds.length ∧ i = .int .i64 k ∧ n = .int .i64 (didF (ds.take k) kind house)) (fun _ i => ds.length - (intOf i).toNat)
  case atStart => exact ⟨0, Nat.zero_le _, rfl, rfl⟩
  case round =>
    obtain ⟨k, hk, rfl, rfl⟩ := hrel
    have hd := didF_le (ds.take k) kind house
    have hl : (ds.take k).length ≤ k := List.length_take_le _ _
    by_cases hlt : k < ds.length
    · have hsn := hide (didF_take_succ ds kind house k hlt)
      obtain ⟨g, rfl, _, hx⟩ := hr.deed k hlt
      have d0 := hx.d0
      have d1 := hx.d1
      go_wp2
      all_goals
        go_round
        case rel => exact ⟨k + 1, by omega, by go_num, by rw [hsn.out]; simp [*]⟩
        case measure => simp [intOf]; omega
    · go_wp2
      go_ret
      exact ⟨ret_int (by rw [List.take_of_length_le (by omega)]), rfl⟩

end Go.Proofs.YtgcldedkempjhaaGreatDoor
