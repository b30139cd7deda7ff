/-
  depotkeep's small words: pick, name, digit, need.
-/
import Derived.Test.YtgcldedkempjhaaDoorTurn
import Derived.Test.YtgcldedkempjhaaDoorItoa
import Derived.Test.YtgcldedkempjhaaDoorWntA
import Derived.Deep.RegionWith
namespace Go.Proofs.YtgcldedkempjhaaDoor
open Go.RowKit

/-- Which of n things a raw number speaks of. -/
def pickN (c : Int) (n : Nat) : Nat := ((if c < 0 then -(c + 1) else c) % (n : Int)).toNat

theorem pickN_lt (c : Int) {n : Nat} (h : 0 < n) : pickN c n < n := by
  unfold pickN
  have h1 : 0 ≤ (if c < 0 then -(c + 1) else c) % (n : Int) := Int.emod_nonneg _ (by omega)
  have h2 : (if c < 0 then -(c + 1) else c) % (n : Int) < n := Int.emod_lt_of_pos _ (by omega)
  omega

theorem pickN_cast (c : Int) {n : Nat} (h : 0 < n) : ((pickN c n : Nat) : Int) = (if c < 0 then -(c + 1) else c) % (n : Int) := by
  unfold pickN
  have h1 : 0 ≤ (if c < 0 then -(c + 1) else c) % (n : Int) := Int.emod_nonneg _ (by omega)
  omega

theorem tmodN (c : Int) (n : Nat) (h : c < 0) : -(c + 1).tmod n = (-(c + 1)) % n := by
  have h1 : (-(c + 1)).tmod n = (-(c + 1)) % n := Int.tmod_eq_emod_of_nonneg (by omega)
  rw [← h1, Int.neg_tmod]

set_option maxHeartbeats 400000 in
theorem pickN_any (c : Int) (n : Nat) (w : World) (h1 : -9223372036854775808 ≤ c) (h2 : c ≤ 9223372036854775807) (hn : 0 < n) (hn9 : n ≤ 9) :
    Calls Tryd.prog 16 #[.int .i64 c, .int .i64 n] w fun e w' => e = .returned (.int .i64 (pickN c n : Nat)) ∧ w' = w := by
  have hz : ((n : Int) == 0) = false := by simp; omega
  have hz' : ¬ (n : Int) = 0 := by omega
  by_cases h0 : c < 0
  · have hf := hide (show ((pickN c n : Nat) : Int) = (-(c + 1)) % n by rw [pickN_cast c hn]; simp [h0])
    go_enter Tryd.func16, Tryd.ntmps16
    go_wp2
    go_ret
    exact ⟨ret_int (by rw [hf.out]; exact tmodN c n h0), rfl⟩
  · have hf := hide (show ((pickN c n : Nat) : Int) = c % n by rw [pickN_cast c hn]; simp [h0])
    go_enter Tryd.func16, Tryd.ntmps16
    go_wp2
    go_ret
    exact ⟨ret_int (by rw [hf.out]), rfl⟩

/-- The six names. -/
def nameK (n : Nat) : ByteArray :=
  match n with
  | 0 => ⟨#[112]⟩
  | 1 => ⟨#[113]⟩
  | 2 => ⟨#[114]⟩
  | 3 => ⟨#[104, 47, 120]⟩
  | 4 => ⟨#[104, 47, 121]⟩
  | _ => ⟨#[104, 47, 122]⟩

set_option maxHeartbeats 400000 in
theorem nameK_any (n : Nat) (hn : n < 6) (w : World) :
    Calls Tryd.prog 18 #[.int .i64 n] w fun e w' => e = .returned (.string (nameK n)) ∧ Below w.heap.size w w' := by
  have hv : n = 0 ∨ n = 1 ∨ n = 2 ∨ n = 3 ∨ n = 4 ∨ n = 5 := by omega
  rcases hv with rfl | rfl | rfl | rfl | rfl | rfl
  all_goals
    go_enter Tryd.func18, Tryd.ntmps18
    go_wp2
    go_ret
    exact ⟨rfl, (Below.refl _ _).alloc (Nat.le_refl _) _⟩

theorem digit_conv (v : Nat) (hn : v < 10) (w : World) :
    (convert 103 9 (.slice (some ⟨w.heap.size, 0, none⟩) 1 1)).run Tryd.prog (w.alloc (.cells #[.int .u8 (48 + (v : Int))] 5)) = .ok (.string (digitS v)) (w.alloc (.cells #[.int .u8 (48 + (v : Int))] 5)) := by
  refine run_convert_bytes_back (P := Tryd.prog) _ 103 9 5 ⟨w.heap.size, 0, none⟩ 1 [UInt8.ofNat (48 + v)] Tryd.underlying103 Tryd.underlying5 Tryd.underlying9 ?_
  intro j hj
  have hj0 : j = 0 := by simpa using hj
  subst hj0
  have hadd : (⟨w.heap.size, 0, none⟩ : Addr).add 0 = ⟨w.heap.size, 0, none⟩ := by unfold Addr.add; split <;> simp_all
  rw [hadd]
  have h1 : (UInt8.ofNat (48 + v)).toNat = 48 + v := by
    rw [UInt8.toNat_ofNat']; omega
  have hh : (w.alloc (.cells #[.int .u8 (48 + (v : Int))] 5)).heap[w.heap.size]? = some (.cells #[.int .u8 (48 + (v : Int))] 5 (0, 0)) := by simp [World.alloc, -World.alloc_eq]
  rw [cell_of_heap hh]
  show some (Value.int .u8 (48 + (v : Int))) = some (.int .u8 ((UInt8.ofNat (48 + v)).toNat : Int))
  rw [h1, Int.natCast_add]
  rfl

set_option maxHeartbeats 1600000 in
theorem digitK_any (v : Nat) (hn : v < 10) (w : World) :
    Calls Tryd.prog 47 #[.int .i64 v] w fun e w' => e = .returned (.string (digitS v)) ∧ Below w.heap.size w w' := by
  have hc := digit_conv v hn w
  go_enter Tryd.func47, Tryd.ntmps47
  go_wp2
  go_ret
  exact ⟨rfl, (Below.refl _ _).alloc (Nat.le_refl _) _⟩

end Go.Proofs.YtgcldedkempjhaaDoor
