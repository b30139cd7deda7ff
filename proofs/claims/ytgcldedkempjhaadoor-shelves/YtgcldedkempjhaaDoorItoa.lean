/-
  strconv.Itoa of a number of one digit.
-/
import Derived.Test.YtgcldedkempjhaaDoorRows
import Derived.Test.YtgcldedkempjhaaDoorBase
import Derived.Test.YtgcldedkempjhaaDoorPure
namespace Go.Proofs.YtgcldedkempjhaaDoor
open Go.RowKit

def digitS (v : Nat) : ByteArray := ⟨#[UInt8.ofNat (48 + v)]⟩

set_option maxHeartbeats 400000 in
theorem itoa_one (v : Nat) (h1 : v < 10) (w : World) :
    Calls Tryd.prog 29 #[.int .i64 v] w fun e w' => e = .returned (.string (digitS v)) ∧ w' = w := by
  have hv : v = 0 ∨ v = 1 ∨ v = 2 ∨ v = 3 ∨ v = 4 ∨ v = 5 ∨ v = 6 ∨ v = 7 ∨ v = 8 ∨ v = 9 := by omega
  rcases hv with rfl | rfl | rfl | rfl | rfl | rfl | rfl | rfl | rfl | rfl
  all_goals
    go_enter Tryd.func29, Tryd.ntmps29
    go_wp2
    go_ret
    exact ⟨rfl, rfl⟩

end Go.Proofs.YtgcldedkempjhaaDoor
