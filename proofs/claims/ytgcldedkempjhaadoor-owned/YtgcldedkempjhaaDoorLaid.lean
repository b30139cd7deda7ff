/-
  A world for the witness; the program's own knobs.
-/
import Derived.Test.YtgcldedkempjhaaDoorJrnMem
import Derived.Lib.LaidTab
import Derived.LaidSub
import Derived.Test.YtgcldedkempjhaaDoorRows
import Derived.Test.YtgcldedkempjhaaDoorBaseRow
import Derived.ProofKit
import Derived.OpenShut
import Derived.ShutString
import Derived.ChangeOld
import Derived.Deep.Slices
import Derived.Deep.DeepHandedRow
namespace Go.Proofs.YtgcldedkempjhaaDoor
section
open Go.RowKit

def keep20 (x : String × DataW Unit) : Bool :=
  match x.2 with
  | .agg l => l.length == 20
  | _ => false

def nm20 (l : List (String × DataW Unit)) : String := ((l.filter keep20).map fun x => x.1).headD ""

theorem tab_of {W : World} {l : List (String × DataW Unit)} (e : l.filter keep20 = [(nm20 l, Lib.tabData .u64 Lib.pow10Tab)]) (hn : Tryd.prog.globalNamed (nm20 l) = some 0) (h : laidMetH Tryd.prog l W) : TabOk W := by
  have h1 := h.filter keep20
  rw [e] at h1
  have h2 : laidMet Tryd.prog [(nm20 l, Lib.tabData .u64 Lib.pow10Tab)] W := h1
  have h3 := Lib.tabIs_of_head hn (show (Tryd.prog.globals[0]?).map (·.type) = some 197 by kernel_rfl) Tryd.underlying197 Tryd.underlying178 (by kernel_rfl) (by kernel_rfl) h2
  unfold Lib.TabIs World.var? at h3
  rw [hn] at h3
  simp only [Option.bind_some] at h3
  split at h3
  · rename_i cs t fr hh
    injection h3 with h3
    exact ⟨t, fr, by rw [hh, h3]⟩
  · cases h3

end

section
open Go.ChangeShapes Go.WideShapes Go.ChangeAt Go.RowKit

theorem ownNone : ownKnob Tryd.prog.godebug = none := by kernel_rfl
theorem laidOut : laidOutB Tryd.prog = true := by kernel_rfl

/-- An object whose cells hold these values. -/
def layCells (c : Array Value) : Obj → Obj
  | .cells _ t frozen => .cells c t frozen
  | o => o

/-- A world in which the listed tables hold what the program's text lays. -/
def laidWorldOf (P : Program) (os : Os) : World :=
  { World.holding P os ⟨#[], #[], []⟩ with heap := ((((World.holding P os ⟨#[], #[], []⟩).heap.modify 0 (layCells #[.int .u64 1, .int .u64 10, .int .u64 100, .int .u64 1000, .int .u64 10000, .int .u64 100000, .int .u64 1000000, .int .u64 10000000, .int .u64 100000000, .int .u64 1000000000, .int .u64 10000000000, .int .u64 100000000000, .int .u64 1000000000000, .int .u64 10000000000000, .int .u64 100000000000000, .int .u64 1000000000000000, .int .u64 10000000000000000, .int .u64 100000000000000000, .int .u64 1000000000000000000, .int .u64 10000000000000000000])).modify 1 (layCells #[.int .u8 0, .int .u8 1, .int .u8 28, .int .u8 2, .int .u8 29, .int .u8 14, .int .u8 24, .int .u8 3, .int .u8 30, .int .u8 22, .int .u8 20, .int .u8 15, .int .u8 25, .int .u8 17, .int .u8 4, .int .u8 8, .int .u8 31, .int .u8 27, .int .u8 13, .int .u8 23, .int .u8 21, .int .u8 19, .int .u8 16, .int .u8 7, .int .u8 26, .int .u8 12, .int .u8 18, .int .u8 6, .int .u8 11, .int .u8 5, .int .u8 10, .int .u8 9])).modify 2 (layCells #[.int .u8 0, .int .u8 1, .int .u8 56, .int .u8 2, .int .u8 57, .int .u8 49, .int .u8 28, .int .u8 3, .int .u8 61, .int .u8 58, .int .u8 42, .int .u8 50, .int .u8 38, .int .u8 29, .int .u8 17, .int .u8 4, .int .u8 62, .int .u8 47, .int .u8 59, .int .u8 36, .int .u8 45, .int .u8 43, .int .u8 51, .int .u8 22, .int .u8 53, .int .u8 39, .int .u8 33, .int .u8 30, .int .u8 24, .int .u8 18, .int .u8 12, .int .u8 5, .int .u8 63, .int .u8 55, .int .u8 48, .int .u8 27, .int .u8 60, .int .u8 41, .int .u8 37, .int .u8 16, .int .u8 46, .int .u8 35, .int .u8 44, .int .u8 21, .int .u8 52, .int .u8 32, .int .u8 23, .int .u8 11, .int .u8 54, .int .u8 26, .int .u8 40, .int .u8 15, .int .u8 34, .int .u8 20, .int .u8 31, .int .u8 10, .int .u8 25, .int .u8 14, .int .u8 19, .int .u8 9, .int .u8 13, .int .u8 8, .int .u8 7, .int .u8 6])) }

end

end Go.Proofs.YtgcldedkempjhaaDoor
