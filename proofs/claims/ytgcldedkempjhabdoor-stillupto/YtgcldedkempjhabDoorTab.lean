/-
  strconv's table of the powers of ten, out of what a statement lists as laid.
-/
import Derived.Test.YtgcldedkempjhabDoorJrnMem
import Derived.Lib.LaidTab
import Derived.LaidSub
namespace Go.Proofs.YtgcldedkempjhabDoor
open Go.RowKit

def keep20 (x : String × DataW Unit) : Bool :=
  match x.2 with
  | .agg l => l.length == 20
  | _ => false

def nm20 (l : List (String × DataW Unit)) : String := ((l.filter keep20).map fun x => x.1).headD ""

theorem tab_of {W : World} {l : List (String × DataW Unit)} (e : l.filter keep20 = [(nm20 l, Lib.tabData .u64 Lib.pow10Tab)]) (hn : Tryd.prog.globalNamed (nm20 l) = some 0) (h : laidMetH Tryd.prog l W) : TabOk W := by
  have h1 := h.filter keep20
  rw [e] at h1
  have h2 : laidMet Tryd.prog [(nm20 l, Lib.tabData .u64 Lib.pow10Tab)] W := h1
  have h3 := Lib.tabIs_of_head hn (show (Tryd.prog.globals[0]?).map (·.type) = some 161 by kernel_rfl) Tryd.underlying161 Tryd.underlying154 (by kernel_rfl) (by kernel_rfl) h2
  unfold Lib.TabIs World.var? at h3
  rw [hn] at h3
  simp only [Option.bind_some] at h3
  split at h3
  · rename_i cs t fr hh
    injection h3 with h3
    exact ⟨t, fr, by rw [hh, h3]⟩
  · cases h3

end Go.Proofs.YtgcldedkempjhabDoor
