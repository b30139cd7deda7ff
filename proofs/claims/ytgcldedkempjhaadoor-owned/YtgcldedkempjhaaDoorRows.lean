/-
  NARROWER THAN 'FOR EVERY INPUT', by the rows' own cells (each row's printed sentence says how): Gate: laid · Shelves: laid · Sound: laid · Complete: laid · Owned: laid · Blind: laid · Chain: laid.
  DERIVED. THE GIVEN ROWS OF THIS SEAT. 7 by the template 'for every input the law returns true; each argument reads behind the call as it read before'; 0 by the template 'total and deterministic' (their statements: YtgcldedkempjhaaDoorTotals.lean).
  GIVEN WITH THE SEED: the statements are not yours to turn. If you find one false, say at which input.
  Laid BY PROGRAM, IN A SANDBOX (cutbox-rows.mjs): the forced cells as the released guide's own fill.sh prints them over the translation 074b9f61f106c4b3… (all of the seat's roots in one cut). By AI agents, Wed Nov 11 2026. No macro, syntax, notation, axiom, sorry.
-/
import Derived.Test.YtgcldedkempjhaaDoorChecked
import GoSem.Claim
import GoSem.ClaimJoined
import GoSem.ClaimMapViews
import Derived.JoinedTies
import Derived.KernelRfl
namespace Go.Proofs.YtgcldedkempjhaaDoor
/- THE CELL 'sum', in the pinned program and in every row, IS THE sha256 OF THE DUMP (.gsa) THAT YtgcldedkempjhaaDoorProg.lean LOADS. Nothing in Lean hashes anything: it is a label: what it is worth is what the hold of that sum in a sandbox is worth. -/
noncomputable def Tryd.pinned : Pinned := { name := "ytgcldedkempjhaadoor", sum := "074b9f61f106c4b33c2de79b5d1b9191286458efeed831402062a80ac508606a", checked := Tryd.checked }
namespace Rows
def none {H : Type} : Left H := { results := [], args := [] }

/- WHAT THE LISTED PACKAGE-LEVEL VARIABLES READ AS WHEN THE CALL BEGINS. Each datum BY PROGRAM (the guide's laid-datum.mjs) off the statement by which the dump's own 'gosem.cut.vars' lays the variable. In a bare row this is a premise. The card (YtgcldedkempjhaaDoorCards.lean) ties it to the program's text. -/
def laid_math_bits_deBruijn32tab {H : Type} : DataW H := .agg [.lit (.int .u8 0), .lit (.int .u8 1), .lit (.int .u8 28), .lit (.int .u8 2), .lit (.int .u8 29), .lit (.int .u8 14), .lit (.int .u8 24), .lit (.int .u8 3), .lit (.int .u8 30), .lit (.int .u8 22), .lit (.int .u8 20), .lit (.int .u8 15), .lit (.int .u8 25), .lit (.int .u8 17), .lit (.int .u8 4), .lit (.int .u8 8), .lit (.int .u8 31), .lit (.int .u8 27), .lit (.int .u8 13), .lit (.int .u8 23), .lit (.int .u8 21), .lit (.int .u8 19), .lit (.int .u8 16), .lit (.int .u8 7), .lit (.int .u8 26), .lit (.int .u8 12), .lit (.int .u8 18), .lit (.int .u8 6), .lit (.int .u8 11), .lit (.int .u8 5), .lit (.int .u8 10), .lit (.int .u8 9)]
def laid_math_bits_deBruijn64tab {H : Type} : DataW H := .agg [.lit (.int .u8 0), .lit (.int .u8 1), .lit (.int .u8 56), .lit (.int .u8 2), .lit (.int .u8 57), .lit (.int .u8 49), .lit (.int .u8 28), .lit (.int .u8 3), .lit (.int .u8 61), .lit (.int .u8 58), .lit (.int .u8 42), .lit (.int .u8 50), .lit (.int .u8 38), .lit (.int .u8 29), .lit (.int .u8 17), .lit (.int .u8 4), .lit (.int .u8 62), .lit (.int .u8 47), .lit (.int .u8 59), .lit (.int .u8 36), .lit (.int .u8 45), .lit (.int .u8 43), .lit (.int .u8 51), .lit (.int .u8 22), .lit (.int .u8 53), .lit (.int .u8 39), .lit (.int .u8 33), .lit (.int .u8 30), .lit (.int .u8 24), .lit (.int .u8 18), .lit (.int .u8 12), .lit (.int .u8 5), .lit (.int .u8 63), .lit (.int .u8 55), .lit (.int .u8 48), .lit (.int .u8 27), .lit (.int .u8 60), .lit (.int .u8 41), .lit (.int .u8 37), .lit (.int .u8 16), .lit (.int .u8 46), .lit (.int .u8 35), .lit (.int .u8 44), .lit (.int .u8 21), .lit (.int .u8 52), .lit (.int .u8 32), .lit (.int .u8 23), .lit (.int .u8 11), .lit (.int .u8 54), .lit (.int .u8 26), .lit (.int .u8 40), .lit (.int .u8 15), .lit (.int .u8 34), .lit (.int .u8 20), .lit (.int .u8 31), .lit (.int .u8 10), .lit (.int .u8 25), .lit (.int .u8 14), .lit (.int .u8 19), .lit (.int .u8 9), .lit (.int .u8 13), .lit (.int .u8 8), .lit (.int .u8 7), .lit (.int .u8 6)]
def laid_internal_strconv_uint64pow10 {H : Type} : DataW H := .agg [.lit (.int .u64 1), .lit (.int .u64 10), .lit (.int .u64 100), .lit (.int .u64 1000), .lit (.int .u64 10000), .lit (.int .u64 100000), .lit (.int .u64 1000000), .lit (.int .u64 10000000), .lit (.int .u64 100000000), .lit (.int .u64 1000000000), .lit (.int .u64 10000000000), .lit (.int .u64 100000000000), .lit (.int .u64 1000000000000), .lit (.int .u64 10000000000000), .lit (.int .u64 100000000000000), .lit (.int .u64 1000000000000000), .lit (.int .u64 10000000000000000), .lit (.int .u64 100000000000000000), .lit (.int .u64 1000000000000000000), .lit (.int .u64 10000000000000000000)]

/-- 'depotkeep.Gate': WHATEVER THE INPUT: true; the input reads as it did. -/
def gateSpec : ChangeSpec := { name := "gate", fn := fun _ => fun
  | [d] => { results := [.lit (.bool true)], args := [d] }
  | _ => none }
def gateRow : OpenClaim := { program := "ytgcldedkempjhaadoor", sum := "074b9f61f106c4b33c2de79b5d1b9191286458efeed831402062a80ac508606a", func := "depot/depotkeep.Gate", spec := "gate", recurses := true, named := ["internal/strconv.uint64pow10", "math/bits.deBruijn32tab", "math/bits.deBruijn64tab"], apart := false, laid := [("math/bits.deBruijn32tab", laid_math_bits_deBruijn32tab), ("math/bits.deBruijn64tab", laid_math_bits_deBruijn64tab), ("internal/strconv.uint64pow10", laid_internal_strconv_uint64pow10)] }
def GateSaid : Prop := gateRow.holds Tryd.pinned (OpenSpec.ofChange gateSpec)

/-- ITS FALSE NEIGHBOUR: 'it returns false'. Refute it at one input. -/
def gateWrong : ChangeSpec := { name := "gate", fn := fun _ => fun
  | [d] => { results := [.lit (.bool false)], args := [d] }
  | _ => none }
def GateWrongFalsely : Prop := gateRow.holds Tryd.pinned (OpenSpec.ofChange gateWrong)

/-- 'depotkeep.Shelves': WHATEVER THE INPUT: true; the input reads as it did. -/
def shelvesSpec : ChangeSpec := { name := "shelves", fn := fun _ => fun
  | [d1, d2] => { results := [.lit (.bool true)], args := [d1, d2] }
  | _ => none }
def shelvesRow : OpenClaim := { program := "ytgcldedkempjhaadoor", sum := "074b9f61f106c4b33c2de79b5d1b9191286458efeed831402062a80ac508606a", func := "depot/depotkeep.Shelves", spec := "shelves", named := ["internal/strconv.uint64pow10", "math/bits.deBruijn32tab", "math/bits.deBruijn64tab"], apart := false, laid := [("math/bits.deBruijn32tab", laid_math_bits_deBruijn32tab), ("math/bits.deBruijn64tab", laid_math_bits_deBruijn64tab), ("internal/strconv.uint64pow10", laid_internal_strconv_uint64pow10)] }
def ShelvesSaid : Prop := shelvesRow.holds Tryd.pinned (OpenSpec.ofChange shelvesSpec)

/-- ITS FALSE NEIGHBOUR: 'it returns false'. Refute it at one input. -/
def shelvesWrong : ChangeSpec := { name := "shelves", fn := fun _ => fun
  | [d1, d2] => { results := [.lit (.bool false)], args := [d1, d2] }
  | _ => none }
def ShelvesWrongFalsely : Prop := shelvesRow.holds Tryd.pinned (OpenSpec.ofChange shelvesWrong)

/-- 'depotkeep.Sound': WHATEVER THE INPUT: true; the input reads as it did. -/
def soundSpec : ChangeSpec := { name := "sound", fn := fun _ => fun
  | [d1, d2, d3] => { results := [.lit (.bool true)], args := [d1, d2, d3] }
  | _ => none }
def soundRow : OpenClaim := { program := "ytgcldedkempjhaadoor", sum := "074b9f61f106c4b33c2de79b5d1b9191286458efeed831402062a80ac508606a", func := "depot/depotkeep.Sound", spec := "sound", recurses := true, named := ["internal/strconv.uint64pow10", "math/bits.deBruijn32tab", "math/bits.deBruijn64tab"], apart := false, laid := [("math/bits.deBruijn32tab", laid_math_bits_deBruijn32tab), ("math/bits.deBruijn64tab", laid_math_bits_deBruijn64tab), ("internal/strconv.uint64pow10", laid_internal_strconv_uint64pow10)] }
def SoundSaid : Prop := soundRow.holds Tryd.pinned (OpenSpec.ofChange soundSpec)

/-- ITS FALSE NEIGHBOUR: 'it returns false'. Refute it at one input. -/
def soundWrong : ChangeSpec := { name := "sound", fn := fun _ => fun
  | [d1, d2, d3] => { results := [.lit (.bool false)], args := [d1, d2, d3] }
  | _ => none }
def SoundWrongFalsely : Prop := soundRow.holds Tryd.pinned (OpenSpec.ofChange soundWrong)

/-- 'depotkeep.Complete': WHATEVER THE INPUT: true; the input reads as it did. -/
def completeSpec : ChangeSpec := { name := "complete", fn := fun _ => fun
  | [d1, d2] => { results := [.lit (.bool true)], args := [d1, d2] }
  | _ => none }
def completeRow : OpenClaim := { program := "ytgcldedkempjhaadoor", sum := "074b9f61f106c4b33c2de79b5d1b9191286458efeed831402062a80ac508606a", func := "depot/depotkeep.Complete", spec := "complete", recurses := true, named := ["internal/strconv.uint64pow10", "math/bits.deBruijn32tab", "math/bits.deBruijn64tab"], apart := false, laid := [("math/bits.deBruijn32tab", laid_math_bits_deBruijn32tab), ("math/bits.deBruijn64tab", laid_math_bits_deBruijn64tab), ("internal/strconv.uint64pow10", laid_internal_strconv_uint64pow10)] }
def CompleteSaid : Prop := completeRow.holds Tryd.pinned (OpenSpec.ofChange completeSpec)

/-- ITS FALSE NEIGHBOUR: 'it returns false'. Refute it at one input. -/
def completeWrong : ChangeSpec := { name := "complete", fn := fun _ => fun
  | [d1, d2] => { results := [.lit (.bool false)], args := [d1, d2] }
  | _ => none }
def CompleteWrongFalsely : Prop := completeRow.holds Tryd.pinned (OpenSpec.ofChange completeWrong)

/-- 'depotkeep.Owned': WHATEVER THE INPUT: true; the input reads as it did. -/
def ownedSpec : ChangeSpec := { name := "owned", fn := fun _ => fun
  | [d1, d2, d3, d4] => { results := [.lit (.bool true)], args := [d1, d2, d3, d4] }
  | _ => none }
def ownedRow : OpenClaim := { program := "ytgcldedkempjhaadoor", sum := "074b9f61f106c4b33c2de79b5d1b9191286458efeed831402062a80ac508606a", func := "depot/depotkeep.Owned", spec := "owned", recurses := true, named := ["internal/strconv.uint64pow10", "math/bits.deBruijn32tab", "math/bits.deBruijn64tab"], apart := false, laid := [("math/bits.deBruijn32tab", laid_math_bits_deBruijn32tab), ("math/bits.deBruijn64tab", laid_math_bits_deBruijn64tab), ("internal/strconv.uint64pow10", laid_internal_strconv_uint64pow10)] }
def OwnedSaid : Prop := ownedRow.holds Tryd.pinned (OpenSpec.ofChange ownedSpec)

/-- ITS FALSE NEIGHBOUR: 'it returns false'. Refute it at one input. -/
def ownedWrong : ChangeSpec := { name := "owned", fn := fun _ => fun
  | [d1, d2, d3, d4] => { results := [.lit (.bool false)], args := [d1, d2, d3, d4] }
  | _ => none }
def OwnedWrongFalsely : Prop := ownedRow.holds Tryd.pinned (OpenSpec.ofChange ownedWrong)

/-- 'depotkeep.Blind': WHATEVER THE INPUT: true; the input reads as it did. -/
def blindSpec : ChangeSpec := { name := "blind", fn := fun _ => fun
  | [d] => { results := [.lit (.bool true)], args := [d] }
  | _ => none }
def blindRow : OpenClaim := { program := "ytgcldedkempjhaadoor", sum := "074b9f61f106c4b33c2de79b5d1b9191286458efeed831402062a80ac508606a", func := "depot/depotkeep.Blind", spec := "blind", recurses := true, named := ["internal/strconv.uint64pow10", "math/bits.deBruijn32tab", "math/bits.deBruijn64tab"], apart := false, laid := [("math/bits.deBruijn32tab", laid_math_bits_deBruijn32tab), ("math/bits.deBruijn64tab", laid_math_bits_deBruijn64tab), ("internal/strconv.uint64pow10", laid_internal_strconv_uint64pow10)] }
def BlindSaid : Prop := blindRow.holds Tryd.pinned (OpenSpec.ofChange blindSpec)

/-- ITS FALSE NEIGHBOUR: 'it returns false'. Refute it at one input. -/
def blindWrong : ChangeSpec := { name := "blind", fn := fun _ => fun
  | [d] => { results := [.lit (.bool false)], args := [d] }
  | _ => none }
def BlindWrongFalsely : Prop := blindRow.holds Tryd.pinned (OpenSpec.ofChange blindWrong)

/-- 'depotkeep.Chain': WHATEVER THE INPUT: true; the input reads as it did. -/
def chainSpec : ChangeSpec := { name := "chain", fn := fun _ => fun
  | [d] => { results := [.lit (.bool true)], args := [d] }
  | _ => none }
def chainRow : OpenClaim := { program := "ytgcldedkempjhaadoor", sum := "074b9f61f106c4b33c2de79b5d1b9191286458efeed831402062a80ac508606a", func := "depot/depotkeep.Chain", spec := "chain", recurses := true, named := ["internal/strconv.uint64pow10", "math/bits.deBruijn32tab", "math/bits.deBruijn64tab"], apart := false, laid := [("math/bits.deBruijn32tab", laid_math_bits_deBruijn32tab), ("math/bits.deBruijn64tab", laid_math_bits_deBruijn64tab), ("internal/strconv.uint64pow10", laid_internal_strconv_uint64pow10)] }
def ChainSaid : Prop := chainRow.holds Tryd.pinned (OpenSpec.ofChange chainSpec)

/-- ITS FALSE NEIGHBOUR: 'it returns false'. Refute it at one input. -/
def chainWrong : ChangeSpec := { name := "chain", fn := fun _ => fun
  | [d] => { results := [.lit (.bool false)], args := [d] }
  | _ => none }
def ChainWrongFalsely : Prop := chainRow.holds Tryd.pinned (OpenSpec.ofChange chainWrong)

/- THE SECOND FORM. 'bulk': how many values and letters a reading holds, each counted each time it is reached (what is shared counts as often as it is met; a slice's spare places count too). A statement '..UptoSaid' is the law's where the arguments, and the package variables that the reading takes, are together of bulk at most 1048576: NARROWER than '..Said'. Prove '..Said' where nothing that the law and all that it calls make is longer than what came in: it says more and counts as full. Else prove '..UptoSaid'. A law counts once. -/
mutual
def uptoBulk {H : Type} : DataW H → Nat
  | .lit (.string bytes) => bytes.length + 1
  | .lit _ => 1
  | .nil => 1
  | .ptr d => uptoBulk d + 1
  | .slice elems spare => uptoBulkAll elems + uptoBulkAll spare + 1
  | .agg parts => uptoBulkAll parts + 1
  | .iface _ d => uptoBulk d + 1
  | .map entries => uptoBulkEntries entries + 1
  | .held _ => 1
def uptoBulkAll {H : Type} : List (DataW H) → Nat
  | [] => 0
  | d :: r => uptoBulk d + uptoBulkAll r
def uptoBulkEntries {H : Type} : List (Lit × DataW H) → Nat
  | [] => 0
  | x :: r => uptoBulkEntry x + uptoBulkEntries r
def uptoBulkEntry {H : Type} : Lit × DataW H → Nat
  | (.string bytes, d) => bytes.length + uptoBulk d + 1
  | (_, d) => uptoBulk d + 1
 end
def uptoSmall : (H : Type) → List (DataW H) → Bool := fun _ ds => decide (uptoBulkAll ds ≤ 1048576)
def OpenSpec.upto (s : _root_.Go.ChangeSpec) : _root_.Go.OpenSpec := { _root_.Go.OpenSpec.ofChange s with cond := some uptoSmall }

/-- 'depotkeep.Gate', WHERE WHAT IT READS IS OF BULK AT MOST 1048576: true; the input reads as it did. -/
def gateUptoRow : OpenClaim := { program := "ytgcldedkempjhaadoor", sum := "074b9f61f106c4b33c2de79b5d1b9191286458efeed831402062a80ac508606a", func := "depot/depotkeep.Gate", spec := "gate", recurses := true, named := ["internal/strconv.uint64pow10", "math/bits.deBruijn32tab", "math/bits.deBruijn64tab"], apart := false, laid := [("math/bits.deBruijn32tab", laid_math_bits_deBruijn32tab), ("math/bits.deBruijn64tab", laid_math_bits_deBruijn64tab), ("internal/strconv.uint64pow10", laid_internal_strconv_uint64pow10)], narrowed := true }
def GateUptoSaid : Prop := gateUptoRow.holds Tryd.pinned (OpenSpec.upto gateSpec)

/-- 'depotkeep.Shelves', WHERE WHAT IT READS IS OF BULK AT MOST 1048576: true; the input reads as it did. -/
def shelvesUptoRow : OpenClaim := { program := "ytgcldedkempjhaadoor", sum := "074b9f61f106c4b33c2de79b5d1b9191286458efeed831402062a80ac508606a", func := "depot/depotkeep.Shelves", spec := "shelves", named := ["internal/strconv.uint64pow10", "math/bits.deBruijn32tab", "math/bits.deBruijn64tab"], apart := false, laid := [("math/bits.deBruijn32tab", laid_math_bits_deBruijn32tab), ("math/bits.deBruijn64tab", laid_math_bits_deBruijn64tab), ("internal/strconv.uint64pow10", laid_internal_strconv_uint64pow10)], narrowed := true }
def ShelvesUptoSaid : Prop := shelvesUptoRow.holds Tryd.pinned (OpenSpec.upto shelvesSpec)

/-- 'depotkeep.Sound', WHERE WHAT IT READS IS OF BULK AT MOST 1048576: true; the input reads as it did. -/
def soundUptoRow : OpenClaim := { program := "ytgcldedkempjhaadoor", sum := "074b9f61f106c4b33c2de79b5d1b9191286458efeed831402062a80ac508606a", func := "depot/depotkeep.Sound", spec := "sound", recurses := true, named := ["internal/strconv.uint64pow10", "math/bits.deBruijn32tab", "math/bits.deBruijn64tab"], apart := false, laid := [("math/bits.deBruijn32tab", laid_math_bits_deBruijn32tab), ("math/bits.deBruijn64tab", laid_math_bits_deBruijn64tab), ("internal/strconv.uint64pow10", laid_internal_strconv_uint64pow10)], narrowed := true }
def SoundUptoSaid : Prop := soundUptoRow.holds Tryd.pinned (OpenSpec.upto soundSpec)

/-- 'depotkeep.Complete', WHERE WHAT IT READS IS OF BULK AT MOST 1048576: true; the input reads as it did. -/
def completeUptoRow : OpenClaim := { program := "ytgcldedkempjhaadoor", sum := "074b9f61f106c4b33c2de79b5d1b9191286458efeed831402062a80ac508606a", func := "depot/depotkeep.Complete", spec := "complete", recurses := true, named := ["internal/strconv.uint64pow10", "math/bits.deBruijn32tab", "math/bits.deBruijn64tab"], apart := false, laid := [("math/bits.deBruijn32tab", laid_math_bits_deBruijn32tab), ("math/bits.deBruijn64tab", laid_math_bits_deBruijn64tab), ("internal/strconv.uint64pow10", laid_internal_strconv_uint64pow10)], narrowed := true }
def CompleteUptoSaid : Prop := completeUptoRow.holds Tryd.pinned (OpenSpec.upto completeSpec)

/-- 'depotkeep.Owned', WHERE WHAT IT READS IS OF BULK AT MOST 1048576: true; the input reads as it did. -/
def ownedUptoRow : OpenClaim := { program := "ytgcldedkempjhaadoor", sum := "074b9f61f106c4b33c2de79b5d1b9191286458efeed831402062a80ac508606a", func := "depot/depotkeep.Owned", spec := "owned", recurses := true, named := ["internal/strconv.uint64pow10", "math/bits.deBruijn32tab", "math/bits.deBruijn64tab"], apart := false, laid := [("math/bits.deBruijn32tab", laid_math_bits_deBruijn32tab), ("math/bits.deBruijn64tab", laid_math_bits_deBruijn64tab), ("internal/strconv.uint64pow10", laid_internal_strconv_uint64pow10)], narrowed := true }
def OwnedUptoSaid : Prop := ownedUptoRow.holds Tryd.pinned (OpenSpec.upto ownedSpec)

/-- 'depotkeep.Blind', WHERE WHAT IT READS IS OF BULK AT MOST 1048576: true; the input reads as it did. -/
def blindUptoRow : OpenClaim := { program := "ytgcldedkempjhaadoor", sum := "074b9f61f106c4b33c2de79b5d1b9191286458efeed831402062a80ac508606a", func := "depot/depotkeep.Blind", spec := "blind", recurses := true, named := ["internal/strconv.uint64pow10", "math/bits.deBruijn32tab", "math/bits.deBruijn64tab"], apart := false, laid := [("math/bits.deBruijn32tab", laid_math_bits_deBruijn32tab), ("math/bits.deBruijn64tab", laid_math_bits_deBruijn64tab), ("internal/strconv.uint64pow10", laid_internal_strconv_uint64pow10)], narrowed := true }
def BlindUptoSaid : Prop := blindUptoRow.holds Tryd.pinned (OpenSpec.upto blindSpec)

/-- 'depotkeep.Chain', WHERE WHAT IT READS IS OF BULK AT MOST 1048576: true; the input reads as it did. -/
def chainUptoRow : OpenClaim := { program := "ytgcldedkempjhaadoor", sum := "074b9f61f106c4b33c2de79b5d1b9191286458efeed831402062a80ac508606a", func := "depot/depotkeep.Chain", spec := "chain", recurses := true, named := ["internal/strconv.uint64pow10", "math/bits.deBruijn32tab", "math/bits.deBruijn64tab"], apart := false, laid := [("math/bits.deBruijn32tab", laid_math_bits_deBruijn32tab), ("math/bits.deBruijn64tab", laid_math_bits_deBruijn64tab), ("internal/strconv.uint64pow10", laid_internal_strconv_uint64pow10)], narrowed := true }
def ChainUptoSaid : Prop := chainUptoRow.holds Tryd.pinned (OpenSpec.upto chainSpec)

end Rows
end Go.Proofs.YtgcldedkempjhaaDoor
