/-
  No cell of these rows narrows 'for every input' (looked for: loops, veiled, ifaces, maps, wideKeys, modest, calm, conditions, laid).
  DERIVED. THE GIVEN ROWS OF THIS SEAT. 2 by the template 'for every input the law returns true; each argument reads behind the call as it read before'; 0 by the template 'total and deterministic' (their statements: YtdddbinlkljbcaaTotals.lean).
  GIVEN WITH THE SEED: the statements are not yours to turn. If you find one false, say at which input.
  Laid BY PROGRAM, IN A SANDBOX (cutbox-rows.mjs): the forced cells as the released guide's own fill.sh prints them over the translation b08b5340b8c95b3e… (all of the seat's roots in one cut). By AI agents, Wed Nov 11 2026. No macro, syntax, notation, axiom, sorry.
-/
import Derived.Test.YtdddbinlkljbcaaChecked
import GoSem.Claim
import GoSem.ClaimJoined
import GoSem.ClaimMapViews
import Derived.JoinedTies
import Derived.KernelRfl
namespace Go.Proofs.Ytdddbinlkljbcaa
/- THE CELL 'sum', in the pinned program and in every row, IS THE sha256 OF THE DUMP (.gsa) THAT YtdddbinlkljbcaaProg.lean LOADS. Nothing in Lean hashes anything: it is a label: what it is worth is what the hold of that sum in a sandbox is worth. -/
noncomputable def Try.pinned : Pinned := { name := "ytdddbinlkljbcaa", sum := "b08b5340b8c95b3eb33623a18d424496063d7e5da7ef90b1e01ee20a85d59b6e", checked := Try.checked }
namespace Rows
def none {H : Type} : Left H := { results := [], args := [] }

/-- 'depotlaw.Tokens': WHATEVER THE INPUT: true; the input reads as it did. -/
def tokensSpec : ChangeSpec := { name := "tokens", fn := fun _ => fun
  | [d1, d2] => { results := [.lit (.bool true)], args := [d1, d2] }
  | _ => none }
def tokensRow : OpenClaim := { program := "ytdddbinlkljbcaa", sum := "b08b5340b8c95b3eb33623a18d424496063d7e5da7ef90b1e01ee20a85d59b6e", func := "depot/depotlaw.Tokens", spec := "tokens", recurses := true, apart := false }
def TokensSaid : Prop := tokensRow.holds Try.pinned (OpenSpec.ofChange tokensSpec)

/-- ITS FALSE NEIGHBOUR: 'it returns false'. Refute it at one input. -/
def tokensWrong : ChangeSpec := { name := "tokens", fn := fun _ => fun
  | [d1, d2] => { results := [.lit (.bool false)], args := [d1, d2] }
  | _ => none }
def TokensWrongFalsely : Prop := tokensRow.holds Try.pinned (OpenSpec.ofChange tokensWrong)

/-- 'depotkeep.Gate': WHATEVER THE INPUT: true; the input reads as it did. -/
def gateSpec : ChangeSpec := { name := "gate", fn := fun _ => fun
  | [d] => { results := [.lit (.bool true)], args := [d] }
  | _ => none }
def gateRow : OpenClaim := { program := "ytdddbinlkljbcaa", sum := "b08b5340b8c95b3eb33623a18d424496063d7e5da7ef90b1e01ee20a85d59b6e", func := "depot/depotkeep.Gate", spec := "gate", apart := false }
def GateSaid : Prop := gateRow.holds Try.pinned (OpenSpec.ofChange gateSpec)

/-- ITS FALSE NEIGHBOUR: 'it returns false'. Refute it at one input. -/
def gateWrong : ChangeSpec := { name := "gate", fn := fun _ => fun
  | [d] => { results := [.lit (.bool false)], args := [d] }
  | _ => none }
def GateWrongFalsely : Prop := gateRow.holds Try.pinned (OpenSpec.ofChange gateWrong)

/- THE SECOND FORM. 'bulk': how many values and letters a reading holds, each counted each time it is reached (what is shared counts as often as it is met; a slice's spare places count too). A statement '..UptoSaid' is the law's where the arguments, and the package variables that the reading takes, are together of bulk at most 1048576: NARROWER than '..Said'. Prove '..Said' where nothing that the law and all that it calls make is longer than what came in: it says more and counts as full. Else prove '..UptoSaid'. A law counts once. -/
mutual
def uptoBulk {H : Type} : DataW H → Nat
  | .lit (.string bytes) => bytes.length + 1
  | .lit _ => 1
  | .nil => 1
  | .ptr d => uptoBulk d + 1
  | .slice elems spare => uptoBulkAll elems + uptoBulkAll spare + 1
  | .agg parts => uptoBulkAll parts + 1
  | .iface _ d => uptoBulk d + 1
  | .map entries => uptoBulkEntries entries + 1
  | .held _ => 1
def uptoBulkAll {H : Type} : List (DataW H) → Nat
  | [] => 0
  | d :: r => uptoBulk d + uptoBulkAll r
def uptoBulkEntries {H : Type} : List (Lit × DataW H) → Nat
  | [] => 0
  | x :: r => uptoBulkEntry x + uptoBulkEntries r
def uptoBulkEntry {H : Type} : Lit × DataW H → Nat
  | (.string bytes, d) => bytes.length + uptoBulk d + 1
  | (_, d) => uptoBulk d + 1
 end
def uptoSmall : (H : Type) → List (DataW H) → Bool := fun _ ds => decide (uptoBulkAll ds ≤ 1048576)
def OpenSpec.upto (s : _root_.Go.ChangeSpec) : _root_.Go.OpenSpec := { _root_.Go.OpenSpec.ofChange s with cond := some uptoSmall }

/-- 'depotlaw.Tokens', WHERE WHAT IT READS IS OF BULK AT MOST 1048576: true; the input reads as it did. -/
def tokensUptoRow : OpenClaim := { program := "ytdddbinlkljbcaa", sum := "b08b5340b8c95b3eb33623a18d424496063d7e5da7ef90b1e01ee20a85d59b6e", func := "depot/depotlaw.Tokens", spec := "tokens", recurses := true, apart := false, narrowed := true }
def TokensUptoSaid : Prop := tokensUptoRow.holds Try.pinned (OpenSpec.upto tokensSpec)

/-- 'depotkeep.Gate', WHERE WHAT IT READS IS OF BULK AT MOST 1048576: true; the input reads as it did. -/
def gateUptoRow : OpenClaim := { program := "ytdddbinlkljbcaa", sum := "b08b5340b8c95b3eb33623a18d424496063d7e5da7ef90b1e01ee20a85d59b6e", func := "depot/depotkeep.Gate", spec := "gate", apart := false, narrowed := true }
def GateUptoSaid : Prop := gateUptoRow.holds Try.pinned (OpenSpec.upto gateSpec)

end Rows
end Go.Proofs.Ytdddbinlkljbcaa
