/-
  For every argument the law Complete (ErrNone is told only where of all choices that there are none goes together; what is chosen of the name that was asked first is the greatest version with which any goes together; with the steps that were told as the budget the same is told, with one less ErrBudget) returns true, and the arguments read behind the call as they did before it.
  Its conditions: no condition beside: every slice that can be read, every int; the tables of strconv and math/bits hold what the program's text lays (the card ties them to that text).
-/
import Derived.Test.YtgcldedkempjhaaDoorCards
import Derived.Test.YtgcldedkempjhaaDoorTie
import Derived.Test.YtgcldedkempjhaaDoorCompleteAll
import Derived.Test.YtgcldedkempjhaaDoorShopRead
import Derived.Test.YtgcldedkempjhaaDoorLaid
namespace Go.Proofs.YtgcldedkempjhaaDoor
open Go.ChangeShapes Go.WideShapes Go.ChangeAt Go.RowKit

theorem complete_laid_met (os : Os) : laidMet Tryd.prog Rows.completeRow.laid ((laidWorldOf Tryd.prog os).forCall (fun _ _ => 0) ⟨#[], #[.slice none 0 0, .slice none 0 0], []⟩).memory :=
  laidMet_of_run' 8 (by kernel_rfl) (by kernel_rfl)

theorem complete_reads (os : Os) {H : Type} (enc : TypeId × Value → H) : ∃ places, DataW.whole enc Tryd.prog ((laidWorldOf Tryd.prog os).forCall (fun _ _ => 0) ⟨#[], #[.slice none 0 0, .slice none 0 0], []⟩).memory Tryd.f6.params.toList Rows.completeSpec.vars false #[Value.slice none 0 0, Value.slice none 0 0].toList 8 = some ([.nil, .nil], [], places) :=
  ⟨[], by kernel_rfl⟩

set_option maxRecDepth 100000 in
theorem complete_contract (H : Type) (enc : TypeId × Value → H) (W : World) (base : Nat) (args : Array Value) (ds gs : List (DataW H)) (before : List MemPlace)
    (hval0 : ∀ (j : Nat) t v, Tryd.f6.params[j]? = some t → args[j]? = some v → Value.okWide Tryd.prog W .any base t v)
    (hW : DataW.Whole enc Tryd.prog Tryd.f6.params.toList Rows.completeSpec.vars false W args.toList ds gs before) (htab : TabOk W) :
    Calls Tryd.prog 6 args W fun e W' => ∃ v, e = .returned v ∧ Rows.completeSpec.post enc Tryd.prog Tryd.f6 false true false false W args v W' := by
  have hval : ∀ (j : Nat) t v, Tryd.f6.params[j]? = some t → args[j]? = some v → Value.okWide Tryd.prog W .any base t v := hval0
  have hW' := hW
  obtain ⟨p, q, hA0, hV, rfl, hfz, hnd⟩ := hW
  have hA : DataW.TrodAll enc Tryd.prog W 0 (fun _ => true) true Tryd.f6.params.toList args.toList ds p := hA0
  rw [Tryd.params6] at hA hval
  obtain ⟨v1, vs1, d1, ds1, p1, q1, hargs, rfl, rfl, h1, r1⟩ := trodAll_cons hA
  obtain ⟨v2, vs2, d2, ds2, p2, q2, rfl, rfl, rfl, h2, r2⟩ := trodAll_cons r1
  obtain ⟨rfl, rfl, rfl⟩ := trodAll_nil r2
  obtain rfl : args = #[v1, v2] := by cases args; simp_all
  obtain ⟨rfl, rfl⟩ := trodVars_none hV
  obtain ⟨so1, len1, cap1, rfl⟩ := okWide_slice Tryd.underlying39 (hval 0 39 v1 rfl rfl)
  obtain ⟨so2, len2, cap2, rfl⟩ := okWide_slice Tryd.underlying49 (hval 1 49 v2 rfl rfl)
  have k1 := h1
  have lt1 : ∀ x ∈ p1, x.block < W.heap.size := by obtain ⟨m, hm⟩ := k1; exact DataW.trod_lt m _ _ _ hm
  obtain ⟨F1, hlen1, hits1⟩ : ∃ F, len1 ≤ 9223372036854775807 ∧ RIts W so1 len1 F := by
    obtain ⟨fuel, hf⟩ := h1
    exact items_open hf
  have k2 := h2
  have lt2 : ∀ x ∈ p2, x.block < W.heap.size := by obtain ⟨m, hm⟩ := k2; exact DataW.trod_lt m _ _ _ hm
  obtain ⟨f2, hlen2, hits2⟩ : ∃ f, len2 ≤ 9223372036854775807 ∧ RNds W so2 len2 f := by
    obtain ⟨fuel, hf⟩ := h2
    obtain ⟨s', l', c', f, e, hl, hn⟩ := needs_open hf
    injection e with e1 e2 e3
    subst e1 e2 e3
    exact ⟨f, hl, hn⟩
  clear hA0 hval0
  refine (complete_any so1 len1 cap1 F1 so2 len2 cap2 f2 W htab hlen1 hits1 hlen2 hits2).mono fun e W' ⟨he, bel⟩ => ?_
  subst he
  exact ⟨_, rfl, _, _, _, [], _, [], hW', trodAll_mk1 (shut_bool Tryd.underlying4 _), (trodAll_cons_mk (Below.trod laidOut (by kernel_rfl) (of_decide_eq_true (by kernel_rfl)) k1 bel lt1) (trodAll_cons_mk (Below.trod laidOut (by kernel_rfl) (of_decide_eq_true (by kernel_rfl)) k2 bel lt2) trodAll_mk0)), rfl, bel.frame _, fun h => by cases h⟩

set_option maxRecDepth 100000 in
theorem complete_lifted (os : Os) (started : os.Started) (H : Type) (enc : TypeId × Value → H) (F : Stop.Interp) :
    ReturnsInHanded {} Tryd.checked os 6 .any ((OpenSpec.ofChange Rows.completeSpec).preRow enc Tryd.prog Tryd.f6 Rows.completeRow.domain false Rows.completeRow.laid) (((OpenSpec.ofChange Rows.completeSpec).at F).post enc Tryd.prog Tryd.f6 false true false false) := by
  obtain ⟨places, hx⟩ := complete_reads os enc
  refine returnsInHanded_of_row (C := Tryd.checked) (s := OpenSpec.ofChange Rows.completeSpec) ownNone started (by kernel_rfl) Tryd.func6
    (witness_row_at (enc := enc) (C := Tryd.checked) false (laidWorldOf Tryd.prog os) #[.slice none 0 0, .slice none 0 0] rfl (by kernel_rfl) (by kernel_rfl) (by kernel_rfl)
      (OpenSpec.preRow_of_cond 8 hx (by kernel_rfl) (fun k hk => by cases hk) (by kernel_rfl) (complete_laid_met os))) ?_
  intro W base args ds gs before hval hW _ _ _ hlaid _ _
  exact complete_contract H enc W base args ds gs before hval hW (tab_of (l := Rows.completeRow.laid) (by kernel_rfl) (by kernel_rfl) hlaid)

theorem complete_said : Rows.CompleteSaid :=
  OpenClaim.holds_of_cond 6 Tryd.f6 rfl rfl rfl rfl rfl rfl rfl ⟨rfl, rfl, rfl, rfl, rfl⟩ rfl rfl rfl rfl rfl (by kernel_rfl) Tryd.func6 (by kernel_rfl)
    (of_decide_eq_true (by kernel_rfl)) (by unfold Func.isWrapper; first | (rw [if_pos (by decide +kernel)]; kernel_rfl) | (rw [if_neg (by decide +kernel)]; exact ⟨rfl, rfl⟩))
    (fun os started H enc _ F => by rw [OpenClaim.pre_eq_preRow]; exact complete_lifted os started H enc F)

theorem complete_plain (f : FuncId) (fn : Func) (hf : Tryd.pinned.checked.prog.funcNamed "depot/depotkeep.Complete" = some f) (hfn : Tryd.pinned.checked.prog.funcs[f]? = some fn) :
    false = Tryd.pinned.checked.prog.looks [] ∧ ∀ (j : Nat) t, fn.params[j]? = some t → Tryd.pinned.checked.prog.wantsStandIn t = false := by
  obtain rfl : f = 6 := Option.some.inj ((show Tryd.prog.funcNamed "depot/depotkeep.Complete" = some 6 by kernel_rfl).symm.trans hf) |>.symm
  obtain rfl : fn = Tryd.f6 := (Option.some.inj (Tryd.func6.symm.trans hfn)).symm
  refine ⟨by kernel_rfl, fun j t ht => ?_⟩
  rw [Tryd.params6] at ht
  have hm := Array.mem_of_getElem? ht
  simp at hm
  rcases hm with rfl | rfl
  · exact (show Tryd.prog.wantsStandIn 39 = false by kernel_rfl)
  · exact (show Tryd.prog.wantsStandIn 49 = false by kernel_rfl)

theorem complete_card : Rows.CompleteCardSaid :=
  Claim7.holds_tied_plain_at .later [] _ _ _ _ complete_said (fun _ h => by cases h) (by kernel_rfl) (fun _ h => by cases h) complete_row_tie rfl ⟨rfl, rfl⟩ (by kernel_rfl) rfl complete_plain (by kernel_rfl)

#print axioms complete_card

end Go.Proofs.YtgcldedkempjhaaDoor
