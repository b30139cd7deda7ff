/-
  For every argument the law Owned (no name of a house is filled by the public: whatever the public is fed under names that begin with the house, what Show and Resolve tell holders of the house, of another one, and Root, is what it was) returns true, and the arguments read behind the call as they did before it.
  Its conditions: no condition beside: every slice that can be read, every int; the tables of strconv and math/bits hold what the program's text lays (the card ties them to that text).
-/
import Derived.Test.YtgcldedkempjhaaDoorCards
import Derived.Test.YtgcldedkempjhaaDoorTie
import Derived.Test.YtgcldedkempjhaaDoorOwnedAll
import Derived.Test.YtgcldedkempjhaaDoorShopRead
import Derived.Test.YtgcldedkempjhaaDoorLaid
namespace Go.Proofs.YtgcldedkempjhaaDoor
open Go.ChangeShapes Go.WideShapes Go.ChangeAt Go.RowKit

theorem owned_laid_met (os : Os) : laidMet Tryd.prog Rows.ownedRow.laid ((laidWorldOf Tryd.prog os).forCall (fun _ _ => 0) ⟨#[], #[.slice none 0 0, .slice none 0 0, .slice none 0 0, .int .i64 0], []⟩).memory :=
  laidMet_of_run' 8 (by kernel_rfl) (by kernel_rfl)

theorem owned_reads (os : Os) {H : Type} (enc : TypeId × Value → H) : ∃ places, DataW.whole enc Tryd.prog ((laidWorldOf Tryd.prog os).forCall (fun _ _ => 0) ⟨#[], #[.slice none 0 0, .slice none 0 0, .slice none 0 0, .int .i64 0], []⟩).memory Tryd.f7.params.toList Rows.ownedSpec.vars false #[Value.slice none 0 0, Value.slice none 0 0, Value.slice none 0 0, Value.int .i64 0].toList 8 = some ([.nil, .nil, .nil, .lit (.int .i64 0)], [], places) :=
  ⟨[], by kernel_rfl⟩

set_option maxRecDepth 100000 in
theorem owned_contract (H : Type) (enc : TypeId × Value → H) (W : World) (base : Nat) (args : Array Value) (ds gs : List (DataW H)) (before : List MemPlace)
    (hval0 : ∀ (j : Nat) t v, Tryd.f7.params[j]? = some t → args[j]? = some v → Value.okWide Tryd.prog W .any base t v)
    (hW : DataW.Whole enc Tryd.prog Tryd.f7.params.toList Rows.ownedSpec.vars false W args.toList ds gs before) (htab : TabOk W) :
    Calls Tryd.prog 7 args W fun e W' => ∃ v, e = .returned v ∧ Rows.ownedSpec.post enc Tryd.prog Tryd.f7 false true false false W args v W' := by
  have hval : ∀ (j : Nat) t v, Tryd.f7.params[j]? = some t → args[j]? = some v → Value.okWide Tryd.prog W .any base t v := hval0
  have hW' := hW
  obtain ⟨p, q, hA0, hV, rfl, hfz, hnd⟩ := hW
  have hA : DataW.TrodAll enc Tryd.prog W 0 (fun _ => true) true Tryd.f7.params.toList args.toList ds p := hA0
  rw [Tryd.params7] at hA hval
  obtain ⟨v1, vs1, d1, ds1, p1, q1, hargs, rfl, rfl, h1, r1⟩ := trodAll_cons hA
  obtain ⟨v2, vs2, d2, ds2, p2, q2, rfl, rfl, rfl, h2, r2⟩ := trodAll_cons r1
  obtain ⟨v3, vs3, d3, ds3, p3, q3, rfl, rfl, rfl, h3, r3⟩ := trodAll_cons r2
  obtain ⟨v4, vs4, d4, ds4, p4, q4, rfl, rfl, rfl, h4, r4⟩ := trodAll_cons r3
  obtain ⟨rfl, rfl, rfl⟩ := trodAll_nil r4
  obtain rfl : args = #[v1, v2, v3, v4] := by cases args; simp_all
  obtain ⟨rfl, rfl⟩ := trodVars_none hV
  obtain ⟨so1, len1, cap1, rfl⟩ := okWide_slice Tryd.underlying39 (hval 0 39 v1 rfl rfl)
  obtain ⟨so2, len2, cap2, rfl⟩ := okWide_slice Tryd.underlying39 (hval 1 39 v2 rfl rfl)
  obtain ⟨so3, len3, cap3, rfl⟩ := okWide_slice Tryd.underlying49 (hval 2 49 v3 rfl rfl)
  obtain ⟨G4, rfl, rfl, rfl, wG4⟩ := open_int Tryd.underlying3 (hval 3 3 v4 rfl rfl) h4
  have k1 := h1
  have lt1 : ∀ x ∈ p1, x.block < W.heap.size := by obtain ⟨m, hm⟩ := k1; exact DataW.trod_lt m _ _ _ hm
  obtain ⟨F1, hlen1, hits1⟩ : ∃ F, len1 ≤ 9223372036854775807 ∧ RIts W so1 len1 F := by
    obtain ⟨fuel, hf⟩ := h1
    exact items_open hf
  have k2 := h2
  have lt2 : ∀ x ∈ p2, x.block < W.heap.size := by obtain ⟨m, hm⟩ := k2; exact DataW.trod_lt m _ _ _ hm
  obtain ⟨F2, hlen2, hits2⟩ : ∃ F, len2 ≤ 9223372036854775807 ∧ RIts W so2 len2 F := by
    obtain ⟨fuel, hf⟩ := h2
    exact items_open hf
  have k3 := h3
  have lt3 : ∀ x ∈ p3, x.block < W.heap.size := by obtain ⟨m, hm⟩ := k3; exact DataW.trod_lt m _ _ _ hm
  obtain ⟨f3, hlen3, hits3⟩ : ∃ f, len3 ≤ 9223372036854775807 ∧ RNds W so3 len3 f := by
    obtain ⟨fuel, hf⟩ := h3
    obtain ⟨s', l', c', f, e, hl, hn⟩ := needs_open hf
    injection e with e1 e2 e3
    subst e1 e2 e3
    exact ⟨f, hl, hn⟩
  clear hA0 hval0
  refine (owned_any so1 len1 cap1 F1 so2 len2 cap2 F2 so3 len3 cap3 f3 G4 W htab hlen1 hits1 hlen2 hits2 hlen3 hits3 (bounds_i64 wG4).1 (bounds_i64 wG4).2).mono fun e W' ⟨he, bel⟩ => ?_
  subst he
  exact ⟨_, rfl, _, _, _, [], _, [], hW', trodAll_mk1 (shut_bool Tryd.underlying4 _), (trodAll_cons_mk (Below.trod laidOut (by kernel_rfl) (of_decide_eq_true (by kernel_rfl)) k1 bel lt1) (trodAll_cons_mk (Below.trod laidOut (by kernel_rfl) (of_decide_eq_true (by kernel_rfl)) k2 bel lt2) (trodAll_cons_mk (Below.trod laidOut (by kernel_rfl) (of_decide_eq_true (by kernel_rfl)) k3 bel lt3) (trodAll_cons_mk (shut_int Tryd.underlying3 wG4) trodAll_mk0)))), rfl, bel.frame _, fun h => by cases h⟩

set_option maxRecDepth 100000 in
theorem owned_lifted (os : Os) (started : os.Started) (H : Type) (enc : TypeId × Value → H) (F : Stop.Interp) :
    ReturnsInHanded {} Tryd.checked os 7 .any ((OpenSpec.ofChange Rows.ownedSpec).preRow enc Tryd.prog Tryd.f7 Rows.ownedRow.domain false Rows.ownedRow.laid) (((OpenSpec.ofChange Rows.ownedSpec).at F).post enc Tryd.prog Tryd.f7 false true false false) := by
  obtain ⟨places, hx⟩ := owned_reads os enc
  refine returnsInHanded_of_row (C := Tryd.checked) (s := OpenSpec.ofChange Rows.ownedSpec) ownNone started (by kernel_rfl) Tryd.func7
    (witness_row_at (enc := enc) (C := Tryd.checked) false (laidWorldOf Tryd.prog os) #[.slice none 0 0, .slice none 0 0, .slice none 0 0, .int .i64 0] rfl (by kernel_rfl) (by kernel_rfl) (by kernel_rfl)
      (OpenSpec.preRow_of_cond 8 hx (by kernel_rfl) (fun k hk => by cases hk) (by kernel_rfl) (owned_laid_met os))) ?_
  intro W base args ds gs before hval hW _ _ _ hlaid _ _
  exact owned_contract H enc W base args ds gs before hval hW (tab_of (l := Rows.ownedRow.laid) (by kernel_rfl) (by kernel_rfl) hlaid)

theorem owned_said : Rows.OwnedSaid :=
  OpenClaim.holds_of_cond 7 Tryd.f7 rfl rfl rfl rfl rfl rfl rfl ⟨rfl, rfl, rfl, rfl, rfl⟩ rfl rfl rfl rfl rfl (by kernel_rfl) Tryd.func7 (by kernel_rfl)
    (of_decide_eq_true (by kernel_rfl)) (by unfold Func.isWrapper; first | (rw [if_pos (by decide +kernel)]; kernel_rfl) | (rw [if_neg (by decide +kernel)]; exact ⟨rfl, rfl⟩))
    (fun os started H enc _ F => by rw [OpenClaim.pre_eq_preRow]; exact owned_lifted os started H enc F)

theorem owned_plain (f : FuncId) (fn : Func) (hf : Tryd.pinned.checked.prog.funcNamed "depot/depotkeep.Owned" = some f) (hfn : Tryd.pinned.checked.prog.funcs[f]? = some fn) :
    false = Tryd.pinned.checked.prog.looks [] ∧ ∀ (j : Nat) t, fn.params[j]? = some t → Tryd.pinned.checked.prog.wantsStandIn t = false := by
  obtain rfl : f = 7 := Option.some.inj ((show Tryd.prog.funcNamed "depot/depotkeep.Owned" = some 7 by kernel_rfl).symm.trans hf) |>.symm
  obtain rfl : fn = Tryd.f7 := (Option.some.inj (Tryd.func7.symm.trans hfn)).symm
  refine ⟨by kernel_rfl, fun j t ht => ?_⟩
  rw [Tryd.params7] at ht
  have hm := Array.mem_of_getElem? ht
  have hm' : t = 39 ∨ t = 49 ∨ t = 3 := by
    simp at hm
    omega
  rcases hm' with rfl | rfl | rfl
  · exact (show Tryd.prog.wantsStandIn 39 = false by kernel_rfl)
  · exact (show Tryd.prog.wantsStandIn 49 = false by kernel_rfl)
  · exact (show Tryd.prog.wantsStandIn 3 = false by kernel_rfl)

theorem owned_card : Rows.OwnedCardSaid :=
  Claim7.holds_tied_plain_at .later [] _ _ _ _ owned_said (fun _ h => by cases h) (by kernel_rfl) (fun _ h => by cases h) owned_row_tie rfl ⟨rfl, rfl⟩ (by kernel_rfl) rfl owned_plain (by kernel_rfl)

#print axioms owned_card

end Go.Proofs.YtgcldedkempjhaaDoor
