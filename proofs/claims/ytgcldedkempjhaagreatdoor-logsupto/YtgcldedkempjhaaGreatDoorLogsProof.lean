/-
  For every root number and every script of steps the law Logs (every Log and Head: the program's answer is the document's) returns true, and the script reads behind the call as it did before it.
  Its conditions: where the arguments, and the package variables that the reading takes, are together of bulk at most 1048576; the tables of strconv and math/bits hold what the program's text lays (the card ties them to that text).
-/
import Derived.Test.YtgcldedkempjhaaGreatDoorCards
import Derived.Test.YtgcldedkempjhaaGreatDoorTie
import Derived.Test.YtgcldedkempjhaaGreatDoorLawAll
import Derived.Test.YtgcldedkempjhaaGreatDoorLawRead
namespace Go.Proofs.YtgcldedkempjhaaGreatDoor
open Go.ChangeShapes Go.WideShapes Go.ChangeAt Go.RowKit

set_option maxHeartbeats 400000 in
theorem logsLaw_any (root : Int) (so : Option Addr) (len cap : Nat) (f : Nat → OpD) (w : World) (htab : TabOk w) (hlen : len ≤ 9223372036854775807) (hfew : len ≤ 100000000)
    (hscr : ∀ i, i < len → ∃ g o, so = some ⟨g, o, none⟩ ∧ g < w.heap.size ∧ OpAt w g (o + i * 8) (f i) ∧ OpOk false (f i)) :
    Calls Tryz.prog 7 #[.int .i64 root, .slice so len cap] w fun e w' => e = .returned (.bool true) ∧ Below w.heap.size w w' := by
  have HC := hide (show Calls Tryz.prog 8 #[.int .i64 root, .slice so len cap, .int .i64 14, .int .i64 13, .int .i64 14] w fun e w' => e = .returned (.bool true) ∧ Below w.heap.size w w' from by
    by_cases h : 1 ≤ root
    · exact plays14 root so len cap f 14 13 14 w htab h hlen (by decide) hfew hscr
    · exact plays_no root _ _ _ _ w (by omega))
  clear hscr
  go_enter Tryz.func7, Tryz.ntmps7
  go_wp2_with fail
  refine HC.out.mono ?_
  rintro e w1 ⟨rfl, hb⟩
  go_wp2_with fail
  go_ret
  exact ⟨rfl, hb⟩

theorem logs_laid_met (os : Os) : laidMet Tryz.prog Rows.logsUptoRow.laid ((laidWorldOf Tryz.prog os).forCall (fun _ _ => 0) ⟨#[], #[.int .i64 0, .slice none 0 0], []⟩).memory :=
  laidMet_of_run' 8 (by kernel_rfl) (by kernel_rfl)

theorem logs_reads (os : Os) {H : Type} (enc : TypeId × Value → H) : ∃ places, DataW.whole enc Tryz.prog ((laidWorldOf Tryz.prog os).forCall (fun _ _ => 0) ⟨#[], #[.int .i64 0, .slice none 0 0], []⟩).memory Tryz.f7.params.toList Rows.logsSpec.vars false #[Value.int .i64 0, Value.slice none 0 0].toList 8 = some ([.lit (.int .i64 0), .nil], [], places) :=
  ⟨[], by kernel_rfl⟩

set_option maxRecDepth 100000 in
theorem logs_contract (H : Type) (enc : TypeId × Value → H) (W : World) (base : Nat) (args : Array Value) (ds gs : List (DataW H)) (before : List MemPlace)
    (hval0 : ∀ (j : Nat) t v, Tryz.f7.params[j]? = some t → args[j]? = some v → Value.okWide Tryz.prog W .any base t v)
    (hW : DataW.Whole enc Tryz.prog Tryz.f7.params.toList Rows.logsSpec.vars false W args.toList ds gs before) (hsmall : Rows.uptoSmall H (ds ++ gs) = true) (htab : TabOk W) :
    Calls Tryz.prog 7 args W fun e W' => ∃ v, e = .returned v ∧ Rows.logsSpec.post enc Tryz.prog Tryz.f7 false true false false W args v W' := by
  have hval : ∀ (j : Nat) t v, Tryz.f7.params[j]? = some t → args[j]? = some v → Value.okWide Tryz.prog W .any base t v := hval0
  have hW' := hW
  obtain ⟨p, q, hA0, hV, rfl, hfz, hnd⟩ := hW
  have hA : DataW.TrodAll enc Tryz.prog W 0 (fun _ => true) true Tryz.f7.params.toList args.toList ds p := hA0
  rw [Tryz.params7] at hA hval
  obtain ⟨v0, vs0, d0, ds0, p0, q0, hargs, rfl, rfl, h0, r0⟩ := trodAll_cons hA
  obtain ⟨v1, vs1, d1, ds1, p1, q1, rfl, rfl, rfl, h1, r1⟩ := trodAll_cons r0
  obtain ⟨rfl, rfl, rfl⟩ := trodAll_nil r1
  obtain rfl : args = #[v0, v1] := by cases args; simp_all
  obtain ⟨rfl, rfl⟩ := trodVars_none hV
  obtain ⟨root, rfl, rfl, rfl, w0⟩ := open_int Tryz.underlying3 (hval 0 3 v0 rfl rfl) h0
  obtain ⟨so, len, cap, rfl⟩ := okWide_slice Tryz.underlying22 (hval 1 22 v1 rfl rfl)
  have k1 := h1
  have lt1 : ∀ x ∈ p1, x.block < W.heap.size := by obtain ⟨m, hm⟩ := k1; exact DataW.trod_lt m _ _ _ hm
  obtain ⟨f, hlen, hlb, hscr⟩ := script_open h1
  have hbk : Rows.uptoBulk d1 ≤ 1048576 := by
    have hk := of_decide_eq_true hsmall
    simp only [List.cons_append, List.nil_append, Rows.uptoBulkAll] at hk
    omega
  clear hA0 hval0
  refine (logsLaw_any root so len cap f W htab hlen (by omega) (fun i hi => by obtain ⟨g, o, e1, e2, e3, e4, e5, e6⟩ := hscr i hi; exact ⟨g, o, e1, e2, e3, e4, Or.inr ⟨by omega, by omega⟩⟩)).mono fun e W' ⟨he, bel⟩ => ?_
  subst he
  exact ⟨_, rfl, _, _, _, [], _, [], hW', trodAll_mk1 (shut_bool Tryz.underlying4 _), (trodAll_cons_mk (shut_int Tryz.underlying3 w0) (trodAll_cons_mk (Below.trod laidOut (by kernel_rfl) (of_decide_eq_true (by kernel_rfl)) k1 bel lt1) trodAll_mk0)), rfl, bel.frame _, fun h => by cases h⟩

set_option maxRecDepth 100000 in
theorem logs_lifted (os : Os) (started : os.Started) (H : Type) (enc : TypeId × Value → H) (F : Stop.Interp) :
    ReturnsInHanded {} Tryz.checked os 7 .any ((Rows.OpenSpec.upto Rows.logsSpec).preRow enc Tryz.prog Tryz.f7 Rows.logsUptoRow.domain false Rows.logsUptoRow.laid) (((Rows.OpenSpec.upto Rows.logsSpec).at F).post enc Tryz.prog Tryz.f7 false true false false) := by
  obtain ⟨places, hx⟩ := logs_reads os enc
  refine returnsInHanded_of_row (C := Tryz.checked) (s := Rows.OpenSpec.upto Rows.logsSpec) ownNone started (by kernel_rfl) Tryz.func7
    (witness_row_at (enc := enc) (C := Tryz.checked) false (laidWorldOf Tryz.prog os) #[.int .i64 0, .slice none 0 0] rfl (by kernel_rfl) (by kernel_rfl) (by kernel_rfl)
      (OpenSpec.preRow_of_cond 8 hx (by kernel_rfl) (fun k hk => by cases hk; kernel_rfl) (by kernel_rfl) (logs_laid_met os))) ?_
  intro W base args ds gs before hval hW _ hcond _ hlaid _ _
  exact logs_contract H enc W base args ds gs before hval hW (hcond _ rfl) (tab_of (l := Rows.logsUptoRow.laid) (by kernel_rfl) (by kernel_rfl) hlaid)

theorem logs_said : Rows.LogsUptoSaid :=
  OpenClaim.holds_of_cond 7 Tryz.f7 rfl rfl rfl rfl rfl rfl rfl ⟨rfl, rfl, rfl, rfl, rfl⟩ rfl rfl rfl rfl rfl (by kernel_rfl) Tryz.func7 (by kernel_rfl)
    (of_decide_eq_true (by kernel_rfl)) (by unfold Func.isWrapper; first | (rw [if_pos (by decide +kernel)]; kernel_rfl) | (rw [if_neg (by decide +kernel)]; exact ⟨rfl, rfl⟩))
    (fun os started H enc _ F => by rw [OpenClaim.pre_eq_preRow]; exact logs_lifted os started H enc F)

theorem logs_plain (f : FuncId) (fn : Func) (hf : Tryz.pinned.checked.prog.funcNamed "depot/depotlaw.Logs" = some f) (hfn : Tryz.pinned.checked.prog.funcs[f]? = some fn) :
    false = Tryz.pinned.checked.prog.looks [] ∧ ∀ (j : Nat) t, fn.params[j]? = some t → Tryz.pinned.checked.prog.wantsStandIn t = false := by
  obtain rfl : f = 7 := Option.some.inj ((show Tryz.prog.funcNamed "depot/depotlaw.Logs" = some 7 by kernel_rfl).symm.trans hf) |>.symm
  obtain rfl : fn = Tryz.f7 := (Option.some.inj (Tryz.func7.symm.trans hfn)).symm
  refine ⟨by kernel_rfl, fun j t ht => ?_⟩
  rw [Tryz.params7] at ht
  have hm := Array.mem_of_getElem? ht
  simp at hm
  rcases hm with rfl | rfl
  · exact (show Tryz.prog.wantsStandIn 3 = false by kernel_rfl)
  · exact (show Tryz.prog.wantsStandIn 22 = false by kernel_rfl)

theorem logs_card : Rows.LogsUptoCardSaid :=
  Claim7.holds_tied_plain_at .later [] _ _ _ _ logs_said (fun _ h => by cases h) (by kernel_rfl) (fun _ h => by cases h) logsUpto_row_tie rfl ⟨rfl, rfl⟩ (by kernel_rfl) rfl logs_plain (by kernel_rfl)

#print axioms logs_card

end Go.Proofs.YtgcldedkempjhaaGreatDoor
