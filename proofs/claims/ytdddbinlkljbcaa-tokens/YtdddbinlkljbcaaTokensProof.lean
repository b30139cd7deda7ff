/-
  For every root number and every script of steps the law Tokens (New, Tick, Clock, May, Found, Mint, Revoke: the program's answers are the document's) returns true, and the script reads behind the call as it did before it.
  No condition: every int, every slice of steps that can be read.
-/
import Derived.Test.YtdddbinlkljbcaaRows
import Derived.Test.YtdddbinlkljbcaaLawPlay
import Derived.ProofKit
import Derived.OpenShut
import Derived.ShutString
import Derived.ChangeOld
import Derived.Deep.Slices
namespace Go.Proofs.Ytdddbinlkljbcaa
open Go.ChangeShapes Go.WideShapes Go.ChangeAt Go.RowKit

theorem own : ownKnob Try.prog.godebug = none := by kernel_rfl
theorem laidOut : laidOutB Try.prog = true := by kernel_rfl

theorem Try.cellsOp : Try.prog.cellsOf 52 = 8 := by kernel_rfl
theorem Try.cellsInt : Try.prog.cellsOf 3 = 1 := by kernel_rfl
theorem Try.cellsStr : Try.prog.cellsOf 9 = 1 := by kernel_rfl

theorem addr_cell {w : World} {a : Addr} {j : Nat} {v : Value} (h : w.cell? (a.add j) = some v) : w.cell? ⟨a.block, a.off + j, none⟩ = some v := by
  obtain ⟨b, o, sp⟩ := a
  have hs := World.cell?_spot h
  by_cases hj : j = 0
  · subst hj
    simp [Addr.add] at hs h ⊢
    subst hs
    exact h
  · simpa [Addr.add, hj] using h

theorem addr_spot {w : World} {a : Addr} {v : Value} (h : w.cell? (a.add 0) = some v) : a.spot = none := by
  have hs := World.cell?_spot h
  simpa [Addr.add] using hs

set_option maxRecDepth 100000 in
/-- One step of a script, out of its reading. -/
theorem op_open {H : Type} {enc : TypeId × Value → H} {w : World} {spare : Nat → Bool} {held : Bool} {n i : Nat} {a : Addr} {cs : List Value} {d : DataW H} {pl : List MemPlace}
    (h1 : w.cells? 0 (a.add (i * 8)) 8 = some cs) (h2 : DataW.trod enc Try.prog w 0 spare held n 52 cs = some (d, pl)) :
    ∃ x : OpD, (i = 0 → a.spot = none) ∧ a.block < w.heap.size ∧ OpAt w a.block (a.off + i * 8) x ∧ x.a ≤ 9223372036854775807 := by
  obtain ⟨_, hlen, hcell⟩ := World.cells?_some h1
  obtain ⟨xs, k, _, _, _, hxl, hf⟩ := DataW.trod_struct Try.underlying52 h2
  have hxl' : xs.length = 8 := hxl
  match cs, hlen with
  | [v0, v1, v2, v3, v4, v5, v6, v7], _ =>
    have hx : ∀ j, j < 8 → ∃ y, xs[j]? = some y := fun j hj => ⟨xs[j]'(by omega), List.getElem?_eq_getElem _⟩
    have g0 : DataW.trod enc Try.prog w 0 spare held k 3 ((([v0, v1, v2, v3, v4, v5, v6, v7] : List Value).drop 0).take (Try.prog.cellsOf 3)) = xs[0]? := hf 0 _ rfl
    rw [Try.cellsInt] at g0
    have g1 : DataW.trod enc Try.prog w 0 spare held k 9 ((([v0, v1, v2, v3, v4, v5, v6, v7] : List Value).drop 1).take (Try.prog.cellsOf 9)) = xs[1]? := hf 1 _ rfl
    rw [Try.cellsStr] at g1
    have g2 : DataW.trod enc Try.prog w 0 spare held k 3 ((([v0, v1, v2, v3, v4, v5, v6, v7] : List Value).drop 2).take (Try.prog.cellsOf 3)) = xs[2]? := hf 2 _ rfl
    rw [Try.cellsInt] at g2
    have g3 : DataW.trod enc Try.prog w 0 spare held k 9 ((([v0, v1, v2, v3, v4, v5, v6, v7] : List Value).drop 3).take (Try.prog.cellsOf 9)) = xs[3]? := hf 3 _ rfl
    rw [Try.cellsStr] at g3
    have g4 : DataW.trod enc Try.prog w 0 spare held k 9 ((([v0, v1, v2, v3, v4, v5, v6, v7] : List Value).drop 4).take (Try.prog.cellsOf 9)) = xs[4]? := hf 4 _ rfl
    rw [Try.cellsStr] at g4
    have g5 : DataW.trod enc Try.prog w 0 spare held k 3 ((([v0, v1, v2, v3, v4, v5, v6, v7] : List Value).drop 5).take (Try.prog.cellsOf 3)) = xs[5]? := hf 5 _ rfl
    rw [Try.cellsInt] at g5
    have g6 : DataW.trod enc Try.prog w 0 spare held k 3 ((([v0, v1, v2, v3, v4, v5, v6, v7] : List Value).drop 6).take (Try.prog.cellsOf 3)) = xs[6]? := hf 6 _ rfl
    rw [Try.cellsInt] at g6
    have g7 : DataW.trod enc Try.prog w 0 spare held k 3 ((([v0, v1, v2, v3, v4, v5, v6, v7] : List Value).drop 7).take (Try.prog.cellsOf 3)) = xs[7]? := hf 7 _ rfl
    rw [Try.cellsInt] at g7
    obtain ⟨y0, e0⟩ := hx 0 (by omega)
    obtain ⟨y1, e1⟩ := hx 1 (by omega)
    obtain ⟨y2, e2⟩ := hx 2 (by omega)
    obtain ⟨y3, e3⟩ := hx 3 (by omega)
    obtain ⟨y4, e4⟩ := hx 4 (by omega)
    obtain ⟨y5, e5⟩ := hx 5 (by omega)
    obtain ⟨y6, e6⟩ := hx 6 (by omega)
    obtain ⟨y7, e7⟩ := hx 7 (by omega)
    obtain ⟨n0, q0, _, _⟩ := DataW.trod_int Try.underlying3 (g0.trans e0)
    obtain ⟨n1, q1, _, _⟩ := DataW.trod_string Try.underlying9 (g1.trans e1)
    obtain ⟨n2, q2, _, _⟩ := DataW.trod_int Try.underlying3 (g2.trans e2)
    obtain ⟨n3, q3, _, _⟩ := DataW.trod_string Try.underlying9 (g3.trans e3)
    obtain ⟨n4, q4, _, _⟩ := DataW.trod_string Try.underlying9 (g4.trans e4)
    obtain ⟨n5, q5, _, w5⟩ := DataW.trod_int Try.underlying3 (g5.trans e5)
    obtain ⟨n6, q6, _, _⟩ := DataW.trod_int Try.underlying3 (g6.trans e6)
    obtain ⟨n7, q7, _, _⟩ := DataW.trod_int Try.underlying3 (g7.trans e7)
    simp at q0 q1 q2 q3 q4 q5 q6 q7
    subst q0 q1 q2 q3 q4 q5 q6 q7
    have c : ∀ j v, j < 8 → [Value.int .i64 n0, .string n1, .int .i64 n2, .string n3, .string n4, .int .i64 n5, .int .i64 n6, .int .i64 n7][j]? = some v → w.cell? ⟨a.block, a.off + i * 8 + j, none⟩ = some v := by
      intro j v hj hv
      have := (hcell j hj).trans hv
      rw [Go.Deep.add_add] at this
      have := addr_cell this
      rwa [← Nat.add_assoc] at this
    refine ⟨⟨n0, n1, n2, n3, n4, n5, n6, n7⟩, ?_, ?_, ⟨c 0 _ (by omega) rfl, c 1 _ (by omega) rfl, c 2 _ (by omega) rfl, c 3 _ (by omega) rfl, c 4 _ (by omega) rfl, c 5 _ (by omega) rfl, c 6 _ (by omega) rfl, c 7 _ (by omega) rfl⟩, (bounds_i64 w5).2⟩
    · intro hi
      subst hi
      have := (hcell 0 (by omega)).trans rfl
      rw [Go.Deep.add_add] at this
      exact addr_spot this
    · exact World.block_lt_of_cell? w ⟨a.block, a.off + i * 8 + 0, none⟩ (c 0 _ (by omega) rfl)

set_option maxRecDepth 100000 in
theorem tokens_lifted (os : Os) (started : os.Started) (H : Type) (enc : TypeId × Value → H) :
    ReturnsInHanded {} Try.checked os 3 .any (Rows.tokensSpec.pre6 enc Try.prog Try.f3 Rows.tokensRow.domain false) (Rows.tokensSpec.post enc Try.prog Try.f3 false true false false) := by
  refine returnsInHanded_of_change (C := Try.checked) own started (by kernel_rfl) Try.func3
    (ChangeSpec.witness6 (enc := enc) (C := Try.checked) false ⟨#[], #[.int .i64 0, .slice none 0 0], []⟩ 8 (by kernel_rfl) (by kernel_rfl) (by kernel_rfl) (by kernel_rfl)) ?_
  intro W base args ds gs before hval0 hW hcnd _
  have hval : ∀ (j : Nat) t v, Try.f3.params[j]? = some t → args[j]? = some v → Value.okWide Try.prog W .any base t v := hval0
  have hW' := hW
  obtain ⟨p, q, hA0, hV, rfl, hfz, hnd⟩ := hW
  have hA : DataW.TrodAll enc Try.prog W 0 (fun _ => true) true Try.f3.params.toList args.toList ds p := hA0
  rw [Try.params3] at hA hval
  obtain ⟨v0, vs0, d0, ds0, p0, q0, hargs, rfl, rfl, h0, r0⟩ := trodAll_cons hA
  obtain ⟨v1, vs1, d1, ds1, p1, q1, rfl, rfl, rfl, h1, r1⟩ := trodAll_cons r0
  obtain ⟨rfl, rfl, rfl⟩ := trodAll_nil r1
  obtain rfl : args = #[v0, v1] := by cases args; simp_all
  obtain ⟨rfl, rfl⟩ := trodVars_none hV
  obtain ⟨root, rfl, rfl, rfl, w0⟩ := open_int Try.underlying3 (hval 0 3 v0 rfl rfl) h0
  obtain ⟨so, len, cap, rfl⟩ := okWide_slice Try.underlying22 (hval 1 22 v1 rfl rfl)
  have k1 := h1
  have lt1 : ∀ x ∈ p1, x.block < W.heap.size := by obtain ⟨m, hm⟩ := k1; exact DataW.trod_lt m _ _ _ hm
  obtain ⟨f, hlen, hscr⟩ : ∃ f : Nat → OpD, len ≤ 9223372036854775807 ∧ ∀ i, i < len → ∃ g o, so = some ⟨g, o, none⟩ ∧ g < W.heap.size ∧ OpAt W g (o + i * 8) (f i) ∧ (f i).a ≤ 9223372036854775807 := by
    obtain ⟨fuel, hf⟩ := h1
    rcases Go.Deep.open_slice Try.underlying22 hf with ⟨hcs, _⟩ | ⟨a, l, c, m, n, D, Pl, hcs, _, hl, hm, hmm, _, hx⟩
    · simp [Value.cells] at hcs
      obtain ⟨rfl, rfl, rfl⟩ := hcs
      exact ⟨fun _ => ⟨0, ⟨#[]⟩, 0, ⟨#[]⟩, ⟨#[]⟩, 0, 0, 0⟩, by omega, fun i hi => by omega⟩
    · simp [Value.cells] at hcs
      obtain ⟨rfl, rfl, rfl⟩ := hcs
      rw [Try.cellsOp] at hx
      simp only [if_true] at hmm
      subst hmm
      have each : ∀ i, i < len → ∃ x : OpD, (i = 0 → a.spot = none) ∧ a.block < W.heap.size ∧ OpAt W a.block (a.off + i * 8) x ∧ x.a ≤ 9223372036854775807 := by
        intro i hi
        obtain ⟨cs', e1, e2⟩ := hx i (by omega)
        exact op_open e1 e2
      have hsp : 0 < len → a = ⟨a.block, a.off, none⟩ := by
        intro h
        obtain ⟨x, hs, _⟩ := each 0 h
        have := hs rfl
        cases a
        simp_all
      refine ⟨fun i => if hi : i < len then Classical.choose (each i hi) else ⟨0, ⟨#[]⟩, 0, ⟨#[]⟩, ⟨#[]⟩, 0, 0, 0⟩, by unfold maxLen at hm; omega, fun i hi => ?_⟩
      have hs := Classical.choose_spec (each i hi)
      refine ⟨a.block, a.off, by rw [← hsp (by omega)], hs.2.1, ?_, ?_⟩
      · simp only [dif_pos hi]; exact hs.2.2.1
      · simp only [dif_pos hi]; exact hs.2.2.2
  clear hA0 hval0
  refine (tokensLaw_any root so len cap f W hlen hscr).mono fun e W' ⟨he, bel⟩ => ?_
  subst he
  exact ⟨_, rfl, _, _, _, [], _, [], hW', trodAll_mk1 (shut_bool Try.underlying4 _), (trodAll_cons_mk (shut_int Try.underlying3 w0) (trodAll_cons_mk (Below.trod laidOut (by kernel_rfl) (of_decide_eq_true (by kernel_rfl)) k1 bel lt1) trodAll_mk0)), rfl, bel.frame _, fun h => by cases h⟩

theorem tokens_holds : Rows.TokensSaid :=
  OpenClaim.holds_of_wide 3 Try.f3 rfl rfl rfl rfl rfl rfl rfl ⟨rfl, rfl, rfl, rfl, rfl⟩ rfl rfl rfl rfl rfl (by kernel_rfl) Try.func3 (by kernel_rfl)
    (of_decide_eq_true (by kernel_rfl)) (by unfold Func.isWrapper; first | (rw [if_pos (by decide +kernel)]; kernel_rfl) | (rw [if_neg (by decide +kernel)]; exact ⟨rfl, rfl⟩))
    (fun os started H enc _ => tokens_lifted os started H enc)

#print axioms tokens_holds

end Go.Proofs.Ytdddbinlkljbcaa
