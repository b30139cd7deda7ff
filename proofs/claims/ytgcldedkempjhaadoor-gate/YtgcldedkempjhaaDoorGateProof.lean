/-
  For every script of turns the law Gate (a token counts from when it is made till its time is over or it is revoked, and opens its own house alone, as far as its role goes) returns true, and the script reads behind the call as it did before it.
  Its conditions: no condition beside: every slice of turns that can be read; the tables of strconv and math/bits hold what the program's text lays (the card ties them to that text).
-/
import Derived.Test.YtgcldedkempjhaaDoorCards
import Derived.Test.YtgcldedkempjhaaDoorTie
import Derived.Test.YtgcldedkempjhaaDoorGatePlay
import Derived.Test.YtgcldedkempjhaaDoorTab
import Derived.Test.YtgcldedkempjhaaDoorLaid
namespace Go.Proofs.YtgcldedkempjhaaDoor
open Go.ChangeShapes Go.WideShapes Go.ChangeAt Go.RowKit

theorem Tryd.cellsTurn : Tryd.prog.cellsOf 32 = 9 := by kernel_rfl
theorem Tryd.cellsIntG : Tryd.prog.cellsOf 3 = 1 := by kernel_rfl
theorem Tryd.cellsStrG : Tryd.prog.cellsOf 9 = 1 := by kernel_rfl

theorem gaddr_cell {w : World} {a : Addr} {j : Nat} {v : Value} (h : w.cell? (a.add j) = some v) : w.cell? ⟨a.block, a.off + j, none⟩ = some v := by
  obtain ⟨b, o, sp⟩ := a
  have hs := World.cell?_spot h
  by_cases hj : j = 0
  · subst hj
    simp [Addr.add] at hs h ⊢
    subst hs
    exact h
  · simpa [Addr.add, hj] using h

theorem gaddr_spot {w : World} {a : Addr} {v : Value} (h : w.cell? (a.add 0) = some v) : a.spot = none := by
  have hs := World.cell?_spot h
  simpa [Addr.add] using hs

set_option maxRecDepth 100000 in
/-- One turn of a script, out of its reading. -/
theorem turn_open {H : Type} {enc : TypeId × Value → H} {w : World} {spare : Nat → Bool} {held : Bool} {n i : Nat} {a : Addr} {cs : List Value} {d : DataW H} {pl : List MemPlace}
    (h1 : w.cells? 0 (a.add (i * 9)) 9 = some cs) (h2 : DataW.trod enc Tryd.prog w 0 spare held n 32 cs = some (d, pl)) :
    ∃ x : TurnD, (i = 0 → a.spot = none) ∧ a.block < w.heap.size ∧ TurnAt w a.block (a.off + i * 9) x ∧ TurnOk x := by
  obtain ⟨_, hlen, hcell⟩ := World.cells?_some h1
  obtain ⟨xs, k, _, _, _, hxl, hf⟩ := DataW.trod_struct Tryd.underlying32 h2
  have hxl' : xs.length = 9 := hxl
  match cs, hlen with
  | [v0, v1, v2, v3, v4, v5, v6, v7, v8], _ =>
    have hx : ∀ j, j < 9 → ∃ y, xs[j]? = some y := fun j hj => ⟨xs[j]'(by omega), List.getElem?_eq_getElem _⟩
    have g0 : DataW.trod enc Tryd.prog w 0 spare held k 3 ((([v0, v1, v2, v3, v4, v5, v6, v7, v8] : List Value).drop 0).take (Tryd.prog.cellsOf 3)) = xs[0]? := hf 0 _ rfl
    rw [Tryd.cellsIntG] at g0
    obtain ⟨y0, e0⟩ := hx 0 (by omega)
    have g1 : DataW.trod enc Tryd.prog w 0 spare held k 3 ((([v0, v1, v2, v3, v4, v5, v6, v7, v8] : List Value).drop 1).take (Tryd.prog.cellsOf 3)) = xs[1]? := hf 1 _ rfl
    rw [Tryd.cellsIntG] at g1
    obtain ⟨y1, e1⟩ := hx 1 (by omega)
    have g2 : DataW.trod enc Tryd.prog w 0 spare held k 3 ((([v0, v1, v2, v3, v4, v5, v6, v7, v8] : List Value).drop 2).take (Tryd.prog.cellsOf 3)) = xs[2]? := hf 2 _ rfl
    rw [Tryd.cellsIntG] at g2
    obtain ⟨y2, e2⟩ := hx 2 (by omega)
    have g3 : DataW.trod enc Tryd.prog w 0 spare held k 9 ((([v0, v1, v2, v3, v4, v5, v6, v7, v8] : List Value).drop 3).take (Tryd.prog.cellsOf 9)) = xs[3]? := hf 3 _ rfl
    rw [Tryd.cellsStrG] at g3
    obtain ⟨y3, e3⟩ := hx 3 (by omega)
    have g4 : DataW.trod enc Tryd.prog w 0 spare held k 9 ((([v0, v1, v2, v3, v4, v5, v6, v7, v8] : List Value).drop 4).take (Tryd.prog.cellsOf 9)) = xs[4]? := hf 4 _ rfl
    rw [Tryd.cellsStrG] at g4
    obtain ⟨y4, e4⟩ := hx 4 (by omega)
    have g5 : DataW.trod enc Tryd.prog w 0 spare held k 9 ((([v0, v1, v2, v3, v4, v5, v6, v7, v8] : List Value).drop 5).take (Tryd.prog.cellsOf 9)) = xs[5]? := hf 5 _ rfl
    rw [Tryd.cellsStrG] at g5
    obtain ⟨y5, e5⟩ := hx 5 (by omega)
    have g6 : DataW.trod enc Tryd.prog w 0 spare held k 3 ((([v0, v1, v2, v3, v4, v5, v6, v7, v8] : List Value).drop 6).take (Tryd.prog.cellsOf 3)) = xs[6]? := hf 6 _ rfl
    rw [Tryd.cellsIntG] at g6
    obtain ⟨y6, e6⟩ := hx 6 (by omega)
    have g7 : DataW.trod enc Tryd.prog w 0 spare held k 3 ((([v0, v1, v2, v3, v4, v5, v6, v7, v8] : List Value).drop 7).take (Tryd.prog.cellsOf 3)) = xs[7]? := hf 7 _ rfl
    rw [Tryd.cellsIntG] at g7
    obtain ⟨y7, e7⟩ := hx 7 (by omega)
    have g8 : DataW.trod enc Tryd.prog w 0 spare held k 3 ((([v0, v1, v2, v3, v4, v5, v6, v7, v8] : List Value).drop 8).take (Tryd.prog.cellsOf 3)) = xs[8]? := hf 8 _ rfl
    rw [Tryd.cellsIntG] at g8
    obtain ⟨y8, e8⟩ := hx 8 (by omega)
    obtain ⟨n0, q0, _, u0⟩ := DataW.trod_int Tryd.underlying3 (g0.trans e0)
    obtain ⟨n1, q1, _, _⟩ := DataW.trod_int Tryd.underlying3 (g1.trans e1)
    obtain ⟨n2, q2, _, u2⟩ := DataW.trod_int Tryd.underlying3 (g2.trans e2)
    obtain ⟨n3, q3, _, _⟩ := DataW.trod_string Tryd.underlying9 (g3.trans e3)
    obtain ⟨n4, q4, _, _⟩ := DataW.trod_string Tryd.underlying9 (g4.trans e4)
    obtain ⟨n5, q5, _, _⟩ := DataW.trod_string Tryd.underlying9 (g5.trans e5)
    obtain ⟨n6, q6, _, u6⟩ := DataW.trod_int Tryd.underlying3 (g6.trans e6)
    obtain ⟨n7, q7, _, u7⟩ := DataW.trod_int Tryd.underlying3 (g7.trans e7)
    obtain ⟨n8, q8, _, u8⟩ := DataW.trod_int Tryd.underlying3 (g8.trans e8)
    simp at q0 q1 q2 q3 q4 q5 q6 q7 q8
    subst q0 q1 q2 q3 q4 q5 q6 q7 q8
    have c : ∀ j v, j < 9 → [Value.int .i64 n0, Value.int .i64 n1, Value.int .i64 n2, Value.string n3, Value.string n4, Value.string n5, Value.int .i64 n6, Value.int .i64 n7, Value.int .i64 n8][j]? = some v → w.cell? ⟨a.block, a.off + i * 9 + j, none⟩ = some v := by
      intro j v hj hv
      have := (hcell j hj).trans hv
      rw [Go.Deep.add_add] at this
      have := gaddr_cell this
      rwa [← Nat.add_assoc] at this
    refine ⟨⟨n0, n1, n2, n3, n4, n5, n6, n7, n8⟩, ?_, ?_, ⟨c 0 _ (by omega) rfl, c 1 _ (by omega) rfl, c 2 _ (by omega) rfl, c 3 _ (by omega) rfl, c 4 _ (by omega) rfl, c 5 _ (by omega) rfl, c 6 _ (by omega) rfl, c 7 _ (by omega) rfl, c 8 _ (by omega) rfl⟩, ⟨(bounds_i64 u0).1, (bounds_i64 u0).2, (bounds_i64 u6).2, bounds_i64 u2, bounds_i64 u6, bounds_i64 u7, bounds_i64 u8⟩⟩
    · intro hi
      subst hi
      have := (hcell 0 (by omega)).trans rfl
      rw [Go.Deep.add_add] at this
      exact gaddr_spot this
    · exact World.block_lt_of_cell? w ⟨a.block, a.off + i * 9 + 0, none⟩ (c 0 _ (by omega) rfl)

theorem gate_laid_met (os : Os) : laidMet Tryd.prog Rows.gateRow.laid ((laidWorldOf Tryd.prog os).forCall (fun _ _ => 0) ⟨#[], #[.slice none 0 0], []⟩).memory :=
  laidMet_of_run' 8 (by kernel_rfl) (by kernel_rfl)

theorem gate_reads (os : Os) {H : Type} (enc : TypeId × Value → H) : ∃ places, DataW.whole enc Tryd.prog ((laidWorldOf Tryd.prog os).forCall (fun _ _ => 0) ⟨#[], #[.slice none 0 0], []⟩).memory Tryd.f3.params.toList Rows.gateSpec.vars false #[Value.slice none 0 0].toList 8 = some ([.nil], [], places) :=
  ⟨[], by kernel_rfl⟩

set_option maxRecDepth 100000 in
theorem gate_contract (H : Type) (enc : TypeId × Value → H) (W : World) (base : Nat) (args : Array Value) (ds gs : List (DataW H)) (before : List MemPlace)
    (hval0 : ∀ (j : Nat) t v, Tryd.f3.params[j]? = some t → args[j]? = some v → Value.okWide Tryd.prog W .any base t v)
    (hW : DataW.Whole enc Tryd.prog Tryd.f3.params.toList Rows.gateSpec.vars false W args.toList ds gs before) (htab : TabOk W) :
    Calls Tryd.prog 3 args W fun e W' => ∃ v, e = .returned v ∧ Rows.gateSpec.post enc Tryd.prog Tryd.f3 false true false false W args v W' := by
  have hval : ∀ (j : Nat) t v, Tryd.f3.params[j]? = some t → args[j]? = some v → Value.okWide Tryd.prog W .any base t v := hval0
  have hW' := hW
  obtain ⟨p, q, hA0, hV, rfl, hfz, hnd⟩ := hW
  have hA : DataW.TrodAll enc Tryd.prog W 0 (fun _ => true) true Tryd.f3.params.toList args.toList ds p := hA0
  rw [Tryd.params3] at hA hval
  obtain ⟨v1, vs1, d1, ds1, p1, q1, hargs, rfl, rfl, h1, r1⟩ := trodAll_cons hA
  obtain ⟨rfl, rfl, rfl⟩ := trodAll_nil r1
  obtain rfl : args = #[v1] := by cases args; simp_all
  obtain ⟨rfl, rfl⟩ := trodVars_none hV
  obtain ⟨so, len, cap, rfl⟩ := okWide_slice Tryd.underlying22 (hval 0 22 v1 rfl rfl)
  have k1 := h1
  have lt1 : ∀ x ∈ p1, x.block < W.heap.size := by obtain ⟨m, hm⟩ := k1; exact DataW.trod_lt m _ _ _ hm
  obtain ⟨f, hlen, hscr⟩ : ∃ f : Nat → TurnD, len ≤ 9223372036854775807 ∧ ∀ i, i < len → ∃ g o, so = some ⟨g, o, none⟩ ∧ g < W.heap.size ∧ TurnAt W g (o + i * 9) (f i) ∧ TurnOk (f i) := by
    obtain ⟨fuel, hf⟩ := h1
    rcases Go.Deep.open_slice Tryd.underlying22 hf with ⟨hcs, _⟩ | ⟨a, l, c, m, n, D, Pl, hcs, _, hl, hm, hmm, _, hx⟩
    · simp [Value.cells] at hcs
      obtain ⟨rfl, rfl, rfl⟩ := hcs
      exact ⟨fun _ => ⟨0, 0, 0, ⟨#[]⟩, ⟨#[]⟩, ⟨#[]⟩, 0, 0, 0⟩, by omega, fun i hi => by omega⟩
    · simp [Value.cells] at hcs
      obtain ⟨rfl, rfl, rfl⟩ := hcs
      rw [Tryd.cellsTurn] at hx
      simp only [if_true] at hmm
      subst hmm
      have each : ∀ i, i < len → ∃ x : TurnD, (i = 0 → a.spot = none) ∧ a.block < W.heap.size ∧ TurnAt W a.block (a.off + i * 9) x ∧ TurnOk x := by
        intro i hi
        obtain ⟨cs', e1, e2⟩ := hx i (by omega)
        exact turn_open e1 e2
      have hsp : 0 < len → a = ⟨a.block, a.off, none⟩ := by
        intro h
        obtain ⟨x, hs, _⟩ := each 0 h
        have := hs rfl
        cases a
        simp_all
      refine ⟨fun i => if hi : i < len then Classical.choose (each i hi) else ⟨0, 0, 0, ⟨#[]⟩, ⟨#[]⟩, ⟨#[]⟩, 0, 0, 0⟩, by unfold maxLen at hm; omega, fun i hi => ?_⟩
      have hs := Classical.choose_spec (each i hi)
      refine ⟨a.block, a.off, by rw [← hsp (by omega)], hs.2.1, ?_, ?_⟩
      · simp only [dif_pos hi]; exact hs.2.2.1
      · simp only [dif_pos hi]; exact hs.2.2.2
  clear hA0 hval0
  refine (gate_any so len cap f W htab hlen hscr).mono fun e W' ⟨he, bel⟩ => ?_
  subst he
  exact ⟨_, rfl, _, _, _, [], _, [], hW', trodAll_mk1 (shut_bool Tryd.underlying4 _), (trodAll_cons_mk (Below.trod laidOut (by kernel_rfl) (of_decide_eq_true (by kernel_rfl)) k1 bel lt1) trodAll_mk0), rfl, bel.frame _, fun h => by cases h⟩


set_option maxRecDepth 100000 in
theorem gate_lifted (os : Os) (started : os.Started) (H : Type) (enc : TypeId × Value → H) (F : Stop.Interp) :
    ReturnsInHanded {} Tryd.checked os 3 .any ((OpenSpec.ofChange Rows.gateSpec).preRow enc Tryd.prog Tryd.f3 Rows.gateRow.domain false Rows.gateRow.laid) (((OpenSpec.ofChange Rows.gateSpec).at F).post enc Tryd.prog Tryd.f3 false true false false) := by
  obtain ⟨places, hx⟩ := gate_reads os enc
  refine returnsInHanded_of_row (C := Tryd.checked) (s := OpenSpec.ofChange Rows.gateSpec) ownNone started (by kernel_rfl) Tryd.func3
    (witness_row_at (enc := enc) (C := Tryd.checked) false (laidWorldOf Tryd.prog os) #[.slice none 0 0] rfl (by kernel_rfl) (by kernel_rfl) (by kernel_rfl)
      (OpenSpec.preRow_of_cond 8 hx (by kernel_rfl) (fun k hk => by cases hk) (by kernel_rfl) (gate_laid_met os))) ?_
  intro W base args ds gs before hval hW _ _ _ hlaid _ _
  exact gate_contract H enc W base args ds gs before hval hW (tab_of (l := Rows.gateRow.laid) (by kernel_rfl) (by kernel_rfl) hlaid)

theorem gate_said : Rows.GateSaid :=
  OpenClaim.holds_of_cond 3 Tryd.f3 rfl rfl rfl rfl rfl rfl rfl ⟨rfl, rfl, rfl, rfl, rfl⟩ rfl rfl rfl rfl rfl (by kernel_rfl) Tryd.func3 (by kernel_rfl)
    (of_decide_eq_true (by kernel_rfl)) (by unfold Func.isWrapper; first | (rw [if_pos (by decide +kernel)]; kernel_rfl) | (rw [if_neg (by decide +kernel)]; exact ⟨rfl, rfl⟩))
    (fun os started H enc _ F => by rw [OpenClaim.pre_eq_preRow]; exact gate_lifted os started H enc F)

theorem gate_plain (f : FuncId) (fn : Func) (hf : Tryd.pinned.checked.prog.funcNamed "depot/depotkeep.Gate" = some f) (hfn : Tryd.pinned.checked.prog.funcs[f]? = some fn) :
    false = Tryd.pinned.checked.prog.looks [] ∧ ∀ (j : Nat) t, fn.params[j]? = some t → Tryd.pinned.checked.prog.wantsStandIn t = false := by
  obtain rfl : f = 3 := Option.some.inj ((show Tryd.prog.funcNamed "depot/depotkeep.Gate" = some 3 by kernel_rfl).symm.trans hf) |>.symm
  obtain rfl : fn = Tryd.f3 := (Option.some.inj (Tryd.func3.symm.trans hfn)).symm
  refine ⟨by kernel_rfl, fun j t ht => ?_⟩
  rw [Tryd.params3] at ht
  obtain rfl : t = 22 := by simpa using Array.mem_of_getElem? ht
  exact (show Tryd.prog.wantsStandIn 22 = false by kernel_rfl)

theorem gate_card : Rows.GateCardSaid :=
  Claim7.holds_tied_plain_at .later [] _ _ _ _ gate_said (fun _ h => by cases h) (by kernel_rfl) (fun _ h => by cases h) gate_row_tie rfl ⟨rfl, rfl⟩ (by kernel_rfl) rfl gate_plain (by kernel_rfl)

#print axioms gate_card

end Go.Proofs.YtgcldedkempjhaaDoor
