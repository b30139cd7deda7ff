/-
  The two depots side by side in one memory.
-/
import Derived.Test.YtgcldedkempjhaaGreatDoorAgreeShow
namespace Go.Proofs.YtgcldedkempjhaaGreatDoor
open Go.RowKit

structure Two (w : World) (base wb db rb : Nat) (root : Int) (D : DepD) (time : Int) (ao : Option Addr) (cap : Nat) (ds : List Deed) : Prop where
  p0 : w.cell? ⟨wb, 0, none⟩ = some (.pointer (some ⟨db, 0, none⟩))
  p1 : w.cell? ⟨wb, 1, none⟩ = some (.pointer (some ⟨rb, 0, none⟩))
  dep : DepAt w db D
  ref : RefAt w rb root time ao cap ds
  rt : D.root = root
  a1 : ∀ k, DepFoot db D k → ¬ RefFoot rb ao k
  a2 : ¬ DepFoot db D wb
  a3 : ¬ RefFoot rb ao wb
  b1 : ∀ k, DepFoot db D k → base ≤ k
  b2 : ∀ k, RefFoot rb ao k → base ≤ k
  b3 : base ≤ w.heap.size
  b4 : tabB < base

section
variable {w w' : World} {base wb db rb : Nat} {root time time' : Int} {D D' : DepD} {ao ao' : Option Addr} {cap cap' : Nat} {ds ds' : List Deed}

theorem Two.wlt (h : Two w base wb db rb root D time ao cap ds) : wb < w.heap.size := World.block_lt_of_cell? w _ h.p0

theorem Two.dstep (h : Two w base wb db rb root D time ao cap ds) (hd : DepAt w' db D') (hrt : D'.root = root) (hc : Chg (DepFoot db D) w w') (hf : ∀ k, DepFoot db D' k → DepFoot db D k ∨ w.heap.size ≤ k) :
    Two w' base wb db rb root D' time ao cap ds ∧ Below base w w' := by
  have hw : w'.heap[wb]? = w.heap[wb]? := hc.block wb h.wlt h.a2
  refine ⟨⟨(World.cell?_of_block hw).trans h.p0, (World.cell?_of_block hw).trans h.p1, hd, h.ref.keep (fun k hk => hc.block k (h.ref.foot_lt k hk) (fun hk' => h.a1 k hk' hk)), hrt, ?_, ?_, h.a3, ?_, h.b2, Nat.le_trans h.b3 hc.size, h.b4⟩, hc.below h.b3 h.b1⟩
  · intro k hk hr
    rcases hf k hk with h1 | h1
    · exact h.a1 k h1 hr
    · have := h.ref.foot_lt k hr; omega
  · intro hk
    rcases hf wb hk with h1 | h1
    · exact h.a2 h1
    · have := h.wlt; omega
  · intro k hk
    rcases hf k hk with h1 | h1
    · exact h.b1 k h1
    · have := h.b3; omega

theorem Two.rstep (h : Two w base wb db rb root D time ao cap ds) (hd : RefAt w' rb root time' ao' cap' ds') (hc : Chg (RefFoot rb ao) w w') (hf : ∀ k, RefFoot rb ao' k → RefFoot rb ao k ∨ w.heap.size ≤ k) :
    Two w' base wb db rb root D time' ao' cap' ds' ∧ Below base w w' := by
  have hw : w'.heap[wb]? = w.heap[wb]? := hc.block wb h.wlt h.a3
  refine ⟨⟨(World.cell?_of_block hw).trans h.p0, (World.cell?_of_block hw).trans h.p1, h.dep.keep (fun k hk => hc.block k (h.dep.foot hk).2 (h.a1 k hk)) (hc.block _ h.dep.tab.lt (fun hk => by have := h.b2 _ hk; have := h.b4; omega)), hd, h.rt, ?_, h.a2, ?_, h.b1, ?_, Nat.le_trans h.b3 hc.size, h.b4⟩, hc.below h.b3 h.b2⟩
  · intro k hk hr
    rcases hf k hr with h1 | h1
    · exact h.a1 k hk h1
    · have := (h.dep.foot hk).2; omega
  · intro hk
    rcases hf wb hk with h1 | h1
    · exact h.a3 h1
    · have := h.wlt; omega
  · intro k hk
    rcases hf k hk with h1 | h1
    · exact h.b2 k h1
    · have := h.b3; omega

theorem Two.below (h : Two w base wb db rb root D time ao cap ds) (hb : Below w.heap.size w w') : Two w' base wb db rb root D time ao cap ds :=
  (h.dstep (h.dep.below hb) h.rt (Chg.ofBelow hb) (fun _ h => Or.inl h)).1

theorem RefAt.same (h : RefAt w rb root time ao cap ds) (hh : w'.heap = w.heap) : RefAt w' rb root time ao cap ds := h.keep fun k _ => by rw [hh]

theorem Chg.start_of {S : Nat → Prop} {W : World} (h : Chg S W w') (h0 : W.heap = w.heap) (h1 : W.os = w.os) (h2 : W.tape = w.tape) (h3 : W.output = w.output) : Chg S w w' :=
  ⟨h.os.trans h1, h.tape.trans h2, h.output.trans h3, by have := h.size; rw [h0] at this; exact this, fun k hk hn => by rw [h.block k (by rw [h0]; exact hk) hn, h0]⟩

end

def goneN (ts : List Tok) : Nat := (ts.filter fun t => t.gone).length

/-- How many deeds of stage 1 stand behind what a depot holds. -/
def weight : List PHse → Nat
  | [] => 0
  | h :: hs => 1 + h.toks.length + goneN h.toks + weight hs

theorem weight_le (hs : List PHse) (h : ∀ x ∈ hs, x.toks.length ≤ 8) : weight hs ≤ hs.length * 17 := by
  induction hs with
  | nil => simp [weight]
  | cons x hs ih =>
    have h0 := h x (by simp)
    have hg : goneN x.toks ≤ x.toks.length := List.length_filter_le _ _
    have := ih (fun y hy => h y (by simp [hy]))
    simp [weight] at *
    omega

theorem weight_snoc (hs : List PHse) (h : PHse) : weight (hs ++ [h]) = weight hs + (1 + h.toks.length + goneN h.toks) := by
  induction hs with
  | nil => simp [weight]
  | cons x hs ih => simp [weight, ih]; omega

theorem weight_upd (hs : List PHse) (nm : ByteArray) (f : PHse → PHse) (x : PHse) (hx : hseF hs nm = some x) (h : (f x).toks.length + goneN (f x).toks = x.toks.length + goneN x.toks + 1) : weight (updH hs nm f) = weight hs + 1 := by
  induction hs with
  | nil => cases hx
  | cons y hs ih =>
    unfold hseF at hx
    rw [List.find?_cons] at hx
    unfold updH
    cases hy : (y.name.toList == nm.toList) with
    | true =>
      rw [hy] at hx
      injection hx with hx
      subst hx
      simp [weight]; omega
    | false =>
      rw [hy] at hx
      have := ih hx
      simp [weight, this]; omega

theorem goneN_rev (ts : List Tok) (old : Int) {t : Tok} (h : tokF ts old = some t) (hg : t.gone = false) : goneN (revTok ts old) = goneN ts + 1 := by
  induction ts with
  | nil => cases h
  | cons x ts ih =>
    have e : revTok (x :: ts) old = if (x.num == old) = true then { x with gone := true } :: ts else x :: revTok ts old := rfl
    rw [e]
    unfold tokF at h
    rw [List.find?_cons] at h
    cases hx : (x.num == old) with
    | true =>
      rw [hx] at h
      injection h with h
      subst h
      simp [goneN, hg]
    | false =>
      rw [hx] at h
      have := ih h
      simp only [Bool.false_eq_true, if_false]
      unfold goneN at *
      rw [List.filter_cons, List.filter_cons]
      cases x.gone <;> simp <;> omega

/-- The two depots, tied; at most n deeds; with tk, none but of stage 1. -/
def Inv (w : World) (base wb db rb : Nat) (root : Int) (n : Nat) (tk : Bool) : Prop :=
  ∃ D ao cap ds, Two w base wb db rb root D D.clock ao cap ds ∧ Sim D.pure ds ∧ (0 ≤ D.clock ∧ D.clock ≤ 1099511627776) ∧ ds.length ≤ n ∧ (tk = true → ds.length = weight D.pure.hs)

theorem Inv.below {w w' : World} {base wb db rb : Nat} {root : Int} {n : Nat} {tk : Bool} (h : Inv w base wb db rb root n tk) (hb : Below w.heap.size w w') : Inv w' base wb db rb root n tk := by
  obtain ⟨D, ao, cap, ds, h1, h2⟩ := h
  exact ⟨D, ao, cap, ds, h1.below hb, h2⟩

theorem deeds_few {w : World} {db : Nat} {D : DepD} {ds : List Deed} {n : Nat} {tk : Bool} (h : DepAt w db D) (hn : ds.length ≤ n) (hw : tk = true → ds.length = weight D.pure.hs) (hf : tk = true ∨ n ≤ 100000000000) : ds.length ≤ 1000000000000 := by
  rcases hf with hf | hf
  · have h1 := weight_le D.pure.hs h.lens.t
    have h2 := h.lens.h
    rw [hw hf]
    omega
  · omega

theorem yanks_few {w : World} {db : Nat} {D : DepD} {ds : List Deed} {n : Nat} {tk : Bool} (h : DepAt w db D) (hS : Sim D.pure ds) (hn : ds.length ≤ n) (hw : tk = true → ds.length = weight D.pure.hs) (hf : tk = true ∨ n ≤ 100000000000) : D.yanks < 200000000000 := by
  have h0 : D.yanks ≤ ds.length := hS.s16
  rcases hf with hf | hf
  · have h1 := weight_le D.pure.hs h.lens.t
    have h2 := h.lens.h
    have := hw hf
    omega
  · omega

/-- Behind a step: what both hold is tied. -/
theorem inv_next {w : World} {base wb db rb : Nat} {root : Int} {D D2 : DepD} {ao2 : Option Addr} {cap2 : Nat} {ds : List Deed} {n : Nat} {tk tk' : Bool} {E : Int} {Q : PDep} {x : Deed}
    (hT : Two w base wb db rb root D2 D.clock ao2 cap2 (nextDs E ds x)) (hp : D2.pure = stepP E D.pure Q) (hS : Sim D.pure ds) (hc : 0 ≤ D.clock ∧ D.clock ≤ 1099511627776) (hn : ds.length ≤ n) (htk : tk = true → ds.length = weight D.pure.hs)
    (hq : Q.clock = D.clock) (hst : E = 0 → Sim Q (ds ++ [x])) (ht' : tk' = true → tk = true) (hwt : E = 0 → tk' = true → weight Q.hs = weight D.pure.hs + 1) : Inv w base wb db rb root (n + 1) tk' := by
  have hclk : D2.clock = D.clock := by
    have := congrArg PDep.clock hp
    have e : D2.pure.clock = D2.clock := rfl
    rw [e] at this
    rw [this]
    unfold stepP
    split
    · exact hq
    · rfl
  by_cases he : E = 0
  · have hp' : D2.pure = Q := by rw [hp, stepP, if_pos he]
    subst he
    rw [nextDs_yes] at hT
    refine ⟨D2, ao2, cap2, _, by rw [hclk]; exact hT, by rw [hp']; exact hst rfl, by rw [hclk]; exact hc, by simp; omega, fun h => ?_⟩
    rw [hp', hwt rfl h, ← htk (ht' h)]
    simp
  · have hp' : D2.pure = D.pure := by rw [hp, stepP, if_neg he]
    rw [nextDs_no he] at hT
    exact ⟨D2, ao2, cap2, ds, by rw [hclk]; exact hT, by rw [hp']; exact hS, by rw [hclk]; exact hc, by omega, fun h => by rw [hp']; exact htk (ht' h)⟩

end Go.Proofs.YtgcldedkempjhaaGreatDoor
