/-
  The two depots side by side in one memory.
-/
import Derived.Test.YtgcldedkempjhabGreatDoorAgreeShow
namespace Go.Proofs.YtgcldedkempjhabGreatDoor
open Go.RowKit

structure Two (w : World) (base wb db rb : Nat) (root : Int) (D : DepD) (time : Int) (ao : Option Addr) (cap : Nat) (ds : List Deed) : Prop where
  p0 : w.cell? ⟨wb, 0, none⟩ = some (.pointer (some ⟨db, 0, none⟩))
  p1 : w.cell? ⟨wb, 1, none⟩ = some (.pointer (some ⟨rb, 0, none⟩))
  dep : DepAt w db D
  ref : RefAt w rb root time ao cap ds
  rt : D.root = root
  a1 : ∀ k, DepFoot db D k → ¬ RefFoot rb ao k
  a2 : ¬ DepFoot db D wb
  a3 : ¬ RefFoot rb ao wb
  b1 : ∀ k, DepFoot db D k → base ≤ k
  b2 : ∀ k, RefFoot rb ao k → base ≤ k
  b3 : base ≤ w.heap.size
  b4 : tabB < base

section
variable {w w' : World} {base wb db rb : Nat} {root time time' : Int} {D D' : DepD} {ao ao' : Option Addr} {cap cap' : Nat} {ds ds' : List Deed}

theorem Two.wlt (h : Two w base wb db rb root D time ao cap ds) : wb < w.heap.size := World.block_lt_of_cell? w _ h.p0

theorem Two.dstep (h : Two w base wb db rb root D time ao cap ds) (hd : DepAt w' db D') (hrt : D'.root = root) (hc : Chg (DepFoot db D) w w') (hf : ∀ k, DepFoot db D' k → DepFoot db D k ∨ w.heap.size ≤ k) :
    Two w' base wb db rb root D' time ao cap ds ∧ Below base w w' := by
  have hw : w'.heap[wb]? = w.heap[wb]? := hc.block wb h.wlt h.a2
  refine ⟨⟨(World.cell?_of_block hw).trans h.p0, (World.cell?_of_block hw).trans h.p1, hd, h.ref.keep (fun k hk => hc.block k (h.ref.foot_lt k hk) (fun hk' => h.a1 k hk' hk)), hrt, ?_, ?_, h.a3, ?_, h.b2, Nat.le_trans h.b3 hc.size, h.b4⟩, hc.below h.b3 h.b1⟩
  · intro k hk hr
    rcases hf k hk with h1 | h1
    · exact h.a1 k h1 hr
    · have := h.ref.foot_lt k hr; omega
  · intro hk
    rcases hf wb hk with h1 | h1
    · exact h.a2 h1
    · have := h.wlt; omega
  · intro k hk
    rcases hf k hk with h1 | h1
    · exact h.b1 k h1
    · have := h.b3; omega

theorem Two.rstep (h : Two w base wb db rb root D time ao cap ds) (hd : RefAt w' rb root time' ao' cap' ds') (hc : Chg (RefFoot rb ao) w w') (hf : ∀ k, RefFoot rb ao' k → RefFoot rb ao k ∨ w.heap.size ≤ k) :
    Two w' base wb db rb root D time' ao' cap' ds' ∧ Below base w w' := by
  have hw : w'.heap[wb]? = w.heap[wb]? := hc.block wb h.wlt h.a3
  refine ⟨⟨(World.cell?_of_block hw).trans h.p0, (World.cell?_of_block hw).trans h.p1, h.dep.keep (fun k hk => hc.block k (h.dep.foot hk).2 (h.a1 k hk)) (hc.block _ h.dep.tab.lt (fun hk => by have := h.b2 _ hk; have := h.b4; omega)), hd, h.rt, ?_, h.a2, ?_, h.b1, ?_, Nat.le_trans h.b3 hc.size, h.b4⟩, hc.below h.b3 h.b2⟩
  · intro k hk hr
    rcases hf k hr with h1 | h1
    · exact h.a1 k hk h1
    · have := (h.dep.foot hk).2; omega
  · intro hk
    rcases hf wb hk with h1 | h1
    · exact h.a3 h1
    · have := h.wlt; omega
  · intro k hk
    rcases hf k hk with h1 | h1
    · exact h.b2 k h1
    · have := h.b3; omega

theorem Two.below (h : Two w base wb db rb root D time ao cap ds) (hb : Below w.heap.size w w') : Two w' base wb db rb root D time ao cap ds :=
  (h.dstep (h.dep.below hb) h.rt (Chg.ofBelow hb) (fun _ h => Or.inl h)).1

theorem RefAt.same (h : RefAt w rb root time ao cap ds) (hh : w'.heap = w.heap) : RefAt w' rb root time ao cap ds := h.keep fun k _ => by rw [hh]

theorem Chg.start_of {S : Nat → Prop} {W : World} (h : Chg S W w') (h0 : W.heap = w.heap) (h1 : W.os = w.os) (h2 : W.tape = w.tape) (h3 : W.output = w.output) : Chg S w w' :=
  ⟨h.os.trans h1, h.tape.trans h2, h.output.trans h3, by have := h.size; rw [h0] at this; exact this, fun k hk hn => by rw [h.block k (by rw [h0]; exact hk) hn, h0]⟩

end

def goneN (ts : List Tok) : Nat := (ts.filter fun t => t.gone).length

/-- How many deeds of stage 1 stand behind what a depot holds. -/
def weight : List PHse → Nat
  | [] => 0
  | h :: hs => 1 + h.toks.length + goneN h.toks + weight hs

theorem weight_le (hs : List PHse) (h : ∀ x ∈ hs, x.toks.length ≤ 8) : weight hs ≤ hs.length * 17 := by
  induction hs with
  | nil => simp [weight]
  | cons x hs ih =>
    have h0 := h x (by simp)
    have hg : goneN x.toks ≤ x.toks.length := List.length_filter_le _ _
    have := ih (fun y hy => h y (by simp [hy]))
    simp [weight] at *
    omega

theorem weight_snoc (hs : List PHse) (h : PHse) : weight (hs ++ [h]) = weight hs + (1 + h.toks.length + goneN h.toks) := by
  induction hs with
  | nil => simp [weight]
  | cons x hs ih => simp [weight, ih]; omega

theorem weight_upd (hs : List PHse) (nm : ByteArray) (f : PHse → PHse) (x : PHse) (hx : hseF hs nm = some x) (h : (f x).toks.length + goneN (f x).toks = x.toks.length + goneN x.toks + 1) : weight (updH hs nm f) = weight hs + 1 := by
  induction hs with
  | nil => cases hx
  | cons y hs ih =>
    unfold hseF at hx
    rw [List.find?_cons] at hx
    unfold updH
    cases hy : (y.name.toList == nm.toList) with
    | true =>
      rw [hy] at hx
      injection hx with hx
      subst hx
      simp [weight]; omega
    | false =>
      rw [hy] at hx
      have := ih hx
      simp [weight, this]; omega

theorem goneN_rev (ts : List Tok) (old : Int) {t : Tok} (h : tokF ts old = some t) (hg : t.gone = false) : goneN (revTok ts old) = goneN ts + 1 := by
  induction ts with
  | nil => cases h
  | cons x ts ih =>
    have e : revTok (x :: ts) old = if (x.num == old) = true then { x with gone := true } :: ts else x :: revTok ts old := rfl
    rw [e]
    unfold tokF at h
    rw [List.find?_cons] at h
    cases hx : (x.num == old) with
    | true =>
      rw [hx] at h
      injection h with h
      subst h
      simp [goneN, hg]
    | false =>
      rw [hx] at h
      have := ih h
      simp only [Bool.false_eq_true, if_false]
      unfold goneN at *
      rw [List.filter_cons, List.filter_cons]
      cases x.gone <;> simp <;> omega

/-- A deed is of no log, or its numbers are written without signs; its wants are no greater than any machine's. -/
def DeedWrit (x : Deed) : Prop := ((x.kind.toList == kFound.toList) = true ∨ DeedUp x) ∧ x.wants.size ≤ 1000000000

/-- The root's number and those of all deeds are written without signs. -/
def Ups (root : Int) (ds : List Deed) : Prop := 0 ≤ root ∧ ∀ x ∈ ds, DeedWrit x

theorem up_zero : Up 0 := ⟨by decide, by decide⟩

theorem Ups.snoc {root : Int} {ds : List Deed} {x : Deed} (h : Ups root ds) (hx : DeedWrit x) : Ups root (ds ++ [x]) :=
  ⟨h.1, fun y hy => by
    rcases List.mem_append.1 hy with hy | hy
    · exact h.2 y hy
    · simp at hy; subst hy; exact hx⟩

theorem deed_up {root : Int} {ds : List Deed} {k nm : ByteArray} {n : Int} {x : Deed} (hu : Ups root ds) (hk : (k.toList == kFound.toList) = false) (h : deedF ds k nm n = some x) : Up n := by
  unfold deedF at h
  have h1 := List.mem_of_find?_eq_some h
  have h2 := List.find?_some h
  unfold deedP at h2
  simp only [Bool.and_eq_true, beq_iff_eq] at h2
  rcases (hu.2 x (by simpa using h1)).1 with h3 | h3
  · rw [h2.1.1] at h3; rw [hk] at h3; cases h3
  · rw [← h2.2]; exact h3.2.1

theorem held_up {P : PDep} {ds : List Deed} (s : Sim P ds) {root : Int} (hr : P.root = root) (hu : Ups root ds) {house : ByteArray} {id : Int} (h : heldF P house id ≠ 0) : 0 ≤ id := by
  rw [role_agree s house id, hr] at h
  unfold roleF at h
  split at h
  · split at h
    · rename_i he
      rw [beq_iff_eq.1 he]; exact hu.1
    · exact absurd rfl h
  · split at h
    · exact absurd rfl h
    · rename_i x hx
      exact (deed_up hu (by simp) hx).1

theorem tok_up {P : PDep} {ds : List Deed} (s : Sim P ds) {root : Int} (hu : Ups root ds) {nm : ByteArray} {h : PHse} (hh : hseF P.hs nm = some h) {n : Int} {t : Tok} (ht : tokF h.toks n = some t) : Up n := by
  have h3 := s.s3 nm n
  rw [tk_some hh, ht] at h3
  cases hx : deedF ds kMint nm n with
  | none => rw [hx] at h3; cases h3
  | some x => exact deed_up hu (by simp) hx

theorem manage_held {r : Int} {b : Bool} (h : manageF r b = 0) : r ≠ 0 := by
  intro e
  subst e
  simp [manageF] at h

theorem work_held {r k : Int} (h : workF r k = 0) : r ≠ 0 := by
  intro e
  subst e
  simp [workF] at h

theorem mintP_up {m : Int} {hs : List PHse} {of : ByteArray} {role fresh till : Int} (h : mintP m hs of role fresh till = 0) : m = 0 ∧ 1 ≤ role ∧ role ≤ 3 ∧ 1 ≤ fresh ∧ 1 ≤ till := by
  unfold mintP at h
  split at h
  · rename_i hm
    rw [h] at hm
    exact absurd hm (by decide)
  · rename_i hm
    refine ⟨by simpa using hm, ?_⟩
    split at h
    · cases h
    · unfold mintT at h
      split at h
      · cases h
      · omega

theorem revokeP_up {m : Int} {hs : List PHse} {of : ByteArray} {old : Int} (h : revokeP m hs of old = 0) : m = 0 := by
  unfold revokeP at h
  split at h
  · rename_i hm
    rw [h] at hm
    exact absurd hm (by decide)
  · rename_i hm
    simpa using hm

/-- The two depots, tied; at most n deeds; with tk, none but of stage 1. -/
def Inv (w : World) (base wb db rb : Nat) (root : Int) (n : Nat) (tk : Bool) : Prop :=
  ∃ D ao cap ds, Two w base wb db rb root D D.clock ao cap ds ∧ Sim D.pure ds ∧ (0 ≤ D.clock ∧ D.clock ≤ 1099511627776) ∧ ds.length ≤ n ∧ (tk = true → ds.length = weight D.pure.hs) ∧ Ups root ds

theorem Inv.below {w w' : World} {base wb db rb : Nat} {root : Int} {n : Nat} {tk : Bool} (h : Inv w base wb db rb root n tk) (hb : Below w.heap.size w w') : Inv w' base wb db rb root n tk := by
  obtain ⟨D, ao, cap, ds, h1, h2⟩ := h
  exact ⟨D, ao, cap, ds, h1.below hb, h2⟩

theorem deeds_few {w : World} {db : Nat} {D : DepD} {ds : List Deed} {n : Nat} {tk : Bool} (h : DepAt w db D) (hn : ds.length ≤ n) (hw : tk = true → ds.length = weight D.pure.hs) (hf : tk = true ∨ n ≤ 100000000000) : ds.length ≤ 1000000000000 := by
  rcases hf with hf | hf
  · have h1 := weight_le D.pure.hs h.lens.t
    have h2 := h.lens.h
    rw [hw hf]
    omega
  · omega

theorem yanks_few {w : World} {db : Nat} {D : DepD} {ds : List Deed} {n : Nat} {tk : Bool} (h : DepAt w db D) (hS : Sim D.pure ds) (hn : ds.length ≤ n) (hw : tk = true → ds.length = weight D.pure.hs) (hf : tk = true ∨ n ≤ 100000000000) : D.yanks < 200000000000 := by
  have h0 : D.yanks ≤ ds.length := hS.s16
  rcases hf with hf | hf
  · have h1 := weight_le D.pure.hs h.lens.t
    have h2 := h.lens.h
    have := hw hf
    omega
  · omega

/-- Behind a step: what both hold is tied. -/
theorem inv_next {w : World} {base wb db rb : Nat} {root : Int} {D D2 : DepD} {ao2 : Option Addr} {cap2 : Nat} {ds : List Deed} {n : Nat} {tk tk' : Bool} {E : Int} {Q : PDep} {x : Deed}
    (hT : Two w base wb db rb root D2 D.clock ao2 cap2 (nextDs E ds x)) (hp : D2.pure = stepP E D.pure Q) (hS : Sim D.pure ds) (hc : 0 ≤ D.clock ∧ D.clock ≤ 1099511627776) (hn : ds.length ≤ n) (htk : tk = true → ds.length = weight D.pure.hs) (hu : Ups root ds)
    (hq : Q.clock = D.clock) (hst : E = 0 → Sim Q (ds ++ [x])) (ht' : tk' = true → tk = true) (hwt : E = 0 → tk' = true → weight Q.hs = weight D.pure.hs + 1) (hux : E = 0 → DeedWrit x) : Inv w base wb db rb root (n + 1) tk' := by
  have hclk : D2.clock = D.clock := by
    have := congrArg PDep.clock hp
    have e : D2.pure.clock = D2.clock := rfl
    rw [e] at this
    rw [this]
    unfold stepP
    split
    · exact hq
    · rfl
  by_cases he : E = 0
  · have hp' : D2.pure = Q := by rw [hp, stepP, if_pos he]
    subst he
    rw [nextDs_yes] at hT
    refine ⟨D2, ao2, cap2, _, by rw [hclk]; exact hT, by rw [hp']; exact hst rfl, by rw [hclk]; exact hc, by simp; omega, fun h => ?_, hu.snoc (hux rfl)⟩
    rw [hp', hwt rfl h, ← htk (ht' h)]
    simp
  · have hp' : D2.pure = D.pure := by rw [hp, stepP, if_neg he]
    rw [nextDs_no he] at hT
    exact ⟨D2, ao2, cap2, ds, by rw [hclk]; exact hT, by rw [hp']; exact hS, by rw [hclk]; exact hc, by omega, fun h => by rw [hp']; exact htk (ht' h), hu⟩

end Go.Proofs.YtgcldedkempjhabGreatDoor
