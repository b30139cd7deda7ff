/-
  depotkeep: Blind: two depots side by side.
-/
import Derived.Test.YtgcldedkempjhaaDoorBlindA
import Derived.Test.YtgcldedkempjhaaDoorKnown
namespace Go.Proofs.YtgcldedkempjhaaDoor
open Go.RowKit

structure TwoX (w : World) (base d1 d2 : Nat) (D1 D2 : DepD) : Prop where
  x : DepAt w d1 D1
  y : DepAt w d2 D2
  a : ∀ k, DepFoot d1 D1 k → ¬ DepFoot d2 D2 k
  b1 : ∀ k, DepFoot d1 D1 k → base ≤ k
  b2 : ∀ k, DepFoot d2 D2 k → base ≤ k
  b3 : base ≤ w.heap.size
  b4 : tabB < base

section
variable {w w' : World} {base d1 d2 : Nat} {D1 D2 : DepD} {P' : PDep}

theorem TwoX.sym (h : TwoX w base d1 d2 D1 D2) : TwoX w base d2 d1 D2 D1 := ⟨h.y, h.x, fun k h1 h2 => h.a k h2 h1, h.b2, h.b1, h.b3, h.b4⟩

theorem TwoX.stepx (h : TwoX w base d1 d2 D1 D2) (hst : DepStep w w' d1 D1 P') : ∃ D', TwoX w' base d1 d2 D' D2 ∧ D'.pure = P' ∧ Below base w w' := by
  obtain ⟨D', hd, hR, hc, hf⟩ := hst
  refine ⟨D', ⟨hd, h.y.keep (fun k hk => hc.block k (h.y.foot hk).2 (fun hk' => h.a k hk' hk)) (hc.block _ h.y.tab.lt (fun hk => by have := h.b1 _ hk; have := h.b4; omega)), ?_, ?_, h.b2, Nat.le_trans h.b3 hc.size, h.b4⟩, hR, hc.below h.b3 h.b1⟩
  · intro k hk hr
    rcases hf k hk with h1 | h1
    · exact h.a k h1 hr
    · have := (h.y.foot hr).2; omega
  · intro k hk
    rcases hf k hk with h1 | h1
    · exact h.b1 k h1
    · have := h.b3; omega

theorem TwoX.stepy (h : TwoX w base d1 d2 D1 D2) (hst : DepStep w w' d2 D2 P') : ∃ D', TwoX w' base d1 d2 D1 D' ∧ D'.pure = P' ∧ Below base w w' := by
  obtain ⟨D', h1, h2⟩ := h.sym.stepx hst
  exact ⟨D', h1.sym, h2⟩

theorem TwoX.below (h : TwoX w base d1 d2 D1 D2) (hb : Below w.heap.size w w') : TwoX w' base d1 d2 D1 D2 :=
  ⟨h.x.below hb, h.y.below hb, h.a, h.b1, h.b2, Nat.le_trans h.b3 hb.size, h.b4⟩

end

/-- Two depots, the second without what g did. -/
structure BAt (w wr : World) (base d1 d2 k : Nat) (D1 D2 : DepD) : Prop where
  two : TwoX wr base d1 d2 D1 D2
  bel : Below base w wr
  eq : blurP D1.pure = blurP D2.pure
  o1 : BOk D1.pure
  o2 : BOk D2.pure
  c0 : 0 ≤ D1.clock
  c1 : D1.clock ≤ 1099511627776
  y1 : D1.yanks ≤ k
  y2 : D2.yanks ≤ k

def BInv (w wr : World) (base d1 d2 k : Nat) : Prop := ∃ D1 D2, BAt w wr base d1 d2 k D1 D2

section
variable {w wr w' w3 w4 : World} {base d1 d2 k : Nat} {D1 D2 : DepD}

theorem BAt.clock (h : BAt w wr base d1 d2 k D1 D2) : D2.clock = D1.clock := (congrArg PDep.clock h.eq).symm

theorem BAt.below (h : BAt w wr base d1 d2 k D1 D2) (hb : Below wr.heap.size wr w') : BAt w w' base d1 d2 k D1 D2 :=
  ⟨h.two.below hb, h.bel.trans (hb.mono h.two.b3), h.eq, h.o1, h.o2, h.c0, h.c1, h.y1, h.y2⟩

theorem BAt.next (h : BAt w wr base d1 d2 k D1 D2) : BAt w wr base d1 d2 (k + 1) D1 D2 :=
  ⟨h.two, h.bel, h.eq, h.o1, h.o2, h.c0, h.c1, Nat.le_succ_of_le h.y1, Nat.le_succ_of_le h.y2⟩

/-- g's turn, on the first depot alone. -/
theorem BAt.one (h : BAt w wr base d1 d2 k D1 D2) {x : TurnD} (hw : showsH x.who = kG) (hc : 0 ≤ x.kind ∧ x.kind ≤ 10) (hg : x.kind = 6 → (x.t.toList == kH.toList) = false) (hst : DepStep wr w3 d1 D1 (callS D1.pure x)) : BInv w w3 base d1 d2 (k + 1) := by
  obtain ⟨D', h1, h2, h3⟩ := h.two.stepx hst
  have hcl := callS_clock (P := D1.pure) (x := x) h.c0 h.c1
  have hy := callS_yanks D1.pure x
  rw [← h2] at hcl hy
  refine ⟨D', D2, h1, h.bel.trans h3, ?_, ?_, h.o2, hcl.1, hcl.2, Nat.le_trans hy (Nat.succ_le_succ h.y1), Nat.le_succ_of_le h.y2⟩
  · rw [h2, callS_g h.o1 x hw hc, h.eq]
  · rw [h2]
    exact callS_ok h.o1 x (fun k6 _ => hg k6)

theorem BAt.both (h : BAt w wr base d1 d2 k D1 D2) {x : TurnD} (hn : (x.kind = 11 ∨ 12 ≤ x.kind ∨ x.kind < 0) ∨ ((showsH x.who).toList == kG.toList) = false) (hg : x.kind = 6 → ((showsH x.who).toList == kG.toList) = true → (x.t.toList == kH.toList) = false)
    (h3 : DepStep wr w3 d1 D1 (callS D1.pure x)) (h4 : ∀ D1', TwoX w3 base d1 d2 D1' D2 → DepStep w3 w4 d2 D2 (callS D2.pure x)) : BInv w w4 base d1 d2 (k + 1) := by
  obtain ⟨D', t1, p1, b1⟩ := h.two.stepx h3
  obtain ⟨E', t2, p2, b2⟩ := t1.stepy (h4 D' t1)
  have hcl := callS_clock (P := D1.pure) (x := x) h.c0 h.c1
  have hy1 := callS_yanks D1.pure x
  have hy2 := callS_yanks D2.pure x
  rw [← p1] at hcl hy1
  rw [← p2] at hy2
  refine ⟨D', E', t2, (h.bel.trans b1).trans b2, ?_, ?_, ?_, hcl.1, hcl.2, Nat.le_trans hy1 (Nat.succ_le_succ h.y1), Nat.le_trans hy2 (Nat.succ_le_succ h.y2)⟩
  · rw [p1, p2, callS_blur D1.pure x hn, callS_blur D2.pure x hn, h.eq]
  · rw [p1]
    exact callS_ok h.o1 x hg
  · rw [p2]
    exact callS_ok h.o2 x hg

theorem BAt.same (h : BAt w wr base d1 d2 k D1 D2) {x : TurnD} (hn : (x.kind = 11 ∨ 12 ≤ x.kind ∨ x.kind < 0) ∨ showsH x.who = kH) : callA D1.pure x = callA D2.pure x := by
  rw [callA_blur h.o1 x hn, callA_blur h.o2 x hn, h.eq]

end

theorem bok_P1 : BOk P1 := by
  obtain ⟨log, e⟩ := known_h1
  refine ⟨fun h hm hn r hr => ?_, fun h hm t ht => ?_⟩
  · rw [e] at hm
    simp only [List.mem_cons, List.not_mem_nil, or_false] at hm
    rcases hm with rfl | rfl <;> cases hr
  · rw [e] at hm
    simp only [List.mem_cons, List.not_mem_nil, or_false] at hm
    rcases hm with rfl | rfl <;> (obtain rfl := List.mem_singleton.1 ht; decide)

end Go.Proofs.YtgcldedkempjhaaDoor
