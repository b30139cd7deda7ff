/-
  The program's answers are the document's, where the houses and the deeds are tied.
-/
import Derived.Test.YtdddbinlkljbcaaSim
namespace Go.Proofs.Ytdddbinlkljbcaa
open Go.RowKit

theorem role_agree {hs : List Hse} {ds : List Deed} (s : Sim hs ds) (root time : Int) (house : ByteArray) (id : Int) : heldF root time hs house id = roleF root time ds house id := by
  unfold heldF roleF
  cases house.toList.isEmpty with
  | true => rfl
  | false =>
    have h3 := s.s3 house id
    have h4 := s.s4 house id
    unfold tk at h3 h4
    simp only [Bool.false_eq_true, if_false]
    cases hh : hseF hs house with
    | none =>
      rw [hh] at h3
      cases hd : deedF ds kMint house id with
      | none => rfl
      | some x => rw [hd] at h3; simp at h3
    | some h =>
      rw [hh] at h3 h4
      simp only at h3 h4 ⊢
      unfold roleT
      cases ht : tokF h.toks id with
      | none =>
        rw [ht] at h3
        cases hd : deedF ds kMint house id with
        | none => rfl
        | some x => rw [hd] at h3; simp at h3
      | some t =>
        rw [ht] at h3 h4
        cases hd : deedF ds kMint house id with
        | none => rw [hd] at h3; simp at h3
        | some x =>
          rw [hd] at h3
          simp at h3
          rw [h4]
          simp only [goneOf, h3.1, h3.2]

theorem found_agree {hs : List Hse} {ds : List Deed} (s : Sim hs ds) (hlen : hs.length ≤ 6) (r : Int) (b1 : Bool) (name : ByteArray) :
    foundP r b1 (hseF hs name).isSome hs.length = foundE r b1 (decide (0 < didF ds kFound name)) (nFound ds) := by
  rw [s.s2, s.s1]
  have : (((hs.length : Nat) : Int) == 6) = decide (6 ≤ hs.length) := by
    rw [Bool.eq_iff_iff]; simp; omega
  unfold foundP foundE
  rw [this]
  simp

/-- Who may manage: of a house that is not there, Root alone is told so. -/
theorem manage_agree {hs : List Hse} {ds : List Deed} (s : Sim hs ds) (root time : Int) (house : ByteArray) (id : Int) (of : ByteArray) :
    (manageF (heldF root time hs house id) (house.toList == of.toList) ≠ 0 ∧ governsE (roleF root time ds house id) (decide (0 < didF ds kFound of)) (house.toList == of.toList) = manageF (heldF root time hs house id) (house.toList == of.toList)) ∨
    (manageF (heldF root time hs house id) (house.toList == of.toList) = 0 ∧ governsE (roleF root time ds house id) (decide (0 < didF ds kFound of)) (house.toList == of.toList) = if (hseF hs of).isSome then 0 else 7) := by
  rw [← role_agree s root time house id, s.s2 of]
  have hsome : (house.toList == of.toList) = true → heldF root time hs house id = 3 → (hseF hs of).isSome = true := by
    intro he h3
    rw [← hseF_key hs (beq_iff_eq.1 he)]
    unfold heldF at h3
    cases hh : hseF hs house with
    | some x => rfl
    | none =>
      rw [hh] at h3
      split at h3
      · split at h3 <;> exact absurd h3 (by decide)
      · have h3' : (0 : Int) = 3 := h3
        exact absurd h3' (by decide)
  generalize heldF root time hs house id = r at *
  unfold manageF governsE
  by_cases h0 : r = 0
  · subst h0; exact Or.inl ⟨by simp, rfl⟩
  · have b0 : (r == 0) = false := beq_eq_false_iff_ne.2 h0
    by_cases h4 : r = 4
    · subst h4; exact Or.inr ⟨rfl, by cases (hseF hs of).isSome <;> rfl⟩
    · have b4 : (r == 4) = false := beq_eq_false_iff_ne.2 h4
      by_cases h3 : r = 3
      · subst h3
        cases hc : (house.toList == of.toList) with
        | false => exact Or.inl ⟨by simp, rfl⟩
        | true =>
          have := hsome hc rfl
          rw [this]
          exact Or.inr ⟨rfl, rfl⟩
      · have b3 : (r == 3) = false := beq_eq_false_iff_ne.2 h3
        simp [b0, b4, b3]

theorem mintT_agree {ts : List Tok} {role fresh till : Int} (h8 : ts.length ≤ 8) : mintT ts role fresh till = mintE 0 role fresh till (tokF ts fresh).isSome ts.length := by
  have : (((ts.length : Nat) : Int) == 8) = decide (8 ≤ ts.length) := by
    rw [Bool.eq_iff_iff]; simp; omega
  unfold mintT mintE
  rw [this]
  have hc : (role < 1 ∨ 3 < role ∨ fresh < 1 ∨ till < 1) ↔ (role < 1 ∨ 3 < role ∨ fresh ≤ 0 ∨ till ≤ 0) := by omega
  simp [hc]

theorem tk_some {hs : List Hse} {of : ByteArray} {h : Hse} (hh : hseF hs of = some h) (n : Int) : tk hs of n = tokF h.toks n := by unfold tk; rw [hh]
theorem tk_none {hs : List Hse} {of : ByteArray} (hh : hseF hs of = none) (n : Int) : tk hs of n = none := by unfold tk; rw [hh]

theorem mintD_some {hs : List Hse} {ds : List Deed} (s : Sim hs ds) (of : ByteArray) (n : Int) : (deedF ds kMint of n).isSome = (tk hs of n).isSome := by
  have := congrArg Option.isSome (s.s3 of n)
  simpa using this

theorem mint_agree {hs : List Hse} {ds : List Deed} (s : Sim hs ds) (htl : ∀ i, (hi : i < hs.length) → hs[i].toks.length ≤ 8) (root time : Int) (house : ByteArray) (id : Int) (of : ByteArray) (role fresh till : Int) :
    mintP (manageF (heldF root time hs house id) (house.toList == of.toList)) hs of role fresh till =
    mintE (governsE (roleF root time ds house id) (decide (0 < didF ds kFound of)) (house.toList == of.toList)) role fresh till (deedF ds kMint of fresh).isSome (didF ds kMint of) := by
  rw [mintD_some s, s.s5 of]
  rcases manage_agree s root time house id of with ⟨h1, h2⟩ | ⟨h1, h2⟩
  · rw [h2]
    have hb := bne_iff_ne.2 h1
    unfold mintP
    rw [if_pos hb, mintE_g hb]
  · rw [h2, h1]
    unfold mintP
    rcases hse_cases hs of with ⟨i, hi, _, _, h3⟩ | ⟨_, h3⟩
    · rw [h3, tk_some h3]
      have hc : hcount hs of = hs[i].toks.length := by unfold hcount; rw [h3]
      rw [hc]
      simpa using mintT_agree (htl i hi)
    · rw [h3, mintE_g (by decide)]; rfl

theorem revoke_agree {hs : List Hse} {ds : List Deed} (s : Sim hs ds) (root time : Int) (house : ByteArray) (id : Int) (of : ByteArray) (old : Int) :
    revokeP (manageF (heldF root time hs house id) (house.toList == of.toList)) hs of old =
    revokeE (governsE (roleF root time ds house id) (decide (0 < didF ds kFound of)) (house.toList == of.toList)) (deedF ds kMint of old).isSome (deedF ds kRevoke of old).isSome := by
  rw [mintD_some s, s.s4 of]
  rcases manage_agree s root time house id of with ⟨h1, h2⟩ | ⟨h1, h2⟩
  · rw [h2]
    have hb := bne_iff_ne.2 h1
    unfold revokeP revokeE
    rw [if_pos hb, if_pos hb]
  · rw [h2, h1]
    unfold revokeP
    cases h3 : hseF hs of with
    | some h =>
      rw [tk_some h3]
      unfold revokeE revokeT
      cases hto : tokF h.toks old with
      | none => simp [hto]
      | some t => cases ht : t.gone <;> simp [goneOf, ht, hto]
    | none =>
      unfold revokeE
      rfl

/-- What a minted number was: free. -/
theorem mintP_ok {m : Int} {hs : List Hse} {of : ByteArray} {role fresh till : Int} (h : mintP m hs of role fresh till = 0) {i : Nat} {hi : i < hs.length} (hf : FirstH hs of i hi) : tokF hs[i].toks fresh = none := by
  unfold mintP at h
  split at h
  · rename_i hm
    rw [h] at hm
    exact absurd hm (by decide)
  · rw [hseF_first hf] at h
    simp only [mintT] at h
    split at h
    · cases h
    · split at h
      · cases h
      · rename_i _ hn
        cases hc : tokF hs[i].toks fresh with
        | none => rfl
        | some x => rw [hc] at hn; simp at hn

theorem revokeP_ok {m : Int} {hs : List Hse} {of : ByteArray} {old : Int} (h : revokeP m hs of old = 0) {i : Nat} {hi : i < hs.length} (hf : FirstH hs of i hi) {j : Nat} {hj : j < hs[i].toks.length} (hft : FirstT hs[i].toks old j hj) : hs[i].toks[j].gone = false := by
  unfold revokeP at h
  split at h
  · rename_i hm
    rw [h] at hm
    exact absurd hm (by decide)
  · rw [hseF_first hf] at h
    simp only [revokeT] at h
    rw [tokF_first hft] at h
    simp only at h
    cases hg : hs[i].toks[j].gone with
    | false => rfl
    | true => rw [hg] at h; simp at h

theorem foundP_ok {r : Int} {b1 : Bool} {hs : List Hse} {name : ByteArray} {n : Nat} (h : foundP r b1 (hseF hs name).isSome n = 0) : hseF hs name = none := by
  unfold foundP at h
  repeat (split at h; · cases h)
  cases hc : hseF hs name with
  | none => rfl
  | some x =>
    rename_i h1 _
    rw [hc] at h1
    simp at h1

end Go.Proofs.Ytdddbinlkljbcaa
