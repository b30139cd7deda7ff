/-
  depotkeep: what a text chooses.
-/
import Derived.Test.YtgcldedkempjhaaDoorSlvSort
import Derived.Test.YtgcldedkempjhaaDoorShopR
import Derived.Test.YtgcldedkempjhaaDoorShopM
import Derived.Test.YtgcldedkempjhaaDoorDepRes
namespace Go.Proofs.YtgcldedkempjhaaDoor
section

section
variable {α : Type}

theorem tries_yes {f : List (Wt α) → List (α × Nat) → Nat → Res α} {cd : Nat → Option (List (Wt α))} {rest : List (Wt α)} {ch : List (α × Nat)} {w : Wt α} : ∀ (v left left' : Nat) (r : List (α × Nat)), tries f cd rest ch w v left = some (left', some r) →
    ∃ u l n n', u < v ∧ w.has ((u + 1 : Nat) : Int) = true ∧ cd (u + 1) = some l ∧ f (rest ++ l) ((w.n, u + 1) :: ch) n = some (n', some r) ∧ ∀ z, u < z → z < v → w.has ((z + 1 : Nat) : Int) = true → ∀ l', cd (z + 1) = some l' → ∃ m m', f (rest ++ l') ((w.n, z + 1) :: ch) m = some (m', none) := by
  intro v
  induction v with
  | zero => intro left left' r h; simp [tries] at h
  | succ v ih =>
    intro left left' r h
    unfold tries at h
    split at h
    · rename_i hc
      obtain ⟨u, l, n, n', h1, h2, h3, h4, h5⟩ := ih left left' r h
      refine ⟨u, l, n, n', by omega, h2, h3, h4, fun z hz hz2 hh l' hl' => ?_⟩
      by_cases e : z = v
      · subst e
        rw [if_pos hh, hl'] at hc
        cases hc
      · exact h5 z hz (by omega) hh l' hl'
    · rename_i l hc
      split at h
      · cases h
      · rename_i n
        split at h
        · rename_i n2 hf
          obtain ⟨u, l2, m, m', h1, h2, h3, h4, h5⟩ := ih n2 left' r h
          refine ⟨u, l2, m, m', by omega, h2, h3, h4, fun z hz hz2 hh l' hl' => ?_⟩
          by_cases e : z = v
          · subst e
            rw [if_pos hh, hl'] at hc
            injection hc with hc
            subst hc
            exact ⟨_, _, hf⟩
          · exact h5 z hz (by omega) hh l' hl'
        · have hw : w.has ((v + 1 : Nat) : Int) = true := by
            cases hb : w.has ((v + 1 : Nat) : Int) with
            | true => rfl
            | false => rw [hb] at hc; cases hc
          rw [if_pos hw] at hc
          exact ⟨v, l, n, left', by omega, hw, hc, h, fun z hz hz2 => by omega⟩

theorem tries_no {f : List (Wt α) → List (α × Nat) → Nat → Res α} {cd : Nat → Option (List (Wt α))} {rest : List (Wt α)} {ch : List (α × Nat)} {w : Wt α} : ∀ (v left left' : Nat), tries f cd rest ch w v left = some (left', none) →
    ∀ z, z < v → w.has ((z + 1 : Nat) : Int) = true → ∀ l', cd (z + 1) = some l' → ∃ m m', f (rest ++ l') ((w.n, z + 1) :: ch) m = some (m', none) := by
  intro v
  induction v with
  | zero => intro left left' h z hz; omega
  | succ v ih =>
    intro left left' h z hz hh l' hl'
    unfold tries at h
    split at h
    · rename_i hc
      by_cases e : z = v
      · subst e
        rw [if_pos hh, hl'] at hc
        cases hc
      · exact ih left left' h z (by omega) hh l' hl'
    · rename_i l hc
      split at h
      · cases h
      · rename_i n
        split at h
        · rename_i n2 hf
          by_cases e : z = v
          · subst e
            rw [if_pos hh, hl'] at hc
            injection hc with hc
            subst hc
            exact ⟨_, _, hf⟩
          · exact ih n2 left' h z (by omega) hh l' hl'
        · rename_i hne
          exact absurd h (hne left')

/-- With more steps to go the same is found, and as many more are left. -/
theorem tries_more (f : List (Wt α) → List (α × Nat) → Nat → Res α) (hf : ∀ t c l l' o d, f t c l = some (l', o) → f t c (l + d) = some (l' + d, o)) (cd : Nat → Option (List (Wt α))) (rest : List (Wt α)) (ch : List (α × Nat)) (w : Wt α) (d : Nat) (v : Nat) : ∀ (left left' : Nat) (o : Option (List (α × Nat))), tries f cd rest ch w v left = some (left', o) → tries f cd rest ch w v (left + d) = some (left' + d, o) := by
  induction v with
  | zero =>
    intro left left' o h
    simp only [tries, Option.some.injEq, Prod.mk.injEq] at h ⊢
    exact ⟨by omega, h.2⟩
  | succ v ih =>
    intro left left' o h
    cases hc : (if w.has ((v + 1 : Nat) : Int) then cd (v + 1) else none) with
    | none =>
      rw [tries_skip hc] at h ⊢
      exact ih left left' o h
    | some l =>
      cases left with
      | zero => rw [tries_broke hc] at h; cases h
      | succ n =>
        rw [show n + 1 + d = (n + d) + 1 by omega]
        cases hx : f (rest ++ l) ((w.n, v + 1) :: ch) n with
        | none =>
          rw [tries_else hc hx (fun x hx => by cases hx)] at h
          cases h
        | some p =>
          obtain ⟨n2, o2⟩ := p
          cases o2 with
          | none =>
            rw [tries_failed hc hx] at h
            rw [tries_failed hc (hf _ _ _ _ _ d hx)]
            exact ih n2 left' o h
          | some r =>
            rw [tries_else hc hx (fun x hx => by cases hx)] at h
            simp only [Option.some.injEq, Prod.mk.injEq] at h
            obtain ⟨e1, e2⟩ := h
            subst e1 e2
            rw [tries_else hc (hf _ _ _ _ _ d hx) (fun x hx => by cases hx)]

theorem tries_less (f : List (Wt α) → List (α × Nat) → Nat → Res α) (hl : ∀ t c l l' o, f t c l = some (l', o) → l' ≤ l) (hf : ∀ t c l l' o d, f t c (l + d) = some (l' + d, o) → f t c l = some (l', o)) (cd : Nat → Option (List (Wt α))) (rest : List (Wt α)) (ch : List (α × Nat)) (w : Wt α) (d : Nat) (v : Nat) : ∀ (left left' : Nat) (o : Option (List (α × Nat))), tries f cd rest ch w v (left + d) = some (left' + d, o) → tries f cd rest ch w v left = some (left', o) := by
  induction v with
  | zero =>
    intro left left' o h
    simp only [tries, Option.some.injEq, Prod.mk.injEq] at h ⊢
    exact ⟨by omega, h.2⟩
  | succ v ih =>
    intro left left' o h
    cases hc : (if w.has ((v + 1 : Nat) : Int) then cd (v + 1) else none) with
    | none =>
      rw [tries_skip hc] at h ⊢
      exact ih left left' o h
    | some l =>
      cases left with
      | zero =>
        cases d with
        | zero => rw [Nat.zero_add, tries_broke hc] at h; cases h
        | succ d =>
          exfalso
          rw [show 0 + (d + 1) = d + 1 by omega] at h
          cases hx : f (rest ++ l) ((w.n, v + 1) :: ch) d with
          | none =>
            rw [tries_else hc hx (fun x hx => by cases hx)] at h
            cases h
          | some p =>
            obtain ⟨n2, o2⟩ := p
            have h1 := hl _ _ _ _ _ hx
            cases o2 with
            | none =>
              rw [tries_failed hc hx] at h
              have := tries_left f hl cd rest ch w v _ _ _ h
              omega
            | some r =>
              rw [tries_else hc hx (fun x hx => by cases hx)] at h
              simp only [Option.some.injEq, Prod.mk.injEq] at h
              omega
      | succ n =>
        rw [show n + 1 + d = (n + d) + 1 by omega] at h
        cases hx : f (rest ++ l) ((w.n, v + 1) :: ch) (n + d) with
        | none =>
          rw [tries_else hc hx (fun x hx => by cases hx)] at h
          cases h
        | some p =>
          obtain ⟨n2, o2⟩ := p
          cases o2 with
          | none =>
            rw [tries_failed hc hx] at h
            have h2 := tries_left f hl cd rest ch w v _ _ _ h
            obtain ⟨n3, rfl⟩ : ∃ n3, n2 = n3 + d := ⟨n2 - d, by omega⟩
            rw [tries_failed hc (hf _ _ _ _ _ d hx)]
            exact ih n3 left' o h
          | some r =>
            rw [tries_else hc hx (fun x hx => by cases hx)] at h
            simp only [Option.some.injEq, Prod.mk.injEq] at h
            obtain ⟨e1, e2⟩ := h
            subst e1 e2
            rw [tries_else hc (hf _ _ _ _ _ d hx) (fun x hx => by cases hx)]

theorem tries_enough (f : List (Wt α) → List (α × Nat) → Nat → Res α) (cd : Nat → Option (List (Wt α))) (rest : List (Wt α)) (ch : List (α × Nat)) (w : Wt α) (c : Nat) (hc : 1 ≤ c) (v : Nat)
    (hf : ∀ u l n, u < v → cd (u + 1) = some l → c ≤ n + 1 → ∃ n' o, f (rest ++ l) ((w.n, u + 1) :: ch) n = some (n', o) ∧ n + 1 ≤ n' + c) : ∀ left, v * c ≤ left → ∃ left' o, tries f cd rest ch w v left = some (left', o) ∧ left ≤ left' + v * c := by
  induction v with
  | zero => intro left _; exact ⟨left, none, rfl, by omega⟩
  | succ v ih =>
    intro left hl
    have ih' := ih (fun u l n hu => hf u l n (by omega))
    rw [Nat.succ_mul] at hl ⊢
    cases hx : (if w.has ((v + 1 : Nat) : Int) then cd (v + 1) else none) with
    | none =>
      rw [tries_skip hx]
      obtain ⟨left', o, h1, h2⟩ := ih' left (by omega)
      exact ⟨left', o, h1, by omega⟩
    | some l =>
      have hcd : cd (v + 1) = some l := by
        split at hx
        · exact hx
        · cases hx
      cases left with
      | zero => omega
      | succ n =>
        obtain ⟨n', o, h1, h2⟩ := hf v l n (by omega) hcd (by omega)
        cases o with
        | none =>
          rw [tries_failed hx h1]
          obtain ⟨left', o, h3, h4⟩ := ih' n' (by omega)
          exact ⟨left', o, h3, by omega⟩
        | some r =>
          rw [tries_else hx h1 (fun x hx => by cases hx)]
          exact ⟨n', some r, rfl, by omega⟩

end

section
variable {α : Type} [DecidableEq α]

/-- A want is met by a choice (0: none). -/
def metC (c : α → Nat) (w : Wt α) : Prop := c w.n ≠ 0 ∧ w.has (c w.n) = true

/-- Each that is chosen may be, and what it wants is met. -/
def Closed (cand : α → Nat → Option (List (Wt α))) (c : α → Nat) : Prop := ∀ n, c n ≠ 0 → ∃ l, cand n (c n) = some l ∧ ∀ w ∈ l, metC c w

/-- As Closed, but for what is still to do. -/
def Closing (cand : α → Nat → Option (List (Wt α))) (ch : List (α × Nat)) (todo : List (Wt α)) : Prop := ∀ n, picked ch n ≠ 0 → ∃ l, cand n (picked ch n) = some l ∧ ∀ w ∈ l, metC (picked ch) w ∨ w ∈ todo

/-- A choice keeps what is chosen. -/
def Keeps (ch : List (α × Nat)) (c : α → Nat) : Prop := ∀ n, picked ch n ≠ 0 → c n = picked ch n

theorem picked_cons (ch : List (α × Nat)) (i : α) (v : Nat) (n : α) : picked ((i, v) :: ch) n = if i = n then v else picked ch n := rfl

theorem keeps_cons {ch : List (α × Nat)} {c : α → Nat} {i : α} {v : Nat} (h0 : picked ch i = 0) (h : Keeps ((i, v) :: ch) c) : Keeps ch c := by
  intro n hn
  have hne : i ≠ n := fun e => hn (e ▸ h0)
  have := h n (by rw [picked_cons, if_neg hne]; exact hn)
  rw [this, picked_cons, if_neg hne]

theorem met_keeps {ch : List (α × Nat)} {c : α → Nat} {w : Wt α} (h : Keeps ch c) (hm : metC (picked ch) w) : metC c w := by
  unfold metC
  rw [h w.n hm.1]
  exact hm

/-- Where the list stops, all before is met. -/
theorem skip_met {ch : List (α × Nat)} : ∀ {todo : List (Wt α)} {o : Option (Wt α × List (Wt α))}, skip ch todo = some o → (∀ w ∈ todo, metC (picked ch) w ∨ ∃ p, o = some p ∧ (w = p.1 ∨ w ∈ p.2)) ∧ ∀ p, o = some p → picked ch p.1.n = 0 ∧ p.1 ∈ todo ∧ ∀ w ∈ p.2, w ∈ todo := by
  intro todo
  induction todo with
  | nil =>
    intro o h
    simp only [skip, Option.some.injEq] at h
    subst h
    exact ⟨fun w hw => absurd hw (by simp), fun p hp => by cases hp⟩
  | cons x t ih =>
    intro o h
    by_cases h0 : picked ch x.n = 0
    · rw [skip_at h0, Option.some.injEq] at h
      subst h
      refine ⟨fun w hw => Or.inr ⟨_, rfl, List.mem_cons.1 hw⟩, fun p hp => ?_⟩
      injection hp with hp
      subst hp
      exact ⟨h0, by simp, fun w hw => by simp [hw]⟩
    · cases h1 : x.has (picked ch x.n) with
      | false => rw [skip_bad h0 h1] at h; cases h
      | true =>
        rw [skip_cons h0 h1] at h
        obtain ⟨i1, i2⟩ := ih h
        refine ⟨fun w hw => ?_, fun p hp => ?_⟩
        · cases List.mem_cons.1 hw with
          | inl e => subst e; exact Or.inl ⟨h0, h1⟩
          | inr e => exact i1 w e
        · obtain ⟨a1, a2, a3⟩ := i2 p hp
          exact ⟨a1, by simp [a2], fun w hw => by simp [a3 w hw]⟩

/-- A list fails only where something chosen is not in its want. -/
theorem skip_fails {ch : List (α × Nat)} : ∀ {todo : List (Wt α)}, skip ch todo = none → ∃ w ∈ todo, picked ch w.n ≠ 0 ∧ w.has (picked ch w.n) = false := by
  intro todo
  induction todo with
  | nil => intro h; cases h
  | cons x t ih =>
    intro h
    by_cases h0 : picked ch x.n = 0
    · rw [skip_at h0] at h; cases h
    · cases h1 : x.has (picked ch x.n) with
      | false => exact ⟨x, by simp, h0, h1⟩
      | true =>
        rw [skip_cons h0 h1] at h
        obtain ⟨w, hw, h2⟩ := ih h
        exact ⟨w, by simp [hw], h2⟩

/-- What the search chooses goes together. -/
theorem solve_sound (cand : α → Nat → Option (List (Wt α))) (k : Nat) : ∀ (todo : List (Wt α)) (ch : List (α × Nat)) (left left' : Nat) (r : List (α × Nat)), Closing cand ch todo → solve cand k todo ch left = some (left', some r) →
    Keeps ch (picked r) ∧ (∀ w ∈ todo, metC (picked r) w) ∧ Closed cand (picked r) := by
  have done : ∀ (todo : List (Wt α)) (ch : List (α × Nat)), Closing cand ch todo → skip ch todo = some none → Keeps ch (picked ch) ∧ (∀ w ∈ todo, metC (picked ch) w) ∧ Closed cand (picked ch) := by
    intro todo ch hc hs
    have hm : ∀ w ∈ todo, metC (picked ch) w := fun w hw => ((skip_met hs).1 w hw).elim id (fun ⟨p, hp, _⟩ => by cases hp)
    refine ⟨fun n _ => rfl, hm, fun n hn => ?_⟩
    obtain ⟨l, h1, h2⟩ := hc n hn
    exact ⟨l, h1, fun w hw => (h2 w hw).elim id (hm w)⟩
  induction k with
  | zero =>
    intro todo ch left left' r hc h
    unfold solve at h
    split at h
    · cases h
    · rename_i hs
      simp only [Option.some.injEq, Prod.mk.injEq] at h
      obtain ⟨_, rfl⟩ := h
      exact done todo ch hc hs
    · cases h
  | succ k ih =>
    intro todo ch left left' r hc h
    unfold solve at h
    split at h
    · cases h
    · rename_i hs
      simp only [Option.some.injEq, Prod.mk.injEq] at h
      obtain ⟨_, rfl⟩ := h
      exact done todo ch hc hs
    · rename_i w rest hs
      obtain ⟨m1, m2⟩ := skip_met hs
      obtain ⟨h0, _, _⟩ := m2 _ rfl
      simp only at h0
      obtain ⟨u, l, n, n', _, hw, hl, hf, _⟩ := tries_yes _ _ _ _ h
      have hkeep : ∀ x, metC (picked ch) x → metC (picked ((w.n, u + 1) :: ch)) x := by
        intro x hx
        have hne : w.n ≠ x.n := fun e => hx.1 (e ▸ h0)
        unfold metC
        rw [picked_cons, if_neg hne]
        exact hx
      have hc' : Closing cand ((w.n, u + 1) :: ch) (rest ++ l) := by
        intro n hn
        rw [picked_cons] at hn ⊢
        by_cases e : w.n = n
        · rw [if_pos e]
          subst e
          exact ⟨l, hl, fun x hx => Or.inr (List.mem_append.2 (Or.inr hx))⟩
        · rw [if_neg e] at hn ⊢
          obtain ⟨l2, h1, h2⟩ := hc n hn
          refine ⟨l2, h1, fun x hx => ?_⟩
          rcases h2 x hx with h3 | h3
          · exact Or.inl (hkeep x h3)
          · rcases m1 x h3 with h4 | ⟨p, hp, h4⟩
            · exact Or.inl (hkeep x h4)
            · injection hp with hp
              subst hp
              rcases h4 with rfl | h4
              · refine Or.inl ⟨?_, ?_⟩
                · rw [picked_cons, if_pos rfl]; omega
                · rw [picked_cons, if_pos rfl]; exact hw
              · exact Or.inr (List.mem_append.2 (Or.inl h4))
      obtain ⟨r1, r2, r3⟩ := ih _ _ _ _ _ hc' hf
      refine ⟨keeps_cons h0 r1, fun x hx => ?_, r3⟩
      rcases m1 x hx with h4 | ⟨p, hp, h4⟩
      · exact met_keeps r1 (hkeep x h4)
      · injection hp with hp
        subst hp
        rcases h4 with rfl | h4
        · refine met_keeps r1 ⟨?_, ?_⟩
          · rw [picked_cons, if_pos rfl]; omega
          · rw [picked_cons, if_pos rfl]; exact hw
        · exact r2 x (List.mem_append.2 (Or.inl h4))

/-- Where something goes together the search does not fail. -/
theorem solve_finds (A : List α) (cand : α → Nat → Option (List (Wt α))) (hgood : GoodK (fun i => i ∈ A) cand) (c : α → Nat) (hcl : Closed cand c) (h9 : ∀ n, c n ≤ 9) (k : Nat) : ∀ (todo : List (Wt α)) (ch : List (α × Nat)) (left left' : Nat), freeA A ch ≤ k → GoodW (fun i => i ∈ A) todo → Keeps ch c → (∀ w ∈ todo, metC c w) →
    solve cand k todo ch left ≠ some (left', none) := by
  have bad : ∀ (todo : List (Wt α)) (ch : List (α × Nat)), Keeps ch c → (∀ w ∈ todo, metC c w) → skip ch todo ≠ none := by
    intro todo ch hk hm h
    obtain ⟨w, hw, h1, h2⟩ := skip_fails h
    have := (hm w hw).2
    rw [hk w.n h1, h2] at this
    cases this
  induction k with
  | zero =>
    intro todo ch left left' hfr hgw hk hm h
    unfold solve at h
    split at h
    · rename_i hs
      exact bad todo ch hk hm hs
    · cases h
    · rename_i p hs
      obtain ⟨w, rest⟩ := p
      obtain ⟨h0, h1, _⟩ := (skip_met hs).2 _ rfl
      have := freeA_choose (v := 1) (hgw w h1) h0 (by decide)
      omega
  | succ k ih =>
    intro todo ch left left' hfr hgw hk hm h
    unfold solve at h
    split at h
    · rename_i hs
      exact bad todo ch hk hm hs
    · cases h
    · rename_i w rest hs
      obtain ⟨h0, h1, h2⟩ := (skip_met hs).2 _ rfl
      simp only at h0 h1 h2
      obtain ⟨hc0, hch⟩ := hm w h1
      obtain ⟨l, hl, hlm⟩ := hcl w.n hc0
      have h9' := h9 w.n
      obtain ⟨u, hu⟩ : ∃ u, c w.n = u + 1 := ⟨c w.n - 1, by omega⟩
      rw [hu] at hch hl h9'
      obtain ⟨m, m', hf⟩ := tries_no _ _ _ h u (by omega) hch l hl
      have hfree := freeA_choose (v := u + 1) (hgw w h1) h0 (by omega)
      refine ih _ _ _ _ (by omega) ?_ ?_ ?_ hf
      · exact GoodW.append (fun x hx => hgw x (h2 x hx)) (hgood w.n (hgw w h1) _ _ hl)
      · intro n hn
        rw [picked_cons] at hn ⊢
        by_cases e : w.n = n
        · rw [if_pos e, ← e, hu]
        · rw [if_neg e] at hn ⊢
          exact hk n hn
      · intro x hx
        rcases List.mem_append.1 hx with h3 | h3
        · exact hm x (h2 x h3)
        · exact hlm x h3

/-- Of the name that is asked first, no greater version goes together with the rest. -/
theorem solve_greatest (A : List α) (cand : α → Nat → Option (List (Wt α))) (hgood : GoodK (fun i => i ∈ A) cand) (c : α → Nat) (hcl : Closed cand c) (h9 : ∀ n, c n ≤ 9) (k : Nat) (w : Wt α) (t : List (Wt α)) (left left' : Nat) (r : List (α × Nat)) (hfr : freeA A [] ≤ k) (hgw : GoodW (fun i => i ∈ A) (w :: t))
    (hm : ∀ x ∈ w :: t, metC c x) (h : solve cand k (w :: t) [] left = some (left', some r)) : c w.n ≤ picked r w.n := by
  cases k with
  | zero =>
    have := freeA_choose (v := 1) (ch := []) (hgw w (by simp)) rfl (by decide)
    omega
  | succ k =>
    have hs : skip ([] : List (α × Nat)) (w :: t) = some (some (w, t)) := skip_at rfl
    rw [solve_at hs] at h
    obtain ⟨u, l, n, n', hu9, hw, hl, hf, hmore⟩ := tries_yes _ _ _ _ h
    have hp : picked r w.n = u + 1 := by
      have hc' : Closing cand [(w.n, u + 1)] (t ++ l) := by
        intro n hn
        rw [picked_cons] at hn ⊢
        by_cases e : w.n = n
        · rw [if_pos e]
          subst e
          exact ⟨l, hl, fun x hx => Or.inr (List.mem_append.2 (Or.inr hx))⟩
        · rw [if_neg e] at hn
          exact absurd rfl hn
      have := (solve_sound cand k _ _ _ _ _ hc' hf).1 w.n (by rw [picked_cons, if_pos rfl]; omega)
      rw [this, picked_cons, if_pos rfl]
    rw [hp]
    apply Nat.le_of_not_lt
    intro hlt
    obtain ⟨hc0, hch⟩ := hm w (by simp)
    obtain ⟨l2, hl2, hlm⟩ := hcl w.n hc0
    have h9' := h9 w.n
    obtain ⟨z, hz⟩ : ∃ z, c w.n = z + 1 := ⟨c w.n - 1, by omega⟩
    rw [hz] at hch hl2 h9' hlt
    obtain ⟨m, m', hf2⟩ := hmore z (by omega) (by omega) hch l2 hl2
    have hfree := freeA_choose (v := z + 1) (ch := []) (hgw w (by simp)) rfl (by omega)
    refine solve_finds A cand hgood c hcl h9 k _ _ _ _ (by omega) ?_ ?_ ?_ hf2
    · exact GoodW.append (fun x hx => hgw x (by simp [hx])) (hgood w.n (hgw w (by simp)) _ _ hl2)
    · intro n hn
      rw [picked_cons] at hn ⊢
      by_cases e : w.n = n
      · rw [if_pos e, ← e, hz]
      · rw [if_neg e] at hn
        exact absurd rfl hn
    · intro x hx
      rcases List.mem_append.1 hx with h3 | h3
      · exact hm x (by simp [h3])
      · exact hlm x h3

theorem solve_more (cand : α → Nat → Option (List (Wt α))) (k : Nat) : ∀ (todo : List (Wt α)) (ch : List (α × Nat)) (left left' : Nat) (o : Option (List (α × Nat))) (d : Nat), solve cand k todo ch left = some (left', o) → solve cand k todo ch (left + d) = some (left' + d, o) := by
  induction k with
  | zero =>
    intro todo ch left left' o d h
    unfold solve at h ⊢
    split at h <;> simp only [Option.some.injEq, Prod.mk.injEq] at h ⊢ <;> exact ⟨by omega, h.2⟩
  | succ k ih =>
    intro todo ch left left' o d h
    unfold solve at h ⊢
    split at h
    · simp only [Option.some.injEq, Prod.mk.injEq] at h ⊢; exact ⟨by omega, h.2⟩
    · simp only [Option.some.injEq, Prod.mk.injEq] at h ⊢; exact ⟨by omega, h.2⟩
    · exact tries_more _ ih _ _ _ _ d _ _ _ _ h

theorem solve_less (cand : α → Nat → Option (List (Wt α))) (k : Nat) : ∀ (todo : List (Wt α)) (ch : List (α × Nat)) (left left' : Nat) (o : Option (List (α × Nat))) (d : Nat), solve cand k todo ch (left + d) = some (left' + d, o) → solve cand k todo ch left = some (left', o) := by
  induction k with
  | zero =>
    intro todo ch left left' o d h
    unfold solve at h ⊢
    split at h <;> simp only [Option.some.injEq, Prod.mk.injEq] at h ⊢ <;> exact ⟨by omega, h.2⟩
  | succ k ih =>
    intro todo ch left left' o d h
    unfold solve at h ⊢
    split at h
    · simp only [Option.some.injEq, Prod.mk.injEq] at h ⊢; exact ⟨by omega, h.2⟩
    · simp only [Option.some.injEq, Prod.mk.injEq] at h ⊢; exact ⟨by omega, h.2⟩
    · exact tries_less _ (solve_left cand k) ih _ _ _ _ d _ _ _ _ h

/-- With just the steps that were taken the same is found; with fewer, nothing is told. -/
theorem solve_exact {cand : α → Nat → Option (List (Wt α))} {k : Nat} {todo : List (Wt α)} {ch : List (α × Nat)} {left left' : Nat} {o : Option (List (α × Nat))} (h : solve cand k todo ch left = some (left', o)) :
    solve cand k todo ch (left - left') = some (0, o) ∧ ∀ n, n < left - left' → solve cand k todo ch n = none := by
  have hle := solve_left cand k _ _ _ _ _ h
  refine ⟨solve_less cand k _ _ _ _ _ left' (by rw [show left - left' + left' = left by omega, Nat.zero_add]; exact h), fun n hn => ?_⟩
  cases hx : solve cand k todo ch n with
  | none => rfl
  | some p =>
    obtain ⟨m, o2⟩ := p
    have := solve_more cand k _ _ _ _ _ (left - n) hx
    rw [show n + (left - n) = left by omega, h] at this
    simp only [Option.some.injEq, Prod.mk.injEq] at this
    omega

/-- Steps enough for every choice of so many names. -/
theorem solve_enough (A : List α) (cand : α → Nat → Option (List (Wt α))) (hgood : GoodK (fun i => i ∈ A) cand) (k : Nat) : ∀ (todo : List (Wt α)) (ch : List (α × Nat)) (left : Nat), GoodW (fun i => i ∈ A) todo → 10 ^ freeA A ch ≤ left + 1 →
    ∃ left' o, solve cand k todo ch left = some (left', o) ∧ left + 1 ≤ left' + 10 ^ freeA A ch := by
  have pos : ∀ n : Nat, 1 ≤ 10 ^ n := fun n => Nat.pos_of_ne_zero (by simp)
  induction k with
  | zero =>
    intro todo ch left hg hl
    have := pos (freeA A ch)
    unfold solve
    split
    · exact ⟨left, _, rfl, by omega⟩
    · exact ⟨left, _, rfl, by omega⟩
    · exact ⟨left, _, rfl, by omega⟩
  | succ k ih =>
    intro todo ch left hg hl
    have h1 := pos (freeA A ch)
    unfold solve
    split
    · exact ⟨left, _, rfl, by omega⟩
    · exact ⟨left, _, rfl, by omega⟩
    · rename_i w rest hs
      obtain ⟨h0, h1, h2⟩ := (skip_met hs).2 _ rfl
      simp only at h0 h1 h2
      have hf1 := freeA_choose (v := 1) (hg w h1) h0 (by decide)
      obtain ⟨f, hf⟩ : ∃ f, freeA A ch = f + 1 := ⟨freeA A ch - 1, by omega⟩
      have hp := pos f
      rw [hf, Nat.pow_succ] at hl ⊢
      obtain ⟨left', o, h3, h4⟩ := tries_enough (solve cand k) (cand w.n) rest ch w (10 ^ f) hp 9 (fun u l n hu hcd hn => by
        have hf2 := freeA_choose (v := u + 1) (hg w h1) h0 (by omega)
        have hmono : 10 ^ freeA A ((w.n, u + 1) :: ch) ≤ 10 ^ f := Nat.pow_le_pow_right (by decide) (by omega)
        obtain ⟨n', o, h5, h6⟩ := ih (rest ++ l) ((w.n, u + 1) :: ch) n (GoodW.append (fun x hx => hg x (h2 x hx)) (hgood w.n (hg w h1) _ _ hcd)) (by omega)
        exact ⟨n', o, h5, by omega⟩) left (by omega)
      exact ⟨left', o, h3, by omega⟩

theorem solve_keeps (cand : α → Nat → Option (List (Wt α))) (k : Nat) : ∀ (todo : List (Wt α)) (ch : List (α × Nat)) (left left' : Nat) (r : List (α × Nat)), solve cand k todo ch left = some (left', some r) → Keeps ch (picked r) := by
  induction k with
  | zero =>
    intro todo ch left left' r h
    unfold solve at h
    split at h
    · cases h
    · simp only [Option.some.injEq, Prod.mk.injEq] at h
      obtain ⟨_, rfl⟩ := h
      exact fun _ _ => rfl
    · cases h
  | succ k ih =>
    intro todo ch left left' r h
    unfold solve at h
    split at h
    · cases h
    · simp only [Option.some.injEq, Prod.mk.injEq] at h
      obtain ⟨_, rfl⟩ := h
      exact fun _ _ => rfl
    · rename_i w rest hs
      obtain ⟨h0, _, _⟩ := (skip_met hs).2 _ rfl
      obtain ⟨u, l, n, n', _, _, _, hf, _⟩ := tries_yes _ _ _ _ h
      exact keeps_cons h0 (ih _ _ _ _ _ hf)

/-- Nothing is chosen but what is asked, or wanted by what is chosen. -/
theorem solve_needed (cand : α → Nat → Option (List (Wt α))) (S : α → Prop) (r : List (α × Nat)) (hS : ∀ n l, S n → picked r n ≠ 0 → cand n (picked r n) = some l → ∀ w ∈ l, S w.n) (k : Nat) : ∀ (todo : List (Wt α)) (ch : List (α × Nat)) (left left' : Nat), (∀ w ∈ todo, S w.n) → (∀ n, picked ch n ≠ 0 → S n) →
    solve cand k todo ch left = some (left', some r) → ∀ n, picked r n ≠ 0 → S n := by
  induction k with
  | zero =>
    intro todo ch left left' ht hc h
    unfold solve at h
    split at h
    · cases h
    · simp only [Option.some.injEq, Prod.mk.injEq] at h
      obtain ⟨_, rfl⟩ := h
      exact hc
    · cases h
  | succ k ih =>
    intro todo ch left left' ht hc h
    unfold solve at h
    split at h
    · cases h
    · simp only [Option.some.injEq, Prod.mk.injEq] at h
      obtain ⟨_, rfl⟩ := h
      exact hc
    · rename_i w rest hs
      obtain ⟨h0, h1, h2⟩ := (skip_met hs).2 _ rfl
      simp only at h0 h1 h2
      obtain ⟨u, l, n, n', _, _, hl, hf, _⟩ := tries_yes _ _ _ _ h
      have hp := solve_keeps cand k _ _ _ _ _ hf w.n (by rw [picked_cons, if_pos rfl]; omega)
      rw [picked_cons, if_pos rfl] at hp
      refine ih _ _ _ _ (fun x hx => ?_) (fun m hm => ?_) hf
      · rcases List.mem_append.1 hx with h3 | h3
        · exact ht x (h2 x h3)
        · exact hS w.n l (ht w h1) (by rw [hp]; omega) (by rw [hp]; exact hl) x h3
      · rw [picked_cons] at hm
        by_cases e : w.n = m
        · exact e ▸ ht w h1
        · rw [if_neg e] at hm
          exact hc m hm

end

end

section
open Go.RowKit

def Nd.wt (x : Nd) : Wt Nat := ⟨x.n, x.lo, x.hi⟩

/-- Is just this version asked? -/
def pinB (asked : List Nd) (n v : Nat) : Bool := asked.any fun x => x.n == n && (x.lo == v && x.hi == v)

/-- What may be chosen of a name: its wants. -/
def candI (is : List It) (asked : List Nd) (n v : Nat) : Option (List (Wt Nat)) := (is.find? (itP n v)).bind fun x => if x.y && !(pinB asked n v) then none else some (x.ws.map Nd.wt)

/-- Items as a shop holds them. -/
structure Stock (is : List It) : Prop where
  ok : ItsOk is
  nds : ∀ x ∈ is, ∀ y ∈ x.ws, NdOk y

theorem ShopInv.stock {w : World} {sb db : Nat} {D : DepD} {ao : Option Addr} {cap : Nat} {is : List It} (h : ShopInv w sb db D ao cap is) : Stock is := ⟨h.ok, fun x hx => (h.nds x hx).2⟩

theorem int_beq (a b : Nat) : ((a : Int) == (b : Int)) = (a == b) := by
  rw [Bool.eq_iff_iff]
  simp only [beq_iff_eq]
  omega

theorem alone_shop {asked : List Nd} (hok : ∀ x ∈ asked, NdOk x) {n : Nat} (hn : n < 6) (v : Nat) : aloneW (asked.map wantK) (nameK n) (v : Int) = pinB asked n v := by
  unfold aloneW pinB
  rw [List.any_map]
  induction asked with
  | nil => rfl
  | cons x t ih =>
    rw [List.any_cons, List.any_cons, ih (fun y hy => hok y (by simp [hy]))]
    congr 1
    simp only [Function.comp, wantK]
    rw [nameK_beq (hok x (by simp)).n hn, int_beq, int_beq]

theorem find_it {is : List It} {n v : Nat} {x : It} (h : is.find? (itP n v) = some x) : x ∈ is ∧ x.n = n ∧ x.v = v := by
  refine ⟨List.mem_of_find?_eq_some h, ?_⟩
  have := List.find?_some h
  unfold itP at this
  simpa using this

theorem candP_item (asked : List Nd) (hok : ∀ x ∈ asked, NdOk x) {n : Nat} (hn : n < 6) (v : Nat) (o : Option It) (f : It → PEd) (hw : ∀ x, (f x).wants = x.ws.map wantK) (hy : ∀ x, o = some x → (f x).off = x.y) :
    (candP (asked.map wantK) (nameK n) (v : Int) (o.map f)).map (List.map WantD.wt) = (o.bind fun x => if x.y && !(pinB asked n v) then none else some (x.ws.map Nd.wt)).map (List.map (Wt.ren nameK)) := by
  cases o with
  | none => rfl
  | some x =>
    unfold candP
    simp only [Option.map_some, Option.bind_some]
    rw [hy x rfl, alone_shop hok hn, hw x]
    split
    · rfl
    · simp only [Option.map_some, List.map_map]
      rfl

/-- What holders of h may be told of a version. -/
theorem cand_shop {is : List It} (hs : Stock is) {asked : List Nd} (hok : ∀ x ∈ asked, NdOk x) {n : Nat} (hn : n < 6) (v : Nat) : candW (shopP is []) kH (asked.map wantK) (nameK n) v = (candI is asked n v).map (List.map (Wt.ren nameK)) := by
  unfold candW
  by_cases hv : 1 ≤ v ∧ v < 10
  · rw [if_pos hv]
    unfold candD candI
    by_cases h3 : 3 ≤ n
    · rw [place_own is [] h3 hn]
      simp only [beq_self_eq_true, Bool.true_or, Bool.true_and]
      rw [phas_shopH is hs.ok n h3 hn, find_shopH is hs.ok n v h3 hn]
      cases ha : is.any fun x => x.n == n with
      | true =>
        rw [if_pos rfl]
        exact candP_item asked hok hn v _ _ (fun _ => rfl) (fun _ _ => rfl)
      | false =>
        rw [if_neg (by decide)]
        have : is.find? (itP n v) = none := by
          rw [List.find?_eq_none]
          intro x hx hp
          rw [List.any_eq_false] at ha
          refine ha x hx ?_
          unfold itP at hp
          simp at hp
          simpa using hp.1
        rw [this]
        rfl
    · have h3' : n < 3 := by omega
      rw [place_pub is [] h3']
      simp only
      rw [show (shopP is []).pub = shopPub is from rfl, phas_shopPub is hs.ok n h3', find_shopPub is hs.ok n v h3']
      cases ha : is.any fun x => x.n == n with
      | true =>
        rw [if_pos rfl]
        refine candP_item asked hok hn v _ _ (fun _ => rfl) (fun x hx => ?_)
        obtain ⟨h1, h2, _⟩ := find_it hx
        exact ((hs.ok x h1).2.2.2 (by omega)).symm
      | false =>
        rw [if_neg (by decide)]
        have : is.find? (itP n v) = none := by
          rw [List.find?_eq_none]
          intro x hx hp
          rw [List.any_eq_false] at ha
          refine ha x hx ?_
          unfold itP at hp
          simp at hp
          simpa using hp.1
        rw [this]
        rfl
  · rw [if_neg hv]
    unfold candI
    have : is.find? (itP n v) = none := by
      cases hx : is.find? (itP n v) with
      | none => rfl
      | some x =>
        obtain ⟨h1, _, h2⟩ := find_it hx
        have := hs.ok x h1
        omega
    rw [this]
    rfl

theorem nameK_inj {a b : Nat} (ha : a < 6) (hb : b < 6) (h : nameK a = nameK b) : a = b := by
  have := nameK_beq ha hb
  rw [h, beq_self_eq_true] at this
  simpa using this.symm

theorem candI_good {is : List It} (hs : Stock is) (asked : List Nd) : GoodK (fun i => i < 6) (candI is asked) := by
  intro i _ v l hl
  unfold candI at hl
  cases hx : is.find? (itP i v) with
  | none => rw [hx] at hl; cases hl
  | some x =>
    rw [hx] at hl
    simp only [Option.bind_some] at hl
    split at hl
    · cases hl
    · injection hl with hl
      subst hl
      intro y hy
      obtain ⟨z, hz, rfl⟩ := List.mem_map.1 hy
      exact (hs.nds x (find_it hx).1 z hz).n

theorem asked_good {asked : List Nd} (hok : ∀ x ∈ asked, NdOk x) : GoodW (fun i => i < 6) (asked.map Nd.wt) := by
  intro y hy
  obtain ⟨z, hz, rfl⟩ := List.mem_map.1 hy
  exact (hok z hz).n

/-- The search, by the numbers of the names. -/
def runI (is : List It) (asked : List Nd) (b : Nat) : Res Nat := solve (candI is asked) 600 (asked.map Nd.wt) [] b

theorem run_shop {is : List It} (hs : Stock is) {asked : List Nd} (hok : ∀ x ∈ asked, NdOk x) (b : Nat) : solve (candW (shopP is []) kH (asked.map wantK)) 600 ((asked.map wantK).map WantD.wt) [] b = resRen nameK (runI is asked b) := by
  have e : (asked.map wantK).map WantD.wt = (asked.map Nd.wt).map (Wt.ren nameK) := by
    rw [List.map_map, List.map_map]
    rfl
  rw [e]
  exact solve_ren (A := fun i => i < 6) (g := nameK) (fun i j hi hj h => nameK_inj hi hj h) (candI is asked) _ (fun i hi v => cand_shop hs hok hi v) (candI_good hs asked) 600 (asked.map Nd.wt) [] b (asked_good hok) (fun p hp => by cases hp)

/-- The numbers of the names, by their texts. -/
def orderK : List Nat := [3, 4, 5, 0, 1, 2]

def whoseK (n : Nat) : ByteArray := if 3 ≤ n then kH else pubWord

def pieceT (n v : Nat) : ByteArray := nameK n ++ ⟨#[64]⟩ ++ digitS v ++ ⟨#[35]⟩ ++ whoseK n ++ ⟨#[59]⟩

/-- The text of what is chosen. -/
def toldN (c : Nat → Nat) : ByteArray := orderK.foldl (fun t n => if c n = 0 then t else t ++ pieceT n (c n)) ⟨#[]⟩

theorem whose_shop (is : List It) (gs : List Grt) {n : Nat} (hn : n < 6) : whoseF (shopP is gs) (nameK n) = whoseK n := by
  unfold whoseF whoseK
  by_cases h3 : 3 ≤ n
  · rw [place_own is gs h3 hn, if_pos h3]
  · rw [place_pub is gs (by omega), if_neg h3]

theorem order_less : (orderK.Pairwise fun a b => Op.bytesLess (nameK a).toList (nameK b).toList = true) := by
  unfold orderK
  simp only [List.pairwise_cons, List.mem_cons, List.not_mem_nil, or_false, List.Pairwise.nil, and_true, forall_eq_or_imp, forall_eq, false_implies, implies_true]
  refine ⟨⟨?_, ?_, ?_, ?_, ?_⟩, ⟨?_, ?_, ?_, ?_⟩, ⟨?_, ?_, ?_⟩, ⟨?_, ?_⟩, ?_⟩ <;> kernel_rfl

theorem picks_shop {ch : List (Nat × Nat)} (hc : ChOk (fun i => i < 6) ch) : sortPk (chPks (ch.map (renP nameK))) = (orderK.filter fun n => picked ch n != 0).map fun n => ⟨nameK n, picked ch n⟩ := by
  have hnd : ((chPks (ch.map (renP nameK))).map fun p => p.name).Nodup := by
    unfold chPks
    rw [List.map_map, List.map_map]
    have e : ch.map (((fun p : Pk => p.name) ∘ fun p : ByteArray × Nat => (⟨p.1, p.2⟩ : Pk)) ∘ renP nameK) = (ch.map Prod.fst).map nameK := by rw [List.map_map]; rfl
    rw [e, List.Nodup, List.pairwise_map]
    refine hc.nd.imp_of_mem (fun {a b} ha hb hne he => hne ?_)
    obtain ⟨p, hp, rfl⟩ := List.mem_map.1 ha
    obtain ⟨q, hq, rfl⟩ := List.mem_map.1 hb
    exact nameK_inj (hc.a p hp) (hc.a q hq) he
  obtain ⟨s1, s2⟩ := sortPk_is hnd
  refine sorted_eq _ _ s1 ?_ ?_
  · unfold SortedP
    rw [List.pairwise_map]
    exact (order_less.sublist List.filter_sublist).imp (fun h => h)
  · intro x
    rw [s2]
    constructor
    · intro hx
      unfold chPks at hx
      obtain ⟨y, hy, rfl⟩ := List.mem_map.1 hx
      obtain ⟨p, hp, rfl⟩ := List.mem_map.1 hy
      have h6 : p.1 < 6 := hc.a p hp
      have hv := hc.v p hp
      have hpk : picked ch p.1 = p.2 := picked_mem hc.nd hp
      refine List.mem_map.2 ⟨p.1, List.mem_filter.2 ⟨?_, ?_⟩, ?_⟩
      · unfold orderK
        simp
        omega
      · rw [hpk]
        simp
        omega
      · rw [hpk]
        rfl
    · intro hx
      obtain ⟨n, hn, rfl⟩ := List.mem_map.1 hx
      have h0 := (List.mem_filter.1 hn).2
      have hm := mem_picked (i := n) (ch := ch) (by simpa using h0)
      exact List.mem_map.2 ⟨renP nameK (n, picked ch n), List.mem_map.2 ⟨_, hm, rfl⟩, rfl⟩

theorem order_lt {n : Nat} (h : n ∈ orderK) : n < 6 := by
  unfold orderK at h
  simp at h
  omega

theorem told_fold (P : PDep) (c : Nat → Nat) : ∀ (l : List Nat) (t : ByteArray), (∀ n ∈ l, whoseF P (nameK n) = whoseK n) → ((l.filter fun n => c n != 0).map fun n => (⟨nameK n, c n⟩ : Pk)).foldl (fun t p => t ++ pieceP P p) t = l.foldl (fun t n => if c n = 0 then t else t ++ pieceT n (c n)) t := by
  intro l
  induction l with
  | nil => intro t _; rfl
  | cons n l ih =>
    intro t h
    have ih' := fun t => ih t (fun m hm => h m (by simp [hm]))
    by_cases h0 : c n = 0
    · rw [List.filter_cons_of_neg (by simp [h0]), List.foldl_cons, if_pos h0]
      exact ih' t
    · rw [List.filter_cons_of_pos (by simp [h0]), List.map_cons, List.foldl_cons, List.foldl_cons, if_neg h0]
      have e : pieceP P ⟨nameK n, c n⟩ = pieceT n (c n) := by
        unfold pieceP pieceT
        rw [h n (by simp)]
      rw [e]
      exact ih' _

theorem written_shop (is : List It) {ch : List (Nat × Nat)} (hc : ChOk (fun i => i < 6) ch) : writtenP (shopP is []) (sortPk (chPks (ch.map (renP nameK)))) = toldN (picked ch) := by
  rw [picks_shop hc]
  exact told_fold (shopP is []) (picked ch) orderK ⟨#[]⟩ (fun n hn => whose_shop is [] (order_lt hn))

/-- What is told of a search's end. -/
def tellI (b : Nat) : Res Nat → ByteArray × Int × Int
  | none => (⟨#[]⟩, b, 10)
  | some (left, none) => (⟨#[]⟩, ((b - left : Nat) : Int), 9)
  | some (left, some ch) => (toldN (picked ch), ((b - left : Nat) : Int), 0)

theorem resolve_shop {is : List It} (hs : Stock is) {asked : List Nd} (hok : ∀ x ∈ asked, NdOk x) (h6 : asked.length ≤ 6) (b : Nat) (hb : b ≤ 1000000) : dresolveP (shopP is []) kH 1 (textK asked) (b : Int) = tellI b (runI is asked b) := by
  unfold dresolveP
  rw [shop_heldH, if_neg (by decide)]
  unfold resolveP
  rw [text_read asked hok h6]
  simp only
  rw [if_neg (by omega)]
  unfold runW
  rw [show ((b : Int)).toNat = b by simp, run_shop hs hok b]
  cases hr : runI is asked b with
  | none => rfl
  | some p =>
    obtain ⟨left, o⟩ := p
    cases o with
    | none => rfl
    | some ch =>
      have hc : ChOk (fun i => i < 6) ch := solve_chOk (candI_good hs asked) (asked_good hok) hr
      simp only [resRen, Option.map_some, tellI]
      rw [written_shop is hc]
      rfl

/-- A want is met by a choice. -/
def metN (c : Nat → Nat) (x : Nd) : Bool := decide (x.lo ≤ c x.n) && decide (c x.n ≤ x.hi)

/-- What is chosen of a name may be, and what it wants is met. -/
def goesAt (is : List It) (asked : List Nd) (c : Nat → Nat) (n : Nat) : Bool := c n == 0 || match is.find? (itP n (c n)) with
  | none => false
  | some x => x.ws.all (metN c) && (!x.y || pinB asked n (c n))

/-- All goes together. -/
def goesN (is : List It) (asked : List Nd) (c : Nat → Nat) : Bool := asked.all (metN c) && (List.range 6).all (goesAt is asked c)

theorem met_iff {c : Nat → Nat} {x : Nd} (hx : NdOk x) : metN c x = true ↔ metC c (Nd.wt x) := by
  have := hx.lo
  unfold metN metC Wt.has Nd.wt
  simp only [Bool.and_eq_true, decide_eq_true_eq]
  omega

theorem goes_of {is : List It} (hs : Stock is) {asked : List Nd} (hok : ∀ x ∈ asked, NdOk x) {c : Nat → Nat} (h1 : ∀ w ∈ asked.map Nd.wt, metC c w) (h2 : Closed (candI is asked) c) : goesN is asked c = true := by
  unfold goesN
  rw [Bool.and_eq_true, List.all_eq_true, List.all_eq_true]
  refine ⟨fun x hx => (met_iff (hok x hx)).2 (h1 _ (List.mem_map_of_mem hx)), fun n _ => ?_⟩
  unfold goesAt
  by_cases h0 : c n = 0
  · simp [h0]
  · obtain ⟨l, hl, hm⟩ := h2 n h0
    unfold candI at hl
    cases hx : is.find? (itP n (c n)) with
    | none => rw [hx] at hl; cases hl
    | some x =>
      rw [hx] at hl
      simp only [Option.bind_some] at hl
      split at hl
      · cases hl
      · rename_i hy
        injection hl with hl
        subst hl
        simp only [Bool.or_eq_true, Bool.and_eq_true]
        refine Or.inr ⟨?_, ?_⟩
        · rw [List.all_eq_true]
          exact fun z hz => (met_iff (hs.nds x (find_it hx).1 z hz)).2 (hm _ (List.mem_map_of_mem hz))
        · cases hx1 : x.y <;> cases hx2 : pinB asked n (c n) <;> simp_all

theorem goes_is {is : List It} (hs : Stock is) {asked : List Nd} (hok : ∀ x ∈ asked, NdOk x) {c : Nat → Nat} (hc : ∀ n, 6 ≤ n → c n = 0) (h : goesN is asked c = true) : (∀ w ∈ asked.map Nd.wt, metC c w) ∧ Closed (candI is asked) c := by
  unfold goesN at h
  rw [Bool.and_eq_true, List.all_eq_true, List.all_eq_true] at h
  obtain ⟨h1, h2⟩ := h
  refine ⟨fun w hw => ?_, fun n hn => ?_⟩
  · obtain ⟨x, hx, rfl⟩ := List.mem_map.1 hw
    exact (met_iff (hok x hx)).1 (h1 x hx)
  · have h6 : n < 6 := by
      apply Nat.lt_of_not_le
      exact fun h6 => hn (hc n h6)
    have := h2 n (List.mem_range.2 h6)
    unfold goesAt at this
    rw [Bool.or_eq_true] at this
    rcases this with h0 | h0
    · exact absurd (by simpa using h0) hn
    · cases hx : is.find? (itP n (c n)) with
      | none => rw [hx] at h0; cases h0
      | some x =>
        rw [hx] at h0
        simp only [Bool.and_eq_true] at h0
        refine ⟨x.ws.map Nd.wt, ?_, fun w hw => ?_⟩
        · unfold candI
          rw [hx]
          simp only [Option.bind_some]
          rw [if_neg]
          intro hy
          have h3 := h0.2
          cases hx1 : x.y <;> cases hx2 : pinB asked n (c n) <;> simp_all
        · obtain ⟨z, hz, rfl⟩ := List.mem_map.1 hw
          have h3 := h0.1
          rw [List.all_eq_true] at h3
          exact (met_iff (hs.nds x (find_it hx).1 z hz)).1 (h3 z hz)

/-- What the search chooses goes together. -/
theorem run_goes {is : List It} (hs : Stock is) {asked : List Nd} (hok : ∀ x ∈ asked, NdOk x) {b left : Nat} {ch : List (Nat × Nat)} (h : runI is asked b = some (left, some ch)) : goesN is asked (picked ch) = true := by
  obtain ⟨_, h2, h3⟩ := solve_sound (candI is asked) 600 (asked.map Nd.wt) [] b left ch (fun n hn => absurd rfl hn) h
  exact goes_of hs hok h2 h3

theorem range_good {is : List It} (hs : Stock is) (asked : List Nd) : GoodK (fun i => i ∈ List.range 6) (candI is asked) := by
  intro i hi v l hl x hx
  exact List.mem_range.2 (candI_good hs asked i (List.mem_range.1 hi) v l hl x hx)

theorem range_asked {asked : List Nd} (hok : ∀ x ∈ asked, NdOk x) : GoodW (fun i => i ∈ List.range 6) (asked.map Nd.wt) := fun x hx => List.mem_range.2 (asked_good hok x hx)

theorem free_six : freeA (List.range 6) ([] : List (Nat × Nat)) = 6 := by decide

/-- Where the search fails nothing goes together. -/
theorem run_none {is : List It} (hs : Stock is) {asked : List Nd} (hok : ∀ x ∈ asked, NdOk x) {b left : Nat} (h : runI is asked b = some (left, none)) {c : Nat → Nat} (hc : ∀ n, 6 ≤ n → c n = 0) (h9 : ∀ n, c n ≤ 9) : goesN is asked c = false := by
  cases hg : goesN is asked c with
  | false => rfl
  | true =>
    obtain ⟨h1, h2⟩ := goes_is hs hok hc hg
    exact absurd h (solve_finds (List.range 6) (candI is asked) (range_good hs asked) c h2 h9 600 _ [] b left (by rw [free_six]; decide) (range_asked hok) (fun n hn => absurd rfl hn) h1)

/-- Of what is asked first no greater version goes together. -/
theorem run_greatest {is : List It} (hs : Stock is) {x : Nd} {t : List Nd} (hok : ∀ y ∈ x :: t, NdOk y) {b left : Nat} {ch : List (Nat × Nat)} (h : runI is (x :: t) b = some (left, some ch)) {c : Nat → Nat} (hc : ∀ n, 6 ≤ n → c n = 0) (h9 : ∀ n, c n ≤ 9) (hg : goesN is (x :: t) c = true) : c x.n ≤ picked ch x.n := by
  obtain ⟨h1, h2⟩ := goes_is hs hok hc hg
  exact solve_greatest (List.range 6) (candI is (x :: t)) (range_good hs _) c h2 h9 600 (Nd.wt x) (t.map Nd.wt) b left ch (by rw [free_six]; decide) (range_asked hok) h1 h

/-- A million steps are enough. -/
theorem run_enough {is : List It} (hs : Stock is) {asked : List Nd} (hok : ∀ x ∈ asked, NdOk x) : ∃ left o, runI is asked 1000000 = some (left, o) := by
  obtain ⟨left, o, h, _⟩ := solve_enough (List.range 6) (candI is asked) (range_good hs asked) 600 (asked.map Nd.wt) [] 1000000 (range_asked hok) (by rw [free_six]; decide)
  exact ⟨left, o, h⟩

theorem run_left {is : List It} {asked : List Nd} {b left : Nat} {o : Option (List (Nat × Nat))} (h : runI is asked b = some (left, o)) : left ≤ b := solve_left _ _ _ _ _ _ _ h

theorem run_exact {is : List It} {asked : List Nd} {b left : Nat} {o : Option (List (Nat × Nat))} (h : runI is asked b = some (left, o)) : runI is asked (b - left) = some (0, o) ∧ ∀ n, n < b - left → runI is asked n = none := solve_exact h

end

section
open Go.RowKit

/-- A name, then its version. -/
def readAt (acc : List UInt8) (c : Nat → Nat) : List UInt8 → Nat → Nat
  | [], n => c n
  | b :: _, n => if (decide (n < 6) && acc == bytes (nameK n) && decide (49 ≤ b) && decide (b ≤ 57)) = true then b.toNat - 48 else c n

/-- What a text chooses: the text, the bytes since the last piece, what was chosen before. -/
def readL : List UInt8 → List UInt8 → (Nat → Nat) → Nat → Nat
  | [], _, c => c
  | b :: r, acc, c => if b = 64 then readL r (acc ++ [b]) (readAt acc c r) else if b = 59 then readL r [] c else readL r (acc ++ [b]) c

def setC (c : Nat → Nat) (n v : Nat) : Nat → Nat := fun m => if m = n then v else c m

theorem readL_at (r acc : List UInt8) (c : Nat → Nat) : readL (64 :: r) acc c = readL r (acc ++ [64]) (readAt acc c r) := rfl
theorem readL_end (r acc : List UInt8) (c : Nat → Nat) : readL (59 :: r) acc c = readL r [] c := rfl
theorem readL_not {b : UInt8} (h1 : b ≠ 64) (h2 : b ≠ 59) (r acc : List UInt8) (c : Nat → Nat) : readL (b :: r) acc c = readL r (acc ++ [b]) c := by
  rw [readL, if_neg h1, if_neg h2]

theorem nameB : bytes (nameK 0) = [112] ∧ bytes (nameK 1) = [113] ∧ bytes (nameK 2) = [114] ∧ bytes (nameK 3) = [104, 47, 120] ∧ bytes (nameK 4) = [104, 47, 121] ∧ bytes (nameK 5) = [104, 47, 122] := ⟨rfl, rfl, rfl, rfl, rfl, rfl⟩

theorem readAt_is (acc r : List UInt8) (c : Nat → Nat) (b : UInt8) (n : Nat) (hn : n < 6) (ha : acc = bytes (nameK n)) (h1 : 49 ≤ b) (h2 : b ≤ 57) : readAt acc c (b :: r) = setC c n (b.toNat - 48) := by
  funext m
  rw [readAt]
  unfold setC
  by_cases hm : m = n
  · subst hm
    rw [if_pos rfl, if_pos]
    simp [hn, ha, h1, h2]
  · rw [if_neg hm, if_neg]
    intro h
    simp only [Bool.and_eq_true, decide_eq_true_eq, beq_iff_eq] at h
    obtain ⟨⟨⟨h6, he⟩, _⟩, _⟩ := h
    rw [ha] at he
    apply hm
    have e := nameK_beq h6 hn
    rw [ByteArray.toList_eq, ByteArray.toList_eq] at e
    have he' : (nameK m).data.toList = (nameK n).data.toList := he.symm
    rw [he', beq_self_eq_true] at e
    simpa using e.symm

theorem readL_run : ∀ (l r acc : List UInt8) (c : Nat → Nat), (∀ b ∈ l, b ≠ 64 ∧ b ≠ 59) → readL (l ++ r) acc c = readL r (acc ++ l) c := by
  intro l
  induction l with
  | nil => intro r acc c _; rw [List.append_nil]; rfl
  | cons b t ih =>
    intro r acc c h
    obtain ⟨h1, h2⟩ := h b (by simp)
    rw [List.cons_append, readL_not h1 h2, ih r (acc ++ [b]) c (fun x hx => h x (by simp [hx])), List.append_assoc]
    rfl

theorem name_plain : ∀ n, ∀ b ∈ bytes (nameK n), b ≠ 64 ∧ b ≠ 59 := by
  intro n b hb
  unfold nameK at hb
  split at hb <;> (unfold bytes at hb; simp at hb; rcases hb with rfl | rfl | rfl <;> decide)

theorem whose_plain (n : Nat) : ∀ b ∈ bytes (whoseK n), b ≠ 64 ∧ b ≠ 59 := by
  intro b hb
  unfold whoseK at hb
  split at hb
  · unfold bytes at hb
    simp at hb
    subst hb
    decide
  · unfold bytes pubWord at hb
    simp at hb
    rcases hb with rfl | rfl | rfl | rfl | rfl | rfl <;> decide

theorem piece_bytes (n v : Nat) : bytes (pieceT n v) = bytes (nameK n) ++ 64 :: UInt8.ofNat (48 + v) :: 35 :: (bytes (whoseK n) ++ [59]) := by
  unfold pieceT bytes digitS
  simp

theorem digit_is {v : Nat} (h1 : 1 ≤ v) (h9 : v ≤ 9) : 49 ≤ UInt8.ofNat (48 + v) ∧ UInt8.ofNat (48 + v) ≤ 57 ∧ (UInt8.ofNat (48 + v)).toNat - 48 = v ∧ UInt8.ofNat (48 + v) ≠ 64 ∧ UInt8.ofNat (48 + v) ≠ 59 := by
  have hv : v = 1 ∨ v = 2 ∨ v = 3 ∨ v = 4 ∨ v = 5 ∨ v = 6 ∨ v = 7 ∨ v = 8 ∨ v = 9 := by omega
  rcases hv with rfl | rfl | rfl | rfl | rfl | rfl | rfl | rfl | rfl <;> decide

theorem read_piece {n v : Nat} (hn : n < 6) (h1 : 1 ≤ v) (h9 : v ≤ 9) (r : List UInt8) (c : Nat → Nat) : readL (bytes (pieceT n v) ++ r) [] c = readL r [] (setC c n v) := by
  obtain ⟨d1, d2, d3, d4, d5⟩ := digit_is h1 h9
  rw [piece_bytes, List.append_assoc, readL_run _ _ _ _ (name_plain n), List.nil_append, List.cons_append, readL_at, List.cons_append, readAt_is _ _ c _ n hn rfl d1 d2, d3, readL_not d4 d5, List.cons_append, readL_not (by decide) (by decide), List.append_assoc, readL_run _ _ _ _ (whose_plain n)]
  rfl

theorem told_bytes (c : Nat → Nat) : ∀ (l : List Nat) (t : ByteArray), bytes (l.foldl (fun t n => if c n = 0 then t else t ++ pieceT n (c n)) t) = bytes t ++ l.flatMap fun n => if c n = 0 then [] else bytes (pieceT n (c n)) := by
  intro l
  induction l with
  | nil => intro t; simp
  | cons n l ih =>
    intro t
    rw [List.foldl_cons, ih, List.flatMap_cons]
    split
    · simp
    · rw [bytes_append, List.append_assoc]

theorem read_each (c : Nat → Nat) (h9 : ∀ n, c n ≤ 9) : ∀ (l : List Nat) (d : Nat → Nat), (∀ n ∈ l, n < 6) → readL (l.flatMap fun n => if c n = 0 then [] else bytes (pieceT n (c n))) [] d = fun m => if m ∈ l ∧ c m ≠ 0 then c m else d m := by
  intro l
  induction l with
  | nil => intro d _; funext m; simp [readL]
  | cons n l ih =>
    intro d h6
    have ih' := fun d => ih d (fun m hm => h6 m (by simp [hm]))
    rw [List.flatMap_cons]
    by_cases h0 : c n = 0
    · rw [if_pos h0, List.nil_append, ih' d]
      funext m
      by_cases hm : m = n
      · subst hm; simp [h0]
      · simp [hm]
    · rw [if_neg h0, read_piece (h6 n (by simp)) (by omega) (h9 n), ih']
      funext m
      unfold setC
      by_cases hm : m = n
      · subst hm; simp [h0]
      · simp [hm]

/-- A text tells what is chosen. -/
theorem read_told {c : Nat → Nat} (h9 : ∀ n, c n ≤ 9) (h6 : ∀ n, 6 ≤ n → c n = 0) : readL (bytes (toldN c)) [] (fun _ => 0) = c := by
  unfold toldN
  rw [told_bytes, show bytes (⟨#[]⟩ : ByteArray) = [] from rfl, List.nil_append, read_each c h9 orderK _ (fun n hn => order_lt hn)]
  funext m
  by_cases hm : m < 6
  · have : m ∈ orderK := by unfold orderK; simp; omega
    by_cases h0 : c m = 0 <;> simp [this, h0]
  · simp [h6 m (by omega)]

end

end Go.Proofs.YtgcldedkempjhaaDoor
