/-
  Which versions go together: the search, without any memory.
-/
import Derived.Test.YtgcldedkempjhaaDoorBaseRow
namespace Go.Proofs.YtgcldedkempjhaaDoor

/-- A want of a name. -/
structure Wt (α : Type) where
  n : α
  lo : Int
  hi : Int

def Wt.has {α : Type} (w : Wt α) (v : Int) : Bool := decide (w.lo ≤ v) && decide (v ≤ w.hi)

/-- How a search ends: none: the steps are used up; else how many are left, and what is chosen (none: it failed). -/
abbrev Res (α : Type) := Option (Nat × Option (List (α × Nat)))

section
variable {α : Type}

/-- The candidates of a want, each with the rest of the list. -/
def tries (f : List (Wt α) → List (α × Nat) → Nat → Res α) (cand : Nat → Option (List (Wt α))) (rest : List (Wt α)) (ch : List (α × Nat)) (w : Wt α) : Nat → Nat → Res α
  | 0, left => some (left, none)
  | v + 1, left =>
    match (if w.has ((v + 1 : Nat) : Int) then cand (v + 1) else none) with
    | none => tries f cand rest ch w v left
    | some l =>
      match left with
      | 0 => none
      | left + 1 =>
        match f (rest ++ l) ((w.n, v + 1) :: ch) left with
        | some (left', none) => tries f cand rest ch w v left'
        | r => r

variable {f : List (Wt α) → List (α × Nat) → Nat → Res α} {cand : Nat → Option (List (Wt α))} {rest : List (Wt α)} {ch : List (α × Nat)} {w : Wt α} {v : Nat} {l : List (Wt α)}

theorem tries_skip {left : Nat} (h : (if w.has ((v + 1 : Nat) : Int) then cand (v + 1) else none) = none) : tries f cand rest ch w (v + 1) left = tries f cand rest ch w v left := by
  rw [tries, h]

theorem tries_broke (h : (if w.has ((v + 1 : Nat) : Int) then cand (v + 1) else none) = some l) : tries f cand rest ch w (v + 1) 0 = none := by
  rw [tries, h]

theorem tries_failed {left left' : Nat} (h : (if w.has ((v + 1 : Nat) : Int) then cand (v + 1) else none) = some l)
    (h2 : f (rest ++ l) ((w.n, v + 1) :: ch) left = some (left', none)) : tries f cand rest ch w (v + 1) (left + 1) = tries f cand rest ch w v left' := by
  rw [tries, h]
  simp only [h2]

theorem tries_else {left : Nat} {r : Res α} (h : (if w.has ((v + 1 : Nat) : Int) then cand (v + 1) else none) = some l)
    (h2 : f (rest ++ l) ((w.n, v + 1) :: ch) left = r) (h3 : ∀ x, r ≠ some (x, none)) : tries f cand rest ch w (v + 1) (left + 1) = r := by
  subst h2
  rw [tries, h]
  dsimp only
  split
  · rename_i x hx
    exact absurd hx (h3 x)
  · rfl

theorem tries_left (f : List (Wt α) → List (α × Nat) → Nat → Res α) (hf : ∀ t c l l' o, f t c l = some (l', o) → l' ≤ l) (cd : Nat → Option (List (Wt α))) (rest : List (Wt α)) (ch : List (α × Nat)) (w : Wt α) (v : Nat) : ∀ (left left' : Nat) (o : Option (List (α × Nat))), tries f cd rest ch w v left = some (left', o) → left' ≤ left := by
  induction v with
  | zero =>
    intro left left' o h
    simp only [tries, Option.some.injEq, Prod.mk.injEq] at h
    omega
  | succ v ih =>
    intro left left' o h
    unfold tries at h
    split at h
    · exact ih left left' o h
    · split at h
      · cases h
      · rename_i l0 _ left0
        split at h
        · rename_i l2 h2
          exact Nat.le_trans (ih l2 left' o h) (Nat.le_trans (hf _ _ _ _ _ h2) (Nat.le_succ _))
        · exact Nat.le_trans (hf _ _ _ _ _ h) (Nat.le_succ _)

end

section
variable {α : Type} [DecidableEq α]

/-- The version of a name that is chosen; 0: none. -/
def picked (ch : List (α × Nat)) (n : α) : Nat :=
  match ch with
  | [] => 0
  | p :: t => if p.1 = n then p.2 else picked t n

/-- Where a list of wants stops: none: it fails; else it is gone through, or it stops at a want whose name is not chosen. -/
def skip (ch : List (α × Nat)) : List (Wt α) → Option (Option (Wt α × List (Wt α)))
  | [] => some none
  | w :: t => if picked ch w.n = 0 then some (some (w, t)) else if w.has (picked ch w.n) then skip ch t else none

/-- The search: k: how many names may still be chosen. -/
def solve (cand : α → Nat → Option (List (Wt α))) : Nat → List (Wt α) → List (α × Nat) → Nat → Res α
  | 0, todo, ch, left =>
    match skip ch todo with
    | none => some (left, none)
    | some none => some (left, some ch)
    | some (some _) => some (left, none)
  | k + 1, todo, ch, left =>
    match skip ch todo with
    | none => some (left, none)
    | some none => some (left, some ch)
    | some (some (w, rest)) => tries (solve cand k) (cand w.n) rest ch w 9 left

variable {cand : α → Nat → Option (List (Wt α))} {k : Nat} {todo rest : List (Wt α)} {ch : List (α × Nat)} {left : Nat} {w : Wt α} {t : List (Wt α)}

theorem solve_done (h : skip ch todo = some none) : solve cand k todo ch left = some (left, some ch) := by
  cases k <;> simp [solve, h]

theorem solve_bad (h : skip ch todo = none) : solve cand k todo ch left = some (left, none) := by
  cases k <;> simp [solve, h]

theorem solve_at (h : skip ch todo = some (some (w, rest))) : solve cand (k + 1) todo ch left = tries (solve cand k) (cand w.n) rest ch w 9 left := by
  simp [solve, h]

theorem skip_nil : skip ch ([] : List (Wt α)) = some none := rfl

theorem skip_cons (h0 : picked ch w.n ≠ 0) (h1 : w.has (picked ch w.n) = true) : skip ch (w :: t) = skip ch t := by
  simp [skip, h0, h1]

theorem skip_at (h0 : picked ch w.n = 0) : skip ch (w :: t) = some (some (w, t)) := by
  simp [skip, h0]

theorem skip_bad (h0 : picked ch w.n ≠ 0) (h1 : w.has (picked ch w.n) = false) : skip ch (w :: t) = none := by
  simp [skip, h0, h1]

theorem solve_left (cand : α → Nat → Option (List (Wt α))) (k : Nat) : ∀ (todo : List (Wt α)) (ch : List (α × Nat)) (left left' : Nat) (o : Option (List (α × Nat))), solve cand k todo ch left = some (left', o) → left' ≤ left := by
  induction k with
  | zero =>
    intro todo ch left left' o h
    unfold solve at h
    split at h <;> simp only [Option.some.injEq, Prod.mk.injEq] at h <;> omega
  | succ k ih =>
    intro todo ch left left' o h
    unfold solve at h
    split at h
    · simp only [Option.some.injEq, Prod.mk.injEq] at h; omega
    · simp only [Option.some.injEq, Prod.mk.injEq] at h; omega
    · exact tries_left _ ih _ _ _ _ _ _ _ _ h

end

end Go.Proofs.YtgcldedkempjhaaDoor
