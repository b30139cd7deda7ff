/-
  What is chosen, the least name first.
-/
import Derived.Test.YtgcldedkempjhabGreatDoorDepLook
import Derived.Sort.Walk0
namespace Go.Proofs.YtgcldedkempjhabGreatDoor
section
open Go.RowKit

/-- A want with another name. -/
def Wt.ren {α β : Type} (f : α → β) (x : Wt α) : Wt β := ⟨f x.n, x.lo, x.hi⟩

def WantD.wt (x : WantD) : Wt ByteArray := ⟨x.name, x.lo, x.hi⟩

theorem key_inj {a b : ByteArray} (h : a.toList = b.toList) : a = b := by
  rw [ByteArray.toList_eq, ByteArray.toList_eq] at h
  exact bytes_inj h

/-- The name at a place. -/
def ix (ns : List ByteArray) (i : Nat) : ByteArray := (ns[i]?).getD ⟨#[]⟩

theorem ix_append (ns new : List ByteArray) {i : Nat} (h : i < ns.length) : ix (ns ++ new) i = ix ns i := by
  unfold ix
  rw [List.getElem?_append_left h]

theorem ix_inj {ns : List ByteArray} (h : (keysOf ns).Nodup) {i j : Nat} (hi : i < ns.length) (hj : j < ns.length) (he : ix ns i = ix ns j) : i = j := by
  have hi' : i < (keysOf ns).length := by simpa [keysOf] using hi
  unfold ix at he
  rw [List.getElem?_eq_getElem hi, List.getElem?_eq_getElem hj] at he
  refine (List.getElem?_inj hi' h).1 ?_
  unfold keysOf
  rw [List.getElem?_map, List.getElem?_map, List.getElem?_eq_getElem hi, List.getElem?_eq_getElem hj]
  exact congrArg (fun x : ByteArray => some x.toList) he

theorem ix_of {ns : List ByteArray} {i : Nat} {nm : ByteArray} (h : ns[i]? = some nm) : ix ns i = nm := by
  unfold ix
  rw [h]
  rfl

/-- Links are these wants. -/
structure LinksOf (ns : List ByteArray) (l : List (Wt Nat)) (ws : List WantD) : Prop where
  lt : ∀ x ∈ l, x.n < ns.length
  eq : l.map (Wt.ren (ix ns)) = ws.map WantD.wt

theorem LinksOf.more {ns new : List ByteArray} {l : List (Wt Nat)} {ws : List WantD} (h : LinksOf ns l ws) : LinksOf (ns ++ new) l ws := by
  refine ⟨fun x hx => Nat.lt_of_lt_of_le (h.lt x hx) (by simp), ?_⟩
  rw [← h.eq]
  apply List.map_congr_left
  intro x hx
  unfold Wt.ren
  rw [ix_append _ _ (h.lt x hx)]

theorem LinksOf.len {ns : List ByteArray} {l : List (Wt Nat)} {ws : List WantD} (h : LinksOf ns l ws) : l.length = ws.length := by
  have := congrArg List.length h.eq
  simpa using this

/-- The place of a name: what is known then, and that it stands there. -/
theorem placeN_is (ns : List ByteArray) (nm : ByteArray) : (∃ new, (placeN ns nm).2 = ns ++ new) ∧ ix (placeN ns nm).2 (placeN ns nm).1 = nm := by
  unfold placeN
  split
  · rename_i i hi
    refine ⟨⟨[], by simp⟩, ?_⟩
    obtain ⟨h1, h2, _⟩ := List.findIdx?_eq_some_iff_getElem.1 hi
    simp only
    rw [ix_of (List.getElem?_eq_getElem h1)]
    exact key_inj (eq_of_beq h2)
  · refine ⟨⟨[nm], rfl⟩, ?_⟩
    simp only
    exact ix_of (by simp)

theorem placeN_at {ns : List ByteArray} (h : (keysOf ns).Nodup) {t : Nat} {nm : ByteArray} (ht : ns[t]? = some nm) : placeN ns nm = (t, ns) := by
  obtain ⟨htl, hte⟩ := List.getElem?_eq_some_iff.1 ht
  unfold placeN
  split
  · rename_i i hi
    obtain ⟨h1, h2, _⟩ := List.findIdx?_eq_some_iff_getElem.1 hi
    have : i = t := ix_inj h h1 htl (by rw [ix_of (List.getElem?_eq_getElem h1), ix_of ht]; exact key_inj (eq_of_beq h2))
    rw [this]
  · rename_i hno
    have := List.findIdx?_eq_none_iff.1 hno nm (List.mem_of_getElem? ht)
    simp at this

theorem linkedN_is (ns : List ByteArray) (ws : List WantD) : (∃ new, (linkedN ns ws).2 = ns ++ new) ∧ LinksOf (linkedN ns ws).2 (linkedN ns ws).1 ws := by
  have key : ∀ (us vs : List WantD) (p : List (Wt Nat) × List ByteArray), (∃ new, p.2 = ns ++ new) → LinksOf p.2 p.1 us → (∃ new, (vs.foldl linkStep p).2 = ns ++ new) ∧ LinksOf (vs.foldl linkStep p).2 (vs.foldl linkStep p).1 (us ++ vs) := by
    intro us vs
    induction vs generalizing us with
    | nil => intro p h1 h2; rw [List.append_nil]; exact ⟨h1, h2⟩
    | cons a t ih =>
      rintro p ⟨n1, h1⟩ h2
      obtain ⟨⟨n2, h3⟩, h4⟩ := placeN_is p.2 a.name
      have := ih (us ++ [a]) (linkStep p a) ⟨n1 ++ n2, by unfold linkStep; simp only; rw [h3, h1, List.append_assoc]⟩ (by
        unfold linkStep
        simp only
        have h5 := placeN_lt p.2 a.name
        refine ⟨fun x hx => ?_, ?_⟩
        · rcases List.mem_append.1 hx with hx | hx
          · rw [h3]
            exact (h2.more (new := n2)).lt x hx
          · simp at hx
            subst hx
            exact h5
        · rw [List.map_append, List.map_append]
          congr 1
          · rw [h3]
            exact (h2.more (new := n2)).eq
          · simp only [List.map_cons, List.map_nil, Wt.ren, WantD.wt, h4])
      rw [List.append_assoc] at this
      exact this
  have := key [] ws ([], ns) ⟨[], by simp⟩ ⟨fun x (hx : x ∈ []) => (by cases hx), rfl⟩
  exact this

/-- Among the wants that were asked: is there one of just this version of this name? -/
def aloneW (ask : List WantD) (nm : ByteArray) (v : Int) : Bool := ask.any fun x => x.name.toList == nm.toList && (x.lo == v && x.hi == v)

theorem alone_is {ns : List ByteArray} {l : List (Wt Nat)} {ask : List WantD} (h : LinksOf ns l ask) (hn : (keysOf ns).Nodup) {i : Nat} (hi : i < ns.length) {nm : ByteArray} (hm : ix ns i = nm) (v : Int) : aloneN l i v = aloneW ask nm v := by
  have e1 : aloneW ask nm v = (ask.map WantD.wt).any fun x => x.n.toList == nm.toList && (x.lo == v && x.hi == v) := by
    rw [List.any_map]; rfl
  rw [e1, ← h.eq, List.any_map]
  unfold aloneN
  have hl := h.lt
  clear e1 h
  induction l with
  | nil => rfl
  | cons x t ih =>
    rw [List.any_cons, List.any_cons, ih (fun y hy => hl y (by simp [hy]))]
    congr 1
    have : (x.n == i) = ((ix ns x.n).toList == nm.toList) := by
      cases hx : (x.n == i) with
      | true => rw [eq_of_beq hx, hm]; simp
      | false =>
        symm
        rw [beq_eq_false_iff_ne]
        intro hc
        rw [beq_eq_false_iff_ne] at hx
        exact hx (ix_inj hn (hl x (by simp)) hi ((key_inj hc).trans hm.symm))
    simp only [Wt.ren, Function.comp, this]

/-- What is offered of a version. -/
def OfrIs (ns : List ByteArray) (o : Option (List (Wt Nat))) (c : Option (List WantD)) : Prop := o.isSome = c.isSome ∧ ∀ l ws, o = some l → c = some ws → LinksOf ns l ws

theorem OfrIs.more {ns new : List ByteArray} {o : Option (List (Wt Nat))} {c : Option (List WantD)} (h : OfrIs ns o c) : OfrIs (ns ++ new) o c := ⟨h.1, fun l ws h1 h2 => (h.2 l ws h1 h2).more⟩

end

section
section

section
variable {α β : Type}

def renP (g : α → β) (p : α × Nat) : β × Nat := (g p.1, p.2)

def resRen (g : α → β) (r : Res α) : Res β := r.map fun p => (p.1, p.2.map (List.map (renP g)))

def GoodW (A : α → Prop) (l : List (Wt α)) : Prop := ∀ x ∈ l, A x.n

def GoodC (A : α → Prop) (l : List (α × Nat)) : Prop := ∀ p ∈ l, A p.1

def GoodK (A : α → Prop) (cand : α → Nat → Option (List (Wt α))) : Prop := ∀ i, A i → ∀ v l, cand i v = some l → GoodW A l

theorem GoodW.append {A : α → Prop} {l r : List (Wt α)} (h : GoodW A l) (h2 : GoodW A r) : GoodW A (l ++ r) := fun x hx => (List.mem_append.1 hx).elim (h x) (h2 x)

theorem GoodC.cons {A : α → Prop} {l : List (α × Nat)} {i : α} {v : Nat} (hi : A i) (h : GoodC A l) : GoodC A ((i, v) :: l) := fun x hx => by
  rcases List.mem_cons.1 hx with rfl | hx
  · exact hi
  · exact h x hx

theorem tries_ren {A : α → Prop} {g : α → β} (f : List (Wt α) → List (α × Nat) → Nat → Res α) (f' : List (Wt β) → List (β × Nat) → Nat → Res β)
    (hf : ∀ l c n, GoodW A l → GoodC A c → f' (l.map (Wt.ren g)) (c.map (renP g)) n = resRen g (f l c n)) (cd : Nat → Option (List (Wt α))) (cd' : Nat → Option (List (Wt β))) (hcd : ∀ v, cd' v = (cd v).map (List.map (Wt.ren g))) (hgood : ∀ v l, cd v = some l → GoodW A l)
    (rest : List (Wt α)) (ch : List (α × Nat)) (w : Wt α) (hr : GoodW A rest) (hc : GoodC A ch) (hw : A w.n) (v : Nat) : ∀ left, tries f' cd' (rest.map (Wt.ren g)) (ch.map (renP g)) (w.ren g) v left = resRen g (tries f cd rest ch w v left) := by
  induction v with
  | zero => intro left; rfl
  | succ v ih =>
    intro left
    have hh : (w.ren g).has ((v + 1 : Nat) : Int) = w.has ((v + 1 : Nat) : Int) := rfl
    cases hx : (if w.has ((v + 1 : Nat) : Int) then cd (v + 1) else none) with
    | none =>
      rw [tries_skip hx, tries_skip (by rw [hh, hcd]; split at hx <;> simp_all), ih]
    | some l =>
      have hx' : (if (w.ren g).has ((v + 1 : Nat) : Int) then cd' (v + 1) else none) = some (l.map (Wt.ren g)) := by
        rw [hh, hcd]
        split at hx
        · rename_i h1
          rw [if_pos h1, hx]; rfl
        · cases hx
      have hgl : GoodW A l := by
        split at hx
        · exact hgood _ _ hx
        · cases hx
      cases left with
      | zero => rw [tries_broke hx, tries_broke hx']; rfl
      | succ left =>
        have h1 := hf (rest ++ l) ((w.n, v + 1) :: ch) left (hr.append hgl) (GoodC.cons hw hc)
        rw [List.map_append] at h1
        cases hr2 : f (rest ++ l) ((w.n, v + 1) :: ch) left with
        | none =>
          rw [hr2] at h1
          rw [tries_else hx hr2 (fun x => by simp), tries_else hx' h1 (fun x => by simp [resRen])]
        | some p =>
          obtain ⟨n, o⟩ := p
          cases o with
          | none =>
            rw [hr2] at h1
            rw [tries_failed hx hr2, tries_failed hx' h1, ih]
          | some c =>
            rw [hr2] at h1
            rw [tries_else hx hr2 (fun x => by simp), tries_else hx' h1 (fun x => by simp [resRen])]

theorem tries_depth {f f' : List (Wt α) → List (α × Nat) → Nat → Res α} {cd : Nat → Option (List (Wt α))} {rest : List (Wt α)} {ch : List (α × Nat)} {w : Wt α} (v : Nat) (hf : ∀ u l n, u < v → cd (u + 1) = some l → f (rest ++ l) ((w.n, u + 1) :: ch) n = f' (rest ++ l) ((w.n, u + 1) :: ch) n) : ∀ left, tries f cd rest ch w v left = tries f' cd rest ch w v left := by
  induction v with
  | zero => intro left; rfl
  | succ v ih =>
    intro left
    have ih' := ih (fun u l n hu => hf u l n (by omega))
    cases hx : (if w.has ((v + 1 : Nat) : Int) then cd (v + 1) else none) with
    | none => rw [tries_skip hx, tries_skip hx, ih']
    | some l =>
      cases left with
      | zero => rw [tries_broke hx, tries_broke hx]
      | succ left =>
        have hcd : cd (v + 1) = some l := by
          split at hx
          · exact hx
          · cases hx
        have h1 := hf v l left (by omega) hcd
        cases hr2 : f (rest ++ l) ((w.n, v + 1) :: ch) left with
        | none =>
          rw [hr2] at h1
          rw [tries_else hx hr2 (fun x => by simp), tries_else hx h1.symm (fun x => by simp)]
        | some p =>
          obtain ⟨n, o⟩ := p
          cases o with
          | none =>
            rw [hr2] at h1
            rw [tries_failed hx hr2, tries_failed hx h1.symm, ih']
          | some c =>
            rw [hr2] at h1
            rw [tries_else hx hr2 (fun x => by simp), tries_else hx h1.symm (fun x => by simp)]

/-- What is kept while names are chosen holds of what is chosen at last. -/
theorem tries_all {A : α → Prop} {R : List (α × Nat) → Prop} (f : List (Wt α) → List (α × Nat) → Nat → Res α) (hf : ∀ l c n n' r, GoodW A l → R c → f l c n = some (n', some r) → R r) (cd : Nat → Option (List (Wt α))) (rest : List (Wt α)) (ch : List (α × Nat)) (w : Wt α) (hr : GoodW A rest)
    (v : Nat) (hcd : ∀ u l, u < v → cd (u + 1) = some l → GoodW A l ∧ R ((w.n, u + 1) :: ch)) : ∀ left n' r, tries f cd rest ch w v left = some (n', some r) → R r := by
  induction v with
  | zero => intro left n' r h; cases h
  | succ v ih =>
    intro left n' r h
    have ih' := ih (fun u l hu => hcd u l (by omega))
    cases hx : (if w.has ((v + 1 : Nat) : Int) then cd (v + 1) else none) with
    | none => rw [tries_skip hx] at h; exact ih' left n' r h
    | some l =>
      have hl : cd (v + 1) = some l := by
        split at hx
        · exact hx
        · cases hx
      obtain ⟨q1, q2⟩ := hcd v l (by omega) hl
      cases left with
      | zero => rw [tries_broke hx] at h; cases h
      | succ left =>
        cases hr2 : f (rest ++ l) ((w.n, v + 1) :: ch) left with
        | none => rw [tries_else hx hr2 (fun x => by simp)] at h; cases h
        | some p =>
          obtain ⟨n, o⟩ := p
          cases o with
          | none => rw [tries_failed hx hr2] at h; exact ih' n n' r h
          | some c =>
            rw [tries_else hx hr2 (fun x => by simp)] at h
            exact hf _ _ _ _ _ (hr.append q1) q2 (hr2.trans h)

end

section
variable {α : Type} [DecidableEq α]

theorem skip_good {A : α → Prop} {ch : List (α × Nat)} : ∀ (todo : List (Wt α)), GoodW A todo → ∀ w r, skip ch todo = some (some (w, r)) → A w.n ∧ GoodW A r ∧ picked ch w.n = 0 := by
  intro todo
  induction todo with
  | nil => intro _ w r h; cases h
  | cons x t ih =>
    intro h w r hs
    unfold skip at hs
    split at hs
    · rename_i h0
      simp only [Option.some.injEq, Prod.mk.injEq] at hs
      obtain ⟨rfl, rfl⟩ := hs
      exact ⟨h _ (by simp), fun y hy => h y (by simp [hy]), h0⟩
    · split at hs
      · exact ih (fun y hy => h y (by simp [hy])) w r hs
      · cases hs

def freeA (A : List α) (ch : List (α × Nat)) : Nat := A.countP fun i => picked ch i == 0

theorem freeA_choose {A : List α} {i : α} {v : Nat} {ch : List (α × Nat)} (hi : i ∈ A) (h0 : picked ch i = 0) (hv : v ≠ 0) : freeA A ((i, v) :: ch) < freeA A ch := by
  refine countP_less A ?_ hi (by simp [h0]) (by simp [picked, hv])
  intro x _ hx
  simp only [picked, beq_iff_eq] at hx ⊢
  split at hx
  · exact absurd hx hv
  · exact hx

theorem solve_depth (A : List α) (cand : α → Nat → Option (List (Wt α))) (hgood : GoodK (fun i => i ∈ A) cand) (k : Nat) : ∀ (k' : Nat) (todo : List (Wt α)) (ch : List (α × Nat)) (left : Nat), k ≤ k' → freeA A ch ≤ k → GoodW (fun i => i ∈ A) todo → solve cand k todo ch left = solve cand k' todo ch left := by
  induction k with
  | zero =>
    intro k' todo ch left _ hfr ht
    cases hs : skip ch todo with
    | none => rw [solve_bad hs, solve_bad hs]
    | some o =>
      cases o with
      | none => rw [solve_done hs, solve_done hs]
      | some p =>
        obtain ⟨w, r⟩ := p
        obtain ⟨g1, _, g3⟩ := skip_good todo ht w r hs
        have := freeA_choose (v := 1) g1 g3 (by decide)
        omega
  | succ k ih =>
    intro k' todo ch left hk hfr ht
    obtain ⟨k', rfl⟩ : ∃ m, k' = m + 1 := ⟨k' - 1, by omega⟩
    cases hs : skip ch todo with
    | none => rw [solve_bad hs, solve_bad hs]
    | some o =>
      cases o with
      | none => rw [solve_done hs, solve_done hs]
      | some p =>
        obtain ⟨w, r⟩ := p
        obtain ⟨g1, g2, g3⟩ := skip_good todo ht w r hs
        rw [solve_at hs, solve_at hs]
        refine tries_depth 9 (fun u l n _ hcd => ?_) left
        have := freeA_choose (v := u + 1) g1 g3 (by omega)
        exact ih k' _ _ n (by omega) (by omega) (g2.append (hgood w.n g1 _ _ hcd))

theorem solve_all {A : α → Prop} {R : List (α × Nat) → Prop} (cand : α → Nat → Option (List (Wt α))) (hgood : GoodK A cand) (hR : ∀ ch i v l, A i → v < 9 → cand i (v + 1) = some l → picked ch i = 0 → R ch → R ((i, v + 1) :: ch)) (k : Nat) : ∀ (todo : List (Wt α)) (ch : List (α × Nat)) (left n' : Nat) (r : List (α × Nat)), GoodW A todo → R ch → solve cand k todo ch left = some (n', some r) → R r := by
  induction k with
  | zero =>
    intro todo ch left n' r ht hc h
    unfold solve at h
    split at h
    · cases h
    · simp only [Option.some.injEq, Prod.mk.injEq] at h
      rw [← h.2]; exact hc
    · cases h
  | succ k ih =>
    intro todo ch left n' r ht hc h
    cases hs : skip ch todo with
    | none => rw [solve_bad hs] at h; cases h
    | some o =>
      cases o with
      | none =>
        rw [solve_done hs] at h
        simp only [Option.some.injEq, Prod.mk.injEq] at h
        rw [← h.2]; exact hc
      | some p =>
        obtain ⟨w, rs⟩ := p
        obtain ⟨g1, g2, g3⟩ := skip_good todo ht w rs hs
        rw [solve_at hs] at h
        exact tries_all (A := A) (R := R) _ (fun l c n n' r hl hc h => ih l c n n' r hl hc h) (cand w.n) rs ch w g2 9 (fun u l hu hl => ⟨hgood w.n g1 _ _ hl, hR ch w.n u l g1 hu hl g3 hc⟩) left n' r h

/-- What is chosen: each name once, a version from 1 to 9 of it, all of a kind. -/
structure ChOk (A : α → Prop) (ch : List (α × Nat)) : Prop where
  nd : (ch.map Prod.fst).Nodup
  v : ∀ p ∈ ch, 1 ≤ p.2 ∧ p.2 ≤ 9
  a : GoodC A ch

theorem picked_zero {i : α} : ∀ {ch : List (α × Nat)}, (∀ p ∈ ch, 1 ≤ p.2 ∧ p.2 ≤ 9) → picked ch i = 0 → i ∉ ch.map Prod.fst := by
  intro ch
  induction ch with
  | nil => intro _ _ h; cases h
  | cons p t ih =>
    intro hv h hm
    simp only [picked] at h
    split at h
    · have := (hv p (by simp)).1
      omega
    · rename_i hne
      rcases List.mem_cons.1 hm with e | e
      · exact hne e.symm
      · exact ih (fun q hq => hv q (by simp [hq])) h e

theorem picked_mem {i : α} {v : Nat} : ∀ {ch : List (α × Nat)}, (ch.map Prod.fst).Nodup → (i, v) ∈ ch → picked ch i = v := by
  intro ch
  induction ch with
  | nil => intro _ h; cases h
  | cons p t ih =>
    intro hn hm
    obtain ⟨h1, h2⟩ := List.nodup_cons.1 hn
    simp only [picked]
    rcases List.mem_cons.1 hm with e | e
    · rw [← e]; simp
    · rw [if_neg (fun hc => h1 (by rw [hc]; exact List.mem_map_of_mem (f := Prod.fst) e))]
      exact ih h2 e

theorem mem_picked {i : α} : ∀ {ch : List (α × Nat)}, picked ch i ≠ 0 → (i, picked ch i) ∈ ch := by
  intro ch
  induction ch with
  | nil => intro h; exact absurd rfl h
  | cons p t ih =>
    intro h
    simp only [picked] at h ⊢
    split at h
    · rename_i he
      rw [if_pos he]
      subst he
      simp
    · rename_i hne
      rw [if_neg hne]
      exact List.mem_cons_of_mem _ (ih h)

theorem solve_chOk {A : α → Prop} {cand : α → Nat → Option (List (Wt α))} (hgood : GoodK A cand) {k : Nat} {todo : List (Wt α)} {left n' : Nat} {r : List (α × Nat)} (ht : GoodW A todo) (h : solve cand k todo [] left = some (n', some r)) : ChOk A r := by
  refine solve_all (R := ChOk A) cand hgood ?_ k todo [] left n' r ht ⟨by simp, (fun p hp => by cases hp), fun p hp => by cases hp⟩ h
  intro ch i v l hi hv _ h0 hc
  refine ⟨?_, ?_, GoodC.cons hi hc.a⟩
  · rw [List.map_cons, List.nodup_cons]
    exact ⟨picked_zero hc.v h0, hc.nd⟩
  · intro p hp
    rcases List.mem_cons.1 hp with rfl | hp
    · exact ⟨by simp, by simp; omega⟩
    · exact hc.v p hp

end

section
variable {α β : Type} [DecidableEq α] [DecidableEq β]

theorem picked_ren {A : α → Prop} {g : α → β} (hg : ∀ i j, A i → A j → g i = g j → i = j) {i : α} (hi : A i) : ∀ (ch : List (α × Nat)), GoodC A ch → picked (ch.map (renP g)) (g i) = picked ch i := by
  intro ch
  induction ch with
  | nil => intro _; rfl
  | cons p t ih =>
    intro h
    have h1 := h p (by simp)
    have ih' := ih (fun x hx => h x (by simp [hx]))
    simp only [List.map_cons, picked, renP] at ih' ⊢
    by_cases hp : p.1 = i
    · rw [if_pos (by rw [hp]), if_pos hp]
    · rw [if_neg (fun hc => hp (hg _ _ h1 hi hc)), if_neg hp]
      exact ih'

theorem skip_ren {A : α → Prop} {g : α → β} (hg : ∀ i j, A i → A j → g i = g j → i = j) {ch : List (α × Nat)} (hc : GoodC A ch) : ∀ (todo : List (Wt α)), GoodW A todo → skip (ch.map (renP g)) (todo.map (Wt.ren g)) = (skip ch todo).map (Option.map fun p => (p.1.ren g, p.2.map (Wt.ren g))) := by
  intro todo
  induction todo with
  | nil => intro _; rfl
  | cons w t ih =>
    intro h
    have ih' := ih (fun x hx => h x (by simp [hx]))
    have hp := picked_ren hg (h w (by simp)) ch hc
    simp only [List.map_cons, skip]
    show (if picked _ (g w.n) = 0 then _ else if Wt.has (Wt.ren g w) (picked _ (g w.n) : Nat) then _ else _) = _
    rw [hp]
    by_cases h0 : picked ch w.n = 0
    · rw [if_pos h0, if_pos h0]; rfl
    · rw [if_neg h0, if_neg h0]
      have : (Wt.ren g w).has (picked ch w.n : Nat) = w.has (picked ch w.n : Nat) := rfl
      rw [this]
      split
      · exact ih'
      · rfl

theorem solve_ren {A : α → Prop} {g : α → β} (hg : ∀ i j, A i → A j → g i = g j → i = j) (cand : α → Nat → Option (List (Wt α))) (cand' : β → Nat → Option (List (Wt β))) (hcd : ∀ i, A i → ∀ v, cand' (g i) v = (cand i v).map (List.map (Wt.ren g))) (hgood : GoodK A cand)
    (k : Nat) : ∀ (todo : List (Wt α)) (ch : List (α × Nat)) (left : Nat), GoodW A todo → GoodC A ch → solve cand' k (todo.map (Wt.ren g)) (ch.map (renP g)) left = resRen g (solve cand k todo ch left) := by
  induction k with
  | zero =>
    intro todo ch left ht hc
    have h := skip_ren hg hc todo ht
    unfold solve
    rw [h]
    cases skip ch todo with
    | none => rfl
    | some o =>
      cases o with
      | none => rfl
      | some p => rfl
  | succ k ih =>
    intro todo ch left ht hc
    have h := skip_ren hg hc todo ht
    cases hs : skip ch todo with
    | none =>
      rw [hs] at h
      rw [solve_bad hs, solve_bad h]; rfl
    | some o =>
      cases o with
      | none =>
        rw [hs] at h
        rw [solve_done hs, solve_done h]; rfl
      | some p =>
        obtain ⟨w, r⟩ := p
        rw [hs] at h
        obtain ⟨g1, g2, _⟩ := skip_good todo ht w r hs
        rw [solve_at hs, solve_at (w := w.ren g) (rest := r.map (Wt.ren g)) h]
        exact tries_ren _ _ ih (cand w.n) (cand' (g w.n)) (hcd w.n g1) (hgood w.n g1) r ch w g2 hc g1 9 left

end

end

section

theorem pkLess_iff (p q : Pk) : pkLess p q = true ↔ p.name.toList < q.name.toList := by
  unfold pkLess
  rw [bytesLess_eq]
  simp

theorem pkLess_irrefl (p : Pk) : pkLess p p = false := by
  cases h : pkLess p p with
  | false => rfl
  | true => exact absurd ((pkLess_iff p p).1 h) (List.lt_irrefl _)

theorem pkLess_trans {p q r : Pk} (h : pkLess p q = true) (h2 : pkLess q r = true) : pkLess p r = true :=
  (pkLess_iff p r).2 (List.lt_trans ((pkLess_iff p q).1 h) ((pkLess_iff q r).1 h2))

theorem pkLess_tri {p q : Pk} (h : pkLess p q = false) (hne : p.name ≠ q.name) : pkLess q p = true := by
  rw [pkLess_iff]
  have h1 : ¬ p.name.toList < q.name.toList := by rw [← pkLess_iff, h]; decide
  rcases List.le_iff_lt_or_eq.1 (List.not_lt.1 h1) with h2 | h2
  · exact h2
  · exact absurd (key_inj h2).symm hne

def SortedP (l : List Pk) : Prop := l.Pairwise fun p q => pkLess p q = true

theorem sorted_eq : ∀ (l r : List Pk), SortedP l → SortedP r → (∀ x, x ∈ l ↔ x ∈ r) → l = r := by
  intro l
  induction l with
  | nil =>
    intro r _ _ h
    cases r with
    | nil => rfl
    | cons b t => exact absurd ((h b).2 (by simp)) (by simp)
  | cons a s ih =>
    intro r hl hr h
    cases r with
    | nil => exact absurd ((h a).1 (by simp)) (by simp)
    | cons b t =>
      obtain ⟨l1, l2⟩ := List.pairwise_cons.1 hl
      obtain ⟨r1, r2⟩ := List.pairwise_cons.1 hr
      have hab : a = b := by
        rcases List.mem_cons.1 ((h a).1 (by simp)) with e | e
        · exact e
        · rcases List.mem_cons.1 ((h b).2 (by simp)) with e2 | e2
          · exact e2.symm
          · have := pkLess_trans (r1 a e) (l1 b e2)
            rw [pkLess_irrefl] at this
            cases this
      subst hab
      rw [ih t l2 r2 (fun x => ?_)]
      constructor
      · intro hx
        rcases List.mem_cons.1 ((h x).1 (by simp [hx])) with e | e
        · have := l1 x hx
          rw [e, pkLess_irrefl] at this
          cases this
        · exact e
      · intro hx
        rcases List.mem_cons.1 ((h x).2 (by simp [hx])) with e | e
        · have := r1 x hx
          rw [e, pkLess_irrefl] at this
          cases this
        · exact e

theorem mem_insP {l : List Pk} {p x : Pk} : x ∈ insP l p ↔ x = p ∨ x ∈ l := by
  unfold insP insAt
  generalize insPos l p l.length = i
  have : x ∈ l ↔ x ∈ l.take i ∨ x ∈ l.drop i := by
    rw [← List.mem_append, List.take_append_drop]
  rw [List.mem_append, List.mem_cons, this]
  constructor
  · rintro (h | h | h)
    · exact Or.inr (Or.inl h)
    · exact Or.inl h
    · exact Or.inr (Or.inr h)
  · rintro (h | h | h)
    · exact Or.inr (Or.inl h)
    · exact Or.inl h
    · exact Or.inr (Or.inr h)

theorem insPos_is (l : List Pk) (p : Pk) (n : Nat) (hn : n ≤ l.length) : insPos l p n ≤ n ∧ (∀ j, (hj : j < l.length) → insPos l p n ≤ j → j < n → pkLess p l[j] = true) ∧ (∀ j, (hj : j < l.length) → j + 1 = insPos l p n → pkLess p l[j] = false) := by
  induction n with
  | zero => exact ⟨Nat.le_refl _, fun j _ _ h => by omega, fun j _ h => by simp [insPos] at h⟩
  | succ n ih =>
    obtain ⟨h1, h2, h3⟩ := ih (by omega)
    unfold insPos
    rw [List.getElem?_eq_getElem (by omega : n < l.length)]
    simp only [Option.map_some, Option.getD_some]
    split
    · rename_i hlt
      refine ⟨by omega, fun j hj hij hjn => ?_, h3⟩
      by_cases hjn' : j = n
      · subst hjn'; exact hlt
      · exact h2 j hj hij (by omega)
    · rename_i hlt
      refine ⟨Nat.le_refl _, fun j _ h h' => by omega, fun j hj he => ?_⟩
      obtain rfl : j = n := by omega
      simpa using hlt

theorem insP_sorted {l : List Pk} {p : Pk} (h : SortedP l) (hne : ∀ q ∈ l, q.name ≠ p.name) : SortedP (insP l p) := by
  obtain ⟨h1, h2, h3⟩ := insPos_is l p l.length (Nat.le_refl _)
  unfold insP insAt
  generalize insPos l p l.length = i at *
  have hs : SortedP (l.take i ++ l.drop i) := by rw [List.take_append_drop]; exact h
  obtain ⟨s1, s2, s3⟩ := List.pairwise_append.1 hs
  have hlow : ∀ q ∈ l.take i, pkLess q p = true := by
    intro q hq
    obtain ⟨j, hj, rfl⟩ := List.getElem_of_mem hq
    rw [List.length_take] at hj
    rw [List.getElem_take]
    have hi : i - 1 < l.length := by omega
    have h4 := h3 (i - 1) hi (by omega)
    have h5 := pkLess_tri h4 (fun hc => hne l[i - 1] (List.getElem_mem hi) hc.symm)
    by_cases he : j = i - 1
    · subst he; exact h5
    · exact pkLess_trans (List.pairwise_iff_getElem.1 h j (i - 1) (by omega) hi (by omega)) h5
  refine List.pairwise_append.2 ⟨s1, List.pairwise_cons.2 ⟨?_, s2⟩, ?_⟩
  · intro q hq
    obtain ⟨j, hj, rfl⟩ := List.getElem_of_mem hq
    rw [List.length_drop] at hj
    rw [List.getElem_drop]
    exact h2 (i + j) (by omega) (by omega) (by omega)
  · intro a ha b hb
    rcases List.mem_cons.1 hb with rfl | hb
    · exact hlow a ha
    · exact s3 a ha b hb

/-- Picks, laid in one by one. -/
def sortPk (l : List Pk) : List Pk := l.foldl insP []

theorem sort_from (l : List Pk) : ∀ (s : List Pk), SortedP s → (∀ q ∈ s, ∀ p ∈ l, q.name ≠ p.name) → (l.map fun p => p.name).Nodup → SortedP (l.foldl insP s) ∧ ∀ x, x ∈ l.foldl insP s ↔ x ∈ s ∨ x ∈ l := by
  induction l with
  | nil => intro s h _ _; exact ⟨h, fun x => by simp⟩
  | cons a t ih =>
    intro s h hne hnd
    obtain ⟨n1, n2⟩ := List.nodup_cons.1 hnd
    obtain ⟨r1, r2⟩ := ih (insP s a) (insP_sorted h (fun q hq => hne q hq a (by simp))) (fun q hq p hp => by
      rcases mem_insP.1 hq with rfl | hq
      · intro hc
        exact n1 (by show q.name ∈ _; rw [hc]; exact List.mem_map_of_mem (f := fun p : Pk => p.name) hp)
      · exact hne q hq p (by simp [hp])) n2
    refine ⟨r1, fun x => ?_⟩
    rw [List.foldl_cons, r2, mem_insP, List.mem_cons]
    constructor
    · rintro ((h | h) | h)
      · exact Or.inr (Or.inl h)
      · exact Or.inl h
      · exact Or.inr (Or.inr h)
    · rintro (h | h | h)
      · exact Or.inl (Or.inr h)
      · exact Or.inl (Or.inl h)
      · exact Or.inr h

theorem sortPk_is {l : List Pk} (h : (l.map fun p => p.name).Nodup) : SortedP (sortPk l) ∧ ∀ x, x ∈ sortPk l ↔ x ∈ l := by
  obtain ⟨h1, h2⟩ := sort_from l [] List.Pairwise.nil (fun q hq => by cases hq) h
  exact ⟨h1, fun x => by rw [sortPk, h2]; simp⟩

/-- The picks of a search's entries. -/
def entPks (es : List Ent) : List Pk := (es.filter fun e => e.ch != 0).map fun e => ⟨e.name, e.ch⟩

theorem picksP_sort (es : List Ent) : picksP es = sortPk (entPks es) := by
  unfold picksP sortPk
  have : ∀ s, es.foldl (fun l e => if e.ch = 0 then l else insP l ⟨e.name, e.ch⟩) s = (entPks es).foldl insP s := by
    induction es with
    | nil => intro s; rfl
    | cons e t ih =>
      intro s
      rw [List.foldl_cons, ih]
      unfold entPks
      by_cases h : e.ch = 0
      · rw [if_pos h, List.filter_cons_of_neg (by simp [h])]
      · rw [if_neg h, List.filter_cons_of_pos (by simp [h])]
        rfl
  exact this []

def chPks (ch : List (ByteArray × Nat)) : List Pk := ch.map fun p => ⟨p.1, p.2⟩

end

end

end Go.Proofs.YtgcldedkempjhabGreatDoor
