/-
  A search's links and the names that they stand for.
-/
import Derived.Test.YtgcldedkempjhaaDoorDepLook
namespace Go.Proofs.YtgcldedkempjhaaDoor
open Go.RowKit

/-- A want with another name. -/
def Wt.ren {α β : Type} (f : α → β) (x : Wt α) : Wt β := ⟨f x.n, x.lo, x.hi⟩

def WantD.wt (x : WantD) : Wt ByteArray := ⟨x.name, x.lo, x.hi⟩

theorem key_inj {a b : ByteArray} (h : a.toList = b.toList) : a = b := by
  rw [ByteArray.toList_eq, ByteArray.toList_eq] at h
  exact bytes_inj h

/-- The name at a place. -/
def ix (ns : List ByteArray) (i : Nat) : ByteArray := (ns[i]?).getD ⟨#[]⟩

theorem ix_append (ns new : List ByteArray) {i : Nat} (h : i < ns.length) : ix (ns ++ new) i = ix ns i := by
  unfold ix
  rw [List.getElem?_append_left h]

theorem ix_inj {ns : List ByteArray} (h : (keysOf ns).Nodup) {i j : Nat} (hi : i < ns.length) (hj : j < ns.length) (he : ix ns i = ix ns j) : i = j := by
  have hi' : i < (keysOf ns).length := by simpa [keysOf] using hi
  unfold ix at he
  rw [List.getElem?_eq_getElem hi, List.getElem?_eq_getElem hj] at he
  refine (List.getElem?_inj hi' h).1 ?_
  unfold keysOf
  rw [List.getElem?_map, List.getElem?_map, List.getElem?_eq_getElem hi, List.getElem?_eq_getElem hj]
  exact congrArg (fun x : ByteArray => some x.toList) he

theorem ix_of {ns : List ByteArray} {i : Nat} {nm : ByteArray} (h : ns[i]? = some nm) : ix ns i = nm := by
  unfold ix
  rw [h]
  rfl

/-- Links are these wants. -/
structure LinksOf (ns : List ByteArray) (l : List (Wt Nat)) (ws : List WantD) : Prop where
  lt : ∀ x ∈ l, x.n < ns.length
  eq : l.map (Wt.ren (ix ns)) = ws.map WantD.wt

theorem LinksOf.more {ns new : List ByteArray} {l : List (Wt Nat)} {ws : List WantD} (h : LinksOf ns l ws) : LinksOf (ns ++ new) l ws := by
  refine ⟨fun x hx => Nat.lt_of_lt_of_le (h.lt x hx) (by simp), ?_⟩
  rw [← h.eq]
  apply List.map_congr_left
  intro x hx
  unfold Wt.ren
  rw [ix_append _ _ (h.lt x hx)]

theorem LinksOf.len {ns : List ByteArray} {l : List (Wt Nat)} {ws : List WantD} (h : LinksOf ns l ws) : l.length = ws.length := by
  have := congrArg List.length h.eq
  simpa using this

/-- The place of a name: what is known then, and that it stands there. -/
theorem placeN_is (ns : List ByteArray) (nm : ByteArray) : (∃ new, (placeN ns nm).2 = ns ++ new) ∧ ix (placeN ns nm).2 (placeN ns nm).1 = nm := by
  unfold placeN
  split
  · rename_i i hi
    refine ⟨⟨[], by simp⟩, ?_⟩
    obtain ⟨h1, h2, _⟩ := List.findIdx?_eq_some_iff_getElem.1 hi
    simp only
    rw [ix_of (List.getElem?_eq_getElem h1)]
    exact key_inj (eq_of_beq h2)
  · refine ⟨⟨[nm], rfl⟩, ?_⟩
    simp only
    exact ix_of (by simp)

theorem placeN_at {ns : List ByteArray} (h : (keysOf ns).Nodup) {t : Nat} {nm : ByteArray} (ht : ns[t]? = some nm) : placeN ns nm = (t, ns) := by
  obtain ⟨htl, hte⟩ := List.getElem?_eq_some_iff.1 ht
  unfold placeN
  split
  · rename_i i hi
    obtain ⟨h1, h2, _⟩ := List.findIdx?_eq_some_iff_getElem.1 hi
    have : i = t := ix_inj h h1 htl (by rw [ix_of (List.getElem?_eq_getElem h1), ix_of ht]; exact key_inj (eq_of_beq h2))
    rw [this]
  · rename_i hno
    have := List.findIdx?_eq_none_iff.1 hno nm (List.mem_of_getElem? ht)
    simp at this

theorem linkedN_is (ns : List ByteArray) (ws : List WantD) : (∃ new, (linkedN ns ws).2 = ns ++ new) ∧ LinksOf (linkedN ns ws).2 (linkedN ns ws).1 ws := by
  have key : ∀ (us vs : List WantD) (p : List (Wt Nat) × List ByteArray), (∃ new, p.2 = ns ++ new) → LinksOf p.2 p.1 us → (∃ new, (vs.foldl linkStep p).2 = ns ++ new) ∧ LinksOf (vs.foldl linkStep p).2 (vs.foldl linkStep p).1 (us ++ vs) := by
    intro us vs
    induction vs generalizing us with
    | nil => intro p h1 h2; rw [List.append_nil]; exact ⟨h1, h2⟩
    | cons a t ih =>
      rintro p ⟨n1, h1⟩ h2
      obtain ⟨⟨n2, h3⟩, h4⟩ := placeN_is p.2 a.name
      have := ih (us ++ [a]) (linkStep p a) ⟨n1 ++ n2, by unfold linkStep; simp only; rw [h3, h1, List.append_assoc]⟩ (by
        unfold linkStep
        simp only
        have h5 := placeN_lt p.2 a.name
        refine ⟨fun x hx => ?_, ?_⟩
        · rcases List.mem_append.1 hx with hx | hx
          · rw [h3]
            exact (h2.more (new := n2)).lt x hx
          · simp at hx
            subst hx
            exact h5
        · rw [List.map_append, List.map_append]
          congr 1
          · rw [h3]
            exact (h2.more (new := n2)).eq
          · simp only [List.map_cons, List.map_nil, Wt.ren, WantD.wt, h4])
      rw [List.append_assoc] at this
      exact this
  have := key [] ws ([], ns) ⟨[], by simp⟩ ⟨fun x (hx : x ∈ []) => (by cases hx), rfl⟩
  exact this

/-- Among the wants that were asked: is there one of just this version of this name? -/
def aloneW (ask : List WantD) (nm : ByteArray) (v : Int) : Bool := ask.any fun x => x.name.toList == nm.toList && (x.lo == v && x.hi == v)

theorem alone_is {ns : List ByteArray} {l : List (Wt Nat)} {ask : List WantD} (h : LinksOf ns l ask) (hn : (keysOf ns).Nodup) {i : Nat} (hi : i < ns.length) {nm : ByteArray} (hm : ix ns i = nm) (v : Int) : aloneN l i v = aloneW ask nm v := by
  have e1 : aloneW ask nm v = (ask.map WantD.wt).any fun x => x.n.toList == nm.toList && (x.lo == v && x.hi == v) := by
    rw [List.any_map]; rfl
  rw [e1, ← h.eq, List.any_map]
  unfold aloneN
  have hl := h.lt
  clear e1 h
  induction l with
  | nil => rfl
  | cons x t ih =>
    rw [List.any_cons, List.any_cons, ih (fun y hy => hl y (by simp [hy]))]
    congr 1
    have : (x.n == i) = ((ix ns x.n).toList == nm.toList) := by
      cases hx : (x.n == i) with
      | true => rw [eq_of_beq hx, hm]; simp
      | false =>
        symm
        rw [beq_eq_false_iff_ne]
        intro hc
        rw [beq_eq_false_iff_ne] at hx
        exact hx (ix_inj hn (hl x (by simp)) hi ((key_inj hc).trans hm.symm))
    simp only [Wt.ren, Function.comp, this]

/-- What is offered of a version. -/
def OfrIs (ns : List ByteArray) (o : Option (List (Wt Nat))) (c : Option (List WantD)) : Prop := o.isSome = c.isSome ∧ ∀ l ws, o = some l → c = some ws → LinksOf ns l ws

theorem OfrIs.more {ns new : List ByteArray} {o : Option (List (Wt Nat))} {c : Option (List WantD)} (h : OfrIs ns o c) : OfrIs (ns ++ new) o c := ⟨h.1, fun l ws h1 h2 => (h.2 l ws h1 h2).more⟩

end Go.Proofs.YtgcldedkempjhaaDoor
