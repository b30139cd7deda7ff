/-
  What Show tells: the program's text is the document's.
-/
import Derived.Test.YtgcldedkempjhaaGreatDoorAgree
namespace Go.Proofs.YtgcldedkempjhaaGreatDoor
open Go.RowKit

theorem toList_bytes (s : ByteArray) : s.toList = bytes s := ByteArray.toList_eq s
theorem toList_inj {s t : ByteArray} (h : s.toList = t.toList) : s = t := by rw [toList_bytes, toList_bytes] at h; exact bytes_inj h
theorem bytes_append (a b : ByteArray) : bytes (a ++ b) = bytes a ++ bytes b := by simp [bytes]

def joinL : List (List UInt8) → List UInt8
  | [] => []
  | [x] => x
  | x :: y :: l => x ++ 44 :: joinL (y :: l)

theorem joinL_cons (x : List UInt8) (l : List (List UInt8)) (h : l ≠ []) : joinL (x :: l) = x ++ 44 :: joinL l := by
  cases l with
  | nil => exact absurd rfl h
  | cons y l => rfl

theorem joinL_snoc (l : List (List UInt8)) (x : List UInt8) (h : l ≠ []) : joinL (l ++ [x]) = joinL l ++ 44 :: x := by
  induction l with
  | nil => exact absurd rfl h
  | cons y l ih =>
    cases l with
    | nil => rfl
    | cons z l =>
      have := ih (by simp)
      show y ++ 44 :: joinL ((z :: l) ++ [x]) = _
      rw [this]
      show _ = (y ++ 44 :: joinL (z :: l)) ++ 44 :: x
      simp

theorem joinL_nil {l : List (List UInt8)} (hne : ∀ x ∈ l, x ≠ []) (h : joinL l = []) : l = [] := by
  match l, h with
  | [], _ => rfl
  | [x], h => exact absurd h (hne x (by simp))
  | x :: y :: l, h => simp [joinL] at h

/-- A version's text. -/
def item (f : Int → Option Bool) (v : Nat) : List (List UInt8) :=
  match f v with
  | none => []
  | some off => [[UInt8.ofNat (48 + v)] ++ if off then [42] else []]

def upL (f : Int → Option Bool) : Nat → List (List UInt8)
  | 0 => []
  | k + 1 => upL f k ++ item f (k + 1)

def downL (f : Int → Option Bool) : Nat → List (List UInt8)
  | 0 => []
  | k + 1 => item f (9 - k) ++ downL f k

theorem up_down (f : Int → Option Bool) : upL f 9 = downL f 9 := by simp [upL, downL]

theorem item_ne (f : Int → Option Bool) (v : Nat) : ∀ x ∈ item f v, x ≠ [] := by
  intro x hx
  unfold item at hx
  split at hx
  · cases hx
  · simp at hx; subst hx; simp

theorem upL_ne (f : Int → Option Bool) (k : Nat) : ∀ x ∈ upL f k, x ≠ [] := by
  induction k with
  | zero => intro x hx; cases hx
  | succ k ih =>
    intro x hx
    rcases List.mem_append.1 hx with h | h
    · exact ih x h
    · exact item_ne f _ x h

theorem downL_ne (f : Int → Option Bool) (k : Nat) : ∀ x ∈ downL f k, x ≠ [] := by
  induction k with
  | zero => intro x hx; cases hx
  | succ k ih =>
    intro x hx
    rcases List.mem_append.1 hx with h | h
    · exact item_ne f _ x h
    · exact ih x h

theorem digit_bytes (v : Nat) : bytes (digitS v) = [UInt8.ofNat (48 + v)] := rfl

theorem empty_iff {s : ByteArray} {l : List (List UInt8)} (h : bytes s = joinL l) (hne : ∀ x ∈ l, x ≠ []) : s.toList.isEmpty = true ↔ l = [] := by
  rw [toList_bytes, h, List.isEmpty_iff]
  constructor
  · exact joinL_nil hne
  · rintro rfl; rfl

theorem ptell_bytes (es : List PEd) (pack : ByteArray) (k : Nat) : bytes (ptell es pack k) = joinL (upL (fun v => (pedF es pack v).map PEd.off) k) := by
  induction k with
  | zero => rfl
  | succ k ih =>
    have hemp := empty_iff ih (upL_ne _ k)
    have hc : (((k + 1 : Nat) : Int)) = (k : Int) + 1 := by omega
    have hi : item (fun v => (pedF es pack v).map PEd.off) (k + 1) = match pedF es pack ((k : Int) + 1) with
      | none => []
      | some e => [[UInt8.ofNat (48 + (k + 1))] ++ if e.off then [42] else []] := by
      unfold item
      rw [hc]
      simp only
      cases pedF es pack ((k : Int) + 1) <;> rfl
    show bytes (ptell es pack (k + 1)) = joinL (upL (fun v => (pedF es pack v).map PEd.off) k ++ item (fun v => (pedF es pack v).map PEd.off) (k + 1))
    rw [hi]
    unfold ptell
    cases hp : pedF es pack ((k : Int) + 1) with
    | none => simp only [List.append_nil]; exact ih
    | some e =>
      simp only
      have hs : bytes (if e.off then (⟨#[42]⟩ : ByteArray) else ⟨#[]⟩) = if e.off then [42] else [] := by cases e.off <;> rfl
      by_cases he : (ptell es pack k).toList.isEmpty = true
      · have hl := hemp.1 he
        rw [if_pos he, bytes_append, bytes_append, ih, hl, digit_bytes, hs]
        rfl
      · have hl : upL (fun v => (pedF es pack v).map PEd.off) k ≠ [] := fun h => he (hemp.2 h)
        rw [if_neg he, bytes_append, bytes_append, bytes_append, ih, joinL_snoc _ _ hl, digit_bytes, hs]
        show _ ++ [44] ++ _ ++ _ = _
        simp

theorem tellE_bytes (ds : List Deed) (o pack : ByteArray) (k : Nat) (hk : k ≤ 9) : bytes (tellE ds o pack k) = joinL (downL (fun v => if (relF ds o pack v).isSome then some (yankF ds o pack v) else none) k) := by
  induction k with
  | zero => rfl
  | succ k ih =>
    have ih := ih (by omega)
    have hemp := empty_iff ih (downL_ne _ k)
    have hi : item (fun v => if (relF ds o pack v).isSome then some (yankF ds o pack v) else none) (9 - k) = if (relF ds o pack ((9 - k : Nat) : Int)).isSome then [[UInt8.ofNat (48 + (9 - k))] ++ if yankF ds o pack ((9 - k : Nat) : Int) then [42] else []] else [] := by
      unfold item
      simp only
      cases (relF ds o pack ((9 - k : Nat) : Int)).isSome <;> rfl
    show bytes (tellE ds o pack (k + 1)) = joinL (item (fun v => if (relF ds o pack v).isSome then some (yankF ds o pack v) else none) (9 - k) ++ downL (fun v => if (relF ds o pack v).isSome then some (yankF ds o pack v) else none) k)
    rw [hi]
    unfold tellE
    cases hp : (relF ds o pack ((9 - k : Nat) : Int)).isSome with
    | false => simp only [Bool.false_eq_true, if_false, List.nil_append]; exact ih
    | true =>
      simp only [if_true]
      have hs : bytes (oneE ds o pack (9 - k)) = [UInt8.ofNat (48 + (9 - k))] ++ if yankF ds o pack ((9 - k : Nat) : Int) then [42] else [] := by
        unfold oneE
        cases yankF ds o pack ((9 - k : Nat) : Int) with
        | true => rw [if_pos rfl, bytes_append, digit_bytes]; rfl
        | false => rw [if_neg (by decide), digit_bytes]; rfl
      by_cases he : (tellE ds o pack k).toList.isEmpty = true
      · have hl := hemp.1 he
        rw [if_pos he, hs, hl]
        rfl
      · have hl : downL (fun v => if (relF ds o pack v).isSome then some (yankF ds o pack v) else none) k ≠ [] := fun h => he (hemp.2 h)
        rw [if_neg he, bytes_append, bytes_append, ih, hs]
        show _ = joinL (_ :: downL _ k)
        rw [joinL_cons _ _ hl]
        show _ ++ [44] ++ _ = _
        simp

theorem tell_agree {ds : List Deed} {o pack : ByteArray} {es : List PEd} (h1 : ∀ v, (relF ds o pack v).isSome = (pedF es pack v).isSome) (h2 : ∀ v, yankF ds o pack v = offOf (pedF es pack v)) : tellE ds o pack 9 = ptell es pack 9 := by
  apply bytes_inj
  rw [tellE_bytes ds o pack 9 (Nat.le_refl _), ptell_bytes, up_down]
  congr 2
  funext v
  rw [h1, h2]
  cases pedF es pack v <;> rfl

theorem hse_name {hs : List PHse} {nm : ByteArray} {h : PHse} (hh : hseF hs nm = some h) : h.name = nm := by
  have := List.find?_some hh
  exact toList_inj (by simpa using this)

theorem word_ne {s : ByteArray} (h : wordF s = true) : s.toList.isEmpty = false := by
  rw [toList_bytes]
  rw [wordF_bytes] at h
  unfold wordL at h
  cases hb : bytes s with
  | nil => rw [hb] at h; simp at h
  | cons x l => rfl

theorem show_agree {P : PDep} {ds : List Deed} (s : Sim P ds) (hl : Lens P) (house : ByteArray) (id : Int) (name : ByteArray) :
    dshowP P house id name = showE (roleF P.root P.clock ds house id) ds house name := by
  unfold dshowP showE
  rw [← role_agree s house id]
  cases (heldF P house id == 0) with
  | true => rfl
  | false =>
    simp only [Bool.false_eq_true, if_false]
    cases hn : nameF name with
    | false => rfl
    | true =>
      simp only [Bool.true_eq_false, if_false]
      have hnone : hseF P.hs noB = none := by
        cases hq : hseF P.hs noB with
        | none => rfl
        | some y =>
          have := word_ne (lens_of hl hq).2.2.2.1
          rw [hse_name hq, noB_empty] at this
          cases this
      have pub : placeF P name = (none, name) → ownerF ds name = (noB, name) →
          (match placeF P name with
          | (some h, l) => if ((h.name.toList == house.toList) || grtF h.grs l house) && phas h.eds l then (h.name ++ ⟨#[58]⟩ ++ ptell h.eds l 9, (0 : Int)) else (⟨#[]⟩, 7)
          | (none, l) => if phas P.pub l then (pubWord ++ ⟨#[58]⟩ ++ ptell P.pub l 9, 0) else (⟨#[]⟩, 7)) =
          if seenE ds house name = false then (⟨#[]⟩, 7) else (whoseE (ownerF ds name).1 ++ ⟨#[58]⟩ ++ tellE ds (ownerF ds name).1 (ownerF ds name).2 9, 0) := by
        intro h1 h2
        have hseen : seenE ds house name = phas P.pub name := by
          unfold seenE
          rw [h2]
          simp only
          rw [noB_empty, has_pub s]
          simp
        have hy : ∀ v, yankF ds noB name v = offOf (pedF P.pub name v) := by
          intro v
          rw [s.s8 noB name v]
          have e : stock P.hs noB = [] := by unfold stock; rw [hnone]
          rw [e]
          show false = _
          cases hq : pedF P.pub name v with
          | none => rfl
          | some y => exact (s.s11 y (List.mem_of_find?_eq_some hq)).symm
        rw [h1, hseen, h2]
        simp only
        rw [tell_agree (fun v => rel_pub s name v) hy]
        have hw : whoseE noB = pubWord := by unfold whoseE; rw [noB_empty]; rfl
        rw [hw]
        cases phas P.pub name <;> rfl
      rcases cut_name hn with ⟨a, b, hsp, hcut, ha, hb, _⟩ | ⟨hsp, hcut, _⟩
      · cases hh : hseF P.hs a with
        | none =>
          have h2 := s.s2 a
          rw [hh] at h2
          have h0 : ¬ 0 < didF ds kFound a := of_decide_eq_false h2
          exact pub (by unfold placeF; rw [hsp]; simp only [if_true]; rw [hh]) (by unfold ownerF; rw [hcut]; simp only; rw [if_neg h0])
        | some h =>
          have h2 := s.s2 a
          rw [hh] at h2
          have h0 : 0 < didF ds kFound a := of_decide_eq_true h2
          have hp : placeF P name = (some h, b) := by unfold placeF; rw [hsp]; simp only [if_true]; rw [hh]
          have ho : ownerF ds name = (a, b) := by unfold ownerF; rw [hcut]; simp only; rw [if_pos h0]
          have hane := word_ne ha
          have hname := hse_name hh
          have hseen : seenE ds house name = (((h.name.toList == house.toList) || grtF h.grs b house) && phas h.eds b) := by
            unfold seenE
            rw [ho]
            simp only
            rw [hane, has_house s hane hh, granted_house s hh, hname, Bool.false_or, Bool.and_comm]
          have hy : ∀ v, yankF ds a b v = offOf (pedF h.eds b v) := by
            intro v
            rw [s.s8 a b v, stock_of hh]
          rw [hp, hseen, ho]
          simp only
          rw [tell_agree (fun v => rel_house s hane hh b v) hy]
          have hw : whoseE a = h.name := by unfold whoseE; rw [hane, hname]; rfl
          rw [hw]
          cases (((h.name.toList == house.toList) || grtF h.grs b house) && phas h.eds b) <;> rfl
      · exact pub (by unfold placeF; rw [hsp]; rfl) (by unfold ownerF; rw [hcut])

end Go.Proofs.YtgcldedkempjhaaGreatDoor
