/-
  The program's houses h and g and the book of what was let in: what ties them.
-/
import Derived.Test.YtgcldedkempjhaaDoorPLem
import Derived.Test.YtgcldedkempjhaaDoorTurnRevoke
namespace Go.Proofs.YtgcldedkempjhaaDoor
open Go.RowKit

def Bk.tok (b : Bk) : Tok := ⟨b.id, b.role, b.till, b.gone⟩

def projT (bs : List Bk) (nm : ByteArray) : List Tok := (bs.filter fun b => b.house.toList == nm.toList).map Bk.tok

structure BSim (hs : List PHse) (bs : List Bk) : Prop where
  some : ∀ nm h, hseF hs nm = some h → isHG nm = true ∧ h.toks = projT bs nm
  none : ∀ nm, hseF hs nm = none → isHG nm = false ∧ projT bs nm = []
  all : ∀ b, b ∈ bs → isHG b.house = true

theorem projT_key (bs : List Bk) {a b : ByteArray} (h : a.toList = b.toList) : projT bs a = projT bs b := by unfold projT; rw [h]

theorem isHG_key {a b : ByteArray} (h : a.toList = b.toList) : isHG a = isHG b := by unfold isHG; rw [h]

theorem tokF_proj (bs : List Bk) (nm : ByteArray) (n : Int) : tokF (projT bs nm) n = (bookF bs nm n).map Bk.tok := by
  induction bs with
  | nil => rfl
  | cons b bs ih =>
    unfold projT bookF tokF at *
    rw [List.filter_cons, List.find?_cons]
    unfold bookP at *
    cases hb : (b.house.toList == nm.toList) with
    | false =>
      simp only [Bool.false_and]
      exact ih
    | true =>
      simp only [if_true, List.map_cons, List.find?_cons, Bool.true_and]
      show (match b.id == n with | true => _ | false => _) = _
      cases (b.id == n) with
      | true => rfl
      | false => exact ih

theorem projT_length (bs : List Bk) (nm : ByteArray) : (projT bs nm).length = countF bs nm := by unfold projT countF; rw [List.length_map]

theorem brole_agree {hs : List PHse} {bs : List Bk} (s : BSim hs bs) (now : Int) (pub : List PEd) (yk : Nat) (house : ByteArray) (id : Int) (hid : house.toList.isEmpty = true → id = 77) : heldF ⟨77, now, hs, pub, yk⟩ house id = bookRole now bs house id := by
  unfold heldF bookRole
  cases he : house.toList.isEmpty with
  | true => simp [hid he]
  | false =>
    simp only [Bool.false_eq_true, if_false]
    cases hh : hseF hs house with
    | none =>
      have h2 := (s.none house hh).2
      have := tokF_proj bs house id
      rw [h2] at this
      cases hb : bookF bs house id with
      | none => rfl
      | some b => rw [hb] at this; simp [tokF] at this
    | some h =>
      simp only
      unfold roleT
      rw [(s.some house h hh).2, tokF_proj]
      cases bookF bs house id with
      | none => rfl
      | some b => rfl

theorem bmint_agree {hs : List PHse} {bs : List Bk} (s : BSim hs bs) (r : Int) (same : Bool) (of : ByteArray) (a b c : Int) : mintP (manageF r same) hs of a b c = bmintE r same (isHG of) a b c (bookF bs of b).isSome (countF bs of) := by
  by_cases h0 : r = 0
  · subst h0; rw [bm3 rfl]; rfl
  · have b0 : (r == 0) = false := beq_eq_false_iff_ne.2 h0
    by_cases hp : r = 4 ∨ (r = 3 ∧ same = true)
    · have hm : manageF r same = 0 := by
        rcases hp with rfl | ⟨rfl, rfl⟩ <;> rfl
      rw [hm, bmP b0 hp]
      unfold mintP
      cases hh : hseF hs of with
      | none => rw [(s.none of hh).1]; rfl
      | some h =>
        obtain ⟨h1, h2⟩ := s.some of h hh
        rw [h1]
        simp only [mintT, h2, tokF_proj, projT_length, Option.isSome_map]
        simp
    · have h4 : ¬ r = 4 := fun h => hp (Or.inl h)
      have b4 : (r == 4) = false := beq_eq_false_iff_ne.2 h4
      have hm : manageF r same = 4 := by
        unfold manageF
        by_cases h3 : r = 3
        · subst h3
          cases same with
          | false => rfl
          | true => exact absurd (Or.inr ⟨rfl, rfl⟩) hp
        · have b3 : (r == 3) = false := beq_eq_false_iff_ne.2 h3
          simp [b0, b4, b3]
      rw [hm, bm4 b0 h4 (by
        by_cases h3 : r = 3
        · right
          cases same with
          | false => rfl
          | true => exact absurd (Or.inr ⟨h3, rfl⟩) hp
        · exact Or.inl h3)]
      rfl

theorem brevoke_agree {hs : List PHse} {bs : List Bk} (s : BSim hs bs) (r : Int) (same : Bool) (of : ByteArray) (a : Int) : revokeP (manageF r same) hs of a = brevokeE r same (bookF bs of a).isSome (goneB (bookF bs of a)) := by
  by_cases h0 : r = 0
  · subst h0; rw [br3 rfl]; rfl
  · have b0 : (r == 0) = false := beq_eq_false_iff_ne.2 h0
    by_cases hp : r = 4 ∨ (r = 3 ∧ same = true)
    · have hm : manageF r same = 0 := by
        rcases hp with rfl | ⟨rfl, rfl⟩ <;> rfl
      rw [hm, brP b0 hp]
      unfold revokeP
      have hj := tokF_proj bs of a
      cases hh : hseF hs of with
      | none =>
        rw [(s.none of hh).2] at hj
        cases hb : bookF bs of a with
        | none => rfl
        | some b => rw [hb] at hj; simp [tokF] at hj
      | some h =>
        simp only [revokeT, (s.some of h hh).2, hj]
        cases bookF bs of a with
        | none => rfl
        | some b => cases hg : b.gone <;> simp [Bk.tok, goneB, hg]
    · have h4 : ¬ r = 4 := fun h => hp (Or.inl h)
      have b4 : (r == 4) = false := beq_eq_false_iff_ne.2 h4
      have hm : manageF r same = 4 := by
        unfold manageF
        by_cases h3 : r = 3
        · subst h3
          cases same with
          | false => rfl
          | true => exact absurd (Or.inr ⟨rfl, rfl⟩) hp
        · have b3 : (r == 3) = false := beq_eq_false_iff_ne.2 h3
          simp [b0, b4, b3]
      rw [hm, br4 b0 h4 (by
        by_cases h3 : r = 3
        · right
          cases same with
          | false => rfl
          | true => exact absurd (Or.inr ⟨h3, rfl⟩) hp
        · exact Or.inl h3)]
      rfl

theorem BSim.mint {hs : List PHse} {bs : List Bk} (s : BSim hs bs) {L : List UInt8} {x : TurnD} {h : PHse} (hh : hseF hs x.of = Option.some h) :
    BSim (updH hs x.of fun h => { h with toks := h.toks ++ [⟨x.b, x.a, x.c, false⟩], log := h.log ++ L }) (bs ++ [⟨x.of, x.b, x.a, x.c, false⟩]) := by
  have hset := hseF_upd hs x.of (fun h => { h with toks := h.toks ++ [⟨x.b, x.a, x.c, false⟩], log := h.log ++ L }) (fun _ => rfl)
  rw [hh] at hset
  have hp : ∀ nm, projT (bs ++ [⟨x.of, x.b, x.a, x.c, false⟩]) nm = projT bs nm ++ if (x.of.toList == nm.toList) = true then [⟨x.b, x.a, x.c, false⟩] else [] := by
    intro nm
    unfold projT
    rw [List.filter_append, List.map_append]
    cases hc : (x.of.toList == nm.toList) <;> simp only [List.filter_cons, hc] <;> rfl
  refine ⟨?_, ?_, ?_⟩
  · intro nm h' hq
    rw [hset] at hq
    rw [hp]
    by_cases hc : (x.of.toList == nm.toList) = true
    · rw [if_pos hc] at hq ⊢
      injection hq with hq
      subst hq
      obtain ⟨h1, h2⟩ := s.some x.of _ hh
      rw [isHG_key (beq_iff_eq.1 hc)] at h1
      refine ⟨h1, ?_⟩
      show h.toks ++ _ = _
      rw [h2, projT_key bs (beq_iff_eq.1 hc)]
    · rw [if_neg hc] at hq ⊢
      obtain ⟨h1, h2⟩ := s.some nm _ hq
      exact ⟨h1, by rw [h2, List.append_nil]⟩
  · intro nm hq
    rw [hset] at hq
    rw [hp]
    by_cases hc : (x.of.toList == nm.toList) = true
    · rw [if_pos hc] at hq; cases hq
    · rw [if_neg hc] at hq ⊢
      obtain ⟨h1, h2⟩ := s.none nm hq
      exact ⟨h1, by rw [h2, List.append_nil]⟩
  · intro b hb
    rcases List.mem_append.1 hb with hb | hb
    · exact s.all b hb
    · obtain rfl : b = ⟨x.of, x.b, x.a, x.c, false⟩ := by simpa using hb
      exact (s.some x.of _ hh).1

/-- The first that answers, changed. -/
def setFirst {α : Type} (p : α → Bool) (f : α → α) : List α → List α
  | [] => []
  | x :: l => if p x then f x :: l else x :: setFirst p f l

theorem set_first {α : Type} (p : α → Bool) (f : α → α) (l : List α) (i : Nat) (hi : i < l.length) (h1 : p l[i] = true) (h2 : ∀ j, (hj : j < l.length) → j < i → p l[j] = false) : l.set i (f l[i]) = setFirst p f l := by
  induction l generalizing i with
  | nil => simp at hi
  | cons x l ih =>
    cases i with
    | zero =>
      have h1' : p x = true := h1
      simp [setFirst, h1']
    | succ i =>
      have hx : p x = false := h2 0 (by simp) (by omega)
      simp only [List.set_cons_succ, setFirst, hx, Bool.false_eq_true, if_false, List.getElem_cons_succ]
      rw [ih i (by simpa using hi) (by simpa using h1) (fun j hj hlt => h2 (j + 1) (Nat.succ_lt_succ hj) (by omega))]

def goneBk (b : Bk) : Bk := { b with gone := true }
def goneTk (t : Tok) : Tok := { t with gone := true }

theorem projT_setFirst (bs : List Bk) (of : ByteArray) (a : Int) (nm : ByteArray) : projT (setFirst (bookP of a) goneBk bs) nm = if (of.toList == nm.toList) = true then setFirst (fun t => t.num == a) goneTk (projT bs nm) else projT bs nm := by
  induction bs with
  | nil => simp [setFirst, projT]
  | cons b bs ih =>
    unfold projT at *
    simp only [setFirst]
    cases hb : bookP of a b with
    | true =>
      simp only [if_true]
      have hb' := hb
      simp only [bookP, Bool.and_eq_true] at hb'
      obtain ⟨e1, e2⟩ := hb'
      have e1' : b.house.toList = of.toList := by simpa using e1
      rw [List.filter_cons, List.filter_cons]
      simp only [goneBk, e1']
      cases hc : (of.toList == nm.toList) with
      | true =>
        simp only [if_true, List.map_cons, setFirst]
        have : ((Bk.tok b).num == a) = true := e2
        rw [if_pos this]
        rfl
      | false => simp
    | false =>
      simp only [Bool.false_eq_true, if_false]
      rw [List.filter_cons, List.filter_cons]
      cases hn : (b.house.toList == nm.toList) with
      | false =>
        simp only [Bool.false_eq_true, if_false]
        exact ih
      | true =>
        simp only [if_true, List.map_cons]
        rw [ih]
        by_cases hc : (of.toList == nm.toList) = true
        · rw [if_pos hc, if_pos hc]
          simp only [setFirst]
          have hba : ((Bk.tok b).num == a) = false := by
            have e1 : b.house.toList = of.toList := (beq_iff_eq.1 hn).trans (beq_iff_eq.1 hc).symm
            have hb2 : (b.id == a) = false := by simpa [bookP, e1] using hb
            exact hb2
          rw [if_neg (by rw [hba]; decide)]
        · rw [if_neg hc, if_neg hc]

theorem setFirst_mem {bs : List Bk} {p : Bk → Bool} {b : Bk} (h : b ∈ setFirst p goneBk bs) : ∃ b', b' ∈ bs ∧ b.house = b'.house := by
  induction bs with
  | nil => simp [setFirst] at h
  | cons x bs ih =>
    simp only [setFirst] at h
    split at h
    · rcases List.mem_cons.1 h with rfl | h
      · exact ⟨x, by simp, rfl⟩
      · exact ⟨b, by simp [h], rfl⟩
    · rcases List.mem_cons.1 h with rfl | h
      · exact ⟨b, by simp, rfl⟩
      · obtain ⟨b', h1, h2⟩ := ih h
        exact ⟨b', by simp [h1], h2⟩

theorem setFirst_updF {α : Type} (p : α → Bool) (f : α → α) (l : List α) : updF p f l = setFirst p f l := by
  induction l with
  | nil => rfl
  | cons x l ih => unfold updF setFirst; rw [ih]

theorem BSim.revoke {hs : List PHse} {bs : List Bk} (s : BSim hs bs) {L : List UInt8} {x : TurnD} {h : PHse} (hh : hseF hs x.of = Option.some h)
    {k : Nat} {hk : k < bs.length} (q1 : bookP x.of x.a bs[k] = true) (q2 : ∀ j, (hj : j < bs.length) → j < k → bookP x.of x.a bs[j] = false) :
    BSim (updH hs x.of fun h => { h with toks := revTok h.toks x.a, log := h.log ++ L }) (bs.set k { bs[k] with gone := true }) := by
  have hset := hseF_upd hs x.of (fun h => { h with toks := revTok h.toks x.a, log := h.log ++ L }) (fun _ => rfl)
  rw [hh] at hset
  have e1 : bs.set k { bs[k] with gone := true } = setFirst (bookP x.of x.a) goneBk bs := set_first (bookP x.of x.a) goneBk bs k hk q1 q2
  have e2 : revTok h.toks x.a = setFirst (fun t => t.num == x.a) goneTk h.toks := setFirst_updF _ _ _
  rw [e1]
  refine ⟨?_, ?_, ?_⟩
  · intro nm h' hq
    rw [hset] at hq
    rw [projT_setFirst]
    by_cases hc : (x.of.toList == nm.toList) = true
    · rw [if_pos hc] at hq ⊢
      injection hq with hq
      subst hq
      obtain ⟨h1, h2⟩ := s.some x.of _ hh
      rw [isHG_key (beq_iff_eq.1 hc)] at h1
      refine ⟨h1, ?_⟩
      show revTok h.toks x.a = _
      rw [e2, h2, projT_key bs (beq_iff_eq.1 hc)]
    · rw [if_neg hc] at hq ⊢
      exact s.some nm _ hq
  · intro nm hq
    rw [hset] at hq
    rw [projT_setFirst]
    by_cases hc : (x.of.toList == nm.toList) = true
    · rw [if_pos hc] at hq; cases hq
    · rw [if_neg hc] at hq ⊢
      exact s.none nm hq
  · intro b hb
    obtain ⟨b', h1, h2⟩ := setFirst_mem hb
    rw [h2]
    exact s.all b' h1

theorem len_two (bs : List Bk) (h : ∀ b, b ∈ bs → isHG b.house = true) : bs.length ≤ countF bs kH + countF bs kG := by
  induction bs with
  | nil => simp
  | cons b bs ih =>
    have h0 := h b (by simp)
    have := ih (fun b hb => h b (by simp [hb]))
    unfold countF at *
    rw [List.filter_cons, List.filter_cons]
    unfold isHG at h0
    rcases Bool.or_eq_true_iff.1 h0 with h1 | h1
    · rw [if_pos h1, List.length_cons, List.length_cons]
      split
      · rw [List.length_cons]; omega
      · omega
    · rw [if_pos h1, List.length_cons, List.length_cons]
      split
      · rw [List.length_cons]; omega
      · omega

theorem BSim.few {hs : List PHse} {bs : List Bk} (s : BSim hs bs) (ht : ∀ x ∈ hs, x.toks.length ≤ 8) : bs.length < 1000 := by
  have key : ∀ nm, countF bs nm ≤ 8 := by
    intro nm
    cases h3 : hseF hs nm with
    | some h =>
      have := (s.some nm _ h3).2
      rw [← projT_length, ← this]
      exact ht h (List.mem_of_find?_eq_some h3)
    | none =>
      have := (s.none nm h3).2
      rw [← projT_length, this]
      simp
  have := len_two bs s.all
  have h1 := key kH
  have h2 := key kG
  omega

end Go.Proofs.YtgcldedkempjhaaDoor
