/-
  Words, names, wants, as plain functions of texts.
-/
import Derived.WalkKit
namespace Go.Proofs.YtgcldedkempjhabGreatDoor

def lowB (c : UInt8) : Bool := 97 ≤ c && c ≤ 122
def wordF (s : ByteArray) : Bool := decide (1 ≤ s.size) && decide (s.size ≤ 4) && s.data.toList.all lowB

theorem take_snoc (s : ByteArray) (k : Nat) (h : k < s.size) : s.data.toList.take (k + 1) = s.data.toList.take k ++ [s[k]] := by
  rw [List.take_succ_eq_append_getElem (by simpa using h)]; rfl

theorem lowB_iff (c : UInt8) : lowB c = true ↔ (97 ≤ (c.toNat : Int) ∧ (c.toNat : Int) ≤ 122) := by
  simp [lowB, UInt8.le_iff_toNat_le]; omega

theorem wordF_no (s : ByteArray) (k : Nat) (h : k < s.size) (hk : lowB s[k] = false) : wordF s = false := by
  have : s.data.toList.all lowB = false := by
    rw [List.all_eq_false]
    exact ⟨s[k], by simp [ByteArray.getElem_eq_getElem_data], by simp [hk]⟩
  simp [wordF, this]

theorem wordF_short (s : ByteArray) (h : s.size < 1) : wordF s = false := by simp [wordF]; omega
theorem wordF_long (s : ByteArray) (h : 4 < s.size) : wordF s = false := by simp [wordF]; omega

def mayF (role : Int) : Int × Int := if role == 0 then (0, 3) else (role, 0)

def tickF (time n : Int) : Int := if 1099511627776 - time < n then 1099511627776 else time + n

def byteAt (s : ByteArray) (k : Nat) : Int := if h : k < s.size then (s[k].toNat : Int) else 0

theorem byteAt_lt (s : ByteArray) (k : Nat) (h : k < s.size) : byteAt s k = (s[k].toNat : Int) := by simp [byteAt, h]

/-- A text cut at each byte c: the pieces among the first k bytes, and where the next begins. -/
def cutTo (s : ByteArray) (c : Int) : Nat → List ByteArray × Nat
  | 0 => ([], 0)
  | k + 1 => if byteAt s k == c then ((cutTo s c k).1 ++ [s.extract (cutTo s c k).2 k], k + 1) else cutTo s c k

def cutF (s : ByteArray) (c : Int) : List ByteArray := (cutTo s c s.size).1 ++ [s.extract (cutTo s c s.size).2 s.size]

theorem cutTo_le (s : ByteArray) (c : Int) (k : Nat) : (cutTo s c k).2 ≤ k ∧ (cutTo s c k).1.length ≤ k := by
  induction k with
  | zero => exact ⟨Nat.le_refl _, Nat.le_refl _⟩
  | succ k ih =>
    unfold cutTo
    split
    · simp; omega
    · omega

def nameF (s : ByteArray) : Bool := decide ((cutF s 47).length ≤ 2) && (cutF s 47).all wordF

/-- The text of a list of bytes' parts at each byte c. -/
def splitL (c : UInt8) : List UInt8 → List (List UInt8)
  | [] => [[]]
  | x :: xs => if x = c then [] :: splitL c xs else match splitL c xs with
    | [] => [[x]]
    | p :: ps => (x :: p) :: ps

theorem splitL_cons (c x : UInt8) (xs : List UInt8) : splitL c (x :: xs) = if x = c then [] :: splitL c xs else match splitL c xs with
    | [] => [[x]]
    | p :: ps => (x :: p) :: ps := rfl

theorem splitL_ne (c : UInt8) (l : List UInt8) : splitL c l ≠ [] := by
  cases l with
  | nil => simp [splitL]
  | cons x xs =>
    unfold splitL
    split
    · simp
    · split <;> simp

theorem splitL_no {c : UInt8} {l : List UInt8} (h : c ∉ l) : splitL c l = [l] := by
  induction l with
  | nil => rfl
  | cons x xs ih =>
    have hx : ¬ x = c := fun e => h (by simp [e])
    have := ih (fun hm => h (by simp [hm]))
    unfold splitL
    rw [if_neg hx, this]

theorem splitL_at {c : UInt8} {a b : List UInt8} (h : c ∉ a) : splitL c (a ++ c :: b) = a :: splitL c b := by
  induction a with
  | nil => simp [splitL]
  | cons x xs ih =>
    have hx : ¬ x = c := fun e => h (by simp [e])
    have := ih (fun hm => h (by simp [hm]))
    show splitL c (x :: (xs ++ c :: b)) = _
    rw [splitL_cons, if_neg hx, this]

theorem splitL_snoc (c x : UInt8) (l : List UInt8) : ∀ ps p, splitL c l = ps ++ [p] → splitL c (l ++ [x]) = if x = c then ps ++ [p] ++ [[]] else ps ++ [p ++ [x]] := by
  induction l with
  | nil =>
    intro ps p h
    have h' : ps ++ [p] = [[]] := h.symm
    obtain ⟨rfl, rfl⟩ : ps = [] ∧ p = [] := by
      cases ps with
      | nil => simpa using h'
      | cons a as => simp at h'
    by_cases hx : x = c
    · simp [splitL, hx]
    · simp [splitL, hx]
  | cons y ys ih =>
    intro ps p h
    obtain ⟨qs, q, hq⟩ : ∃ qs q, splitL c ys = qs ++ [q] := ⟨_, _, (List.dropLast_concat_getLast (splitL_ne c ys)).symm⟩
    have hi := ih qs q hq
    show splitL c (y :: (ys ++ [x])) = _
    rw [splitL_cons] at h ⊢
    by_cases hy : y = c
    · rw [if_pos hy] at h ⊢
      rw [hq] at h
      have e : ps = [] :: qs ∧ p = q := by
        have : ([] :: qs) ++ [q] = ps ++ [p] := h
        have := List.append_inj' this rfl
        simp at this
        exact ⟨this.1.symm, this.2.symm⟩
      rw [hi, e.1, e.2]
      by_cases hx : x = c <;> simp [hx]
    · rw [if_neg hy] at h ⊢
      rw [hq] at h
      rw [hi]
      cases qs with
      | nil =>
        simp only [List.nil_append] at h
        have e : ps = [] ∧ p = y :: q := by
          cases ps with
          | nil => simp at h; exact ⟨rfl, h.symm⟩
          | cons a as => simp at h
        rw [e.1, e.2]
        by_cases hx : x = c <;> simp [hx]
      | cons r rs =>
        have e : ps = (y :: r) :: rs ∧ p = q := by
          have : ((y :: r) :: rs) ++ [q] = ps ++ [p] := h
          have := List.append_inj' this rfl
          simp at this
          exact ⟨this.1.symm, this.2.symm⟩
        rw [e.1, e.2]
        by_cases hx : x = c <;> simp [hx]

def bytes (s : ByteArray) : List UInt8 := s.data.toList

theorem bytes_extract (s : ByteArray) (a b : Nat) : bytes (s.extract a b) = ((bytes s).take b).drop a := by
  simp [bytes, ByteArray.data_extract, List.extract_eq_take_drop, List.drop_take]

theorem cutTo_bytes (s : ByteArray) (c : UInt8) (k : Nat) (hk : k ≤ s.size) :
    splitL c ((bytes s).take k) = (cutTo s c.toNat k).1.map bytes ++ [((bytes s).take k).drop (cutTo s c.toNat k).2] := by
  induction k with
  | zero => simp [splitL, cutTo]
  | succ k ih =>
    have hlt : k < s.size := by omega
    have ht : (bytes s).take (k + 1) = (bytes s).take k ++ [s[k]] := take_snoc s k hlt
    obtain ⟨hle, _⟩ := cutTo_le s c.toNat k
    have hl : ((bytes s).take k).length = k := by simp [bytes]; omega
    have hs := splitL_snoc c s[k] _ _ _ (ih (by omega))
    rw [ht, hs]
    have hb : byteAt s k = (s[k].toNat : Int) := byteAt_lt s k hlt
    by_cases hc : s[k] = c
    · have : (byteAt s k == (c.toNat : Int)) = true := by rw [hb, hc]; simp
      have e : cutTo s c.toNat (k + 1) = ((cutTo s c.toNat k).1 ++ [s.extract (cutTo s c.toNat k).2 k], k + 1) := by
        show (if (byteAt s k == (c.toNat : Int)) = true then _ else _) = _
        rw [if_pos this]
      rw [if_pos hc, e]
      simp only [List.map_append, List.map_cons, List.map_nil]
      rw [bytes_extract]
      congr 1
      rw [List.drop_of_length_le (by simp [hl])]
    · have : ¬ (byteAt s k == (c.toNat : Int)) = true := by
        rw [hb]
        intro h
        exact hc (UInt8.toNat_inj.1 (Int.ofNat.inj (beq_iff_eq.1 h)))
      have e : cutTo s c.toNat (k + 1) = cutTo s c.toNat k := by
        show (if (byteAt s k == (c.toNat : Int)) = true then _ else _) = _
        rw [if_neg this]
      rw [if_neg hc, e]
      congr 1
      rw [List.drop_append_of_le_length (by rw [hl]; omega)]

theorem cutF_bytes (s : ByteArray) (c : UInt8) : (cutF s c.toNat).map bytes = splitL c (bytes s) := by
  have h := cutTo_bytes s c s.size (Nat.le_refl _)
  have hl : (bytes s).take s.size = bytes s := List.take_of_length_le (by simp [bytes])
  rw [hl] at h
  rw [h, cutF, List.map_append]
  simp only [List.map_cons, List.map_nil]
  rw [bytes_extract, hl]

end Go.Proofs.YtgcldedkempjhabGreatDoor
