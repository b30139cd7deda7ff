/-
  words: IsWord, Split, IsName.
-/
import Derived.Test.YtgcldedkempjhabGreatDoorPure
import Derived.Test.YtgcldedkempjhabGreatDoorRows
import Derived.Test.YtgcldedkempjhabGreatDoorBaseRow
import Derived.BigQuiet
import Derived.OwnWalk
namespace Go.Proofs.YtgcldedkempjhabGreatDoor
section

theorem bytes_inj {s t : ByteArray} (h : bytes s = bytes t) : s = t := ByteArray.ext (Array.ext' h)

theorem bytes_length (s : ByteArray) : (bytes s).length = s.size := by simp [bytes]

theorem byteAt_bytes (s : ByteArray) (k : Nat) : byteAt s k = (((bytes s)[k]?.map fun x => (x.toNat : Int)).getD 0) := by
  unfold byteAt
  by_cases h : k < s.size
  · rw [dif_pos h]
    have : (bytes s)[k]? = some s[k] := by
      rw [List.getElem?_eq_getElem (by rw [bytes_length]; exact h)]
      rfl
    rw [this]
    rfl
  · rw [dif_neg h, List.getElem?_eq_none (by rw [bytes_length]; omega)]
    rfl

def wordL (l : List UInt8) : Bool := decide (1 ≤ l.length) && decide (l.length ≤ 4) && l.all lowB

theorem wordF_bytes (s : ByteArray) : wordF s = wordL (bytes s) := by
  unfold wordF wordL
  rw [bytes_length]
  rfl

theorem wordL_mem {l : List UInt8} (h : wordL l = true) {x : UInt8} (hx : x ∈ l) : 97 ≤ x.toNat ∧ x.toNat ≤ 122 := by
  unfold wordL at h
  simp only [Bool.and_eq_true, List.all_eq_true] at h
  have := (lowB_iff x).1 (h.2 x hx)
  omega

theorem cutF47 (s : ByteArray) : (cutF s 47).map bytes = splitL 47 (bytes s) := cutF_bytes s 47
theorem cutF44 (s : ByteArray) : (cutF s 44).map bytes = splitL 44 (bytes s) := cutF_bytes s 44
theorem cutF32 (s : ByteArray) : (cutF s 32).map bytes = splitL 32 (bytes s) := cutF_bytes s 32

theorem nameF_bytes (s : ByteArray) : nameF s = (decide ((splitL 47 (bytes s)).length ≤ 2) && (splitL 47 (bytes s)).all wordL) := by
  unfold nameF
  rw [← cutF47, List.length_map, List.all_map, show wordF = wordL ∘ bytes from funext wordF_bytes]

theorem splitL_one {c : UInt8} {l q : List UInt8} (h : splitL c l = [q]) : l = q ∧ c ∉ l := by
  by_cases hm : c ∈ l
  · obtain ⟨a, b, rfl, ha⟩ := List.append_of_mem hm |> fun _ => List.mem_iff_append.1 hm |> fun ⟨s, t, e⟩ => (show ∃ a b, l = a ++ c :: b ∧ c ∉ a from by
      obtain ⟨a, b, e1, e2⟩ := List.eq_append_cons_of_mem hm
      exact ⟨a, b, e1, e2⟩)
    rw [splitL_at ha] at h
    have := splitL_ne c b
    simp at h
    exact absurd h.2 this
  · rw [splitL_no hm] at h
    simp at h
    exact ⟨h, hm⟩

theorem splitL_two {c : UInt8} {l p q : List UInt8} (h : splitL c l = [p, q]) : l = p ++ c :: q ∧ c ∉ p ∧ c ∉ q := by
  by_cases hm : c ∈ l
  · obtain ⟨a, b, rfl, ha⟩ := List.eq_append_cons_of_mem hm
    rw [splitL_at ha] at h
    simp only [List.cons.injEq] at h
    obtain ⟨rfl, h2⟩ := h
    obtain ⟨rfl, h3⟩ := splitL_one h2
    exact ⟨rfl, ha, h3⟩
  · rw [splitL_no hm] at h
    simp at h

/-- Where the first '/' of a text lies. -/
def slashAt (s : ByteArray) : Option Nat := (List.range s.size).find? fun k => byteAt s k == 47

def splitF (s : ByteArray) : ByteArray × ByteArray × Bool :=
  match slashAt s with
  | some k => (s.extract 0 k, s.extract (k + 1) s.size, true)
  | none => (s, ⟨#[]⟩, false)

theorem slash_cases (s : ByteArray) :
    (∃ k, k < s.size ∧ byteAt s k = 47 ∧ (∀ j, j < k → byteAt s j ≠ 47) ∧ slashAt s = some k) ∨ ((∀ j, j < s.size → byteAt s j ≠ 47) ∧ slashAt s = none) := by
  unfold slashAt
  cases h : (List.range s.size).find? (fun k => byteAt s k == 47) with
  | some k =>
    refine Or.inl ⟨k, ?_⟩
    have h1 := List.find?_some h
    have h2 := List.mem_of_find?_eq_some h
    simp at h1 h2
    refine ⟨h2, h1, ?_, rfl⟩
    rw [List.find?_range_eq_some] at h
    intro j hj
    have := h.2.2 j hj
    simpa using this
  | none =>
    refine Or.inr ⟨?_, rfl⟩
    rw [List.find?_eq_none] at h
    intro j hj
    have := h j (by simpa using hj)
    simpa using this

theorem mem47 (s : ByteArray) (k : Nat) : (47 : UInt8) ∈ (bytes s).take k ↔ ∃ j, j < k ∧ j < s.size ∧ byteAt s j = 47 := by
  rw [List.mem_iff_getElem?]
  constructor
  · rintro ⟨j, hj⟩
    rw [List.getElem?_take] at hj
    split at hj
    · rename_i hlt
      refine ⟨j, hlt, ?_, ?_⟩
      · have := (List.getElem?_eq_some_iff.1 hj).1
        rwa [bytes_length] at this
      · rw [byteAt_bytes, hj]; rfl
    · cases hj
  · rintro ⟨j, h1, h2, h3⟩
    refine ⟨j, ?_⟩
    rw [List.getElem?_take, if_pos h1]
    rw [byteAt_bytes, List.getElem?_eq_getElem (by rw [bytes_length]; exact h2)] at h3
    rw [List.getElem?_eq_getElem (by rw [bytes_length]; exact h2)]
    congr 1
    have h3' : ((bytes s)[j].toNat : Int) = 47 := h3
    exact UInt8.toNat_inj.1 (by show _ = 47; omega)

theorem bytes_whole (s : ByteArray) : (bytes s).take s.size = bytes s := List.take_of_length_le (by rw [bytes_length]; exact Nat.le_refl _)

/-- What Split tells, of the text's bytes. -/
theorem splitF_cases (s : ByteArray) :
    (∃ a b : ByteArray, splitF s = (a, b, true) ∧ bytes s = bytes a ++ 47 :: bytes b ∧ (47 : UInt8) ∉ bytes a) ∨ (splitF s = (s, ⟨#[]⟩, false) ∧ (47 : UInt8) ∉ bytes s) := by
  rcases slash_cases s with ⟨k, h1, h2, h3, h4⟩ | ⟨h1, h4⟩
  · refine Or.inl ⟨s.extract 0 k, s.extract (k + 1) s.size, by rw [splitF, h4], ?_, ?_⟩
    · rw [bytes_extract, bytes_extract, bytes_whole, List.drop_zero]
      have e : (bytes s)[k]? = some 47 := by
        rw [List.getElem?_eq_getElem (by rw [bytes_length]; exact h1)]
        congr 1
        rw [byteAt_bytes, List.getElem?_eq_getElem (by rw [bytes_length]; exact h1)] at h2
        have h2' : ((bytes s)[k]'(by rw [bytes_length]; exact h1)).toNat = 47 := by
          have : (((bytes s)[k]'(by rw [bytes_length]; exact h1)).toNat : Int) = 47 := h2
          omega
        exact UInt8.toNat_inj.1 h2'
      have hk : k < (bytes s).length := by rw [bytes_length]; exact h1
      have := List.take_append_drop k (bytes s)
      rw [List.drop_eq_getElem_cons hk] at this
      rw [List.getElem?_eq_getElem hk] at e
      injection e with e
      rw [e] at this
      exact this.symm
    · rw [bytes_extract, List.drop_zero, mem47]
      rintro ⟨j, hj, _, hb⟩
      exact h3 j hj hb
  · refine Or.inr ⟨by rw [splitF, h4], ?_⟩
    have := mem47 s s.size
    rw [bytes_whole] at this
    rw [this]
    rintro ⟨j, hj, _, hb⟩
    exact h1 j hj hb

def isNameF (s : ByteArray) : Bool := if (splitF s).2.2 && !wordF (splitF s).2.1 then false else wordF (splitF s).1

theorem isName_eq (s : ByteArray) : isNameF s = nameF s := by
  rw [nameF_bytes]
  unfold isNameF
  rcases splitF_cases s with ⟨a, b, h1, h2, h3⟩ | ⟨h1, h2⟩
  · rw [h1, h2, splitL_at h3]
    simp only [Bool.true_and]
    rw [wordF_bytes, wordF_bytes]
    cases hb : wordL (bytes b) with
    | false =>
      simp only [Bool.not_false, if_true]
      by_cases hm : (47 : UInt8) ∈ bytes b
      · obtain ⟨c, d, e, hc⟩ := List.eq_append_cons_of_mem hm
        rw [e, splitL_at hc]
        have := splitL_ne 47 d
        have hl : 0 < (splitL 47 d).length := List.length_pos_iff.2 this
        have : decide ((bytes a :: c :: splitL 47 d).length ≤ 2) = false := by simp; omega
        rw [this]; rfl
      · rw [splitL_no hm]
        simp [hb]
    | true =>
      have hm : (47 : UInt8) ∉ bytes b := by
        intro hm
        have := wordL_mem hb hm
        simp at this
      rw [splitL_no hm]
      simp [hb]
  · rw [h1, splitL_no h2]
    simp [wordF_bytes]

/-- A scoped name's two parts are the document's. -/
theorem cut_name {s : ByteArray} (hn : nameF s = true) :
    (∃ a b : ByteArray, splitF s = (a, b, true) ∧ cutF s 47 = [a, b] ∧ wordF a = true ∧ wordF b = true ∧ bytes s = bytes a ++ 47 :: bytes b) ∨ (splitF s = (s, ⟨#[]⟩, false) ∧ cutF s 47 = [s] ∧ wordF s = true) := by
  rw [nameF_bytes] at hn
  rcases splitF_cases s with ⟨a, b, h1, h2, h3⟩ | ⟨h1, h2⟩
  · have h4 := cutF47 s
    rw [h2, splitL_at h3] at hn h4
    by_cases hm : (47 : UInt8) ∈ bytes b
    · obtain ⟨c, d, e, hc⟩ := List.eq_append_cons_of_mem hm
      rw [e, splitL_at hc] at hn
      have := splitL_ne 47 d
      have hl : 0 < (splitL 47 d).length := List.length_pos_iff.2 this
      have : decide ((bytes a :: c :: splitL 47 d).length ≤ 2) = false := by simp; omega
      rw [this] at hn
      cases hn
    · rw [splitL_no hm] at hn h4
      refine Or.inl ⟨a, b, h1, ?_, ?_, ?_, h2⟩
      · match hl : cutF s 47, h4 with
        | [x, y], h5 =>
          simp at h5
          rw [bytes_inj h5.1, bytes_inj h5.2]
        | [], h5 => simp at h5
        | [x], h5 => simp at h5
        | x :: y :: z :: r, h5 => simp at h5
      · rw [wordF_bytes]; simp at hn; exact hn.1
      · rw [wordF_bytes]; simp at hn; exact hn.2
  · have h4 := cutF47 s
    rw [splitL_no h2] at hn h4
    refine Or.inr ⟨h1, ?_, ?_⟩
    · match hl : cutF s 47, h4 with
      | [x], h5 =>
        simp at h5
        rw [bytes_inj h5]
      | [], h5 => simp at h5
      | x :: y :: r, h5 => simp at h5
    · rw [wordF_bytes]; simpa using hn

theorem nameF_mem {s : ByteArray} (hn : nameF s = true) {x : UInt8} (hx : x ∈ bytes s) : x = 47 ∨ (97 ≤ x.toNat ∧ x.toNat ≤ 122) := by
  rcases cut_name hn with ⟨a, b, _, _, ha, hb, e⟩ | ⟨_, _, h⟩
  · rw [e] at hx
    rw [wordF_bytes] at ha hb
    simp at hx
    rcases hx with hx | rfl | hx
    · exact Or.inr (wordL_mem ha hx)
    · exact Or.inl rfl
    · exact Or.inr (wordL_mem hb hx)
  · rw [wordF_bytes] at h
    exact Or.inr (wordL_mem h hx)

structure WantD where
  name : ByteArray
  lo : Int
  hi : Int

def digF (b : Int) : Int := if b < 49 ∨ 57 < b then 0 else b - 48

/-- The program's reading of one want. -/
def wantF (s : ByteArray) : Option WantD :=
  if s.size < 4 then none
  else if byteAt s (s.size - 4) ≠ 32 ∨ byteAt s (s.size - 4 + 2) ≠ 45 then none
  else if digF (byteAt s (s.size - 4 + 1)) < 1 ∨ digF (byteAt s (s.size - 4 + 3)) < digF (byteAt s (s.size - 4 + 1)) then none
  else if nameF (s.extract 0 (s.size - 4)) then some ⟨s.extract 0 (s.size - 4), digF (byteAt s (s.size - 4 + 1)), digF (byteAt s (s.size - 4 + 3))⟩ else none

/-- The document's. -/
def dwantF (s : ByteArray) : Option WantD :=
  match cutF s 32 with
  | [a, b] => if b.size = 3 ∧ byteAt b 1 = 45 ∧ nameF a = true ∧ 1 ≤ byteAt b 0 - 48 ∧ byteAt b 2 - 48 ≤ 9 ∧ byteAt b 0 - 48 ≤ byteAt b 2 - 48 then some ⟨a, byteAt b 0 - 48, byteAt b 2 - 48⟩ else none
  | _ => none

def WantIs (s a : ByteArray) (d1 d2 : UInt8) : Prop := bytes s = bytes a ++ [32, d1, 45, d2] ∧ nameF a = true ∧ 49 ≤ d1.toNat ∧ d1.toNat ≤ d2.toNat ∧ d2.toNat ≤ 57

theorem byteAt_at {s : ByteArray} {k : Nat} {x : UInt8} (h : (bytes s)[k]? = some x) : byteAt s k = (x.toNat : Int) := by
  rw [byteAt_bytes, h]; rfl

theorem at_byte {s : ByteArray} {k : Nat} (h : k < s.size) : ∃ x : UInt8, (bytes s)[k]? = some x ∧ byteAt s k = (x.toNat : Int) := by
  have hk : k < (bytes s).length := by rw [bytes_length]; exact h
  exact ⟨(bytes s)[k], List.getElem?_eq_getElem hk, byteAt_at (List.getElem?_eq_getElem hk)⟩

theorem u8_of {x : UInt8} {n : Nat} (h : (x.toNat : Int) = (n : Int)) (hn : n < 256) : x = UInt8.ofNat n := by
  apply UInt8.toNat_inj.1
  rw [UInt8.toNat_ofNat']
  omega

theorem wantF_of {s a : ByteArray} {d1 d2 : UInt8} (h : WantIs s a d1 d2) : wantF s = some ⟨a, d1.toNat - 48, d2.toNat - 48⟩ := by
  obtain ⟨e, hn, h1, h2, h3⟩ := h
  have hl : s.size = a.size + 4 := by
    have := congrArg List.length e
    rw [bytes_length, List.length_append, bytes_length] at this
    simpa using this
  have ha : (bytes a).length = a.size := bytes_length a
  have b0 : byteAt s (s.size - 4) = 32 := byteAt_at (x := 32) (by rw [e, hl, List.getElem?_append_right (by omega), ha]; simp)
  have b1 : byteAt s (s.size - 4 + 1) = (d1.toNat : Int) := byteAt_at (by rw [e, hl, List.getElem?_append_right (by omega), ha, show a.size + 4 - 4 + 1 - a.size = 1 by omega]; rfl)
  have b2 : byteAt s (s.size - 4 + 2) = 45 := byteAt_at (x := 45) (by rw [e, hl, List.getElem?_append_right (by omega), ha, show a.size + 4 - 4 + 2 - a.size = 2 by omega]; rfl)
  have b3 : byteAt s (s.size - 4 + 3) = (d2.toNat : Int) := byteAt_at (by rw [e, hl, List.getElem?_append_right (by omega), ha, show a.size + 4 - 4 + 3 - a.size = 3 by omega]; rfl)
  have hx : s.extract 0 (s.size - 4) = a := by
    apply bytes_inj
    rw [bytes_extract, List.drop_zero, e, hl, List.take_append_of_le_length (by omega), List.take_of_length_le (by omega)]
  have g1 : digF (d1.toNat : Int) = d1.toNat - 48 := by unfold digF; rw [if_neg (by omega)]
  have g2 : digF (d2.toNat : Int) = d2.toNat - 48 := by unfold digF; rw [if_neg (by omega)]
  unfold wantF
  rw [if_neg (by omega), b0, b1, b2, b3, hx, g1, g2, if_neg (by simp), if_neg (by omega), if_pos hn]

theorem digF_pos {b : Int} (h : ¬ digF b < 1) : 49 ≤ b ∧ b ≤ 57 ∧ digF b = b - 48 := by
  unfold digF at h ⊢
  split at h
  · simp at h
  · rename_i hb
    rw [if_neg hb]
    omega

theorem wantF_is {s : ByteArray} {x : WantD} (h : wantF s = some x) : ∃ a d1 d2, WantIs s a d1 d2 ∧ x = ⟨a, (d1 : UInt8).toNat - 48, (d2 : UInt8).toNat - 48⟩ := by
  unfold wantF at h
  split at h
  · cases h
  · rename_i h4
    obtain ⟨x0, e0, f0⟩ := at_byte (s := s) (k := s.size - 4) (by omega)
    obtain ⟨x1, e1, f1⟩ := at_byte (s := s) (k := s.size - 4 + 1) (by omega)
    obtain ⟨x2, e2, f2⟩ := at_byte (s := s) (k := s.size - 4 + 2) (by omega)
    obtain ⟨x3, e3, f3⟩ := at_byte (s := s) (k := s.size - 4 + 3) (by omega)
    split at h
    · cases h
    · rename_i h5
      split at h
      · cases h
      · rename_i h6
        split at h
        · rename_i h7
          injection h with h
          have k0 : x0 = 32 := u8_of (n := 32) (by omega) (by decide)
          have k2 : x2 = 45 := u8_of (n := 45) (by omega) (by decide)
          obtain ⟨p1, p2, p3⟩ := digF_pos (b := byteAt s (s.size - 4 + 1)) (by omega)
          obtain ⟨q1, q2, q3⟩ := digF_pos (b := byteAt s (s.size - 4 + 3)) (by omega)
          refine ⟨s.extract 0 (s.size - 4), x1, x3, ⟨?_, h7, by omega, by omega, by omega⟩, ?_⟩
          · rw [bytes_extract, List.drop_zero]
            have hk : ∀ j, s.size - 4 + j < s.size → s.size - 4 + j < (bytes s).length := fun j hj => by rw [bytes_length]; exact hj
            have := List.take_append_drop (s.size - 4) (bytes s)
            rw [← this]
            congr 1
            · rw [this]
            · apply List.ext_getElem?
              intro j
              rw [List.getElem?_drop]
              match j with
              | 0 => rw [Nat.add_zero, e0, k0]; rfl
              | 1 => rw [e1]; rfl
              | 2 => rw [e2, k2]; rfl
              | 3 => rw [e3]; rfl
              | j + 4 => rw [List.getElem?_eq_none (by rw [bytes_length]; omega)]; rfl
          · rw [← h, p3, q3, f1, f3]
        · cases h

theorem dwantF_of {s a : ByteArray} {d1 d2 : UInt8} (h : WantIs s a d1 d2) : dwantF s = some ⟨a, d1.toNat - 48, d2.toNat - 48⟩ := by
  obtain ⟨e, hn, h1, h2, h3⟩ := h
  have ha : (32 : UInt8) ∉ bytes a := by
    intro hm
    rcases nameF_mem hn hm with hh | hh
    · exact absurd hh (by decide)
    · simp at hh
  have hb : (32 : UInt8) ∉ [d1, 45, d2] := by
    intro hm
    simp at hm
    rcases hm with hm | hm <;> subst hm <;> simp at h1 h2 h3
    omega
  have hc := cutF32 s
  rw [e, show bytes a ++ [32, d1, 45, d2] = bytes a ++ 32 :: [d1, 45, d2] from rfl, splitL_at ha, splitL_no hb] at hc
  unfold dwantF
  match hl : cutF s 32, hc with
  | [x, y], hc =>
    simp at hc
    obtain ⟨c1, c2⟩ := hc
    have : x = a := bytes_inj c1
    subst this
    have hs : y.size = 3 := by rw [← bytes_length, c2]; rfl
    have y0 : byteAt y 0 = (d1.toNat : Int) := byteAt_at (by rw [c2]; rfl)
    have y1 : byteAt y 1 = 45 := byteAt_at (x := 45) (by rw [c2]; rfl)
    have y2 : byteAt y 2 = (d2.toNat : Int) := byteAt_at (by rw [c2]; rfl)
    simp only
    rw [y0, y1, y2, if_pos ⟨hs, rfl, hn, by omega, by omega, by omega⟩]
  | [], hc => simp at hc
  | [x], hc => simp at hc
  | x :: y :: z :: r, hc => simp at hc

theorem dwantF_is {s : ByteArray} {x : WantD} (h : dwantF s = some x) : ∃ a d1 d2, WantIs s a d1 d2 ∧ x = ⟨a, (d1 : UInt8).toNat - 48, (d2 : UInt8).toNat - 48⟩ := by
  have hc := cutF32 s
  unfold dwantF at h
  split at h
  · rename_i a b he
    split at h
    · rename_i hp
      obtain ⟨p1, p2, p3, p4, p5, p6⟩ := hp
      injection h with h
      rw [he] at hc
      obtain ⟨k1, k2, k3⟩ := splitL_two (show splitL 32 (bytes s) = [bytes a, bytes b] from hc.symm)
      obtain ⟨x0, e0, f0⟩ := at_byte (s := b) (k := 0) (by omega)
      obtain ⟨x1, e1, f1⟩ := at_byte (s := b) (k := 1) (by omega)
      obtain ⟨x2, e2, f2⟩ := at_byte (s := b) (k := 2) (by omega)
      have j1 : x1 = 45 := u8_of (n := 45) (by omega) (by decide)
      have hb : bytes b = [x0, 45, x2] := by
        apply List.ext_getElem?
        intro j
        match j with
        | 0 => rw [e0]; rfl
        | 1 => rw [e1, j1]; rfl
        | 2 => rw [e2]; rfl
        | j + 3 => rw [List.getElem?_eq_none (by rw [bytes_length]; omega)]; rfl
      refine ⟨a, x0, x2, ⟨by rw [k1, hb], p3, by omega, by omega, by omega⟩, ?_⟩
      rw [← h, f0, f2]
    · cases h
  · cases h

theorem want_eq (s : ByteArray) : dwantF s = wantF s := by
  cases h : wantF s with
  | some x =>
    obtain ⟨a, d1, d2, hw, rfl⟩ := wantF_is h
    exact dwantF_of hw
  | none =>
    cases h2 : dwantF s with
    | none => rfl
    | some x =>
      obtain ⟨a, d1, d2, hw, rfl⟩ := dwantF_is h2
      rw [wantF_of hw] at h
      cases h

def piecesF (l : List ByteArray) : Option (List WantD) := if l.length ≤ 6 then l.mapM wantF else none

def wantsF (s : ByteArray) : Option (List WantD) := if s.toList.isEmpty then some [] else piecesF (cutF s 44)

theorem mapM_snoc {α β : Type} (f : α → Option β) (l : List α) (x : α) : (l ++ [x]).mapM f = match l.mapM f, f x with | some a, some b => some (a ++ [b]) | _, _ => none := by
  rw [List.mapM_append]
  cases l.mapM f with
  | none => rfl
  | some a =>
    cases hx : f x with
    | none => simp [hx]
    | some b => simp [hx]

theorem mapM_len {α β : Type} (f : α → Option β) (l : List α) {r : List β} (h : l.mapM f = some r) : r.length = l.length := by
  induction l generalizing r with
  | nil => simp at h; subst h; rfl
  | cons x l ih =>
    simp only [List.mapM_cons] at h
    cases hx : f x with
    | none => rw [hx] at h; cases h
    | some b =>
      cases hl : l.mapM f with
      | none => rw [hx, hl] at h; cases h
      | some bs =>
        rw [hx, hl] at h
        injection h with h
        subst h
        simp [ih hl]

theorem mapM_none_append {α β : Type} (f : α → Option β) (l r : List α) (h : l.mapM f = none) : (l ++ r).mapM f = none := by
  rw [List.mapM_append, h]; rfl

theorem piecesF_bad {p r : List ByteArray} {x : ByteArray} {ws : List WantD} (hp : p.mapM wantF = some ws) (hbad : 6 ≤ p.length ∨ wantF x = none) : piecesF (p ++ [x] ++ r) = none := by
  unfold piecesF
  split
  · rename_i hl
    rcases hbad with h | h
    · simp at hl; omega
    · exact mapM_none_append _ _ _ (by rw [mapM_snoc, hp, h])
  · rfl

theorem cutTo_prefix (s : ByteArray) (c : Int) (k m : Nat) (h : k ≤ m) : ∃ r, (cutTo s c m).1 = (cutTo s c k).1 ++ r := by
  induction m with
  | zero => obtain rfl : k = 0 := by omega
            exact ⟨[], by simp⟩
  | succ m ih =>
    by_cases hk : k = m + 1
    · subst hk; exact ⟨[], by simp⟩
    · obtain ⟨r, hr⟩ := ih (by omega)
      show ∃ r, (if (byteAt s m == c) = true then ((cutTo s c m).1 ++ [s.extract (cutTo s c m).2 m], m + 1) else cutTo s c m).1 = _
      split
      · exact ⟨r ++ [s.extract (cutTo s c m).2 m], by simp [hr]⟩
      · exact ⟨r, hr⟩

theorem cutF_prefix (s : ByteArray) (c : Int) (k : Nat) (h : k ≤ s.size) : ∃ r, cutF s c = (cutTo s c k).1 ++ r := by
  obtain ⟨r, hr⟩ := cutTo_prefix s c k s.size h
  exact ⟨r ++ [s.extract (cutTo s c s.size).2 s.size], by simp [cutF, hr]⟩

end

section
open Go.RowKit

set_option maxHeartbeats 400000 in
theorem isWord_any (s : ByteArray) (w : World) :
    Calls Tryz.prog 42 #[.string s] w fun e w' => e = .returned (.bool (wordF s)) ∧ w' = w := by
  by_cases h1 : s.size < 1
  · have hf := hide (wordF_short s h1)
    go_enter Tryz.func42, Tryz.ntmps42
    go_wp2
    go_ret
    exact ⟨ret_bool hf.out.symm, rfl⟩
  · by_cases h2 : 4 < s.size
    · have hf := hide (wordF_long s h2)
      go_enter Tryz.func42, Tryz.ntmps42
      go_wp2
      go_ret
      exact ⟨ret_bool hf.out.symm, rfl⟩
    · go_enter Tryz.func42, Tryz.ntmps42
      go_wp2
      go_loop [3] (fun i => ∃ k : Nat, k ≤ s.size ∧ i = .int .i64 k ∧ (s.data.toList.take k).all lowB = true) (fun i => s.size - (intOf i).toNat)
      case atStart => exact ⟨0, Nat.zero_le _, rfl, rfl⟩
      case round =>
        obtain ⟨k, hk, rfl, hall⟩ := hrel
        have HA := hide hall
        clear hall
        by_cases hlt : k < s.size
        · have HT := hide (take_snoc s k hlt)
          have HL := hide (lowB_iff s[k])
          have HN := hide (fun h => wordF_no s k hlt h)
          go_wp2
          · go_ret
            exact ⟨ret_bool (HN.out (by rw [← Bool.not_eq_true, HL.out]; omega)).symm, rfl⟩
          · go_round
            case rel => exact ⟨k + 1, by omega, by go_num, by rw [HT.out, List.all_append, HA.out]; simp [HL.out]; omega⟩
            case measure => simp [intOf] <;> omega
          · go_ret
            exact ⟨ret_bool (HN.out (by rw [← Bool.not_eq_true, HL.out]; omega)).symm, rfl⟩
        · go_wp2
          go_ret
          refine ⟨ret_bool ?_, rfl⟩
          have := HA.out
          rw [List.take_of_length_le (by simp; omega)] at this
          simp [wordF, this]; omega


theorem byteAt_beq (s : ByteArray) (k : Nat) (h : k < s.size) (c : Int) : ((s[k].toNat : Int) == c) = (byteAt s k == c) := by rw [byteAt_lt s k h]

set_option maxHeartbeats 400000 in
theorem split_any (s : ByteArray) (w : World) (hs : s.size ≤ 4611686018427387904) :
    Calls Tryz.prog 90 #[.string s] w fun e w' => e = .returned (.tuple #[.string (splitF s).1, .string (splitF s).2.1, .bool (splitF s).2.2]) ∧ Below w.heap.size w w' := by
  rcases slash_cases s with ⟨i, hi, h1, h2, h3⟩ | ⟨h1, h3⟩
  · have HF := hide (show splitF s = (s.extract 0 i, s.extract (i + 1) s.size, true) by rw [splitF, h3])
    rw [HF.out]
    have H1 := hide h1
    have H2 := hide h2
    clear h1 h2 h3
    go_enter Tryz.func90, Tryz.ntmps90
    go_wp2
    go_loop [5] (fun x => ∃ k : Nat, k ≤ i ∧ x = .int .i64 k) (fun x => s.size - (intOf x).toNat)
    case atStart => exact ⟨0, Nat.zero_le _, rfl⟩
    case round =>
      obtain ⟨k, hk, rfl⟩ := hrel
      have hks : k < s.size := by omega
      by_cases hlt : k < i
      · have t1 : ((s[k].toNat : Int) == 47) = false := by rw [byteAt_beq]; exact beq_eq_false_iff_ne.2 (H2.out k hlt)
        go_wp2
        go_round
        case rel => exact ⟨k + 1, by omega, by go_num⟩
        case measure => simp [intOf] <;> omega
      · obtain rfl : k = i := by omega
        have t1 : ((s[k].toNat : Int) == 47) = true := by rw [byteAt_beq]; exact beq_iff_eq.2 H1.out
        go_wp2
        go_quiet (fail)
        go_wp2_with fail
        go_ret3
        exact ⟨rfl, below_drawn (Below.refl _ _) _⟩
  · have HF := hide (show splitF s = (s, ⟨#[]⟩, false) by rw [splitF, h3])
    rw [HF.out]
    have H1 := hide h1
    clear h1 h3
    go_enter Tryz.func90, Tryz.ntmps90
    go_wp2
    go_loop [5] (fun x => ∃ k : Nat, k ≤ s.size ∧ x = .int .i64 k) (fun x => s.size - (intOf x).toNat)
    case atStart => exact ⟨0, Nat.zero_le _, rfl⟩
    case round =>
      obtain ⟨k, hk, rfl⟩ := hrel
      by_cases hlt : k < s.size
      · have t1 : ((s[k].toNat : Int) == 47) = false := by rw [byteAt_beq]; exact beq_eq_false_iff_ne.2 (H1.out k hlt)
        go_wp2
        go_round
        case rel => exact ⟨k + 1, by omega, by go_num⟩
        case measure => simp [intOf] <;> omega
      · go_wp2
        go_ret3
        exact ⟨rfl, Below.refl _ _⟩

set_option maxHeartbeats 400000 in
theorem isName_any (s : ByteArray) (w : World) (hs : s.size ≤ 4611686018427387904) :
    Calls Tryz.prog 55 #[.string s] w fun e w' => e = .returned (.bool (nameF s)) ∧ Below w.heap.size w w' := by
  have Hc := hide (split_any s w hs)
  have Hw := hide (fun x W => isWord_any x W)
  rw [← isName_eq]
  have HN := hide (show isNameF s = if (splitF s).2.2 && !wordF (splitF s).2.1 then false else wordF (splitF s).1 from rfl)
  generalize splitF s = p at *
  obtain ⟨a, b, c⟩ := p
  simp only at HN
  cases c with
  | false =>
    have HN2 := hide (show isNameF s = wordF a by rw [HN.out]; rfl)
    go_enter Tryz.func55, Tryz.ntmps55
    go_wp2_with fail
    refine Hc.out.mono ?_
    rintro e w1 ⟨rfl, hb⟩
    go_wp2_with fail
    refine (Hw.out _ _).mono ?_
    rintro e w2 ⟨rfl, h⟩
    subst h
    go_wp2_with fail
    go_ret
    exact ⟨ret_bool HN2.out.symm, hb⟩
  | true =>
    cases hw : wordF b with
    | false =>
      have HW := hide hw
      have HN2 := hide (show isNameF s = false by rw [HN.out, hw]; rfl)
      clear hw
      go_enter Tryz.func55, Tryz.ntmps55
      go_wp2_with fail
      refine Hc.out.mono ?_
      rintro e w1 ⟨rfl, hb⟩
      go_wp2_with fail
      refine (Hw.out _ _).mono ?_
      rintro e w2 ⟨rfl, h⟩
      subst h
      rw [HW.out]
      go_wp2_with fail
      go_ret
      exact ⟨ret_bool HN2.out.symm, hb⟩
    | true =>
      have HW := hide hw
      have HN2 := hide (show isNameF s = wordF a by rw [HN.out, hw]; rfl)
      clear hw
      go_enter Tryz.func55, Tryz.ntmps55
      go_wp2_with fail
      refine Hc.out.mono ?_
      rintro e w1 ⟨rfl, hb⟩
      go_wp2_with fail
      refine (Hw.out _ _).mono ?_
      rintro e w2 ⟨rfl, h⟩
      subst h
      rw [HW.out]
      go_wp2_with fail
      refine (Hw.out _ _).mono ?_
      rintro e w2 ⟨rfl, h⟩
      subst h
      go_wp2_with fail
      go_ret
      exact ⟨ret_bool HN2.out.symm, hb⟩

end

end Go.Proofs.YtgcldedkempjhabGreatDoor
