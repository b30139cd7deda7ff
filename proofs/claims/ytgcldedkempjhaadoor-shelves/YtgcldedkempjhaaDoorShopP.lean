/-
  The text of some wants, and how the program reads it (pure).
-/
import Derived.Test.YtgcldedkempjhaaDoorShopC
namespace Go.Proofs.YtgcldedkempjhaaDoor
open Go.RowKit

/-- One want, as text, behind a text. -/
def pieceOn (t : ByteArray) (x : Nd) : ByteArray := t ++ nameK x.n ++ ⟨#[32]⟩ ++ digitS x.lo ++ ⟨#[45]⟩ ++ digitS x.hi

/-- The text of the first wants. -/
def textTo (l : List Nd) : Nat → ByteArray
  | 0 => ⟨#[]⟩
  | k + 1 => match l[k]? with
    | some x => pieceOn (if 0 < k then textTo l k ++ ⟨#[44]⟩ else textTo l k) x
    | none => textTo l k

def textK (l : List Nd) : ByteArray := textTo l l.length

theorem textTo_succ (l : List Nd) (k : Nat) (hk : k < l.length) : textTo l (k + 1) = pieceOn (if 0 < k then textTo l k ++ ⟨#[44]⟩ else textTo l k) l[k] := by
  show (match l[k]? with | some x => _ | none => _) = _
  rw [List.getElem?_eq_getElem hk]

def pieceK (x : Nd) : ByteArray := pieceOn ⟨#[]⟩ x

/-- What the program reads of one want. -/
def wantK (x : Nd) : WantD := ⟨nameK x.n, x.lo, x.hi⟩

theorem bytes_append (a b : ByteArray) : bytes (a ++ b) = bytes a ++ bytes b := by
  unfold bytes; rw [ByteArray.data_append, Array.toList_append]

theorem pieceOn_bytes (t : ByteArray) (x : Nd) : bytes (pieceOn t x) = bytes t ++ bytes (pieceK x) := by
  unfold pieceK pieceOn
  simp only [bytes_append, List.append_assoc]
  rw [show bytes (⟨#[]⟩ : ByteArray) = [] from rfl, List.nil_append]

theorem splitL_join {c : UInt8} {b : List UInt8} (h : c ∉ b) (a : List UInt8) : splitL c (a ++ c :: b) = splitL c a ++ [b] := by
  induction a with
  | nil =>
    rw [List.nil_append, splitL_cons, if_pos rfl, splitL_no h]
    rfl
  | cons x xs ih =>
    rw [List.cons_append, splitL_cons, splitL_cons, ih]
    by_cases hx : x = c
    · rw [if_pos hx, if_pos hx]; rfl
    · rw [if_neg hx, if_neg hx]
      cases hs : splitL c xs with
      | nil => exact absurd hs (splitL_ne c xs)
      | cons p ps => rfl

/-- Every want within the bounds is read as it was written. -/
def readB (n lo hi : Nat) : Bool :=
  match wantF (pieceK ⟨n, lo, hi⟩) with
  | some y => bytes y.name == bytes (nameK n) && y.lo == (lo : Int) && y.hi == (hi : Int) && (bytes (pieceK ⟨n, lo, hi⟩)).all fun b => b != 44
  | none => false

theorem read_all : ((List.range 6).all fun n => (List.range 10).all fun lo => (List.range 10).all fun hi => !(decide (1 ≤ lo)) || !(decide (lo ≤ hi)) || readB n lo hi) = true := by kernel_rfl

theorem read_one {x : Nd} (h : NdOk x) : wantF (pieceK x) = some (wantK x) ∧ (44 : UInt8) ∉ bytes (pieceK x) := by
  obtain ⟨h1, h2, h3, h4⟩ := h
  have ha := List.all_eq_true.1 read_all x.n (List.mem_range.2 h1)
  have hb := List.all_eq_true.1 ha x.lo (List.mem_range.2 (by omega))
  have hc := List.all_eq_true.1 hb x.hi (List.mem_range.2 (by omega))
  have hd : readB x.n x.lo x.hi = true := by simpa [h2, h3] using hc
  unfold readB at hd
  cases hw : wantF (pieceK ⟨x.n, x.lo, x.hi⟩) with
  | none => rw [hw] at hd; cases hd
  | some y =>
    rw [hw] at hd
    simp only [Bool.and_eq_true, beq_iff_eq] at hd
    obtain ⟨⟨⟨k1, k2⟩, k3⟩, k4⟩ := hd
    refine ⟨?_, ?_⟩
    · obtain ⟨y1, y2, y3⟩ := y
      have := bytes_inj k1
      simp only at this k2 k3
      subst this k2 k3
      rfl
    · intro hm
      have := List.all_eq_true.1 k4 _ hm
      simp at this

theorem text_split (l : List Nd) (h : ∀ x ∈ l, NdOk x) (k : Nat) (hk : k < l.length) : splitL 44 (bytes (textTo l (k + 1))) = (l.take (k + 1)).map fun x => bytes (pieceK x) := by
  induction k with
  | zero =>
    rw [textTo_succ l 0 hk, if_neg (by decide), pieceOn_bytes]
    rw [show bytes (textTo l 0) = [] from rfl, List.nil_append, splitL_no (read_one (h _ (List.getElem_mem hk))).2]
    rw [List.take_succ_eq_append_getElem hk, List.take_zero]
    rfl
  | succ k ih =>
    rw [textTo_succ l (k + 1) hk, if_pos (by omega), pieceOn_bytes, bytes_append, List.append_assoc]
    rw [show bytes (⟨#[44]⟩ : ByteArray) ++ bytes (pieceK l[k + 1]) = 44 :: bytes (pieceK l[k + 1]) from rfl]
    rw [splitL_join (read_one (h _ (List.getElem_mem hk))).2, ih (by omega), List.take_succ_eq_append_getElem hk, List.map_append]
    rfl

theorem text_read (l : List Nd) (h : ∀ x ∈ l, NdOk x) (h6 : l.length ≤ 6) : wantsF (textK l) = some (l.map wantK) := by
  cases hl : l.length with
  | zero =>
    obtain rfl : l = [] := List.eq_nil_of_length_eq_zero hl
    unfold wantsF
    rw [if_pos (by rw [ByteArray.toList_eq]; rfl)]
    rfl
  | succ k =>
    have hs := text_split l h k (by omega)
    rw [← hl, List.take_length] at hs
    have hc : cutF (textK l) 44 = l.map pieceK := by
      have h1 := cutF_bytes (textK l) 44
      have h2 : (cutF (textK l) 44).map bytes = (l.map pieceK).map bytes := by
        rw [List.map_map]
        show (cutF (textK l) (((44 : UInt8).toNat : Nat) : Int)).map bytes = _
        rw [h1]
        unfold textK
        rw [hs]; rfl
      exact List.map_inj_right (f := bytes) (fun _ _ => bytes_inj) |>.1 h2
    have he : (textK l).toList.isEmpty = false := by
      rw [ByteArray.toList_eq]
      show (bytes (textTo l l.length)).isEmpty = false
      rw [hl, textTo_succ l k (by omega), pieceOn_bytes]
      unfold pieceK pieceOn
      simp [bytes]
    refine wantsF_good he ?_ (by simpa using h6)
    rw [hc]
    clear hc hs he hl h6
    induction l with
    | nil => rfl
    | cons x xs ih =>
      rw [List.map_cons, List.mapM_cons, (read_one (h x (by simp))).1, List.map_cons, ih (fun y hy => h y (List.mem_cons_of_mem _ hy))]
      rfl

end Go.Proofs.YtgcldedkempjhaaDoor
