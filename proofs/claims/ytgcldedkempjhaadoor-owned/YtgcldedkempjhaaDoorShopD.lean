/-
  depotkeep: text.
-/
import Derived.Test.YtgcldedkempjhaaDoorShopC
import Derived.Deep.RegionHeld3
namespace Go.Proofs.YtgcldedkempjhaaDoor
section
open Go.RowKit

/-- One want, as text, behind a text. -/
def pieceOn (t : ByteArray) (x : Nd) : ByteArray := t ++ nameK x.n ++ ⟨#[32]⟩ ++ digitS x.lo ++ ⟨#[45]⟩ ++ digitS x.hi

/-- The text of the first wants. -/
def textTo (l : List Nd) : Nat → ByteArray
  | 0 => ⟨#[]⟩
  | k + 1 => match l[k]? with
    | some x => pieceOn (if 0 < k then textTo l k ++ ⟨#[44]⟩ else textTo l k) x
    | none => textTo l k

def textK (l : List Nd) : ByteArray := textTo l l.length

theorem textTo_succ (l : List Nd) (k : Nat) (hk : k < l.length) : textTo l (k + 1) = pieceOn (if 0 < k then textTo l k ++ ⟨#[44]⟩ else textTo l k) l[k] := by
  show (match l[k]? with | some x => _ | none => _) = _
  rw [List.getElem?_eq_getElem hk]

def pieceK (x : Nd) : ByteArray := pieceOn ⟨#[]⟩ x

/-- What the program reads of one want. -/
def wantK (x : Nd) : WantD := ⟨nameK x.n, x.lo, x.hi⟩

theorem bytes_append (a b : ByteArray) : bytes (a ++ b) = bytes a ++ bytes b := by
  unfold bytes; rw [ByteArray.data_append, Array.toList_append]

theorem pieceOn_bytes (t : ByteArray) (x : Nd) : bytes (pieceOn t x) = bytes t ++ bytes (pieceK x) := by
  unfold pieceK pieceOn
  simp only [bytes_append, List.append_assoc]
  rw [show bytes (⟨#[]⟩ : ByteArray) = [] from rfl, List.nil_append]

theorem splitL_join {c : UInt8} {b : List UInt8} (h : c ∉ b) (a : List UInt8) : splitL c (a ++ c :: b) = splitL c a ++ [b] := by
  induction a with
  | nil =>
    rw [List.nil_append, splitL_cons, if_pos rfl, splitL_no h]
    rfl
  | cons x xs ih =>
    rw [List.cons_append, splitL_cons, splitL_cons, ih]
    by_cases hx : x = c
    · rw [if_pos hx, if_pos hx]; rfl
    · rw [if_neg hx, if_neg hx]
      cases hs : splitL c xs with
      | nil => exact absurd hs (splitL_ne c xs)
      | cons p ps => rfl

/-- Every want within the bounds is read as it was written. -/
def readB (n lo hi : Nat) : Bool :=
  match wantF (pieceK ⟨n, lo, hi⟩) with
  | some y => bytes y.name == bytes (nameK n) && y.lo == (lo : Int) && y.hi == (hi : Int) && (bytes (pieceK ⟨n, lo, hi⟩)).all fun b => b != 44
  | none => false

theorem read_all : ((List.range 6).all fun n => (List.range 10).all fun lo => (List.range 10).all fun hi => !(decide (1 ≤ lo)) || !(decide (lo ≤ hi)) || readB n lo hi) = true := by kernel_rfl

theorem read_one {x : Nd} (h : NdOk x) : wantF (pieceK x) = some (wantK x) ∧ (44 : UInt8) ∉ bytes (pieceK x) := by
  obtain ⟨h1, h2, h3, h4⟩ := h
  have ha := List.all_eq_true.1 read_all x.n (List.mem_range.2 h1)
  have hb := List.all_eq_true.1 ha x.lo (List.mem_range.2 (by omega))
  have hc := List.all_eq_true.1 hb x.hi (List.mem_range.2 (by omega))
  have hd : readB x.n x.lo x.hi = true := by simpa [h2, h3] using hc
  unfold readB at hd
  cases hw : wantF (pieceK ⟨x.n, x.lo, x.hi⟩) with
  | none => rw [hw] at hd; cases hd
  | some y =>
    rw [hw] at hd
    simp only [Bool.and_eq_true, beq_iff_eq] at hd
    obtain ⟨⟨⟨k1, k2⟩, k3⟩, k4⟩ := hd
    refine ⟨?_, ?_⟩
    · obtain ⟨y1, y2, y3⟩ := y
      have := bytes_inj k1
      simp only at this k2 k3
      subst this k2 k3
      rfl
    · intro hm
      have := List.all_eq_true.1 k4 _ hm
      simp at this

theorem text_split (l : List Nd) (h : ∀ x ∈ l, NdOk x) (k : Nat) (hk : k < l.length) : splitL 44 (bytes (textTo l (k + 1))) = (l.take (k + 1)).map fun x => bytes (pieceK x) := by
  induction k with
  | zero =>
    rw [textTo_succ l 0 hk, if_neg (by decide), pieceOn_bytes]
    rw [show bytes (textTo l 0) = [] from rfl, List.nil_append, splitL_no (read_one (h _ (List.getElem_mem hk))).2]
    rw [List.take_succ_eq_append_getElem hk, List.take_zero]
    rfl
  | succ k ih =>
    rw [textTo_succ l (k + 1) hk, if_pos (by omega), pieceOn_bytes, bytes_append, List.append_assoc]
    rw [show bytes (⟨#[44]⟩ : ByteArray) ++ bytes (pieceK l[k + 1]) = 44 :: bytes (pieceK l[k + 1]) from rfl]
    rw [splitL_join (read_one (h _ (List.getElem_mem hk))).2, ih (by omega), List.take_succ_eq_append_getElem hk, List.map_append]
    rfl

theorem text_read (l : List Nd) (h : ∀ x ∈ l, NdOk x) (h6 : l.length ≤ 6) : wantsF (textK l) = some (l.map wantK) := by
  cases hl : l.length with
  | zero =>
    obtain rfl : l = [] := List.eq_nil_of_length_eq_zero hl
    unfold wantsF
    rw [if_pos (by rw [ByteArray.toList_eq]; rfl)]
    rfl
  | succ k =>
    have hs := text_split l h k (by omega)
    rw [← hl, List.take_length] at hs
    have hc : cutF (textK l) 44 = l.map pieceK := by
      have h1 := cutF_bytes (textK l) 44
      have h2 : (cutF (textK l) 44).map bytes = (l.map pieceK).map bytes := by
        rw [List.map_map]
        show (cutF (textK l) (((44 : UInt8).toNat : Nat) : Int)).map bytes = _
        rw [h1]
        unfold textK
        rw [hs]; rfl
      exact List.map_inj_right (f := bytes) (fun _ _ => bytes_inj) |>.1 h2
    have he : (textK l).toList.isEmpty = false := by
      rw [ByteArray.toList_eq]
      show (bytes (textTo l l.length)).isEmpty = false
      rw [hl, textTo_succ l k (by omega), pieceOn_bytes]
      unfold pieceK pieceOn
      simp [bytes]
    refine wantsF_good he ?_ (by simpa using h6)
    rw [hc]
    clear hc hs he hl h6
    induction l with
    | nil => rfl
    | cons x xs ih =>
      rw [List.map_cons, List.mapM_cons, (read_one (h x (by simp))).1, List.map_cons, ih (fun y hy => h y (List.mem_cons_of_mem _ hy))]
      rfl

end

section
open Go.RowKit

structure NdAt (w : World) (g o : Nat) (x : Nd) : Prop where
  d0 : w.cell? ⟨g, o, none⟩ = some (.int .i64 x.n)
  d1 : w.cell? ⟨g, o + 1, none⟩ = some (.int .i64 x.lo)
  d2 : w.cell? ⟨g, o + 2, none⟩ = some (.int .i64 x.hi)

theorem NdAt.step {w1 W w2 : World} {g o : Nat} {x : Nd} (h : NdAt w1 g o x) (hb : Below W.heap.size W w2) (e : W.heap = w1.heap) : NdAt w2 g o x := by
  have hg : g < w1.heap.size := World.block_lt_of_cell? w1 ⟨g, o, none⟩ h.d0
  have hk : w2.heap[g]? = w1.heap[g]? := by rw [hb.block g (by rw [e]; exact hg), e]
  exact ⟨(World.cell?_of_block hk).trans h.d0, (World.cell?_of_block hk).trans h.d1, (World.cell?_of_block hk).trans h.d2⟩

theorem below_step {w w1 W w2 : World} (h1 : Below w.heap.size w w1) (h2 : Below W.heap.size W w2) (e1 : W.heap = w1.heap) (e2 : W.os = w1.os) (e3 : W.tape = w1.tape) (e4 : W.output = w1.output) : Below w.heap.size w w2 := by
  refine below_call h1 ⟨h2.os.trans e2, h2.tape.trans e3, h2.output.trans e4, ?_, ?_⟩
  · have := h2.size; rw [e1] at this; exact this
  · intro k hk
    rw [h2.block k (by rw [e1]; exact hk), e1]

theorem nds_entry {w : World} {base : Nat} {ao : Option Addr} {cap : Nat} {l : List Nd} (own : w.ownsRow base 62 3 (.slice ao l.length cap) l.length (ndsCells l)) (k : Nat) (hk : k < l.length) :
    ∃ g, ao = some ⟨g, 0, none⟩ ∧ NdAt w g (k * 3) l[k] := by
  obtain ⟨g, hao, _, _, key, _⟩ := row_cell (f := Nd.cells) (n := 3) (fun _ => rfl) own k hk
  exact ⟨g, hao, key 0 _ rfl, key 1 _ rfl, key 2 _ rfl⟩

theorem nameK_size (n : Nat) : (nameK n).size ≤ 3 := by
  unfold nameK; split <;> decide

theorem pieceOn_size (t : ByteArray) (x : Nd) : (pieceOn t x).size ≤ t.size + 7 := by
  unfold pieceOn
  have := nameK_size x.n
  simp only [ByteArray.size_append]
  have h1 : (⟨#[32]⟩ : ByteArray).size = 1 := rfl
  have h2 : (⟨#[45]⟩ : ByteArray).size = 1 := rfl
  have h3 : (digitS x.lo).size = 1 := rfl
  have h4 : (digitS x.hi).size = 1 := rfl
  omega

theorem textTo_size (l : List Nd) (k : Nat) : (textTo l k).size ≤ 8 * k := by
  induction k with
  | zero => exact Nat.le_refl 0
  | succ k ih =>
    unfold textTo
    split
    · refine Nat.le_trans (pieceOn_size _ _) ?_
      split
      · rw [ByteArray.size_append]
        have h3 : (⟨#[44]⟩ : ByteArray).size = 1 := rfl
        omega
      · omega
    · omega

set_option maxHeartbeats 3200000 in
theorem text_any (base : Nat) (ao : Option Addr) (cap : Nat) (l : List Nd) (w : World) (own : w.ownsRow base 62 3 (.slice ao l.length cap) l.length (ndsCells l)) (h6 : l.length ≤ 6) (hok : ∀ x ∈ l, NdOk x) :
    Calls Tryd.prog 21 #[.slice ao l.length cap] w fun e w' => e = .returned (.string (textK l)) ∧ Below w.heap.size w w' := by
  have HOK := hide hok
  clear hok
  have H6 := hide h6
  have HK := hide (show textK l = textTo l l.length from rfl)
  rw [HK.out]
  generalize hn : l.length = n at *
  have HN := hide hn
  clear hn
  go_enter Tryd.func21, Tryd.ntmps21
  go_wp2_with fail
  go_loopw [3, 4] (fun t x wr => ∃ k : Nat, k ≤ n ∧ x = .int .i64 k ∧ t = .string (textTo l k) ∧ Below w.heap.size w wr) (fun _ x _ => n - (intOf x).toNat)
  case atStart => exact ⟨0, Nat.zero_le _, rfl, rfl, Below.refl _ _⟩
  case round =>
    obtain ⟨k, hk, rfl, rfl, hb⟩ := hrel
    by_cases hlt : k < n
    · have hkl : k < l.length := by rw [HN.out]; exact hlt
      obtain ⟨g, rfl, hx0⟩ := nds_entry (l := l) (by rw [HN.out]; exact own) k hkl
      have hx : NdAt wr g (k * 3) l[k] := by
        have hg : g < w.heap.size := World.block_lt_of_cell? w ⟨g, k * 3, none⟩ hx0.d0
        have hk2 : wr.heap[g]? = w.heap[g]? := hb.block g hg
        exact ⟨(World.cell?_of_block hk2).trans hx0.d0, (World.cell?_of_block hk2).trans hx0.d1, (World.cell?_of_block hk2).trans hx0.d2⟩
      clear hx0
      obtain ⟨q1, q2, q3, q4⟩ := HOK.out _ (List.getElem_mem hkl)
      have HS := hide (textTo_succ l k hkl)
      have hts := textTo_size l k
      have hns := nameK_size l[k].n
      generalize l[k] = y at *
      have HNm := hide (fun W => nameK_any y.n q1 W)
      have HLo := hide (fun W => digitK_any y.lo (by omega) W)
      have HHi := hide (fun W => digitK_any y.hi (by omega) W)
      generalize textTo l k = t at *
      have hs1 : (digitS y.lo).size = 1 := rfl
      have hs2 : (digitS y.hi).size = 1 := rfl
      have HP := hide (show ∀ s, pieceOn s y = s ++ nameK y.n ++ ⟨#[32]⟩ ++ digitS y.lo ++ ⟨#[45]⟩ ++ digitS y.hi from fun _ => rfl)
      generalize nameK y.n = nm at *
      by_cases h0 : 0 < k
      · have h0' : (0 : Int) < (k : Int) := by omega
        have HR := hide (show textTo l (k + 1) = t ++ ⟨#[44]⟩ ++ nm ++ ⟨#[32]⟩ ++ digitS y.lo ++ ⟨#[45]⟩ ++ digitS y.hi by rw [HS.out, if_pos h0, HP.out])
        clear HS HP
        have m1 : ¬ 9223372036854775807 < t.size + 1 + nm.size := by omega
        have m2 : ¬ 9223372036854775807 < t.size + 1 + nm.size + 1 := by omega
        have m3 : ¬ 9223372036854775807 < t.size + 1 + nm.size + 1 + 1 := by omega
        have m4 : ¬ 9223372036854775807 < t.size + 1 + nm.size + 1 + 1 + 1 := by omega
        have m5 : ¬ 9223372036854775807 < t.size + 1 + nm.size + 1 + 1 + 1 + 1 := by omega
        go_wp2_with fail
        go_region_held3 (fun W => W.cell? ⟨g, k * 3, none⟩ = some (.int .i64 y.n) ∧ W.cell? ⟨g, k * 3 + 1, none⟩ = some (.int .i64 y.lo) ∧ W.cell? ⟨g, k * 3 + 2, none⟩ = some (.int .i64 y.hi)) (exact ⟨hx.d0, hx.d1, hx.d2⟩) (first
          | ((go_at_call 18; refine (HNm.out _).mono ?_; rintro e w2 ⟨rfl, hbb⟩; have hx := hx.step hbb rfl; have hb := below_step hb hbb rfl rfl rfl rfl; clear hbb))
          | ((go_at_call 47; refine (digitK_any _ ?_ _).mono ?_; omega; rintro e w2 ⟨rfl, hbb⟩; have hx := hx.step hbb rfl; have hb := below_step hb hbb rfl rfl rfl rfl; clear hbb)))
        all_goals
          go_wp2_with fail
          go_roundw
          case rel => exact ⟨k + 1, by omega, by go_num, by rw [HR.out], hb⟩
          case measure => simp [intOf] <;> omega
      · have h0' : ¬ (0 : Int) < (k : Int) := by omega
        have HR := hide (show textTo l (k + 1) = t ++ nm ++ ⟨#[32]⟩ ++ digitS y.lo ++ ⟨#[45]⟩ ++ digitS y.hi by rw [HS.out, if_neg h0, HP.out])
        clear HS HP
        have m1 : ¬ 9223372036854775807 < t.size + nm.size := by omega
        have m2 : ¬ 9223372036854775807 < t.size + nm.size + 1 := by omega
        have m3 : ¬ 9223372036854775807 < t.size + nm.size + 1 + 1 := by omega
        have m4 : ¬ 9223372036854775807 < t.size + nm.size + 1 + 1 + 1 := by omega
        have m5 : ¬ 9223372036854775807 < t.size + nm.size + 1 + 1 + 1 + 1 := by omega
        go_wp2_with fail
        go_region_held3 (fun W => W.cell? ⟨g, k * 3, none⟩ = some (.int .i64 y.n) ∧ W.cell? ⟨g, k * 3 + 1, none⟩ = some (.int .i64 y.lo) ∧ W.cell? ⟨g, k * 3 + 2, none⟩ = some (.int .i64 y.hi)) (exact ⟨hx.d0, hx.d1, hx.d2⟩) (first
          | ((go_at_call 18; refine (HNm.out _).mono ?_; rintro e w2 ⟨rfl, hbb⟩; have hx := hx.step hbb rfl; have hb := below_step hb hbb rfl rfl rfl rfl; clear hbb))
          | ((go_at_call 47; refine (digitK_any _ ?_ _).mono ?_; omega; rintro e w2 ⟨rfl, hbb⟩; have hx := hx.step hbb rfl; have hb := below_step hb hbb rfl rfl rfl rfl; clear hbb)))
        all_goals
          go_wp2_with fail
          go_roundw
          case rel => exact ⟨k + 1, by omega, by go_num, by rw [HR.out], hb⟩
          case measure => simp [intOf] <;> omega
    · obtain rfl : k = n := by omega
      go_wp2_with fail
      go_ret
      exact ⟨rfl, hb⟩

end

end Go.Proofs.YtgcldedkempjhaaDoor
