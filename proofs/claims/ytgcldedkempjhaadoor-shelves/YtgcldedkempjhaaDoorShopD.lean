/-
  depotkeep: text.
-/
import Derived.Test.YtgcldedkempjhaaDoorShopP
import Derived.Deep.RegionHeld3
namespace Go.Proofs.YtgcldedkempjhaaDoor
open Go.RowKit

structure NdAt (w : World) (g o : Nat) (x : Nd) : Prop where
  d0 : w.cell? ⟨g, o, none⟩ = some (.int .i64 x.n)
  d1 : w.cell? ⟨g, o + 1, none⟩ = some (.int .i64 x.lo)
  d2 : w.cell? ⟨g, o + 2, none⟩ = some (.int .i64 x.hi)

theorem NdAt.step {w1 W w2 : World} {g o : Nat} {x : Nd} (h : NdAt w1 g o x) (hb : Below W.heap.size W w2) (e : W.heap = w1.heap) : NdAt w2 g o x := by
  have hg : g < w1.heap.size := World.block_lt_of_cell? w1 ⟨g, o, none⟩ h.d0
  have hk : w2.heap[g]? = w1.heap[g]? := by rw [hb.block g (by rw [e]; exact hg), e]
  exact ⟨(World.cell?_of_block hk).trans h.d0, (World.cell?_of_block hk).trans h.d1, (World.cell?_of_block hk).trans h.d2⟩

theorem below_step {w w1 W w2 : World} (h1 : Below w.heap.size w w1) (h2 : Below W.heap.size W w2) (e1 : W.heap = w1.heap) (e2 : W.os = w1.os) (e3 : W.tape = w1.tape) (e4 : W.output = w1.output) : Below w.heap.size w w2 := by
  refine below_call h1 ⟨h2.os.trans e2, h2.tape.trans e3, h2.output.trans e4, ?_, ?_⟩
  · have := h2.size; rw [e1] at this; exact this
  · intro k hk
    rw [h2.block k (by rw [e1]; exact hk), e1]

theorem nds_entry {w : World} {base : Nat} {ao : Option Addr} {cap : Nat} {l : List Nd} (own : w.ownsRow base 62 3 (.slice ao l.length cap) l.length (ndsCells l)) (k : Nat) (hk : k < l.length) :
    ∃ g, ao = some ⟨g, 0, none⟩ ∧ NdAt w g (k * 3) l[k] := by
  obtain ⟨g, hao, _, _, key, _⟩ := row_cell (f := Nd.cells) (n := 3) (fun _ => rfl) own k hk
  exact ⟨g, hao, key 0 _ rfl, key 1 _ rfl, key 2 _ rfl⟩

theorem nameK_size (n : Nat) : (nameK n).size ≤ 3 := by
  unfold nameK; split <;> decide

theorem pieceOn_size (t : ByteArray) (x : Nd) : (pieceOn t x).size ≤ t.size + 7 := by
  unfold pieceOn
  have := nameK_size x.n
  simp only [ByteArray.size_append]
  have h1 : (⟨#[32]⟩ : ByteArray).size = 1 := rfl
  have h2 : (⟨#[45]⟩ : ByteArray).size = 1 := rfl
  have h3 : (digitS x.lo).size = 1 := rfl
  have h4 : (digitS x.hi).size = 1 := rfl
  omega

theorem textTo_size (l : List Nd) (k : Nat) : (textTo l k).size ≤ 8 * k := by
  induction k with
  | zero => exact Nat.le_refl 0
  | succ k ih =>
    unfold textTo
    split
    · refine Nat.le_trans (pieceOn_size _ _) ?_
      split
      · rw [ByteArray.size_append]
        have h3 : (⟨#[44]⟩ : ByteArray).size = 1 := rfl
        omega
      · omega
    · omega

set_option maxHeartbeats 3200000 in
theorem text_any (base : Nat) (ao : Option Addr) (cap : Nat) (l : List Nd) (w : World) (own : w.ownsRow base 62 3 (.slice ao l.length cap) l.length (ndsCells l)) (h6 : l.length ≤ 6) (hok : ∀ x ∈ l, NdOk x) :
    Calls Tryd.prog 21 #[.slice ao l.length cap] w fun e w' => e = .returned (.string (textK l)) ∧ Below w.heap.size w w' := by
  have HOK := hide hok
  clear hok
  have H6 := hide h6
  have HK := hide (show textK l = textTo l l.length from rfl)
  rw [HK.out]
  generalize hn : l.length = n at *
  have HN := hide hn
  clear hn
  go_enter Tryd.func21, Tryd.ntmps21
  go_wp2_with fail
  go_loopw [3, 4] (fun t x wr => ∃ k : Nat, k ≤ n ∧ x = .int .i64 k ∧ t = .string (textTo l k) ∧ Below w.heap.size w wr) (fun _ x _ => n - (intOf x).toNat)
  case atStart => exact ⟨0, Nat.zero_le _, rfl, rfl, Below.refl _ _⟩
  case round =>
    obtain ⟨k, hk, rfl, rfl, hb⟩ := hrel
    by_cases hlt : k < n
    · have hkl : k < l.length := by rw [HN.out]; exact hlt
      obtain ⟨g, rfl, hx0⟩ := nds_entry (l := l) (by rw [HN.out]; exact own) k hkl
      have hx : NdAt wr g (k * 3) l[k] := by
        have hg : g < w.heap.size := World.block_lt_of_cell? w ⟨g, k * 3, none⟩ hx0.d0
        have hk2 : wr.heap[g]? = w.heap[g]? := hb.block g hg
        exact ⟨(World.cell?_of_block hk2).trans hx0.d0, (World.cell?_of_block hk2).trans hx0.d1, (World.cell?_of_block hk2).trans hx0.d2⟩
      clear hx0
      obtain ⟨q1, q2, q3, q4⟩ := HOK.out _ (List.getElem_mem hkl)
      have HS := hide (textTo_succ l k hkl)
      have hts := textTo_size l k
      have hns := nameK_size l[k].n
      generalize l[k] = y at *
      have HNm := hide (fun W => nameK_any y.n q1 W)
      have HLo := hide (fun W => digitK_any y.lo (by omega) W)
      have HHi := hide (fun W => digitK_any y.hi (by omega) W)
      generalize textTo l k = t at *
      have hs1 : (digitS y.lo).size = 1 := rfl
      have hs2 : (digitS y.hi).size = 1 := rfl
      have HP := hide (show ∀ s, pieceOn s y = s ++ nameK y.n ++ ⟨#[32]⟩ ++ digitS y.lo ++ ⟨#[45]⟩ ++ digitS y.hi from fun _ => rfl)
      generalize nameK y.n = nm at *
      by_cases h0 : 0 < k
      · have h0' : (0 : Int) < (k : Int) := by omega
        have HR := hide (show textTo l (k + 1) = t ++ ⟨#[44]⟩ ++ nm ++ ⟨#[32]⟩ ++ digitS y.lo ++ ⟨#[45]⟩ ++ digitS y.hi by rw [HS.out, if_pos h0, HP.out])
        clear HS HP
        have m1 : ¬ 9223372036854775807 < t.size + 1 + nm.size := by omega
        have m2 : ¬ 9223372036854775807 < t.size + 1 + nm.size + 1 := by omega
        have m3 : ¬ 9223372036854775807 < t.size + 1 + nm.size + 1 + 1 := by omega
        have m4 : ¬ 9223372036854775807 < t.size + 1 + nm.size + 1 + 1 + 1 := by omega
        have m5 : ¬ 9223372036854775807 < t.size + 1 + nm.size + 1 + 1 + 1 + 1 := by omega
        go_wp2_with fail
        go_region_held3 (fun W => W.cell? ⟨g, k * 3, none⟩ = some (.int .i64 y.n) ∧ W.cell? ⟨g, k * 3 + 1, none⟩ = some (.int .i64 y.lo) ∧ W.cell? ⟨g, k * 3 + 2, none⟩ = some (.int .i64 y.hi)) (exact ⟨hx.d0, hx.d1, hx.d2⟩) (first
          | ((go_at_call 18; refine (HNm.out _).mono ?_; rintro e w2 ⟨rfl, hbb⟩; have hx := hx.step hbb rfl; have hb := below_step hb hbb rfl rfl rfl rfl; clear hbb))
          | ((go_at_call 47; refine (digitK_any _ ?_ _).mono ?_; omega; rintro e w2 ⟨rfl, hbb⟩; have hx := hx.step hbb rfl; have hb := below_step hb hbb rfl rfl rfl rfl; clear hbb)))
        all_goals
          go_wp2_with fail
          go_roundw
          case rel => exact ⟨k + 1, by omega, by go_num, by rw [HR.out], hb⟩
          case measure => simp [intOf] <;> omega
      · have h0' : ¬ (0 : Int) < (k : Int) := by omega
        have HR := hide (show textTo l (k + 1) = t ++ nm ++ ⟨#[32]⟩ ++ digitS y.lo ++ ⟨#[45]⟩ ++ digitS y.hi by rw [HS.out, if_neg h0, HP.out])
        clear HS HP
        have m1 : ¬ 9223372036854775807 < t.size + nm.size := by omega
        have m2 : ¬ 9223372036854775807 < t.size + nm.size + 1 := by omega
        have m3 : ¬ 9223372036854775807 < t.size + nm.size + 1 + 1 := by omega
        have m4 : ¬ 9223372036854775807 < t.size + nm.size + 1 + 1 + 1 := by omega
        have m5 : ¬ 9223372036854775807 < t.size + nm.size + 1 + 1 + 1 + 1 := by omega
        go_wp2_with fail
        go_region_held3 (fun W => W.cell? ⟨g, k * 3, none⟩ = some (.int .i64 y.n) ∧ W.cell? ⟨g, k * 3 + 1, none⟩ = some (.int .i64 y.lo) ∧ W.cell? ⟨g, k * 3 + 2, none⟩ = some (.int .i64 y.hi)) (exact ⟨hx.d0, hx.d1, hx.d2⟩) (first
          | ((go_at_call 18; refine (HNm.out _).mono ?_; rintro e w2 ⟨rfl, hbb⟩; have hx := hx.step hbb rfl; have hb := below_step hb hbb rfl rfl rfl rfl; clear hbb))
          | ((go_at_call 47; refine (digitK_any _ ?_ _).mono ?_; omega; rintro e w2 ⟨rfl, hbb⟩; have hx := hx.step hbb rfl; have hb := below_step hb hbb rfl rfl rfl rfl; clear hbb)))
        all_goals
          go_wp2_with fail
          go_roundw
          case rel => exact ⟨k + 1, by omega, by go_num, by rw [HR.out], hb⟩
          case measure => simp [intOf] <;> omega
    · obtain rfl : k = n := by omega
      go_wp2_with fail
      go_ret
      exact ⟨rfl, hb⟩

end Go.Proofs.YtgcldedkempjhaaDoor
