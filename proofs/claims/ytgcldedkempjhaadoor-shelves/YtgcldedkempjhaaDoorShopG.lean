/-
  depotkeep: a grant of a shop's package, and who sees it then (pure; and what a call of the depot leaves of a shop).
-/
import Derived.Test.YtgcldedkempjhaaDoorShopM
namespace Go.Proofs.YtgcldedkempjhaaDoor
open Go.RowKit

theorem addF_one {g : Grt} {pack tt : ByteArray} (h : grtF [g] pack tt = true) : addF [g] pack tt = 5 := by
  unfold addF
  rw [if_pos h]

theorem grant_none (is : List It) (h : ItsOk is) {n : Nat} (hn : 3 ≤ n) (hn6 : n < 6) (gs : List Grt) (ha : (is.any fun x => x.n == n) = false) : dgrantP (shopP is gs) kH 1 (labK n) kG = 7 := by
  unfold dgrantP
  rw [shop_heldH, if_neg (by decide), if_neg (by rw [labK_word]; decide), shop_hH]
  show (if phas (shopH is) (labK n) = false then (7 : Int) else _) = 7
  rw [phas_shopH is h n hn hn6, ha, if_pos rfl]

theorem grant_first (is : List It) (h : ItsOk is) {n : Nat} (hn : 3 ≤ n) (hn6 : n < 6) (ha : (is.any fun x => x.n == n) = true) : dgrantP (shopP is []) kH 1 (labK n) kG = 0 := by
  unfold dgrantP
  rw [shop_heldH, if_neg (by decide), if_neg (by rw [labK_word]; decide), shop_hH]
  show (if phas (shopH is) (labK n) = false then (7 : Int) else addF [] (labK n) kG) = 0
  rw [phas_shopH is h n hn hn6, ha, if_neg (by decide)]
  rfl

theorem grt_one (n : Nat) : grtF [⟨labK n, kG⟩] (labK n) kG = true := by
  unfold grtF grtP
  simp

theorem grant_again (is : List It) (h : ItsOk is) {n : Nat} (hn : 3 ≤ n) (hn6 : n < 6) (ha : (is.any fun x => x.n == n) = true) : dgrantP (shopP is [⟨labK n, kG⟩]) kH 1 (labK n) kG = 5 := by
  unfold dgrantP
  rw [shop_heldH, if_neg (by decide), if_neg (by rw [labK_word]; decide), shop_hH]
  show (if phas (shopH is) (labK n) = false then (7 : Int) else addF [⟨labK n, kG⟩] (labK n) kG) = 5
  rw [phas_shopH is h n hn hn6, ha, if_neg (by decide)]
  exact addF_one (grt_one n)

theorem grant_shopS (is : List It) (n : Nat) : dgrantS (shopP is []) kH 1 (labK n) kG = shopP is [⟨labK n, kG⟩] := by
  unfold dgrantS
  rw [shop_upd]
  have : shopLog is [⟨labK n, kG⟩] = shopLog is [] ++ grantLine 1 (labK n).data.toList kG.data.toList := by simp [shopLog]
  unfold shopP
  rw [this]
  rfl

theorem kHne : (kH.toList == kG.toList) = false ∧ (kH.toList == (⟨#[]⟩ : ByteArray).toList) = false ∧ (kG.toList == (⟨#[]⟩ : ByteArray).toList) = false := by
  refine ⟨?_, ?_, ?_⟩ <;> simp only [ByteArray.toList_eq] <;> decide

theorem held_ne {E : Int} (h : E ≠ 0) : (E == 0) = false := by simpa using h

/-- Ahead of a grant: what each must be told of a name. -/
theorem see_h (is : List It) (h : ItsOk is) {n : Nat} (hn6 : n < 6) (gs : List Grt) : seesK (shopP is gs) kH 1 n (shownK is n) = true := by
  have hh : (heldF (shopP is gs) kH 1 == 0) = false := by rw [shop_heldH]; rfl
  by_cases hn : 3 ≤ n
  · exact sees_told (show_own is gs h kH 1 hh hn hn6 (by simp))
  · exact sees_told (show_pub is gs h kH 1 hh (by omega))

theorem see_g (is : List It) (h : ItsOk is) {n : Nat} (hn6 : n < 6) : seesK (shopP is []) kG 1 n (if 3 ≤ n then ⟨#[]⟩ else shownK is n) = true := by
  have hh : (heldF (shopP is []) kG 1 == 0) = false := by rw [shop_heldG]; rfl
  by_cases hn : 3 ≤ n
  · rw [if_pos hn]
    exact sees_not (show_not is [] kG 1 hh hn hn6 (by rw [kHne.1]; rfl))
  · rw [if_neg hn]
    exact sees_told (show_pub is [] h kG 1 hh (by omega))

theorem see_r (is : List It) (h : ItsOk is) {n : Nat} (hn6 : n < 6) : seesK (shopP is []) ⟨#[]⟩ 77 n (if 3 ≤ n then ⟨#[]⟩ else shownK is n) = true := by
  have hh : (heldF (shopP is []) ⟨#[]⟩ 77 == 0) = false := by rw [shop_heldR]; rfl
  by_cases hn : 3 ≤ n
  · rw [if_pos hn]
    exact sees_not (show_not is [] ⟨#[]⟩ 77 hh hn hn6 (by rw [kHne.2.1]; rfl))
  · rw [if_neg hn]
    exact sees_told (show_pub is [] h ⟨#[]⟩ 77 hh (by omega))

/-- Behind it. -/
theorem see_g2 (is : List It) (h : ItsOk is) {n : Nat} (hn : 3 ≤ n) (hn6 : n < 6) : seesK (shopP is [⟨labK n, kG⟩]) kG 1 n (shownK is n) = true := by
  have hh : (heldF (shopP is [⟨labK n, kG⟩]) kG 1 == 0) = false := by rw [shop_heldG]; rfl
  exact sees_told (show_own is _ h kG 1 hh hn hn6 (by rw [grt_one, Bool.or_true]))

theorem see_r2 (is : List It) {n : Nat} (hn : 3 ≤ n) (hn6 : n < 6) : seesK (shopP is [⟨labK n, kG⟩]) ⟨#[]⟩ 77 n ⟨#[]⟩ = true := by
  have hh : (heldF (shopP is [⟨labK n, kG⟩]) ⟨#[]⟩ 77 == 0) = false := by rw [shop_heldR]; rfl
  refine sees_not (show_not is _ ⟨#[]⟩ 77 hh hn hn6 ?_)
  rw [kHne.2.1]
  unfold grtF grtP
  simp

theorem shown_has (is : List It) (h : ItsOk is) (n : Nat) : (shownK is n).toList.isEmpty = !(is.any fun x => x.n == n) := by
  rw [shownK_empty, shTo_empty is h n]

theorem grant_call (db : Nat) (D : DepD) (is : List It) (gs : List Grt) (n : Nat) (hp : D.pure = shopP is gs) (E : Int) (P' : PDep) (hE : dgrantP (shopP is gs) kH 1 (labK n) kG = E) (hP : stepP E (shopP is gs) (dgrantS (shopP is gs) kH 1 (labK n) kG) = P') (W : World) (h : DepAt W db D) :
    Calls Tryd.prog 17 #[.pointer (some ⟨db, 0, none⟩), .string kH, .int .i64 1, .string (labK n), .string kG] W fun e w' => e = .returned (.int .i64 E) ∧ DepStep W w' db D P' := by
  have q := grant_any db D kH 1 (labK n) kG W h ⟨by decide, by decide⟩ E (by rw [hp]; exact hE.symm)
  rw [hp, hP] at q
  exact q

/-- A shop behind calls of its depot. -/
structure ShopBy (B : Nat) (w wx : World) (sb db : Nat) (ao : Option Addr) (cap : Nat) (is : List It) (P' : PDep) : Prop where
  dep : ∃ D, DepAt wx db D ∧ D.pure = P' ∧ (∀ k, DepFoot db D k → ¬ ShopFoot sb ao k) ∧ ∀ k, DepFoot db D k → B ≤ k
  shop : ShopAt wx sb db ao cap is
  bel : Below B w wx

theorem ShopBy.below {B : Nat} {w w1 w2 : World} {sb db : Nat} {ao : Option Addr} {cap : Nat} {is : List It} {P' : PDep} (h : ShopBy B w w1 sb db ao cap is P') (hb : Below w1.heap.size w1 w2) (hB : B ≤ w1.heap.size) : ShopBy B w w2 sb db ao cap is P' := by
  obtain ⟨⟨D, hD, hp, ha, hf⟩, hs, hbel⟩ := h
  exact ⟨⟨D, hD.below hb, hp, ha, hf⟩, hs.below hb, hbel.trans (hb.mono hB)⟩

theorem ShopBy.next {B : Nat} {w w1 W w2 : World} {sb db : Nat} {ao : Option Addr} {cap : Nat} {is : List It} {D : DepD} {P' : PDep} (hs : ShopAt w1 sb db ao cap is) (hbel : Below B w w1) (hB : B ≤ w1.heap.size)
    (ha : ∀ k, DepFoot db D k → ¬ ShopFoot sb ao k) (hf : ∀ k, DepFoot db D k → B ≤ k) (hst : DepStep W w2 db D P') (e1 : W.heap = w1.heap) (e2 : W.os = w1.os) (e3 : W.tape = w1.tape) (e4 : W.output = w1.output) : ShopBy B w w2 sb db ao cap is P' := by
  obtain ⟨D2, hD2, hp, hc, hfoot⟩ := hst
  have hc1 : Chg (DepFoot db D) w1 w2 := ⟨hc.os.trans e2, hc.tape.trans e3, hc.output.trans e4, by have := hc.size; rw [e1] at this; exact this, fun k hk hn => by rw [hc.block k (by rw [e1]; exact hk) hn, e1]⟩
  rw [e1] at hfoot
  refine ⟨⟨D2, hD2, hp, ?_, ?_⟩, hs.chg hc1 ha, hbel.trans (hc1.below hB hf)⟩
  · intro k hk hq
    rcases hfoot k hk with h | h
    · exact ha k h hq
    · have := (hs.foot hq).2; omega
  · intro k hk
    rcases hfoot k hk with h | h
    · exact hf k h
    · omega

end Go.Proofs.YtgcldedkempjhaaDoor
