/-
  Who sees what of a shop (pure).
-/
import Derived.Test.YtgcldedkempjhaaDoorShopQ
namespace Go.Proofs.YtgcldedkempjhaaDoor
open Go.RowKit

theorem phas_shopH (is : List It) (h : ItsOk is) (n : Nat) (hn : 3 ≤ n) (hn6 : n < 6) : phas (shopH is) (labK n) = is.any fun x => x.n == n := by
  unfold phas shopH
  rw [List.any_map, List.any_filter]
  rw [Bool.eq_iff_iff, List.any_eq_true, List.any_eq_true]
  constructor
  · rintro ⟨x, hx, hp⟩
    simp only [Bool.and_eq_true, decide_eq_true_eq, Function.comp_apply] at hp
    rw [labK_beq hp.1 (h x hx).1 hn hn6] at hp
    exact ⟨x, hx, hp.2⟩
  · rintro ⟨x, hx, hp⟩
    refine ⟨x, hx, ?_⟩
    have e : x.n = n := by simpa using hp
    simp only [Bool.and_eq_true, decide_eq_true_eq, Function.comp_apply]
    rw [labK_beq (by omega) (h x hx).1 hn hn6]
    exact ⟨by omega, hp⟩

theorem phas_shopPub (is : List It) (h : ItsOk is) (n : Nat) (hn : n < 3) : phas (shopPub is) (nameK n) = is.any fun x => x.n == n := by
  unfold phas shopPub
  rw [List.any_map, List.any_filter]
  rw [Bool.eq_iff_iff, List.any_eq_true, List.any_eq_true]
  constructor
  · rintro ⟨x, hx, hp⟩
    simp only [Bool.and_eq_true, decide_eq_true_eq, Function.comp_apply] at hp
    rw [nameK_beq (h x hx).1 (by omega)] at hp
    exact ⟨x, hx, hp.2⟩
  · rintro ⟨x, hx, hp⟩
    refine ⟨x, hx, ?_⟩
    have e : x.n = n := by simpa using hp
    simp only [Bool.and_eq_true, decide_eq_true_eq, Function.comp_apply]
    rw [nameK_beq (h x hx).1 (by omega)]
    exact ⟨by omega, hp⟩

theorem split3 : splitF (nameK 3) = (kH, labK 3, true) := by kernel_rfl
theorem split4 : splitF (nameK 4) = (kH, labK 4, true) := by kernel_rfl
theorem split5 : splitF (nameK 5) = (kH, labK 5, true) := by kernel_rfl
theorem split0 : (splitF (nameK 0)).2.2 = false := by kernel_rfl
theorem split1 : (splitF (nameK 1)).2.2 = false := by kernel_rfl
theorem split2 : (splitF (nameK 2)).2.2 = false := by kernel_rfl

theorem split_own {n : Nat} (hn : 3 ≤ n) (hn6 : n < 6) : splitF (nameK n) = (kH, labK n, true) := by
  have h1 : n = 3 ∨ n = 4 ∨ n = 5 := by omega
  rcases h1 with rfl | rfl | rfl
  · exact split3
  · exact split4
  · exact split5

theorem split_pub {n : Nat} (hn : n < 3) : (splitF (nameK n)).2.2 = false := by
  have h1 : n = 0 ∨ n = 1 ∨ n = 2 := by omega
  rcases h1 with rfl | rfl | rfl
  · exact split0
  · exact split1
  · exact split2

theorem place_own (is : List It) (gs : List Grt) {n : Nat} (hn : 3 ≤ n) (hn6 : n < 6) : placeF (shopP is gs) (nameK n) = (some ⟨kH, [tok0], shopH is, gs, shopLog is gs⟩, labK n) := by
  unfold placeF
  rw [split_own hn hn6, if_pos rfl]
  show (match hseF (shopP is gs).hs kH with | some h => (some h, labK n) | none => (none, nameK n)) = _
  rw [shop_hH]

theorem place_pub (is : List It) (gs : List Grt) {n : Nat} (hn : n < 3) : placeF (shopP is gs) (nameK n) = (none, nameK n) := by
  unfold placeF
  rw [if_neg (by rw [split_pub hn]; decide)]

/-- What Show tells to who sees a name. -/
def toldK (is : List It) (n : Nat) : ByteArray × Int := if (shTo is n 9).toList.isEmpty then (⟨#[]⟩, 7) else (shownK is n, 0)

theorem show_pub (is : List It) (gs : List Grt) (h : ItsOk is) (house : ByteArray) (id : Int) (hh : (heldF (shopP is gs) house id == 0) = false) {n : Nat} (hn : n < 3) : dshowP (shopP is gs) house id (nameK n) = toldK is n := by
  unfold dshowP toldK
  rw [hh, if_neg (by decide), if_neg (by rw [nameK_name]; decide), place_pub is gs hn]
  show (if phas (shopPub is) (nameK n) = true then (pubWord ++ ⟨#[58]⟩ ++ ptell (shopPub is) (nameK n) 9, 0) else (⟨#[]⟩, 7)) = _
  rw [phas_shopPub is h n hn, ptell_shopPub is h n hn, shTo_empty is h n]
  have he := shTo_empty is h n
  cases ha : (is.any fun x => x.n == n) with
  | true =>
    rw [ha] at he
    rw [if_pos rfl, if_neg (by decide)]
    unfold shownK
    rw [he, if_neg (by decide), if_neg (by omega)]
    rfl
  | false => rfl

theorem show_own (is : List It) (gs : List Grt) (h : ItsOk is) (house : ByteArray) (id : Int) (hh : (heldF (shopP is gs) house id == 0) = false) {n : Nat} (hn : 3 ≤ n) (hn6 : n < 6) (hs : ((kH.toList == house.toList) || grtF gs (labK n) house) = true) : dshowP (shopP is gs) house id (nameK n) = toldK is n := by
  unfold dshowP toldK
  rw [hh, if_neg (by decide), if_neg (by rw [nameK_name]; decide), place_own is gs hn hn6]
  show (if (((kH.toList == house.toList) || grtF gs (labK n) house) && phas (shopH is) (labK n)) = true then (kH ++ ⟨#[58]⟩ ++ ptell (shopH is) (labK n) 9, 0) else (⟨#[]⟩, 7)) = _
  rw [hs, Bool.true_and, phas_shopH is h n hn hn6, ptell_shopH is h n hn hn6, shTo_empty is h n]
  have he := shTo_empty is h n
  cases ha : (is.any fun x => x.n == n) with
  | true =>
    rw [ha] at he
    rw [if_pos rfl, if_neg (by decide)]
    unfold shownK
    rw [he, if_neg (by decide), if_pos hn]
    rfl
  | false => rfl

theorem show_not (is : List It) (gs : List Grt) (house : ByteArray) (id : Int) (hh : (heldF (shopP is gs) house id == 0) = false) {n : Nat} (hn : 3 ≤ n) (hn6 : n < 6) (hs : ((kH.toList == house.toList) || grtF gs (labK n) house) = false) : dshowP (shopP is gs) house id (nameK n) = (⟨#[]⟩, 7) := by
  unfold dshowP
  rw [hh, if_neg (by decide), if_neg (by rw [nameK_name]; decide), place_own is gs hn hn6]
  show (if (((kH.toList == house.toList) || grtF gs (labK n) house) && phas (shopH is) (labK n)) = true then _ else _) = _
  rw [hs]
  rfl

theorem none_empty : (⟨#[]⟩ : ByteArray).toList.isEmpty = true := by rw [ByteArray.toList_eq]; rfl

theorem shownK_empty (is : List It) (n : Nat) : (shownK is n).toList.isEmpty = (shTo is n 9).toList.isEmpty := by
  unfold shownK
  cases he : (shTo is n 9).toList.isEmpty with
  | true => exact none_empty
  | false =>
    rw [if_neg (by decide)]
    split
    · rw [ByteArray.toList_eq]
      show (bytes (_ ++ _)).isEmpty = false
      rw [bytes_append]; rfl
    · rw [ByteArray.toList_eq]
      show (bytes (_ ++ _)).isEmpty = false
      rw [bytes_append]; rfl

/-- Who is told what he must be told. -/
theorem sees_told {P : PDep} {house : ByteArray} {id : Int} {is : List It} {n : Nat} (h : dshowP P house id (nameK n) = toldK is n) : seesK P house id n (shownK is n) = true := by
  unfold seesK
  rw [h, shownK_empty]
  unfold toldK
  cases he : (shTo is n 9).toList.isEmpty with
  | true => rw [if_pos rfl, if_pos rfl]; show ((⟨#[]⟩ : ByteArray).toList.isEmpty && _) = true; rw [none_empty]; rfl
  | false => rw [if_neg (by decide), if_neg (by decide)]; simp

theorem sees_not {P : PDep} {house : ByteArray} {id : Int} {n : Nat} (h : dshowP P house id (nameK n) = (⟨#[]⟩, 7)) : seesK P house id n ⟨#[]⟩ = true := by
  unfold seesK
  rw [h, none_empty, if_pos rfl]
  rfl

end Go.Proofs.YtgcldedkempjhaaDoor
