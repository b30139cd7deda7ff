/-
  Who sees what of a shop (pure).
-/
import Derived.Test.YtgcldedkempjhaaDoorShopE
import Derived.Test.YtgcldedkempjhaaDoorOpenA
namespace Go.Proofs.YtgcldedkempjhaaDoor
section
open Go.RowKit

/-- The package's word of a name of the house. -/
def labK (n : Nat) : ByteArray :=
  match n with
  | 3 => ⟨#[120]⟩
  | 4 => ⟨#[121]⟩
  | _ => ⟨#[122]⟩

/-- The versions of the house, of the public. -/
def shopH (is : List It) : List PEd := (is.filter fun x => decide (3 ≤ x.n)).map fun x => ⟨labK x.n, x.v, x.ws.map wantK, x.y⟩
def shopPub (is : List It) : List PEd := (is.filter fun x => decide (x.n < 3)).map fun x => ⟨nameK x.n, x.v, x.ws.map wantK, false⟩

/-- The lines that an item has laid behind the house's log. -/
def itLog (x : It) : List UInt8 := if 3 ≤ x.n then publishLine 1 (labK x.n).data.toList x.v ++ (if x.y = true then yankLine 1 (labK x.n).data.toList x.v true else []) else []

/-- The house's log. -/
def shopLog (is : List It) (gs : List Grt) : List UInt8 := log0 ++ is.flatMap itLog ++ gs.flatMap fun g => grantLine 1 g.pack.data.toList g.to.data.toList

def shopYk (is : List It) : Nat := is.countP fun x => decide (3 ≤ x.n) && x.y

theorem shopYk_le (is : List It) : shopYk is ≤ is.length := List.countP_le_length

theorem shopLog_snoc (is : List It) (x : It) : shopLog (is ++ [x]) [] = shopLog is [] ++ itLog x := by
  simp [shopLog]

theorem shopLog_pub (is : List It) (gs : List Grt) (x : It) (h : x.n < 3) : shopLog (is ++ [x]) gs = shopLog is gs := by
  have : itLog x = [] := by unfold itLog; rw [if_neg (by omega)]
  simp [shopLog, this]

theorem shopYk_pub (is : List It) (x : It) (h : x.n < 3) : shopYk (is ++ [x]) = shopYk is := by
  have : ¬ 3 ≤ x.n := by omega
  simp [shopYk, List.countP_append, this]

/-- What the depot of a shop holds. -/
def shopP (is : List It) (gs : List Grt) : PDep := ⟨77, 0, [⟨kH, [tok0], shopH is, gs, shopLog is gs⟩, ⟨kG, [tok0], [], [], log0⟩], shopPub is, shopYk is⟩

theorem shop_few {D : DepD} {is : List It} {gs : List Grt} (h : D.pure = shopP is gs) (hl : is.length ≤ 2000) : D.yanks < 200000000000 := by
  have h1 : D.yanks = shopYk is := congrArg PDep.yanks h
  have := shopYk_le is
  omega

theorem shop_hH (is : List It) (gs : List Grt) : hseF (shopP is gs).hs kH = some ⟨kH, [tok0], shopH is, gs, shopLog is gs⟩ := by
  show hseF [⟨kH, [tok0], shopH is, gs, shopLog is gs⟩, ⟨kG, [tok0], [], [], log0⟩] kH = _
  rw [hseF_two, if_pos kHG.2.2.1]

theorem shop_hG (is : List It) (gs : List Grt) : hseF (shopP is gs).hs kG = some ⟨kG, [tok0], [], [], log0⟩ := by
  show hseF [⟨kH, [tok0], shopH is, gs, shopLog is gs⟩, ⟨kG, [tok0], [], [], log0⟩] kG = _
  rw [hseF_two, if_neg (by rw [kHG.1]; decide), if_pos kHG.2.2.2]

theorem kH_full : kH.toList.isEmpty = false ∧ kG.toList.isEmpty = false := by constructor <;> rw [ByteArray.toList_eq] <;> rfl

theorem shop_heldH (is : List It) (gs : List Grt) : heldF (shopP is gs) kH 1 = 3 := by
  unfold heldF
  rw [kH_full.1, if_neg (by decide), shop_hH]
  rfl

theorem shop_heldG (is : List It) (gs : List Grt) : heldF (shopP is gs) kG 1 = 3 := by
  unfold heldF
  rw [kH_full.2, if_neg (by decide), shop_hG]
  rfl

theorem shop_heldR (is : List It) (gs : List Grt) : heldF (shopP is gs) ⟨#[]⟩ 77 = 4 := held_root rfl

theorem labK_beq {a b : Nat} (ha : 3 ≤ a) (ha6 : a < 6) (hb : 3 ≤ b) (hb6 : b < 6) : ((labK a).toList == (labK b).toList) = (a == b) := by
  have h1 : a = 3 ∨ a = 4 ∨ a = 5 := by omega
  have h2 : b = 3 ∨ b = 4 ∨ b = 5 := by omega
  rcases h1 with rfl | rfl | rfl <;> rcases h2 with rfl | rfl | rfl <;> simp only [ByteArray.toList_eq] <;> decide

theorem nameK_beq {a b : Nat} (ha : a < 6) (hb : b < 6) : ((nameK a).toList == (nameK b).toList) = (a == b) := by
  have h1 : a = 0 ∨ a = 1 ∨ a = 2 ∨ a = 3 ∨ a = 4 ∨ a = 5 := by omega
  have h2 : b = 0 ∨ b = 1 ∨ b = 2 ∨ b = 3 ∨ b = 4 ∨ b = 5 := by omega
  rcases h1 with rfl | rfl | rfl | rfl | rfl | rfl <;> rcases h2 with rfl | rfl | rfl | rfl | rfl | rfl <;> simp only [ByteArray.toList_eq] <;> decide

theorem nameK_name (n : Nat) : nameF (nameK n) = true := by
  unfold nameK; split <;> decide

theorem labK_word (n : Nat) : wordF (labK n) = true := by
  unfold labK; split <;> decide

/-- All items within the bounds. -/
def ItsOk (is : List It) : Prop := ∀ x ∈ is, x.n < 6 ∧ 1 ≤ x.v ∧ x.v ≤ 9 ∧ (x.n < 3 → x.y = false)

theorem find_shopH (is : List It) (h : ItsOk is) (n v : Nat) (hn : 3 ≤ n) (hn6 : n < 6) : pedF (shopH is) (labK n) v = (is.find? (itP n v)).map fun x => ⟨labK x.n, x.v, x.ws.map wantK, x.y⟩ := by
  unfold pedF shopH
  rw [List.find?_map, List.find?_filter]
  congr 1
  induction is with
  | nil => rfl
  | cons x t ih =>
    have ih := ih (fun y hy => h y (List.mem_cons_of_mem _ hy))
    have hx := h x (by simp)
    rw [List.find?_cons, List.find?_cons, ih]
    have e : (decide (3 ≤ x.n) && ((fun y => pedP (labK n) v y) ∘ fun x => (⟨labK x.n, x.v, x.ws.map wantK, x.y⟩ : PEd)) x) = itP n v x := by
      show (decide (3 ≤ x.n) && ((x.v : Int) == (v : Int) && (labK x.n).toList == (labK n).toList)) = (x.n == n && x.v == v)
      by_cases h3 : 3 ≤ x.n
      · rw [labK_beq h3 hx.1 hn hn6, decide_eq_true h3, Bool.true_and, Bool.and_comm]
        congr 1
        rw [Bool.eq_iff_iff]; simp; omega
      · rw [decide_eq_false h3, Bool.false_and]
        have : (x.n == n) = false := by simp; omega
        rw [this, Bool.false_and]
    rw [show (decide (decide (3 ≤ x.n) = true ∧ (pedP (labK n) v ∘ fun x => (⟨labK x.n, x.v, x.ws.map wantK, x.y⟩ : PEd)) x = true)) = itP n v x by rw [Bool.decide_and, Bool.decide_eq_true, Bool.decide_eq_true]; exact e]

theorem find_shopPub (is : List It) (h : ItsOk is) (n v : Nat) (hn : n < 3) : pedF (shopPub is) (nameK n) v = (is.find? (itP n v)).map fun x => ⟨nameK x.n, x.v, x.ws.map wantK, false⟩ := by
  unfold pedF shopPub
  rw [List.find?_map, List.find?_filter]
  congr 1
  induction is with
  | nil => rfl
  | cons x t ih =>
    have ih := ih (fun y hy => h y (List.mem_cons_of_mem _ hy))
    have hx := h x (by simp)
    rw [List.find?_cons, List.find?_cons, ih]
    have e : (decide (x.n < 3) && ((x.v : Int) == (v : Int) && (nameK x.n).toList == (nameK n).toList)) = (x.n == n && x.v == v) := by
      by_cases h3 : x.n < 3
      · rw [nameK_beq hx.1 (by omega), decide_eq_true h3, Bool.true_and, Bool.and_comm]
        congr 1
        rw [Bool.eq_iff_iff]; simp; omega
      · rw [decide_eq_false h3, Bool.false_and]
        have : (x.n == n) = false := by simp; omega
        rw [this, Bool.false_and]
    rw [show (decide (decide (x.n < 3) = true ∧ (pedP (nameK n) v ∘ fun x => (⟨nameK x.n, x.v, x.ws.map wantK, false⟩ : PEd)) x = true)) = itP n v x by rw [Bool.decide_and, Bool.decide_eq_true, Bool.decide_eq_true]; exact e]

theorem len_shopH (is : List It) : (shopH is).length = ownN true is := by
  unfold shopH ownN
  rw [List.length_map, ← List.countP_eq_length_filter]
  congr 1; funext x; cases decide (3 ≤ x.n) <;> rfl

theorem len_shopPub (is : List It) : (shopPub is).length = ownN false is := by
  unfold shopPub ownN
  rw [List.length_map, ← List.countP_eq_length_filter]
  congr 1; funext x
  by_cases h : 3 ≤ x.n
  · rw [decide_eq_true h, decide_eq_false (by omega)]; rfl
  · rw [decide_eq_false h, decide_eq_true (by omega)]; rfl

/-- What Publish answers to a version that is let in. -/
theorem publish_shop (is : List It) (h : ItsOk is) (n v : Nat) (hn : 3 ≤ n) (hn6 : n < 6) (hv : 1 ≤ v) (hv9 : v ≤ 9) (l : List Nd) (hl : ∀ x ∈ l, NdOk x) (h6 : l.length ≤ 6) :
    dpublishP (shopP is []) kH 1 (labK n) v (textK l) = if (is.find? (itP n v)).isSome then 5 else if 12 ≤ ownN true is then 6 else 0 := by
  unfold dpublishP
  rw [shop_heldH, if_neg (by decide), if_neg (by rw [labK_word]; decide), shop_hH]
  show playF (shopH is) (labK n) v (textK l) 12 = _
  unfold playF
  rw [if_neg (by omega), text_read l hl h6, if_neg (by simp), find_shopH is h n v hn hn6, Option.isSome_map, len_shopH]
  congr 1
  by_cases hr : 12 ≤ ownN true is
  · rw [if_pos hr, if_pos (by omega)]
  · rw [if_neg hr, if_neg (by omega)]

theorem feed_shop (is : List It) (h : ItsOk is) (n v : Nat) (hn : n < 3) (hv : 1 ≤ v) (hv9 : v ≤ 9) (l : List Nd) (hl : ∀ x ∈ l, NdOk x) (h6 : l.length ≤ 6) :
    dfeedP (shopP is []) (nameK n) v (textK l) = if (is.find? (itP n v)).isSome then 5 else if 24 ≤ ownN false is then 6 else 0 := by
  unfold dfeedP
  rw [if_neg (by rw [nameK_name n]; decide)]
  show playF (shopPub is) (nameK n) v (textK l) 24 = _
  unfold playF
  rw [if_neg (by omega), text_read l hl h6, if_neg (by simp), find_shopPub is h n v hn, Option.isSome_map, len_shopPub]
  congr 1
  by_cases hr : 24 ≤ ownN false is
  · rw [if_pos hr, if_pos (by omega)]
  · rw [if_neg hr, if_neg (by omega)]

theorem shopH_snoc (is : List It) (x : It) (h : 3 ≤ x.n) : shopH (is ++ [x]) = shopH is ++ [⟨labK x.n, x.v, x.ws.map wantK, x.y⟩] ∧ shopPub (is ++ [x]) = shopPub is := by
  unfold shopH shopPub
  rw [List.filter_append, List.filter_append, List.filter_cons_of_pos (by simpa using h), List.filter_cons_of_neg (by simp; omega)]
  simp

theorem shopPub_snoc (is : List It) (x : It) (h : x.n < 3) : shopPub (is ++ [x]) = shopPub is ++ [⟨nameK x.n, x.v, x.ws.map wantK, false⟩] ∧ shopH (is ++ [x]) = shopH is := by
  unfold shopH shopPub
  rw [List.filter_append, List.filter_append, List.filter_cons_of_pos (by simpa using h), List.filter_cons_of_neg (by simp; omega)]
  simp

theorem shop_upd (is : List It) (gs : List Grt) (f : PHse → PHse) : (shopP is gs).upd kH f = ⟨77, 0, [f ⟨kH, [tok0], shopH is, gs, shopLog is gs⟩, ⟨kG, [tok0], [], [], log0⟩], shopPub is, shopYk is⟩ := by
  unfold PDep.upd shopP
  show PDep.mk 77 0 (updH [⟨kH, [tok0], shopH is, gs, shopLog is gs⟩, ⟨kG, [tok0], [], [], log0⟩] kH f) (shopPub is) (shopYk is) = _
  rw [updH, if_pos kHG.2.2.1]

theorem publish_shopS (is : List It) (n v : Nat) (wv : Value) (l : List Nd) (hn : 3 ≤ n) (hl : ∀ x ∈ l, NdOk x) (h6 : l.length ≤ 6) :
    dpublishS (shopP is []) kH 1 (labK n) v (textK l) = shopP (is ++ [⟨n, v, false, wv, l⟩]) [] := by
  unfold dpublishS
  rw [shop_upd, text_read l hl h6]
  obtain ⟨e1, e2⟩ := shopH_snoc is ⟨n, v, false, wv, l⟩ hn
  have e3 : itLog ⟨n, v, false, wv, l⟩ = publishLine 1 (labK n).data.toList v := by simp [itLog, hn]
  have e4 : shopYk (is ++ [⟨n, v, false, wv, l⟩]) = shopYk is := by simp [shopYk, List.countP_append]
  unfold shopP
  rw [e1, e2, e4, shopLog_snoc, e3]
  rfl

theorem feed_shopS (is : List It) (gs : List Grt) (n v : Nat) (wv : Value) (l : List Nd) (hn : n < 3) (hl : ∀ x ∈ l, NdOk x) (h6 : l.length ≤ 6) :
    dfeedS (shopP is gs) (nameK n) v (textK l) = shopP (is ++ [⟨n, v, false, wv, l⟩]) gs := by
  unfold dfeedS
  rw [text_read l hl h6]
  obtain ⟨e1, e2⟩ := shopPub_snoc is ⟨n, v, false, wv, l⟩ hn
  unfold shopP
  rw [e1, e2, shopLog_pub is gs _ hn, shopYk_pub is _ hn]
  rfl

theorem updF_last {α : Type} (p : α → Bool) (f : α → α) (l : List α) (x : α) (h : l.find? p = none) (hx : p x = true) : updF p f (l ++ [x]) = l ++ [f x] := by
  induction l with
  | nil => show (if p x = true then f x :: [] else _) = _; rw [if_pos hx]; rfl
  | cons y t ih =>
    rw [List.find?_cons] at h
    cases hy : p y with
    | true => rw [hy] at h; cases h
    | false =>
      rw [hy] at h
      show (if p y = true then _ else y :: updF p f (t ++ [x])) = _
      rw [hy, if_neg (by decide), ih h]
      rfl

theorem yank_shop (is : List It) (h : ItsOk is) (n v : Nat) (wv : Value) (l : List Nd) (hn : 3 ≤ n) (hn6 : n < 6) (hno : is.find? (itP n v) = none) :
    dyankS (shopP (is ++ [⟨n, v, false, wv, l⟩]) []) kH 1 (labK n) v true = shopP (is ++ [⟨n, v, true, wv, l⟩]) [] := by
  unfold dyankS yankEds
  obtain ⟨e1, e2⟩ := shopH_snoc is ⟨n, v, false, wv, l⟩ hn
  obtain ⟨e3, e4⟩ := shopH_snoc is ⟨n, v, true, wv, l⟩ hn
  have e5 : itLog ⟨n, v, false, wv, l⟩ = publishLine 1 (labK n).data.toList v := by simp [itLog, hn]
  have e6 : itLog ⟨n, v, true, wv, l⟩ = publishLine 1 (labK n).data.toList v ++ yankLine 1 (labK n).data.toList v true := by simp [itLog, hn]
  have e7 : shopYk (is ++ [⟨n, v, false, wv, l⟩]) = shopYk is := by simp [shopYk, List.countP_append]
  have e8 : shopYk (is ++ [⟨n, v, true, wv, l⟩]) = shopYk is + 1 := by simp [shopYk, List.countP_append, hn]
  have e0 : ∀ f, (({ shopP (is ++ [⟨n, v, false, wv, l⟩]) [] with yanks := (shopP (is ++ [⟨n, v, false, wv, l⟩]) []).yanks + 1 } : PDep).upd kH f) = { (shopP (is ++ [⟨n, v, false, wv, l⟩]) []).upd kH f with yanks := shopYk (is ++ [⟨n, v, false, wv, l⟩]) + 1 } := fun f => rfl
  rw [e0, shop_upd]
  unfold shopP
  rw [e1, e2, e3, e4, shopLog_snoc, shopLog_snoc, e5, e6, e7, e8]
  have hf : (shopH is).find? (pedP (labK n) v) = none := by
    have := find_shopH is h n v hn hn6
    unfold pedF at this
    rw [this, hno]; rfl
  show PDep.mk 77 0 [PHse.mk kH [tok0] (updF (pedP (labK n) v) _ (shopH is ++ [⟨labK n, v, l.map wantK, false⟩])) [] _, _] _ _ = _
  rw [updF_last _ _ _ _ hf (by simp [pedP]), List.append_assoc]

theorem yank_shopP (is : List It) (n v : Nat) (wv : Value) (l : List Nd) (hn : 3 ≤ n) (hn6 : n < 6) (h : ItsOk (is ++ [⟨n, v, false, wv, l⟩])) :
    dyankP (shopP (is ++ [⟨n, v, false, wv, l⟩]) []) kH 1 (labK n) v = 0 := by
  unfold dyankP
  rw [shop_heldH, if_neg (by decide), if_neg (by rw [labK_word]; decide), shop_hH]
  show (if (pedF (shopH (is ++ [⟨n, v, false, wv, l⟩])) (labK n) v).isSome = true then 0 else 7) = (0 : Int)
  rw [find_shopH _ h n v hn hn6, Option.isSome_map, if_pos]
  rw [List.find?_isSome]
  exact ⟨⟨n, v, false, wv, l⟩, by simp, by simp [itP]⟩

theorem ptell_shopH (is : List It) (h : ItsOk is) (n : Nat) (hn : 3 ≤ n) (hn6 : n < 6) (k : Nat) : ptell (shopH is) (labK n) k = shTo is n k := by
  induction k with
  | zero => rfl
  | succ k ih =>
    unfold ptell shTo
    rw [ih, show ((k : Int) + 1) = ((k + 1 : Nat) : Int) from rfl, find_shopH is h n (k + 1) hn hn6]
    cases is.find? (itP n (k + 1)) <;> rfl

theorem ptell_shopPub (is : List It) (h : ItsOk is) (n : Nat) (hn : n < 3) (k : Nat) : ptell (shopPub is) (nameK n) k = shTo is n k := by
  induction k with
  | zero => rfl
  | succ k ih =>
    unfold ptell shTo
    rw [ih, show ((k : Int) + 1) = ((k + 1 : Nat) : Int) from rfl, find_shopPub is h n (k + 1) hn]
    cases hf : is.find? (itP n (k + 1)) with
    | none => rfl
    | some x =>
      have hm := List.mem_of_find?_eq_some hf
      have hp := List.find?_some hf
      have hx : x.n = n := by simp [itP] at hp; exact hp.1
      have hy := (h x hm).2.2.2 (by omega)
      show _ = (if _ then _ else _) ++ digitS (k + 1) ++ (if x.y then _ else _)
      rw [hy]
      rfl

/-- A name that has a version is told as no empty text. -/
theorem shTo_empty (is : List It) (h : ItsOk is) (n : Nat) : (shTo is n 9).toList.isEmpty = !(is.any fun x => x.n == n) := by
  have key : ∀ k, (shTo is n k).toList.isEmpty = !(is.any fun x => x.n == n && decide (x.v ≤ k)) := by
    intro k
    induction k with
    | zero =>
      have : (is.any fun x => x.n == n && decide (x.v ≤ 0)) = false := by
        rw [List.any_eq_false]
        intro x hx
        have := h x hx
        simp; omega
      rw [this, ByteArray.toList_eq]; rfl
    | succ k ih =>
      unfold shTo
      cases hf : is.find? (itP n (k + 1)) with
      | none =>
        show (shTo is n k).toList.isEmpty = _
        rw [ih]
        congr 1
        rw [Bool.eq_iff_iff, List.any_eq_true, List.any_eq_true]
        have hno := List.find?_eq_none.1 hf
        constructor
        · rintro ⟨x, hx, hp⟩
          exact ⟨x, hx, by simp at hp ⊢; omega⟩
        · rintro ⟨x, hx, hp⟩
          have := hno x hx
          exact ⟨x, hx, by simp [itP] at hp this ⊢; omega⟩
      | some x =>
        have hm := List.mem_of_find?_eq_some hf
        have hp := List.find?_some hf
        have ha : (is.any fun x => x.n == n && decide (x.v ≤ k + 1)) = true := by
          rw [List.any_eq_true]
          exact ⟨x, hm, by simp [itP] at hp ⊢; omega⟩
        rw [ha, ByteArray.toList_eq]
        show (bytes (_ ++ digitS (k + 1) ++ _)).isEmpty = _
        rw [bytes_append, bytes_append]
        simp [bytes, digitS]
  rw [key 9]
  congr 1
  rw [Bool.eq_iff_iff, List.any_eq_true, List.any_eq_true]
  constructor
  · rintro ⟨x, hx, hp⟩
    exact ⟨x, hx, by simp at hp ⊢; omega⟩
  · rintro ⟨x, hx, hp⟩
    have := h x hx
    exact ⟨x, hx, by simp at hp ⊢; omega⟩

end

section
open Go.RowKit

theorem phas_shopH (is : List It) (h : ItsOk is) (n : Nat) (hn : 3 ≤ n) (hn6 : n < 6) : phas (shopH is) (labK n) = is.any fun x => x.n == n := by
  unfold phas shopH
  rw [List.any_map, List.any_filter]
  rw [Bool.eq_iff_iff, List.any_eq_true, List.any_eq_true]
  constructor
  · rintro ⟨x, hx, hp⟩
    simp only [Bool.and_eq_true, decide_eq_true_eq, Function.comp_apply] at hp
    rw [labK_beq hp.1 (h x hx).1 hn hn6] at hp
    exact ⟨x, hx, hp.2⟩
  · rintro ⟨x, hx, hp⟩
    refine ⟨x, hx, ?_⟩
    have e : x.n = n := by simpa using hp
    simp only [Bool.and_eq_true, decide_eq_true_eq, Function.comp_apply]
    rw [labK_beq (by omega) (h x hx).1 hn hn6]
    exact ⟨by omega, hp⟩

theorem phas_shopPub (is : List It) (h : ItsOk is) (n : Nat) (hn : n < 3) : phas (shopPub is) (nameK n) = is.any fun x => x.n == n := by
  unfold phas shopPub
  rw [List.any_map, List.any_filter]
  rw [Bool.eq_iff_iff, List.any_eq_true, List.any_eq_true]
  constructor
  · rintro ⟨x, hx, hp⟩
    simp only [Bool.and_eq_true, decide_eq_true_eq, Function.comp_apply] at hp
    rw [nameK_beq (h x hx).1 (by omega)] at hp
    exact ⟨x, hx, hp.2⟩
  · rintro ⟨x, hx, hp⟩
    refine ⟨x, hx, ?_⟩
    have e : x.n = n := by simpa using hp
    simp only [Bool.and_eq_true, decide_eq_true_eq, Function.comp_apply]
    rw [nameK_beq (h x hx).1 (by omega)]
    exact ⟨by omega, hp⟩

theorem split3 : splitF (nameK 3) = (kH, labK 3, true) := by kernel_rfl
theorem split4 : splitF (nameK 4) = (kH, labK 4, true) := by kernel_rfl
theorem split5 : splitF (nameK 5) = (kH, labK 5, true) := by kernel_rfl
theorem split0 : (splitF (nameK 0)).2.2 = false := by kernel_rfl
theorem split1 : (splitF (nameK 1)).2.2 = false := by kernel_rfl
theorem split2 : (splitF (nameK 2)).2.2 = false := by kernel_rfl

theorem split_own {n : Nat} (hn : 3 ≤ n) (hn6 : n < 6) : splitF (nameK n) = (kH, labK n, true) := by
  have h1 : n = 3 ∨ n = 4 ∨ n = 5 := by omega
  rcases h1 with rfl | rfl | rfl
  · exact split3
  · exact split4
  · exact split5

theorem split_pub {n : Nat} (hn : n < 3) : (splitF (nameK n)).2.2 = false := by
  have h1 : n = 0 ∨ n = 1 ∨ n = 2 := by omega
  rcases h1 with rfl | rfl | rfl
  · exact split0
  · exact split1
  · exact split2

theorem place_own (is : List It) (gs : List Grt) {n : Nat} (hn : 3 ≤ n) (hn6 : n < 6) : placeF (shopP is gs) (nameK n) = (some ⟨kH, [tok0], shopH is, gs, shopLog is gs⟩, labK n) := by
  unfold placeF
  rw [split_own hn hn6, if_pos rfl]
  show (match hseF (shopP is gs).hs kH with | some h => (some h, labK n) | none => (none, nameK n)) = _
  rw [shop_hH]

theorem place_pub (is : List It) (gs : List Grt) {n : Nat} (hn : n < 3) : placeF (shopP is gs) (nameK n) = (none, nameK n) := by
  unfold placeF
  rw [if_neg (by rw [split_pub hn]; decide)]

/-- What Show tells to who sees a name. -/
def toldK (is : List It) (n : Nat) : ByteArray × Int := if (shTo is n 9).toList.isEmpty then (⟨#[]⟩, 7) else (shownK is n, 0)

theorem show_pub (is : List It) (gs : List Grt) (h : ItsOk is) (house : ByteArray) (id : Int) (hh : (heldF (shopP is gs) house id == 0) = false) {n : Nat} (hn : n < 3) : dshowP (shopP is gs) house id (nameK n) = toldK is n := by
  unfold dshowP toldK
  rw [hh, if_neg (by decide), if_neg (by rw [nameK_name]; decide), place_pub is gs hn]
  show (if phas (shopPub is) (nameK n) = true then (pubWord ++ ⟨#[58]⟩ ++ ptell (shopPub is) (nameK n) 9, 0) else (⟨#[]⟩, 7)) = _
  rw [phas_shopPub is h n hn, ptell_shopPub is h n hn, shTo_empty is h n]
  have he := shTo_empty is h n
  cases ha : (is.any fun x => x.n == n) with
  | true =>
    rw [ha] at he
    rw [if_pos rfl, if_neg (by decide)]
    unfold shownK
    rw [he, if_neg (by decide), if_neg (by omega)]
    rfl
  | false => rfl

theorem show_own (is : List It) (gs : List Grt) (h : ItsOk is) (house : ByteArray) (id : Int) (hh : (heldF (shopP is gs) house id == 0) = false) {n : Nat} (hn : 3 ≤ n) (hn6 : n < 6) (hs : ((kH.toList == house.toList) || grtF gs (labK n) house) = true) : dshowP (shopP is gs) house id (nameK n) = toldK is n := by
  unfold dshowP toldK
  rw [hh, if_neg (by decide), if_neg (by rw [nameK_name]; decide), place_own is gs hn hn6]
  show (if (((kH.toList == house.toList) || grtF gs (labK n) house) && phas (shopH is) (labK n)) = true then (kH ++ ⟨#[58]⟩ ++ ptell (shopH is) (labK n) 9, 0) else (⟨#[]⟩, 7)) = _
  rw [hs, Bool.true_and, phas_shopH is h n hn hn6, ptell_shopH is h n hn hn6, shTo_empty is h n]
  have he := shTo_empty is h n
  cases ha : (is.any fun x => x.n == n) with
  | true =>
    rw [ha] at he
    rw [if_pos rfl, if_neg (by decide)]
    unfold shownK
    rw [he, if_neg (by decide), if_pos hn]
    rfl
  | false => rfl

theorem show_not (is : List It) (gs : List Grt) (house : ByteArray) (id : Int) (hh : (heldF (shopP is gs) house id == 0) = false) {n : Nat} (hn : 3 ≤ n) (hn6 : n < 6) (hs : ((kH.toList == house.toList) || grtF gs (labK n) house) = false) : dshowP (shopP is gs) house id (nameK n) = (⟨#[]⟩, 7) := by
  unfold dshowP
  rw [hh, if_neg (by decide), if_neg (by rw [nameK_name]; decide), place_own is gs hn hn6]
  show (if (((kH.toList == house.toList) || grtF gs (labK n) house) && phas (shopH is) (labK n)) = true then _ else _) = _
  rw [hs]
  rfl

theorem none_empty : (⟨#[]⟩ : ByteArray).toList.isEmpty = true := by rw [ByteArray.toList_eq]; rfl

theorem shownK_empty (is : List It) (n : Nat) : (shownK is n).toList.isEmpty = (shTo is n 9).toList.isEmpty := by
  unfold shownK
  cases he : (shTo is n 9).toList.isEmpty with
  | true => exact none_empty
  | false =>
    rw [if_neg (by decide)]
    split
    · rw [ByteArray.toList_eq]
      show (bytes (_ ++ _)).isEmpty = false
      rw [bytes_append]; rfl
    · rw [ByteArray.toList_eq]
      show (bytes (_ ++ _)).isEmpty = false
      rw [bytes_append]; rfl

/-- Who is told what he must be told. -/
theorem sees_told {P : PDep} {house : ByteArray} {id : Int} {is : List It} {n : Nat} (h : dshowP P house id (nameK n) = toldK is n) : seesK P house id n (shownK is n) = true := by
  unfold seesK
  rw [h, shownK_empty]
  unfold toldK
  cases he : (shTo is n 9).toList.isEmpty with
  | true => rw [if_pos rfl, if_pos rfl]; show ((⟨#[]⟩ : ByteArray).toList.isEmpty && _) = true; rw [none_empty]; rfl
  | false => rw [if_neg (by decide), if_neg (by decide)]; simp

theorem sees_not {P : PDep} {house : ByteArray} {id : Int} {n : Nat} (h : dshowP P house id (nameK n) = (⟨#[]⟩, 7)) : seesK P house id n ⟨#[]⟩ = true := by
  unfold seesK
  rw [h, none_empty, if_pos rfl]
  rfl

end

end Go.Proofs.YtgcldedkempjhaaDoor
