/-
  depotkeep: sees: does Show tell a holder this of a name?
-/
import Derived.Test.YtgcldedkempjhaaDoorShopC
import Derived.Test.YtgcldedkempjhaaDoorShelfTell
import Derived.Test.YtgcldedkempjhaaDoorShopD
import Derived.Test.YtgcldedkempjhaaDoorDepShow
namespace Go.Proofs.YtgcldedkempjhaaDoor
section
open Go.RowKit

/-- The versions of a name, up to one. -/
def shTo (is : List It) (n : Nat) : Nat → ByteArray
  | 0 => ⟨#[]⟩
  | k + 1 => match is.find? (itP n (k + 1)) with
    | none => shTo is n k
    | some e => (if (shTo is n k).toList.isEmpty then shTo is n k else shTo is n k ++ ⟨#[44]⟩) ++ digitS (k + 1) ++ (if e.y then ⟨#[42]⟩ else ⟨#[]⟩)

theorem shTo_size (is : List It) (n : Nat) (k : Nat) : (shTo is n k).size ≤ 3 * k := by
  induction k with
  | zero => exact Nat.le_refl 0
  | succ k ih =>
    unfold shTo
    split
    · omega
    · rename_i e _
      have h1 : (digitS (k + 1)).size = 1 := rfl
      have h2 : (if e.y then (⟨#[42]⟩ : ByteArray) else ⟨#[]⟩).size ≤ 1 := by cases e.y <;> decide
      rw [ByteArray.size_append, ByteArray.size_append, h1]
      split
      · omega
      · rw [ByteArray.size_append]
        have h3 : (⟨#[44]⟩ : ByteArray).size = 1 := rfl
        omega

/-- What Show must tell of a name. -/
def shownK (is : List It) (n : Nat) : ByteArray :=
  if (shTo is n 9).toList.isEmpty then ⟨#[]⟩ else if 3 ≤ n then ⟨#[104, 58]⟩ ++ shTo is n 9 else ⟨#[112, 117, 98, 108, 105, 99, 58]⟩ ++ shTo is n 9

theorem digit_ver (k : Nat) (h : k < 9) (w : World) : Calls Tryd.prog 47 #[.int .i64 ((k : Int) + 1)] w fun e w' => e = .returned (.string (digitS (k + 1))) ∧ Below w.heap.size w w' :=
  digitK_any (k + 1) (by omega) w

theorem there_some' (sb db : Nat) (ao : Option Addr) (cap : Nat) (is : List It) (n k : Nat) (w : World) (hr : ShopAt w sb db ao cap is)
    (i : Nat) (hi : i < is.length) (hm : itP n (k + 1) is[i] = true) (hno : ∀ j, (hj : j < is.length) → j < i → itP n (k + 1) is[j] = false) :
    Calls Tryd.prog 46 #[.pointer (some ⟨sb, 0, none⟩), .int .i64 n, .int .i64 ((k : Int) + 1)] w fun e w' => e = .returned (.int .i64 i) ∧ w' = w :=
  there_some sb db ao cap is n (k + 1) w hr i hi hm hno

theorem there_none' (sb db : Nat) (ao : Option Addr) (cap : Nat) (is : List It) (n k : Nat) (w : World) (hr : ShopAt w sb db ao cap is)
    (hno : ∀ j, (hj : j < is.length) → itP n (k + 1) is[j] = false) :
    Calls Tryd.prog 46 #[.pointer (some ⟨sb, 0, none⟩), .int .i64 n, .int .i64 ((k : Int) + 1)] w fun e w' => e = .returned (.int .i64 (-1)) ∧ w' = w :=
  there_none sb db ao cap is n (k + 1) w hr hno

set_option maxHeartbeats 1600000 in
theorem shown_any (sb db : Nat) (ao : Option Addr) (cap : Nat) (is : List It) (n : Nat) (hn : n < 6) (w : World) (hr0 : ShopAt w sb db ao cap is) :
    Calls Tryd.prog 14 #[.pointer (some ⟨sb, 0, none⟩), .int .i64 n] w fun e w' => e = .returned (.string (shownK is n)) ∧ Below w.heap.size w w' := by
  have HR0 := hide (show ∀ W, Below w.heap.size w W → ShopAt W sb db ao cap is from fun W h => hr0.below h)
  have hlen := hr0.len
  clear hr0
  go_enter Tryd.func14, Tryd.ntmps14
  go_wp2_with fail
  go_loopw [5, 6, 7] (fun t x _ wr => ∃ k : Nat, k ≤ 9 ∧ x = .int .i64 ((k : Int) + 1) ∧ t = .string (shTo is n k) ∧ Below w.heap.size w wr) (fun _ x _ _ => (10 - intOf x).toNat)
  case atStart => exact ⟨0, Nat.zero_le _, rfl, rfl, Below.refl _ _⟩
  case round =>
    obtain ⟨k, hk, rfl, rfl, hb⟩ := hrel
    by_cases hlt : k < 9
    · rcases find_cases (itP n (k + 1)) is with ⟨i, hi, h1, h2, h3⟩ | ⟨h1, h3⟩
      · have Hc := hide (there_some' sb db _ cap is n k wr (HR0.out _ hb) i hi h1 h2)
        have c := (HR0.out _ hb).c1
        obtain ⟨g, rfl, hx⟩ := (HR0.out _ hb).entry i hi
        have HX := hide (show ∀ W, Below w.heap.size w W → W.cell? ⟨sb, 1, none⟩ = some (.slice (some ⟨g, 0, none⟩) is.length cap) ∧ W.cell? ⟨g, i * 4 + 2, none⟩ = some (.bool is[i].y) from fun W h => by
          refine ⟨(HR0.out _ h).c1, ?_⟩
          obtain ⟨g2, hg2, hx2⟩ := (HR0.out _ h).entry i hi
          injection hg2 with hg2
          injection hg2 with hg2
          subst hg2
          exact hx2.d2)
        clear hx c
        have HS := hide (show shTo is n (k + 1) = (if (shTo is n k).toList.isEmpty then shTo is n k else shTo is n k ++ ⟨#[44]⟩) ++ digitS (k + 1) ++ (if is[i].y then ⟨#[42]⟩ else ⟨#[]⟩) by rw [shTo, h3])
        clear h1 h2 h3
        have htl := shTo_size is n k
        have hd : (digitS (k + 1)).size = 1 := rfl
        have HI2 := hide (fun W => digit_ver k hlt W)
        generalize shTo is n k = t at *
        generalize digitS (k + 1) = dg at *
        cases ht : t.toList.isEmpty with
        | true =>
          cases hoff : is[i].y with
          | true =>
            have HR := hide (show shTo is n (k + 1) = t ++ dg ++ ⟨#[42]⟩ by rw [HS.out, ht, hoff]; rfl)
            clear HS
            go_wp2_with fail
            refine Hc.out.mono ?_
            rintro e w1 ⟨rfl, h⟩
            subst h
            go_wp2_with fail
            refine (HI2.out _).mono ?_
            rintro e w2 ⟨rfl, h⟩
            have hb2 := below_call hb h
            obtain ⟨c1, c2⟩ := HX.out _ hb2
            go_wp2_with fail
            go_roundw
            case rel => exact ⟨k + 1, by omega, by go_num, by rw [HR.out], hb2⟩
            case measure => simp [intOf] <;> omega
          | false =>
            have HR := hide (show shTo is n (k + 1) = t ++ dg by rw [HS.out, ht, hoff]; exact append_none _)
            clear HS
            go_wp2_with fail
            refine Hc.out.mono ?_
            rintro e w1 ⟨rfl, h⟩
            subst h
            go_wp2_with fail
            refine (HI2.out _).mono ?_
            rintro e w2 ⟨rfl, h⟩
            have hb2 := below_call hb h
            obtain ⟨c1, c2⟩ := HX.out _ hb2
            go_wp2_with fail
            go_roundw
            case rel => exact ⟨k + 1, by omega, by go_num, by rw [HR.out], hb2⟩
            case measure => simp [intOf] <;> omega
        | false =>
          cases hoff : is[i].y with
          | true =>
            have HR := hide (show shTo is n (k + 1) = t ++ ⟨#[44]⟩ ++ dg ++ ⟨#[42]⟩ by rw [HS.out, ht, hoff]; rfl)
            clear HS
            go_wp2_with fail
            refine Hc.out.mono ?_
            rintro e w1 ⟨rfl, h⟩
            subst h
            go_wp2_with fail
            refine (HI2.out _).mono ?_
            rintro e w2 ⟨rfl, h⟩
            have hb2 := below_call hb h
            obtain ⟨c1, c2⟩ := HX.out _ hb2
            go_wp2_with fail
            go_roundw
            case rel => exact ⟨k + 1, by omega, by go_num, by rw [HR.out], hb2⟩
            case measure => simp [intOf] <;> omega
          | false =>
            have HR := hide (show shTo is n (k + 1) = t ++ ⟨#[44]⟩ ++ dg by rw [HS.out, ht, hoff]; exact append_none _)
            clear HS
            go_wp2_with fail
            refine Hc.out.mono ?_
            rintro e w1 ⟨rfl, h⟩
            subst h
            go_wp2_with fail
            refine (HI2.out _).mono ?_
            rintro e w2 ⟨rfl, h⟩
            have hb2 := below_call hb h
            obtain ⟨c1, c2⟩ := HX.out _ hb2
            go_wp2_with fail
            go_roundw
            case rel => exact ⟨k + 1, by omega, by go_num, by rw [HR.out], hb2⟩
            case measure => simp [intOf] <;> omega
      · have Hc := hide (there_none' sb db ao cap is n k wr (HR0.out _ hb) h1)
        have HS := hide (show shTo is n (k + 1) = shTo is n k by rw [shTo, h3])
        clear h1 h3
        go_wp2_with fail
        refine Hc.out.mono ?_
        rintro e w1 ⟨rfl, h⟩
        subst h
        go_wp2_with fail
        go_roundw
        case rel => exact ⟨k + 1, by omega, by go_num, by rw [HS.out], hb⟩
        case measure => simp [intOf] <;> omega
    · obtain rfl : k = 9 := by omega
      have htl := shTo_size is n 9
      have HS := hide (show shownK is n = if (shTo is n 9).toList.isEmpty then ⟨#[]⟩ else if 3 ≤ n then ⟨#[104, 58]⟩ ++ shTo is n 9 else ⟨#[112, 117, 98, 108, 105, 99, 58]⟩ ++ shTo is n 9 from rfl)
      generalize shTo is n 9 = t at *
      cases ht : t.toList.isEmpty with
      | true =>
        have HR := hide (show shownK is n = ⟨#[]⟩ by rw [HS.out, ht]; rfl)
        go_wp2_with fail
        go_ret
        exact ⟨by rw [HR.out]; rfl, hb⟩
      | false =>
        by_cases h3 : 3 ≤ n
        · have h3' : (3 : Int) ≤ (n : Int) := by omega
          have HR := hide (show shownK is n = ⟨#[104, 58]⟩ ++ t by rw [HS.out, ht, if_neg (by decide), if_pos h3])
          go_wp2_with fail
          go_ret
          exact ⟨by rw [HR.out]; rfl, hb⟩
        · have h3' : ¬ (3 : Int) ≤ (n : Int) := by omega
          have HR := hide (show shownK is n = ⟨#[112, 117, 98, 108, 105, 99, 58]⟩ ++ t by rw [HS.out, ht, if_neg (by decide), if_neg h3])
          go_wp2_with fail
          go_ret
          exact ⟨by rw [HR.out]; rfl, hb⟩

end

section
open Go.RowKit

theorem DepAt.step {w1 W w2 : World} {db : Nat} {D : DepD} (h : DepAt w1 db D) (hb : Below W.heap.size W w2) (e : W.heap = w1.heap) : DepAt w2 db D :=
  (h.same e).below hb

theorem ShopAt.step {w1 W w2 : World} {sb db : Nat} {ao : Option Addr} {cap : Nat} {is : List It} (h : ShopAt w1 sb db ao cap is) (hb : Below W.heap.size W w2) (e : W.heap = w1.heap) : ShopAt w2 sb db ao cap is :=
  (h.keep (fun _ _ => by rw [e]) : ShopAt W sb db ao cap is).below hb

/-- What sees answers. -/
def seesK (P : PDep) (house : ByteArray) (id : Int) (n : Nat) (want : ByteArray) : Bool :=
  if want.toList.isEmpty then (dshowP P house id (nameK n)).1.toList.isEmpty && ((dshowP P house id (nameK n)).2 == 7) else ((dshowP P house id (nameK n)).1.toList == want.toList) && ((dshowP P house id (nameK n)).2 == 0)

set_option maxHeartbeats 1600000 in
theorem sees_any (sb db : Nat) (D : DepD) (ao : Option Addr) (cap : Nat) (is : List It) (house : ByteArray) (id : Int) (n : Nat) (hn : n < 6) (want : ByteArray) (w : World) (hD : DepAt w db D) (hr : ShopAt w sb db ao cap is) :
    Calls Tryd.prog 15 #[.pointer (some ⟨sb, 0, none⟩), .string house, .int .i64 id, .int .i64 n, .string want] w fun e w' => e = .returned (.bool (seesK D.pure house id n want)) ∧ Below w.heap.size w w' := by
  have HNm := hide (fun W => nameK_any n hn W)
  have HSh := hide (fun W (h : DepAt W db D) => show_any db D house id (nameK n) W h (Nat.le_trans (nameK_size n) (by decide)))
  have hb := Below.refl w.heap.size w
  have HK := hide (show seesK D.pure house id n want = if want.toList.isEmpty then (dshowP D.pure house id (nameK n)).1.toList.isEmpty && ((dshowP D.pure house id (nameK n)).2 == 7) else ((dshowP D.pure house id (nameK n)).1.toList == want.toList) && ((dshowP D.pure house id (nameK n)).2 == 0) from rfl)
  generalize dshowP D.pure house id (nameK n) = r at *
  obtain ⟨s, E⟩ := r
  generalize nameK n = nm at *
  cases hw : want.toList.isEmpty with
  | true =>
    cases h1 : s.toList.isEmpty with
    | true =>
      have HR := hide (show seesK D.pure house id n want = (E == 7) by rw [HK.out, hw, if_pos rfl, h1]; rfl)
      clear HK
      go_enter Tryd.func15, Tryd.ntmps15
      go_wp2_with fail
      go_region_held3 (fun W => W.cell? ⟨sb, 0, none⟩ = some (.pointer (some ⟨db, 0, none⟩))) (exact hr.c0) (first
        | ((go_at_call 18; refine (HNm.out _).mono ?_; rintro e w2 ⟨rfl, hbb⟩; have hr := hr.step hbb rfl; have hD := hD.step hbb rfl; have hb := below_step hb hbb rfl rfl rfl rfl; clear hbb))
        | ((go_at_call 27; refine (HSh.out _ ?_).mono ?_; exact hD.same rfl; rintro e w2 ⟨rfl, hbb⟩; have hr := hr.step hbb rfl; have hD := hD.step hbb rfl; have hb := below_step hb hbb rfl rfl rfl rfl; clear hbb)))
      all_goals
        go_wp2_with fail
        go_ret
        exact ⟨ret_bool HR.out.symm, hb⟩
    | false =>
      have HR := hide (show seesK D.pure house id n want = false by rw [HK.out, hw, if_pos rfl, h1]; rfl)
      clear HK
      go_enter Tryd.func15, Tryd.ntmps15
      go_wp2_with fail
      go_region_held3 (fun W => W.cell? ⟨sb, 0, none⟩ = some (.pointer (some ⟨db, 0, none⟩))) (exact hr.c0) (first
        | ((go_at_call 18; refine (HNm.out _).mono ?_; rintro e w2 ⟨rfl, hbb⟩; have hr := hr.step hbb rfl; have hD := hD.step hbb rfl; have hb := below_step hb hbb rfl rfl rfl rfl; clear hbb))
        | ((go_at_call 27; refine (HSh.out _ ?_).mono ?_; exact hD.same rfl; rintro e w2 ⟨rfl, hbb⟩; have hr := hr.step hbb rfl; have hD := hD.step hbb rfl; have hb := below_step hb hbb rfl rfl rfl rfl; clear hbb)))
      all_goals
        go_wp2_with fail
        go_ret
        exact ⟨ret_bool HR.out.symm, hb⟩
  | false =>
    cases h1 : (s.toList == want.toList) with
    | true =>
      have HR := hide (show seesK D.pure house id n want = (E == 0) by rw [HK.out, hw, if_neg (by decide), h1]; rfl)
      clear HK
      go_enter Tryd.func15, Tryd.ntmps15
      go_wp2_with fail
      go_region_held3 (fun W => W.cell? ⟨sb, 0, none⟩ = some (.pointer (some ⟨db, 0, none⟩))) (exact hr.c0) (first
        | ((go_at_call 18; refine (HNm.out _).mono ?_; rintro e w2 ⟨rfl, hbb⟩; have hr := hr.step hbb rfl; have hD := hD.step hbb rfl; have hb := below_step hb hbb rfl rfl rfl rfl; clear hbb))
        | ((go_at_call 27; refine (HSh.out _ ?_).mono ?_; exact hD.same rfl; rintro e w2 ⟨rfl, hbb⟩; have hr := hr.step hbb rfl; have hD := hD.step hbb rfl; have hb := below_step hb hbb rfl rfl rfl rfl; clear hbb)))
      all_goals
        go_wp2_with fail
        go_ret
        exact ⟨ret_bool HR.out.symm, hb⟩
    | false =>
      have HR := hide (show seesK D.pure house id n want = false by rw [HK.out, hw, if_neg (by decide), h1]; rfl)
      clear HK
      go_enter Tryd.func15, Tryd.ntmps15
      go_wp2_with fail
      go_region_held3 (fun W => W.cell? ⟨sb, 0, none⟩ = some (.pointer (some ⟨db, 0, none⟩))) (exact hr.c0) (first
        | ((go_at_call 18; refine (HNm.out _).mono ?_; rintro e w2 ⟨rfl, hbb⟩; have hr := hr.step hbb rfl; have hD := hD.step hbb rfl; have hb := below_step hb hbb rfl rfl rfl rfl; clear hbb))
        | ((go_at_call 27; refine (HSh.out _ ?_).mono ?_; exact hD.same rfl; rintro e w2 ⟨rfl, hbb⟩; have hr := hr.step hbb rfl; have hD := hD.step hbb rfl; have hb := below_step hb hbb rfl rfl rfl rfl; clear hbb)))
      all_goals
        go_wp2_with fail
        go_ret
        exact ⟨ret_bool HR.out.symm, hb⟩

end

end Go.Proofs.YtgcldedkempjhaaDoor
