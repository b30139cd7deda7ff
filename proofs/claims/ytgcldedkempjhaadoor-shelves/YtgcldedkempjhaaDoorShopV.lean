/-
  depotkeep: Shelves.
-/
import Derived.Test.YtgcldedkempjhaaDoorShopG
import Derived.Deep.DeepCutAuto
namespace Go.Proofs.YtgcldedkempjhaaDoor
open Go.RowKit

theorem nameK_own3 {n : Nat} (hn : 3 ≤ n) (hn6 : n < 6) : (nameK n).size = 3 ∧ (nameK n).extract 2 3 = labK n := nameK_own hn hn6

set_option maxHeartbeats 1600000 in
set_option maxRecDepth 100000 in
theorem shelves_any (io : Option Addr) (len cap : Nat) (F : Nat → RIt) (G : Int) (w : World) (htab : TabOk w) (hlen : len ≤ 9223372036854775807) (hf : RIts w io len F) (g1 : -9223372036854775808 ≤ G) (g2 : G ≤ 9223372036854775807) :
    Calls Tryd.prog 4 #[.slice io len cap, .int .i64 G] w fun e w' => e = .returned (.bool true) ∧ Below w.heap.size w w' := by
  have HS := hide (shop_any io len cap F w htab hlen hf)
  have h3 := pickN_lt G (n := 3) (by decide)
  have HP := hide (fun W => pickN_any G 3 W g1 g2 (by decide) (by decide))
  clear hf
  generalize pickN G 3 = pn at *
  go_enter Tryd.func4, Tryd.ntmps4
  go_wp2_with fail
  refine HS.out.mono ?_
  rintro e w1 ⟨sb, db, rfl, ⟨u1, u2, D, ao, cp, is, hi, hc, hfe, hro⟩, hb1⟩
  have hok := hi.ok
  have HSh := hide (fun n (hn : n < 6) W (h : ShopAt W sb db ao cp is) => shown_any sb db ao cp is n hn W h)
  have HSe := hide (fun (D : DepD) house id n (hn : n < 6) want W (h1 : DepAt W db D) (h2 : ShopAt W sb db ao cp is) => sees_any sb db D ao cp is house id n hn want W h1 h2)
  have HD := hide hi.dep
  have HX := hide hi.shop
  have HA := hide hi.apart
  have HFe := hide (show ∀ k, DepFoot db D k → w.heap.size ≤ k from fun k hk => hfe k (Or.inl hk))
  have HPu := hide hi.pure
  clear hi hfe hro HS hc
  go_wp2_with fail
  go_loopw [6, 7, 8, 9, 10] (fun i _ _ _ _ wr => ∃ k : Nat, k ≤ 6 ∧ i = .int .i64 k ∧ DepAt wr db D ∧ ShopAt wr sb db ao cp is ∧ Below w.heap.size w wr) (fun i _ _ _ _ _ => 6 - (intOf i).toNat)
  case atStart => exact ⟨0, Nat.zero_le _, rfl, HD.out, HX.out, hb1⟩
  case round =>
    obtain ⟨k, hk, rfl, hD, hr, hb⟩ := hrel
    clear hb1
    by_cases hlt : k < 6
    · have H1 := hide (HPu.out ▸ see_h is hok hlt [] : seesK D.pure kH 1 k (shownK is k) = true)
      have H2 := hide (HPu.out ▸ see_g is hok hlt : seesK D.pure kG 1 k (if 3 ≤ k then ⟨#[]⟩ else shownK is k) = true)
      have H3 := hide (HPu.out ▸ see_r is hok hlt : seesK D.pure ⟨#[]⟩ 77 k (if 3 ≤ k then ⟨#[]⟩ else shownK is k) = true)
      by_cases h3k : 3 ≤ k
      · rw [if_pos h3k] at H2 H3
        have h3k' : (3 : Int) ≤ (k : Int) := by omega
        go_wp2_with fail
        refine (HSh.out k hlt _ hr).mono ?_
        rintro e w2 ⟨rfl, hbb⟩
        have hr := hr.below hbb
        have hD := hD.below hbb
        have hb := hb.trans (hbb.mono hb.size)
        clear hbb
        go_wp2_with fail
        refine (HSe.out D kH 1 k hlt _ _ hD hr).mono ?_
        rw [H1.out]
        rintro e w3 ⟨rfl, hbb⟩
        have hr := hr.below hbb
        have hD := hD.below hbb
        have hb := hb.trans (hbb.mono hb.size)
        clear hbb
        go_wp2_with fail
        refine (HSe.out D kG 1 k hlt _ _ hD hr).mono ?_
        rw [H2.out]
        rintro e w4 ⟨rfl, hbb⟩
        have hr := hr.below hbb
        have hD := hD.below hbb
        have hb := hb.trans (hbb.mono hb.size)
        clear hbb
        go_wp2_with fail
        refine (HSe.out D ⟨#[]⟩ 77 k hlt _ _ hD hr).mono ?_
        rw [H3.out]
        rintro e w5 ⟨rfl, hbb⟩
        have hr := hr.below hbb
        have hD := hD.below hbb
        have hb := hb.trans (hbb.mono hb.size)
        clear hbb
        go_wp2_with fail
        go_roundw
        case rel => exact ⟨k + 1, by omega, by go_num, hD, hr, hb⟩
        case measure => simp [intOf] <;> omega
      · rw [if_neg h3k] at H2 H3
        have h3k' : ¬ (3 : Int) ≤ (k : Int) := by omega
        go_wp2_with fail
        refine (HSh.out k hlt _ hr).mono ?_
        rintro e w2 ⟨rfl, hbb⟩
        have hr := hr.below hbb
        have hD := hD.below hbb
        have hb := hb.trans (hbb.mono hb.size)
        clear hbb
        go_wp2_with fail
        refine (HSe.out D kH 1 k hlt _ _ hD hr).mono ?_
        rw [H1.out]
        rintro e w3 ⟨rfl, hbb⟩
        have hr := hr.below hbb
        have hD := hD.below hbb
        have hb := hb.trans (hbb.mono hb.size)
        clear hbb
        go_wp2_with fail
        refine (HSe.out D kG 1 k hlt _ _ hD hr).mono ?_
        rw [H2.out]
        rintro e w4 ⟨rfl, hbb⟩
        have hr := hr.below hbb
        have hD := hD.below hbb
        have hb := hb.trans (hbb.mono hb.size)
        clear hbb
        go_wp2_with fail
        refine (HSe.out D ⟨#[]⟩ 77 k hlt _ _ hD hr).mono ?_
        rw [H3.out]
        rintro e w5 ⟨rfl, hbb⟩
        have hr := hr.below hbb
        have hD := hD.below hbb
        have hb := hb.trans (hbb.mono hb.size)
        clear hbb
        go_wp2_with fail
        go_roundw
        case rel => exact ⟨k + 1, by omega, by go_num, hD, hr, hb⟩
        case measure => simp [intOf] <;> omega
    · obtain rfl : k = 6 := by omega
      have hn3 : 3 ≤ 3 + pn := by omega
      have hn6 : 3 + pn < 6 := by omega
      have hw3 : IntKind.i64.wrap (3 + (pn : Int)) = 3 + (pn : Int) := by rw [IntKind.wrap_i64]; omega
      have HPn := hide (show ∀ W, Calls Tryd.prog 16 #[.int .i64 G, .int .i64 3] W fun e w' => e = .returned (.int .i64 (pn : Int)) ∧ w' = W from fun W => HP.out W)
      have HNm := hide (fun W => nameK_any (3 + pn) hn6 W)
      obtain ⟨hns, hne⟩ := nameK_own hn3 hn6
      have HE := hide hne
      have HSn := hide (show ∀ W, ShopAt W sb db ao cp is → Calls Tryd.prog 14 #[.pointer (some ⟨sb, 0, none⟩), .int .i64 (3 + (pn : Int))] W fun e w' => e = .returned (.string (shownK is (3 + pn))) ∧ Below W.heap.size W w' from fun W h => HSh.out (3 + pn) hn6 W h)
      have hsh := shown_has is hok (3 + pn)
      cases ha : (is.any fun x => x.n == 3 + pn) with
      | false =>
        rw [ha] at hsh
        have HG := hide (grant_call db D is [] (3 + pn) HPu.out 7 (shopP is []) (grant_none is hok hn3 hn6 [] ha) (if_neg (by decide)))
        have HG2 := hide (fun (D2 : DepD) (hp : D2.pure = shopP is []) => grant_call db D2 is [] (3 + pn) hp 7 (shopP is []) (grant_none is hok hn3 hn6 [] ha) (if_neg (by decide)))
        clear ha HPu HSe HSh HD HX HP
        generalize shownK is (3 + pn) = sh at *
        generalize nameK (3 + pn) = nm at *
        go_wp2_with fail
        refine (HPn.out _).mono ?_
        rintro e w2 ⟨rfl, hw2⟩
        subst hw2
        go_wp2_with fail
        refine (HSn.out _ hr).mono ?_
        rintro e w3 ⟨rfl, hbb⟩
        have hr := hr.below hbb
        have hD := hD.below hbb
        have hb := hb.trans (hbb.mono hb.size)
        clear hbb
        go_wp2_with fail
        go_cut [13] (fun v wx => v = .int .i64 7 ∧ ShopBy w.heap.size w wx sb db ao cp is (shopP is []))
        case first =>
          go_region_held3 (fun W => W.cell? ⟨sb, 0, none⟩ = some (.pointer (some ⟨db, 0, none⟩))) (exact hr.c0) (first
            | ((go_at_call 18; refine (HNm.out _).mono ?_; rintro e w8 ⟨rfl, hbb⟩; have hr := hr.step hbb rfl; have hD := hD.step hbb rfl; have hb := below_step hb hbb rfl rfl rfl rfl; clear hbb))
            | ((go_at_call 17; (try rw [hne]); refine (HG.out _ ?_).mono ?_; exact hD.same rfl; rintro e w8 ⟨rfl, hst⟩; have hby := ShopBy.next hr hb hb.size HA.out HFe.out hst rfl rfl rfl rfl; have hr := hby.shop)))
          all_goals
            go_wp2_with fail
            go_meet
            exact ⟨rfl, hby⟩
        case rest =>
          obtain ⟨rfl, hby⟩ := hcut
          obtain ⟨⟨D2, hD, hp, hap, hfo⟩, hr, hb⟩ := hby
          have HG3 := hide (HG2.out D2 hp)
          clear HG
          go_wp2_with fail
          go_cut [14] (fun v wx => v = .int .i64 7 ∧ ShopBy w.heap.size w wx sb db ao cp is (shopP is []))
          case first =>
            go_region_held3 (fun W => W.cell? ⟨sb, 0, none⟩ = some (.pointer (some ⟨db, 0, none⟩))) (exact hr.c0) (first
              | ((go_at_call 18; refine (HNm.out _).mono ?_; rintro e w8 ⟨rfl, hbb⟩; have hr := hr.step hbb rfl; have hD := hD.step hbb rfl; have hb := below_step hb hbb rfl rfl rfl rfl; clear hbb))
              | ((go_at_call 17; (try rw [hne]); refine (HG3.out _ ?_).mono ?_; exact hD.same rfl; rintro e w8 ⟨rfl, hst⟩; have hby := ShopBy.next hr hb hb.size hap hfo hst rfl rfl rfl rfl; have hr := hby.shop)))
            all_goals
              go_wp2_with fail
              go_meet
              exact ⟨rfl, hby⟩
          case rest =>
            obtain ⟨rfl, hby⟩ := hcut
            obtain ⟨⟨D3, hD, hp3, hap3, hfo3⟩, hr, hb⟩ := hby
            go_wp2_with fail
            go_ret
            exact ⟨rfl, hb⟩
      | true =>
        rw [ha] at hsh
        have HG := hide (grant_call db D is [] (3 + pn) HPu.out 0 (shopP is [⟨labK (3 + pn), kG⟩]) (grant_first is hok hn3 hn6 ha) (by unfold stepP; rw [if_pos rfl]; exact grant_shopS is (3 + pn)))
        have HG2 := hide (fun (D2 : DepD) (hp : D2.pure = shopP is [⟨labK (3 + pn), kG⟩]) => grant_call db D2 is [⟨labK (3 + pn), kG⟩] (3 + pn) hp 5 (shopP is [⟨labK (3 + pn), kG⟩]) (grant_again is hok hn3 hn6 ha) (if_neg (by decide)))
        have H1 := hide (fun (D2 : DepD) (hp : D2.pure = shopP is [⟨labK (3 + pn), kG⟩]) => (hp ▸ see_g2 is hok hn3 hn6 : seesK D2.pure kG 1 (3 + pn) (shownK is (3 + pn)) = true))
        have H2 := hide (fun (D2 : DepD) (hp : D2.pure = shopP is [⟨labK (3 + pn), kG⟩]) => (hp ▸ see_r2 is hn3 hn6 : seesK D2.pure ⟨#[]⟩ 77 (3 + pn) ⟨#[]⟩ = true))
        have HS1 := hide (show ∀ (D2 : DepD), D2.pure = shopP is [⟨labK (3 + pn), kG⟩] → ∀ W, DepAt W db D2 → ShopAt W sb db ao cp is → Calls Tryd.prog 15 #[.pointer (some ⟨sb, 0, none⟩), .string kG, .int .i64 1, .int .i64 (3 + (pn : Int)), .string (shownK is (3 + pn))] W fun e w' => e = .returned (.bool true) ∧ Below W.heap.size W w' from fun D2 hp W h1 h2 => by
          have q := HSe.out D2 kG 1 (3 + pn) hn6 (shownK is (3 + pn)) W h1 h2
          rw [H1.out D2 hp] at q
          exact q)
        have HS2 := hide (show ∀ (D2 : DepD), D2.pure = shopP is [⟨labK (3 + pn), kG⟩] → ∀ W, DepAt W db D2 → ShopAt W sb db ao cp is → Calls Tryd.prog 15 #[.pointer (some ⟨sb, 0, none⟩), .string ⟨#[]⟩, .int .i64 77, .int .i64 (3 + (pn : Int)), .string ⟨#[]⟩] W fun e w' => e = .returned (.bool true) ∧ Below W.heap.size W w' from fun D2 hp W h1 h2 => by
          have q := HSe.out D2 ⟨#[]⟩ 77 (3 + pn) hn6 ⟨#[]⟩ W h1 h2
          rw [H2.out D2 hp] at q
          exact q)
        clear ha HPu HSe HSh HD HX HP
        generalize shownK is (3 + pn) = sh at *
        generalize nameK (3 + pn) = nm at *
        go_wp2_with fail
        refine (HPn.out _).mono ?_
        rintro e w2 ⟨rfl, hw2⟩
        subst hw2
        go_wp2_with fail
        refine (HSn.out _ hr).mono ?_
        rintro e w3 ⟨rfl, hbb⟩
        have hr := hr.below hbb
        have hD := hD.below hbb
        have hb := hb.trans (hbb.mono hb.size)
        clear hbb
        go_wp2_with fail
        go_cut [13] (fun v wx => v = .int .i64 0 ∧ ShopBy w.heap.size w wx sb db ao cp is (shopP is [⟨labK (3 + pn), kG⟩]))
        case first =>
          go_region_held3 (fun W => W.cell? ⟨sb, 0, none⟩ = some (.pointer (some ⟨db, 0, none⟩))) (exact hr.c0) (first
            | ((go_at_call 18; refine (HNm.out _).mono ?_; rintro e w8 ⟨rfl, hbb⟩; have hr := hr.step hbb rfl; have hD := hD.step hbb rfl; have hb := below_step hb hbb rfl rfl rfl rfl; clear hbb))
            | ((go_at_call 17; (try rw [hne]); refine (HG.out _ ?_).mono ?_; exact hD.same rfl; rintro e w8 ⟨rfl, hst⟩; have hby := ShopBy.next hr hb hb.size HA.out HFe.out hst rfl rfl rfl rfl; have hr := hby.shop)))
          all_goals
            go_wp2_with fail
            go_meet
            exact ⟨rfl, hby⟩
        case rest =>
          obtain ⟨rfl, hby⟩ := hcut
          obtain ⟨⟨D2, hD, hp, hap, hfo⟩, hr, hb⟩ := hby
          have HG3 := hide (HG2.out D2 hp)
          clear HG
          go_wp2_with fail
          go_cut [14] (fun v wx => v = .int .i64 5 ∧ ShopBy w.heap.size w wx sb db ao cp is (shopP is [⟨labK (3 + pn), kG⟩]))
          case first =>
            go_region_held3 (fun W => W.cell? ⟨sb, 0, none⟩ = some (.pointer (some ⟨db, 0, none⟩))) (exact hr.c0) (first
              | ((go_at_call 18; refine (HNm.out _).mono ?_; rintro e w8 ⟨rfl, hbb⟩; have hr := hr.step hbb rfl; have hD := hD.step hbb rfl; have hb := below_step hb hbb rfl rfl rfl rfl; clear hbb))
              | ((go_at_call 17; (try rw [hne]); refine (HG3.out _ ?_).mono ?_; exact hD.same rfl; rintro e w8 ⟨rfl, hst⟩; have hby := ShopBy.next hr hb hb.size hap hfo hst rfl rfl rfl rfl; have hr := hby.shop)))
            all_goals
              go_wp2_with fail
              go_meet
              exact ⟨rfl, hby⟩
          case rest =>
            obtain ⟨rfl, hby⟩ := hcut
            obtain ⟨⟨D3, hD, hp3, hap3, hfo3⟩, hr, hb⟩ := hby
            go_wp2_with fail
            refine (HS1.out D3 hp3 _ hD hr).mono ?_
            rintro e w9 ⟨rfl, hbb⟩
            have hr := hr.below hbb
            have hD := hD.below hbb
            have hb := hb.trans (hbb.mono hb.size)
            clear hbb
            go_wp2_with fail
            refine (HS2.out D3 hp3 _ hD hr).mono ?_
            rintro e wa ⟨rfl, hbb⟩
            have hb := hb.trans (hbb.mono hb.size)
            clear hbb
            go_wp2_with fail
            go_ret
            exact ⟨rfl, hb⟩

end Go.Proofs.YtgcldedkempjhaaDoor
