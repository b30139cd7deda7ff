/-
  depotkeep: let.
-/
import Derived.Test.YtgcldedkempjhaaDoorShopK
import Derived.Deep.DeepCutAuto
namespace Go.Proofs.YtgcldedkempjhaaDoor
open Go.RowKit

theorem Tryd.infoItem : (Tryd.prog.info? 65).map (fun i => (i.zero, i.size, i.bytes)) = some (some (.agg #[.int .i64 0, .int .i64 0, .bool false, .slice none 0 0]), 4, 48) := by kernel_rfl

theorem ownN_last (own : Bool) (is : List It) (x : It) : ownN own (is ++ [x]) = ownN own is + (if (decide (3 ≤ x.n) == own) = true then 1 else 0) := by
  unfold ownN
  rw [List.countP_append, List.countP_cons, List.countP_nil]
  omega

set_option maxHeartbeats 1600000 in
set_option maxRecDepth 100000 in
theorem let_any (sb db : Nat) (D : DepD) (ao : Option Addr) (cap : Nat) (is : List It) (N V : Int) (Y : Bool) (so : Option Addr) (len scap : Nat) (f : Nat → RNd) (w : World) (hi : ShopInv w sb db D ao cap is)
    (n1 : -9223372036854775808 ≤ N) (n2 : N ≤ 9223372036854775807) (v1 : -9223372036854775808 ≤ V) (v2 : V ≤ 9223372036854775807) (hlen : len ≤ 9223372036854775807) (hf : RNds w so len f)
    (cs : List Cr) (hcs : letC (is.map It.cr) (pickN N 6) (1 + pickN V 9) Y (ndsOf len f) = cs) :
    Calls Tryd.prog 45 #[.pointer (some ⟨sb, 0, none⟩), .agg #[.int .i64 N, .int .i64 V, .bool Y, .slice so len scap]] w fun e w' => e = .returned (.bool true) ∧ ShopNext w w' sb db D ao is cs := by
  have HCs := hide hcs
  clear hcs
  have HNe := hide (fun W (h : Below w.heap.size w W) => needs_any so len scap f W hlen (hf.step h))
  have HF := hide hf
  have h6 := pickN_lt N (n := 6) (by decide)
  have h9 := pickN_lt V (n := 9) (by decide)
  have hw19 : IntKind.i64.wrap (1 + (pickN V 9 : Int)) = 1 + (pickN V 9 : Int) := by rw [IntKind.wrap_i64]; omega
  go_enter Tryd.func45, Tryd.ntmps45
  go_upto_region 1 with fail
  have hb := (Below.refl w.heap.size w).alloc (Nat.le_refl _) (.cells #[.int .i64 N, .int .i64 V, .bool Y, .slice so len scap] 65)
  have hbz := hb.alloc (by simp) (.cells #[.int .i64 0, .int .i64 0, .bool false, .slice none 0 0] 65)
  go_cut [5] (fun v wx => ∃ ob ro rc, v = .pointer (some ⟨ob, 0, none⟩) ∧ LetBox w wx ob (pickN N 6) (pickN V 9) Y ro rc (ndsOf len f))
  case first =>
    go_region_held3 (fun W => W.cell? ⟨w.heap.size, 0, none⟩ = some (.int .i64 N) ∧ W.cell? ⟨w.heap.size, 1, none⟩ = some (.int .i64 V) ∧ W.cell? ⟨w.heap.size, 2, none⟩ = some (.bool Y) ∧ W.cell? ⟨w.heap.size, 3, none⟩ = some (.slice so len scap)) (first | go_keep | exact ⟨q0, q1, q2, q3⟩) (first
      | ((go_at_call 16; refine (pickI_any _ _ _ ?_ ?_ ?_ ?_).mono ?_; omega; omega; omega; omega; rintro e w2 ⟨rfl, hw2⟩; subst hw2))
      | ((go_at_call 19; refine (HNe.out _ ?_).mono ?_
          first | exact below_drawn hb 1 | exact below_drawn hbz 1
          rintro e w2 ⟨ro, rc, rfl, hrow, hbb⟩; obtain ⟨q0, q1, q2, q3⟩ := raw_step (by assumption) hbb
          try
            have hit := (hbb.block (w.heap.size + 1) (by simp)).trans (heap2_new w _ _)
            obtain ⟨i0, i1, i2, i3, j0, j1, j2, j3⟩ := item_zero hit)))
    all_goals
      go_wp2_with fail
      go_meet
      first
        | exact ⟨_, ro, rc, rfl, box_late (below_step hb hbb rfl rfl rfl rfl) (by simp) hrow⟩
        | exact ⟨_, ro, rc, rfl, box_early (below_step hbz hbb rfl rfl rfl rfl) (by simp) hit hrow⟩
  case rest =>
    obtain ⟨ob, ro, rc, rfl, hbox⟩ := hcut
    clear hb hbz HNe HF hf
    have hlk : (ndsOf len f).length ≤ 6 := by unfold ndsOf; simp; omega
    have hok : ∀ x ∈ ndsOf len f, NdOk x := by
      intro x hx
      unfold ndsOf at hx
      obtain ⟨i, _, rfl⟩ := List.mem_map.1 hx
      exact ndOf_ok _
    generalize ndsOf len f = l at *
    generalize pickN N 6 = pn at *
    generalize pickN V 9 = pv at *
    obtain ⟨hit, hge, hrow, hbel⟩ := hbox
    have hD := hi.dep.below hbel
    have hr := hi.shop.below hbel
    by_cases hown : 3 ≤ pn
    · have hown' : (3 : Int) ≤ (pn : Int) := by omega
      have HE := hide (publish_shop is hi.ok pn (1 + pv) hown h6 (by omega) (by omega) l hok hlk)
      obtain ⟨hns, hne⟩ := nameK_own hown h6
      have c0 : wc.cell? ⟨ob, 0, none⟩ = some (.int .i64 pn) := cell_of_heap hit 0
      have HNm := hide (fun W => nameK_any pn h6 W)
      have HNs := hide hns
      generalize hnm : nameK pn = nm at *
      clear hnm
      go_wp2_with fail
      go_cut [7] (fun v wx => ∃ E, v = .int .i64 E ∧ E = dpublishP D.pure kH 1 (labK pn) (1 + (pv : Int)) (textK l) ∧ LetMid w wx sb db D ob (stepP E D.pure (dpublishS D.pure kH 1 (labK pn) (1 + (pv : Int)) (textK l))) ao cap is #[.int .i64 pn, .int .i64 (1 + (pv : Int)), .bool Y, .slice ro l.length rc] ro rc l)
      case first =>
        have HTx := hide (fun W (h : W.ownsRow w.heap.size 62 3 (.slice ro l.length rc) l.length (ndsCells l)) => text_any w.heap.size ro rc l W h hlk hok)
        have hts : (textK l).size ≤ 4611686018427387000 := Nat.le_trans (textTo_size l l.length) (by omega)
        have HPu := hide (fun W (h : DepAt W db D) => publish_any db D kH 1 (labK pn) (1 + (pv : Int)) (textK l) W h hts ⟨by decide, by decide⟩ _ rfl)
        go_region_held3 (fun W => W.cell? ⟨sb, 0, none⟩ = some (.pointer (some ⟨db, 0, none⟩)) ∧ W.cell? ⟨ob, 0, none⟩ = some (.int .i64 pn) ∧ W.cell? ⟨ob, 1, none⟩ = some (.int .i64 (1 + (pv : Int))) ∧ W.cell? ⟨ob, 3, none⟩ = some (.slice ro l.length rc)) (exact ⟨hr.c0, cell_of_heap hit 0, cell_of_heap hit 1, cell_of_heap hit 3⟩) (first
          | ((go_at_call 18; refine (HNm.out _).mono ?_; rintro e w2 ⟨rfl, hbb⟩; have hr := hr.step hbb rfl; have hD := hD.step hbb rfl; have hrow := ownsRow_keep' hrow (below_same hbb rfl rfl rfl rfl); have hit := (hbb.block ob (Array.getElem?_eq_some_iff.1 hit).1).trans hit; have hbel := below_step hbel hbb rfl rfl rfl rfl; clear hbb))
          | ((go_at_call 21; refine (HTx.out _ ?_).mono ?_; exact hrow; rintro e w2 ⟨rfl, hbb⟩; have hr := hr.step hbb rfl; have hD := hD.step hbb rfl; have hrow := ownsRow_keep' hrow (below_same hbb rfl rfl rfl rfl); have hit := (hbb.block ob (Array.getElem?_eq_some_iff.1 hit).1).trans hit; have hbel := below_step hbel hbb rfl rfl rfl rfl; clear hbb))
          | ((go_at_call 65; (try rw [hne]); refine (HPu.out _ ?_).mono ?_; exact hD.same rfl; rintro e w2 ⟨rfl, hst⟩; obtain ⟨hr, hit, hmid⟩ := mid_of hr hit hbel hi.dep hrow hi.apart hge hst rfl rfl rfl rfl)))
        all_goals
          go_wp2_with fail
          go_meet
          exact ⟨_, rfl, rfl, hmid⟩
      case rest =>
        obtain ⟨E, rfl, hE, hmid⟩ := hcut
        rw [hi.pure] at hE hmid
        have hr2 := hmid.shop
        have d0 : wc.cell? ⟨ob, 0, none⟩ = some (.int .i64 pn) := cell_of_heap hmid.hit 0
        have d1 : wc.cell? ⟨ob, 1, none⟩ = some (.int .i64 (1 + (pv : Int))) := cell_of_heap hmid.hit 1
        have d2 : wc.cell? ⟨ob, 2, none⟩ = some (.bool Y) := cell_of_heap hmid.hit 2
        have d2f : wc.frozen? ⟨ob, 2, none⟩ = false := frozen_of_heap hmid.hit _
        have hm1 := hi.m1
        have hm2 := hi.m2
        have hE2 : E = if (is.find? (itP pn (1 + pv))).isSome then 5 else if 12 ≤ ownN true is then 6 else 0 := hE.trans HE.out
        have HCo := hide (fun W (h : ShopAt W sb db ao cap is) => count_any sb db ao cap is true W h)
        clear hE HE hrow hbel hD hr hit c0 HNm hlen
        rcases find_cases (itP pn (1 + pv)) is with ⟨i, hil, k1, k2, k3⟩ | ⟨k1, k3⟩
        · have hE5 : E = 5 := by rw [hE2, k3]; rfl
          subst hE5
          clear hE2
          rw [show stepP 5 (shopP is []) _ = shopP is [] from if_neg (by decide)] at hmid
          have HTh := hide (show ∀ W, ShopAt W sb db ao cap is → Calls Tryd.prog 46 #[.pointer (some ⟨sb, 0, none⟩), .int .i64 pn, .int .i64 (1 + (pv : Int))] W fun e w' => e = .returned (.int .i64 i) ∧ w' = W from fun W h => there_some sb db ao cap is pn (1 + pv) W h i hil k1 k2)
          have HL := hide (letC_taken (is := is) (n := pn) (v := 1 + pv) Y l (by rw [k3]; rfl))
          clear k1 k2 k3
          go_wp2_with fail
          refine (HTh.out _ hr2).mono ?_
          rintro e w3 ⟨rfl, hw3⟩
          subst hw3
          go_wp2_with fail
          refine (HCo.out _ hr2).mono ?_
          rintro e w3 ⟨rfl, hw3⟩
          subst hw3
          go_wp2_with fail
          go_ret
          exact ⟨rfl, by rw [← HCs.out, HL.out]; exact let_none hi hmid⟩
        · have HTh := hide (show ∀ W, ShopAt W sb db ao cap is → Calls Tryd.prog 46 #[.pointer (some ⟨sb, 0, none⟩), .int .i64 pn, .int .i64 (1 + (pv : Int))] W fun e w' => e = .returned (.int .i64 (-1)) ∧ w' = W from fun W h => there_none sb db ao cap is pn (1 + pv) W h k1)
          rw [k3] at hE2
          by_cases hroom : 12 ≤ ownN true is
          · have hE6 : E = 6 := by rw [hE2, if_neg (by decide), if_pos hroom]
            subst hE6
            clear hE2
            rw [show stepP 6 (shopP is []) _ = shopP is [] from if_neg (by decide)] at hmid
            have HL := hide (letC_room (is := is) (n := pn) (v := 1 + pv) Y l (by simp [hown]; omega))
            have hroom' : (12 : Int) ≤ (ownN true is : Int) := by omega
            go_wp2_with fail
            refine (HTh.out _ hr2).mono ?_
            rintro e w3 ⟨rfl, hw3⟩
            subst hw3
            go_wp2_with fail
            refine (HCo.out _ hr2).mono ?_
            rintro e w3 ⟨rfl, hw3⟩
            subst hw3
            go_wp2_with fail
            go_ret
            exact ⟨rfl, by rw [← HCs.out, HL.out]; exact let_none hi hmid⟩
          · have hE0 : E = 0 := by rw [hE2, if_neg (by decide), if_neg hroom]
            subst hE0
            clear hE2
            have HL := hide (letC_push (is := is) (n := pn) (v := 1 + pv) Y l (.slice ro l.length rc) k3 (by simp [hown]; omega) _ rfl)
            have hroom' : ¬ (12 : Int) ≤ (ownN true is : Int) := by omega
            have hq : stepP 0 (shopP is []) (dpublishS (shopP is []) kH 1 (labK pn) (1 + (pv : Int)) (textK l)) = shopP (is ++ [⟨pn, 1 + pv, false, .slice ro l.length rc, l⟩]) [] := by
              unfold stepP
              rw [if_pos rfl]
              exact publish_shopS is pn (1 + pv) (.slice ro l.length rc) l hown hok hlk
            rw [hq] at hmid
            clear hq
            have hok2 : ∀ y, ItsOk (is ++ [⟨pn, 1 + pv, y, .slice ro l.length rc, l⟩]) := by
              intro y x hx
              rcases List.mem_append.1 hx with hx | hx
              · exact hi.ok x hx
              · obtain rfl := List.mem_singleton.1 hx
                exact ⟨h6, by show 1 ≤ 1 + pv; omega, by show 1 + pv ≤ 9; omega, fun h => absurd h (by show ¬ pn < 3; omega)⟩
            have hsf : ∀ k, ShopFoot sb ao k → k < w.heap.size := fun k hk => (hi.shop.foot hk).2
            have HNm := hide (fun W => nameK_any pn h6 W)
            cases Y with
            | false =>
              go_wp2_with fail
              refine (HTh.out _ hr2).mono ?_
              rintro e w3 ⟨rfl, hw3⟩
              subst hw3
              go_wp2_with fail
              refine (HCo.out _ hr2).mono ?_
              rintro e w3 ⟨rfl, hw3⟩
              subst hw3
              go_wp2_with fail
              have hmid2 := mid_store hmid hge hsf
              generalize w3.setCell ⟨ob, 2, none⟩ (.bool false) = wd at *
              clear HNm hmid HTh HCo d0 d1 d2 d2f hr2
              have hr3 := hmid2.shop
              have s1 := hr3.c1
              have s1f := hr3.f1
              have e0 := cell_of_heap hmid2.hit 0
              have e1 := cell_of_heap hmid2.hit 1
              have e2 := cell_of_heap hmid2.hit 2
              have e3 := cell_of_heap hmid2.hit 3
              have hown3 := hr3.own
              have hlt3 := hr3.lt
              have hl1 := hr3.len
              obtain ⟨i0, ti, hz0, hz1, hz2⟩ := info_parts Tryd.infoItem
              have B1 := hide (show is.length + 1 ≤ maxLen by unfold maxLen; omega)
              have B2 := hide (show (is.length + 1) * 48 ≤ 140737488355328 by omega)
              go_region_law (refine step_append_own rfl (.tmp 108) (.tmp 110) 39 rfl (sb + 1) 65 i0 (.agg #[.int .i64 0, .int .i64 0, .bool false, .slice none 0 0]) 4 48 Tryd.underlying39 ti hz0 hz1 hz2 rfl (by decide) (.slice ao is.length cap) is.length (itCells is) ?_ ?_ ⟨wd.heap.size, 0, none⟩ 1 1 [.int .i64 pn, .int .i64 (1 + (pv : Int)), .bool false, .slice ro l.length rc] ?_ rfl ?_ ?_ B1.out B2.out ?_ (Nat.succ_pos _) ?_; simp [Act.eval]; exact hown3.alloc _; simp [Act.eval]; exact news_at (t := 65) (fr := (0, 0)) (heap1_new wd _); simp [Value.oneCell']; exact Nat.le_trans (show sb + 1 ≤ wd.heap.size + 1 by omega) (Nat.le_of_eq (by simp)); intro g' cap' w' hown' hgrow hnew; have hchg : Chg (blockOf ao) wd w' := Chg.ofGrown hgrow rfl rfl rfl (by simp) (fun k hk => Below.heap_alloc _ _ _ hk) (fun k hk => Or.inl (row_of hk)); have hk : w'.heap[sb]? = wd.heap[sb]? := hchg.block sb hlt3 (fun hb => by have := (blockOf_lt hown3 hb).1; omega); have k2 := (World.cell?_of_block (a := ⟨sb, 1, none⟩) hk).trans s1; have kf := (World.frozen?_of_block (a := ⟨sb, 1, none⟩) hk).trans s1f)
              all_goals
                have hfoot := hide (show blockOf ao g' ∨ wd.heap.size ≤ g' from hnew.elim (fun h => Or.inl (row_of h)) (fun h => Or.inr (Nat.le_trans (by simp) h)))
                clear hnew hgrow
                go_wp2_with fail
                go_ret
                refine ⟨rfl, ?_⟩
                have q := let_push hi hmid2 (hok2 false) (by rw [ownN_last]; simp [hown]; omega) (by rw [ownN_last]; simp [hown]; omega) hlk hok g' cap' hchg hown' hfoot.out rfl
                rw [← HCs.out, HL.out]
                first | exact q | (simp only [Bool.true_and, Bool.false_and, Bool.and_false, hown, decide_true, decide_false]; exact q)
            | true =>
              go_wp2_with fail
              refine (HTh.out _ hr2).mono ?_
              rintro e w3 ⟨rfl, hw3⟩
              subst hw3
              go_wp2_with fail
              refine (HCo.out _ hr2).mono ?_
              rintro e w3 ⟨rfl, hw3⟩
              subst hw3
              go_wp2_with fail
              go_cut [7] (fun v wx => v = .int .i64 0 ∧ LetMid w wx sb db D ob (shopP (is ++ [⟨pn, 1 + pv, true, .slice ro l.length rc, l⟩]) []) ao cap is #[.int .i64 pn, .int .i64 (1 + (pv : Int)), .bool true, .slice ro l.length rc] ro rc l)
              case first =>
                obtain ⟨⟨D2, hD2, hp3, hfo, hap, hnob, hrf, hold⟩, hchg, hr2, hit2, hrow⟩ := hmid
                have HY := hide (show ∀ W, DepAt W db D2 → Calls Tryd.prog 75 #[.pointer (some ⟨db, 0, none⟩), .string kH, .int .i64 1, .string (labK pn), .int .i64 (1 + (pv : Int)), .bool false] W fun e w' => e = .returned (.int .i64 0) ∧ DepStep W w' db D2 (shopP (is ++ [⟨pn, 1 + pv, true, .slice ro l.length rc, l⟩]) []) from fun W h => by
                  have q := yank_any db D2 kH 1 (labK pn) (1 + (pv : Int)) false W h ⟨by decide, by decide⟩ ⟨by omega, by omega⟩ (shop_few hp3 (by have := hi.shop.len; simp; omega)) 0 (by rw [hp3]; exact (yank_shopP is pn (1 + pv) _ l hown h6 (hok2 false)).symm)
                  rw [hp3] at q
                  have q2 : stepP 0 (shopP (is ++ [⟨pn, 1 + pv, false, .slice ro l.length rc, l⟩]) []) (dyankS (shopP (is ++ [⟨pn, 1 + pv, false, .slice ro l.length rc, l⟩]) []) kH 1 (labK pn) (1 + (pv : Int)) (!false)) = shopP (is ++ [⟨pn, 1 + pv, true, .slice ro l.length rc, l⟩]) [] := by
                    unfold stepP
                    rw [if_pos rfl]
                    exact yank_shop is hi.ok pn (1 + pv) _ l hown h6 k3
                  rw [q2] at q
                  exact q)
                obtain ⟨hns, hne⟩ := nameK_own hown h6
                generalize nameK pn = nm at *
                go_region_held3 (fun W => W.cell? ⟨sb, 0, none⟩ = some (.pointer (some ⟨db, 0, none⟩)) ∧ W.cell? ⟨ob, 0, none⟩ = some (.int .i64 pn) ∧ W.cell? ⟨ob, 1, none⟩ = some (.int .i64 (1 + (pv : Int)))) (exact ⟨hr2.c0, cell_of_heap hit2 0, cell_of_heap hit2 1⟩) (first
                  | ((go_at_call 18; refine (HNm.out _).mono ?_; rintro e w4 ⟨rfl, hbb⟩; have hr2 := hr2.step hbb rfl; have hD2 := hD2.step hbb rfl; have hrow := ownsRow_keep' hrow (below_same hbb rfl rfl rfl rfl); have hit2 := (hbb.block ob (Array.getElem?_eq_some_iff.1 hit2).1).trans hit2; have hchg := hchg.trans (Chg.ofBelow (S := DepFoot db D) (below_same hbb rfl rfl rfl rfl)) (fun _ h => Or.inl h); clear hbb))
                  | ((go_at_call 75; (try rw [hne]); refine (HY.out _ ?_).mono ?_; exact hD2.same rfl; rintro e w4 ⟨rfl, hst⟩; obtain ⟨hr2, hit2, hmid⟩ := mid_more hr2 hit2 hchg hrow hfo hap hnob hrf hold hst rfl rfl rfl rfl)))
                all_goals
                  go_wp2_with fail
                  go_meet
                  exact ⟨rfl, hmid⟩
              case rest =>
                obtain ⟨rfl, hmid2⟩ := hcut
                clear HNm hmid HTh HCo d0 d1 d2 d2f hr2
                have hr3 := hmid2.shop
                have s1 := hr3.c1
                have s1f := hr3.f1
                have e0 := cell_of_heap hmid2.hit 0
                have e1 := cell_of_heap hmid2.hit 1
                have e2 := cell_of_heap hmid2.hit 2
                have e3 := cell_of_heap hmid2.hit 3
                have hown3 := hr3.own
                have hlt3 := hr3.lt
                have hl1 := hr3.len
                obtain ⟨i0, ti, hz0, hz1, hz2⟩ := info_parts Tryd.infoItem
                have B1 := hide (show is.length + 1 ≤ maxLen by unfold maxLen; omega)
                have B2 := hide (show (is.length + 1) * 48 ≤ 140737488355328 by omega)
                go_wp2_with fail
                go_region_law (refine step_append_own rfl (.tmp 108) (.tmp 110) 39 rfl (sb + 1) 65 i0 (.agg #[.int .i64 0, .int .i64 0, .bool false, .slice none 0 0]) 4 48 Tryd.underlying39 ti hz0 hz1 hz2 rfl (by decide) (.slice ao is.length cap) is.length (itCells is) ?_ ?_ ⟨wc.heap.size, 0, none⟩ 1 1 [.int .i64 pn, .int .i64 (1 + (pv : Int)), .bool true, .slice ro l.length rc] ?_ rfl ?_ ?_ B1.out B2.out ?_ (Nat.succ_pos _) ?_; simp [Act.eval]; exact hown3.alloc _; simp [Act.eval]; exact news_at (t := 65) (fr := (0, 0)) (heap1_new wc _); simp [Value.oneCell']; exact Nat.le_trans (show sb + 1 ≤ wc.heap.size + 1 by omega) (Nat.le_of_eq (by simp)); intro g' cap' w' hown' hgrow hnew; have hchg : Chg (blockOf ao) wc w' := Chg.ofGrown hgrow rfl rfl rfl (by simp) (fun k hk => Below.heap_alloc _ _ _ hk) (fun k hk => Or.inl (row_of hk)); have hk : w'.heap[sb]? = wc.heap[sb]? := hchg.block sb hlt3 (fun hb => by have := (blockOf_lt hown3 hb).1; omega); have k2 := (World.cell?_of_block (a := ⟨sb, 1, none⟩) hk).trans s1; have kf := (World.frozen?_of_block (a := ⟨sb, 1, none⟩) hk).trans s1f)
                all_goals
                  have hfoot := hide (show blockOf ao g' ∨ wc.heap.size ≤ g' from hnew.elim (fun h => Or.inl (row_of h)) (fun h => Or.inr (Nat.le_trans (by simp) h)))
                  clear hnew hgrow
                  go_wp2_with fail
                  go_ret
                  refine ⟨rfl, ?_⟩
                  have q := let_push hi hmid2 (hok2 true) (by rw [ownN_last]; simp [hown]; omega) (by rw [ownN_last]; simp [hown]; omega) hlk hok g' cap' hchg hown' hfoot.out rfl
                  rw [← HCs.out, HL.out]
                  first | exact q | (simp only [Bool.true_and, hown, decide_true]; exact q)
    · have hown' : ¬ (3 : Int) ≤ (pn : Int) := by omega
      have HE := hide (feed_shop is hi.ok pn (1 + pv) (by omega) (by omega) (by omega) l hok hlk)
      have c0 : wc.cell? ⟨ob, 0, none⟩ = some (.int .i64 pn) := cell_of_heap hit 0
      have HNm := hide (fun W => nameK_any pn h6 W)
      have HSz := hide (show (nameK pn).size ≤ 4611686018427387000 from Nat.le_trans (nameK_size pn) (by decide))
      go_wp2_with fail
      go_cut [7] (fun v wx => ∃ E, v = .int .i64 E ∧ E = dfeedP D.pure (nameK pn) (1 + (pv : Int)) (textK l) ∧ LetMid w wx sb db D ob (stepP E D.pure (dfeedS D.pure (nameK pn) (1 + (pv : Int)) (textK l))) ao cap is #[.int .i64 pn, .int .i64 (1 + (pv : Int)), .bool Y, .slice ro l.length rc] ro rc l)
      case first =>
        have HTx := hide (fun W (h : W.ownsRow w.heap.size 62 3 (.slice ro l.length rc) l.length (ndsCells l)) => text_any w.heap.size ro rc l W h hlk hok)
        have hts : (textK l).size ≤ 4611686018427387000 := Nat.le_trans (textTo_size l l.length) (by omega)
        have HPu := hide (fun W (h : DepAt W db D) => feed_any db D (nameK pn) (1 + (pv : Int)) (textK l) W h HSz.out hts _ rfl)
        generalize nameK pn = nm at *
        go_region_held3 (fun W => W.cell? ⟨sb, 0, none⟩ = some (.pointer (some ⟨db, 0, none⟩)) ∧ W.cell? ⟨ob, 0, none⟩ = some (.int .i64 pn) ∧ W.cell? ⟨ob, 1, none⟩ = some (.int .i64 (1 + (pv : Int))) ∧ W.cell? ⟨ob, 3, none⟩ = some (.slice ro l.length rc)) (exact ⟨hr.c0, cell_of_heap hit 0, cell_of_heap hit 1, cell_of_heap hit 3⟩) (first
          | ((go_at_call 18; refine (HNm.out _).mono ?_; rintro e w2 ⟨rfl, hbb⟩; have hr := hr.step hbb rfl; have hD := hD.step hbb rfl; have hrow := ownsRow_keep' hrow (below_same hbb rfl rfl rfl rfl); have hit := (hbb.block ob (Array.getElem?_eq_some_iff.1 hit).1).trans hit; have hbel := below_step hbel hbb rfl rfl rfl rfl; clear hbb))
          | ((go_at_call 21; refine (HTx.out _ ?_).mono ?_; exact hrow; rintro e w2 ⟨rfl, hbb⟩; have hr := hr.step hbb rfl; have hD := hD.step hbb rfl; have hrow := ownsRow_keep' hrow (below_same hbb rfl rfl rfl rfl); have hit := (hbb.block ob (Array.getElem?_eq_some_iff.1 hit).1).trans hit; have hbel := below_step hbel hbb rfl rfl rfl rfl; clear hbb))
          | ((go_at_call 26; refine (HPu.out _ ?_).mono ?_; exact hD.same rfl; rintro e w2 ⟨rfl, hst⟩; obtain ⟨hr, hit, hmid⟩ := mid_of hr hit hbel hi.dep hrow hi.apart hge hst rfl rfl rfl rfl)))
        all_goals
          go_wp2_with fail
          go_meet
          exact ⟨_, rfl, rfl, hmid⟩
      case rest =>
        obtain ⟨E, rfl, hE, hmid⟩ := hcut
        rw [hi.pure] at hE hmid
        have hr2 := hmid.shop
        have d0 : wc.cell? ⟨ob, 0, none⟩ = some (.int .i64 pn) := cell_of_heap hmid.hit 0
        have d1 : wc.cell? ⟨ob, 1, none⟩ = some (.int .i64 (1 + (pv : Int))) := cell_of_heap hmid.hit 1
        have d2 : wc.cell? ⟨ob, 2, none⟩ = some (.bool Y) := cell_of_heap hmid.hit 2
        have d2f : wc.frozen? ⟨ob, 2, none⟩ = false := frozen_of_heap hmid.hit _
        have hm1 := hi.m1
        have hm2 := hi.m2
        have hE2 : E = if (is.find? (itP pn (1 + pv))).isSome then 5 else if 24 ≤ ownN false is then 6 else 0 := hE.trans HE.out
        have HCo := hide (fun W (h : ShopAt W sb db ao cap is) => count_any sb db ao cap is false W h)
        clear hE HE hrow hbel hD hr hit c0 HNm hlen
        rcases find_cases (itP pn (1 + pv)) is with ⟨i, hil, k1, k2, k3⟩ | ⟨k1, k3⟩
        · have hE5 : E = 5 := by rw [hE2, k3]; rfl
          subst hE5
          clear hE2
          rw [show stepP 5 (shopP is []) _ = shopP is [] from if_neg (by decide)] at hmid
          have HTh := hide (show ∀ W, ShopAt W sb db ao cap is → Calls Tryd.prog 46 #[.pointer (some ⟨sb, 0, none⟩), .int .i64 pn, .int .i64 (1 + (pv : Int))] W fun e w' => e = .returned (.int .i64 i) ∧ w' = W from fun W h => there_some sb db ao cap is pn (1 + pv) W h i hil k1 k2)
          have HL := hide (letC_taken (is := is) (n := pn) (v := 1 + pv) Y l (by rw [k3]; rfl))
          clear k1 k2 k3
          go_wp2_with fail
          refine (HTh.out _ hr2).mono ?_
          rintro e w3 ⟨rfl, hw3⟩
          subst hw3
          go_wp2_with fail
          refine (HCo.out _ hr2).mono ?_
          rintro e w3 ⟨rfl, hw3⟩
          subst hw3
          go_wp2_with fail
          go_ret
          exact ⟨rfl, by rw [← HCs.out, HL.out]; exact let_none hi hmid⟩
        · have HTh := hide (show ∀ W, ShopAt W sb db ao cap is → Calls Tryd.prog 46 #[.pointer (some ⟨sb, 0, none⟩), .int .i64 pn, .int .i64 (1 + (pv : Int))] W fun e w' => e = .returned (.int .i64 (-1)) ∧ w' = W from fun W h => there_none sb db ao cap is pn (1 + pv) W h k1)
          rw [k3] at hE2
          by_cases hroom : 24 ≤ ownN false is
          · have hE6 : E = 6 := by rw [hE2, if_neg (by decide), if_pos hroom]
            subst hE6
            clear hE2
            rw [show stepP 6 (shopP is []) _ = shopP is [] from if_neg (by decide)] at hmid
            have HL := hide (letC_room (is := is) (n := pn) (v := 1 + pv) Y l (by simp [hown]; omega))
            have hroom' : (24 : Int) ≤ (ownN false is : Int) := by omega
            go_wp2_with fail
            refine (HTh.out _ hr2).mono ?_
            rintro e w3 ⟨rfl, hw3⟩
            subst hw3
            go_wp2_with fail
            refine (HCo.out _ hr2).mono ?_
            rintro e w3 ⟨rfl, hw3⟩
            subst hw3
            go_wp2_with fail
            go_ret
            exact ⟨rfl, by rw [← HCs.out, HL.out]; exact let_none hi hmid⟩
          · have hE0 : E = 0 := by rw [hE2, if_neg (by decide), if_neg hroom]
            subst hE0
            clear hE2
            have HL := hide (letC_push (is := is) (n := pn) (v := 1 + pv) Y l (.slice ro l.length rc) k3 (by simp [hown]; omega) _ rfl)
            have hroom' : ¬ (24 : Int) ≤ (ownN false is : Int) := by omega
            have hq : stepP 0 (shopP is []) (dfeedS (shopP is []) (nameK pn) (1 + (pv : Int)) (textK l)) = shopP (is ++ [⟨pn, 1 + pv, false, .slice ro l.length rc, l⟩]) [] := by
              unfold stepP
              rw [if_pos rfl]
              exact feed_shopS is [] pn (1 + pv) (.slice ro l.length rc) l (by omega) hok hlk
            rw [hq] at hmid
            clear hq
            have hok2 : ∀ y, (pn < 3 → y = false) → ItsOk (is ++ [⟨pn, 1 + pv, y, .slice ro l.length rc, l⟩]) := by
              intro y hy x hx
              rcases List.mem_append.1 hx with hx | hx
              · exact hi.ok x hx
              · obtain rfl := List.mem_singleton.1 hx
                exact ⟨h6, by show 1 ≤ 1 + pv; omega, by show 1 + pv ≤ 9; omega, fun h => hy h⟩
            have hsf : ∀ k, ShopFoot sb ao k → k < w.heap.size := fun k hk => (hi.shop.foot hk).2
            go_wp2_with fail
            refine (HTh.out _ hr2).mono ?_
            rintro e w3 ⟨rfl, hw3⟩
            subst hw3
            go_wp2_with fail
            refine (HCo.out _ hr2).mono ?_
            rintro e w3 ⟨rfl, hw3⟩
            subst hw3
            go_wp2_with fail
            have hmid2 := mid_store hmid hge hsf
            generalize w3.setCell ⟨ob, 2, none⟩ (.bool false) = wd at *
            clear hmid HTh HCo d0 d1 d2 d2f hr2
            have hr3 := hmid2.shop
            have s1 := hr3.c1
            have s1f := hr3.f1
            have e0 := cell_of_heap hmid2.hit 0
            have e1 := cell_of_heap hmid2.hit 1
            have e2 := cell_of_heap hmid2.hit 2
            have e3 := cell_of_heap hmid2.hit 3
            have hown3 := hr3.own
            have hlt3 := hr3.lt
            have hl1 := hr3.len
            obtain ⟨i0, ti, hz0, hz1, hz2⟩ := info_parts Tryd.infoItem
            have B1 := hide (show is.length + 1 ≤ maxLen by unfold maxLen; omega)
            have B2 := hide (show (is.length + 1) * 48 ≤ 140737488355328 by omega)
            go_region_law (refine step_append_own rfl (.tmp 108) (.tmp 110) 39 rfl (sb + 1) 65 i0 (.agg #[.int .i64 0, .int .i64 0, .bool false, .slice none 0 0]) 4 48 Tryd.underlying39 ti hz0 hz1 hz2 rfl (by decide) (.slice ao is.length cap) is.length (itCells is) ?_ ?_ ⟨wd.heap.size, 0, none⟩ 1 1 [.int .i64 pn, .int .i64 (1 + (pv : Int)), .bool false, .slice ro l.length rc] ?_ rfl ?_ ?_ B1.out B2.out ?_ (Nat.succ_pos _) ?_; simp [Act.eval]; exact hown3.alloc _; simp [Act.eval]; exact news_at (t := 65) (fr := (0, 0)) (heap1_new wd _); simp [Value.oneCell']; exact Nat.le_trans (show sb + 1 ≤ wd.heap.size + 1 by omega) (Nat.le_of_eq (by simp)); intro g' cap' w' hown' hgrow hnew; have hchg : Chg (blockOf ao) wd w' := Chg.ofGrown hgrow rfl rfl rfl (by simp) (fun k hk => Below.heap_alloc _ _ _ hk) (fun k hk => Or.inl (row_of hk)); have hk : w'.heap[sb]? = wd.heap[sb]? := hchg.block sb hlt3 (fun hb => by have := (blockOf_lt hown3 hb).1; omega); have k2 := (World.cell?_of_block (a := ⟨sb, 1, none⟩) hk).trans s1; have kf := (World.frozen?_of_block (a := ⟨sb, 1, none⟩) hk).trans s1f)
            all_goals
              have hfoot := hide (show blockOf ao g' ∨ wd.heap.size ≤ g' from hnew.elim (fun h => Or.inl (row_of h)) (fun h => Or.inr (Nat.le_trans (by simp) h)))
              clear hnew hgrow
              go_wp2_with fail
              go_ret
              refine ⟨rfl, ?_⟩
              have q := let_push hi hmid2 (hok2 false (fun _ => rfl)) (by rw [ownN_last]; simp [hown]; omega) (by rw [ownN_last]; simp [hown]; omega) hlk hok g' cap' hchg hown' hfoot.out rfl
              rw [← HCs.out, HL.out]
              first | exact q | (simp only [Bool.and_false, hown, decide_false]; exact q)

end Go.Proofs.YtgcldedkempjhaaDoor
