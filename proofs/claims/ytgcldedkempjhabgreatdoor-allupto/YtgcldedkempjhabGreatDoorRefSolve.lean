/-
  depotref: solve, told, Resolve.
-/
import Derived.Test.YtgcldedkempjhabGreatDoorRefRes
import Derived.Deep.RegionHeld3
namespace Go.Proofs.YtgcldedkempjhabGreatDoor
open Go.RowKit

set_option maxHeartbeats 3200000 in
set_option maxRecDepth 100000 in
theorem rsolve_any (rb : Nat) (root time : Int) (ao : Option Addr) (cap : Nat) (ds : List Deed) (house : ByteArray) (so : Option Addr) (sc : Nat) (ask : List WantD)
    (hlen : ds.length ≤ 1000000000000) (hu : ∀ x ∈ ds, DeedWrit x) (hww : ∀ h p v x, relF ds h p v = some x → ∃ ws, wantsF x.wants = some ws) (ha : ask.length ≤ 6) (k : Nat) :
    ∀ (todo : List WantD) (ch : List (ByteArray × Nat)) (most : Nat) (tao : Option Addr) (tc : Nat) (po : Option Addr) (pc : Nat) (w : World),
      RefAt w rb root time ao cap ds → CRow dwantCells w so ask → CRow dwantCells w tao todo → todo.length ≤ tc → CRow (pickCells ds) w po ch.reverse → (∀ x ∈ todo, WGood x) → ChOk nameA ch → most + 1 ≤ k → todo.length + 6 * most ≤ 10000000 → ch.length + most ≤ 10000000 →
      Calls Tryz.prog 79 #[.pointer (some ⟨rb, 0, none⟩), .string house, .slice so ask.length sc, .slice tao todo.length tc, .slice po ch.length pc, .int .i64 (most : Int)] w fun e w' =>
        SolveAs ds most (solve (candRW ds house ask) k (todo.map WantD.wt) ch most) e w' ∧ Below w.heap.size w w' := by
  induction k with
  | zero => intro todo ch most tao tc po pc w _ _ _ _ _ _ _ h; omega
  | succ k ih =>
    intro todo
    induction todo with
    | nil =>
      intro ch most tao tc po pc w hr hask htd htc hpk hgd hch hk hb1 hb2
      have HF := hide (show SolveAs ds most (solve (candRW ds house ask) (k + 1) (([] : List WantD).map WantD.wt) ch most) (.returned (.tuple #[.int .i64 1, .slice po ch.length pc, .int .i64 0])) w by
        rw [List.map_nil, solve_done rfl]
        exact ⟨po, pc, by rw [Nat.sub_self]; rfl, hpk⟩)
      clear ih hr hask htd hpk hgd hch
      go_enter Tryz.func79, Tryz.ntmps79
      go_wp2_with fail
      go_ret3
      exact ⟨HF.out, Below.refl _ _⟩
    | cons x t iht =>
      intro ch most tao tc po pc w hr hask htd htc hpk hgd hch hk hb1 hb2
      obtain ⟨g, o, rfl, hg, hc⟩ := htd 0 (by simp)
      have d0 : w.cell? ⟨g, o, none⟩ = some (.string x.name) := hc 0 _ rfl
      have d1 : w.cell? ⟨g, o + 1, none⟩ = some (.int .i64 x.lo) := hc 1 _ rfl
      have d2 : w.cell? ⟨g, o + 2, none⟩ = some (.int .i64 x.hi) := hc 2 _ rfl
      have HT := hide htd.tail
      have hgx := hgd x (by simp)
      have hgt : ∀ y ∈ t, WGood y := fun y hy => hgd y (by simp [hy])
      have hbw0 : Below w.heap.size w (w.alloc (.cells #[.string x.name, .int .i64 x.lo, .int .i64 x.hi] 161)) := (Below.refl _ _).alloc (Nat.le_refl _) _
      have HCH := hide (fun W (h : CRow (pickCells ds) W po ch.reverse) => chosen_any ds po pc ch.reverse x.name W h (by rw [List.length_reverse]; omega))
      rw [picked_rev hch.nd, List.length_reverse] at HCH
      have hln : ((x :: t).length : Nat) = t.length + 1 := rfl
      rw [hln] at hb1 htc ⊢
      clear hln hc htd
      by_cases h0 : picked ch x.name = 0
      · rw [h0] at HCH
        have hsz : x.name.size ≤ 1000000000 := Nat.le_trans (nameF_size hgx.1) (by decide)
        obtain ⟨TR, hTR⟩ := try_sp ds house ask k t most h0 hgx
        have h9 : x.hi ≤ 9 := hgx.2.2.2
        have hlo1 : 1 ≤ x.lo := hgx.2.1
        have hlh : x.lo ≤ x.hi := hgx.2.2.1
        obtain ⟨hn, hhn⟩ : ∃ hn : Nat, x.hi = (hn : Int) := ⟨x.hi.toNat, by omega⟩
        have htop := hTR.top
        rw [show x.hi.toNat = hn by omega] at htop
        have HTR := hide hTR
        have HTOP := hide htop
        rw [htop]
        clear htop hTR
        have HCA := hide (fun (v : Int) W h1 h2 => cand_any rb root time ao cap ds house so sc ask x.name v W h1 hlen hsz h2 ha)
        have HR := hide hr
        have HASK := hide hask
        have HPK := hide hpk
        have HHN := hide hhn
        have h9' : hn ≤ 9 := by omega
        have hlh' : x.lo ≤ (hn : Int) := by omega
        clear iht hr hask hpk hhn h9 hlh
        generalize htl : t.length = tl at *
        generalize hcl : ch.length = cl at *
        have HTL := hide htl
        have HCL := hide hcl
        clear htl hcl
        go_enter Tryz.func79, Tryz.ntmps79
        go_wp2_with fail
        refine (HCH.out _ (HPK.out.below hbw0)).mono ?_
        rintro e w1 ⟨rfl, hb3⟩
        have hbx := (hb3.block w.heap.size (by simp)).trans (heap_alloc_new w _)
        have e2 : w1.cell? ⟨w.heap.size, 2, none⟩ = some (.int .i64 x.hi) := (cell_of_heap hbx 2).trans rfl
        have hwlt : w.heap.size < w1.heap.size := (Array.getElem?_eq_some_iff.1 hbx).1
        generalize hW0 : w.alloc (.cells #[.string x.name, .int .i64 x.lo, .int .i64 x.hi] 161) = w0 at *
        go_wp2_with fail
        go_loopw [16, 17, 18, 19, 20, 21, 22, 23, 24, 25] (fun v st _ _ _ _ _ _ _ _ wr => ∃ u left sp : Nat, v = .int .i64 u ∧ st = .int .i64 (sp : Int) ∧ u ≤ 9 ∧ x.lo ≤ u + 1 ∧ (u : Int) ≤ x.hi ∧ sp + left = most ∧ TR hn most = TR u left ∧ Below w0.heap.size w0 wr) (fun v _ _ _ _ _ _ _ _ _ _ => (intOf v).toNat)
        case atStart => exact ⟨hn, most, 0, by rw [HHN.out], rfl, h9', by omega, by rw [HHN.out]; omega, by omega, rfl, hb3⟩
        case round =>
          obtain ⟨u, left, sp, rfl, rfl, hu9, hul, huh, hsp, htr, hb⟩ := hrel
          have hbx2 : wr.heap[w.heap.size]? = some (.cells #[.string x.name, .int .i64 x.lo, .int .i64 x.hi] 161 (0, 0)) := (hb.block w.heap.size (by rw [← hW0]; simp)).trans (by rw [← hW0]; exact heap_alloc_new w _)
          have b0 : wr.cell? ⟨w.heap.size, 0, none⟩ = some (.string x.name) := (cell_of_heap hbx2 0).trans rfl
          have b1 : wr.cell? ⟨w.heap.size, 1, none⟩ = some (.int .i64 x.lo) := (cell_of_heap hbx2 1).trans rfl
          have hwr : w.heap.size < wr.heap.size := (Array.getElem?_eq_some_iff.1 hbx2).1
          have hbw := below_call hbw0 hb
          clear hbx2 e2 hwlt hb3 hbx
          by_cases hlt : (u : Int) < x.lo
          · have HF := hide (show ∀ W, SolveAs ds most (TR hn most) (.returned (.tuple #[.int .i64 0, .slice none 0 0, .int .i64 (sp : Int)])) W by
              intro W
              rw [htr, HTR.out.under u left hlt]
              show _ = _
              rw [show most - left = sp by omega])
            clear htr
            go_wp2_with fail
            go_ret3
            exact ⟨HF.out _, hbw⟩
          · obtain ⟨n, rfl⟩ : ∃ n, u = n + 1 := ⟨u - 1, by omega⟩
            have hn9 : n < 9 := by omega
            have hnl : x.lo ≤ (n : Int) + 1 := by omega
            have hnh : (n : Int) + 1 ≤ x.hi := by omega
            have HCB := hide (HCA.out ((n : Int) + 1) wr (HR.out.below hbw) (HASK.out.below hbw))
            cases hcd : candOkR ds house ask x.name ((n : Int) + 1) with
            | false =>
              rw [hcd] at HCB
              have HF := hide (htr.trans (HTR.out.skp n left hn9 hcd))
              clear htr hcd hlt
              go_wp2_with fail
              refine HCB.out.mono ?_
              rintro e w2 ⟨rfl, hb4⟩
              go_wp2_with fail
              go_roundw
              case rel => exact ⟨n, left, sp, by go_num, rfl, by omega, by omega, by omega, hsp, HF.out, below_call hb hb4⟩
              case measure => simp [intOf] <;> omega
            | true =>
              rw [hcd] at HCB
              cases left with
              | zero =>
                have HF := hide (show ∀ W, SolveAs ds most (TR hn most) (.returned (.tuple #[.int .i64 2, .slice none 0 0, .int .i64 (most : Int)])) W by
                  intro W
                  rw [htr, HTR.out.brk n hn9 hnl hnh hcd]
                  rfl)
                obtain rfl : sp = most := by omega
                clear htr hcd hlt
                go_wp2_with fail
                refine HCB.out.mono ?_
                rintro e w2 ⟨rfl, hb4⟩
                have hbw4 := below_call hbw hb4
                go_wp2_with fail
                go_ret3
                exact ⟨HF.out _, hbw4⟩
              | succ m =>
                obtain ⟨y, hy⟩ : ∃ y, relF ds (ownerF ds x.name).1 (ownerF ds x.name).2 ((n : Int) + 1) = some y := by
                  unfold candOkR at hcd
                  rw [Bool.and_eq_true, Bool.and_eq_true] at hcd
                  exact Option.isSome_iff_exists.1 hcd.2.1
                obtain ⟨ws, hws⟩ := hww _ _ _ _ hy
                have hyw := (hu y (List.mem_of_find?_eq_some hy)).2
                have hwR : wantsR ds x.name ((n : Int) + 1) = ws := by
                  unfold wantsR
                  rw [hy, Option.getD_some, hws]
                  rfl
                have hgw := wantsF_wg hws
                have hw6 := wantsF_len hws
                have HSV := hide (And.intro (fun left' => HTR.out.fld n m left' hn9 hnl hnh hcd) (fun r => HTR.out.els n m r hn9 hnl hnh hcd))
                rw [hwR] at HSV
                have HIH := hide (fun lao lcap mao mcap W h1 h2 h3 h4 h5 => ih (t ++ ws) ((x.name, n + 1) :: ch) m lao lcap mao mcap W h1 h2 h3 h4 h5 (fun z hz => (List.mem_append.1 hz).elim (hgt z) (hgw z)) (by
                  refine ⟨?_, ?_, GoodC.cons hgx.1 hch.a⟩
                  · rw [List.map_cons, List.nodup_cons]
                    exact ⟨picked_zero hch.v h0, hch.nd⟩
                  · intro q hq
                    rcases List.mem_cons.1 hq with rfl | hq
                    · exact ⟨by simp, by simp; omega⟩
                    · exact hch.v q hq) (by omega) (by rw [List.length_append, HTL.out]; omega) (by rw [List.length_cons, HCL.out]; omega))
                rw [List.length_append, List.length_cons, HTL.out, HCL.out] at HIH
                have HWHO := hide (show ∀ W, Calls Tryz.prog 76 #[.string (ownerF ds x.name).1] W fun e w' => e = .returned (.string (whoR ds x.name)) ∧ w' = W from fun W => whose_any (ownerF ds x.name).1 W)
                have HOW := hide (fun W h => owner_any rb root time ao cap ds x.name W h hlen hsz)
                have HWT := hide (fun W h => rwants_any rb root time ao cap ds x.name ((n : Int) + 1) W h hlen hsz y hy hyw ws hws)
                have HT0 := hide (show tc = 1 → ∀ W tp, CRow dwantCells W tp t from fun h W tp => by
                  rw [List.eq_nil_of_length_eq_zero (by rw [HTL.out]; omega : t.length = 0)]
                  exact CRow.nil W tp)
                generalize hwl : ws.length = wl at *
                have HWL := hide hwl
                have hlt0 : w.heap.size < w0.heap.size := by rw [← hW0]; simp
                have cw0 : w0.cell? ⟨w.heap.size, 0, none⟩ = some (.string x.name) := by
                  rw [← hW0]
                  exact (cell_of_heap (heap_alloc_new w _) 0).trans rfl
                have HW0 := hide (And.intro hlt0 cw0)
                obtain ⟨i0, ti, hz0, hz1, hz2⟩ := info_parts Tryz.infoDWant
                obtain ⟨j0, tj, hj0, hj1, hj2⟩ := info_parts Tryz.infoRPick
                have HTRQ := hide htr
                have hz : ((sp : Int) == (most : Int)) = false := by rw [beq_eq_false_iff_ne]; omega
                have hsub : (most : Int) - ((sp : Int) + 1) = (m : Int) := by omega
                clear htr hcd hlt hy hws hwR hlt0 cw0 hch hgd hgt hgw ih h0 hyw hwl
                go_wp2_with fail
                refine HCB.out.mono ?_
                rintro e w2 ⟨rfl, hb4⟩
                have hb5 := below_call hb hb4
                have hbw5 := below_call hbw0 hb5
                have c0 := (hb5.cell (p := ⟨w.heap.size, 0, none⟩) HW0.out.1).trans HW0.out.2
                have hwr2 := Nat.lt_of_lt_of_le HW0.out.1 hb5.size
                clear hb4 b0 b1 hb hbw
                go_wp2_with fail
                refine (HOW.out _ (HR.out.below hbw5)).mono ?_
                rintro e w3 ⟨rfl, hb6⟩
                have hb7 := below_call hb5 hb6
                have hbw7 := below_call hbw0 hb7
                have c1 := (hb7.cell (p := ⟨w.heap.size, 0, none⟩) HW0.out.1).trans HW0.out.2
                have hwr3 := Nat.lt_of_lt_of_le HW0.out.1 hb7.size
                clear hb5 hbw5 c0 hwr2 hb6
                by_cases htc1 : tc = 1
                all_goals
                  go_wp2_with (at_builtin; refine wpList_append_nil _ rfl (.tmp 90) (.tmp 92) 123 rfl w0.heap.size 161 i0 (.agg #[.string ⟨#[]⟩, .int .i64 0, .int .i64 0]) 3 32 Tryz.underlying123 ti hz0 hz1 hz2 rfl (by decide) rfl _ tl _ rfl (dwantsCells t) (by rw [← HTL.out]; exact flat3_length dwantCells_length t) (by first | exact (HT0.out htc1 _ _).src dwantCells_length | exact (HT.out.below hbw7).src dwantCells_length) (dwants_one t) (by unfold maxLen; omega) (by omega) hb7.size ?_)
                  intro ao1 cap1 w4 hown1 hgrow1
                  first | (subst htc1; clear htc) | clear htc htc1
                  have hb8 : Below w0.heap.size w0 w4 := hb7.grown hgrow1 hb7.size (fun k' hk' => by cases hk')
                  have hbw8 := below_call hbw0 hb8
                  have c2 := (hb8.cell (p := ⟨w.heap.size, 0, none⟩) HW0.out.1).trans HW0.out.2
                  have hwr4 := Nat.lt_of_lt_of_le HW0.out.1 hb8.size
                  have HOWN1 := hide hown1
                  clear hb7 hbw7 c1 hwr3 hgrow1 hown1
                  go_wp2_with fail
                  refine (HWT.out _ (HR.out.below hbw8)).mono ?_
                  rintro e w5 ⟨⟨wo, wc, rfl, hrw⟩, hb9⟩
                  have hb10 := below_call hb8 hb9
                  have hown1 := ownsRow_keep' HOWN1.out hb9
                  have HRW := hide hrw
                  clear hb8 hbw8 c2 hwr4 hb9 hrw HOWN1
                  go_wp2_with (at_builtin; refine wpList_append_any _ rfl (.tmp 94) (.tmp 99) 123 rfl w0.heap.size 161 i0 (.agg #[.string ⟨#[]⟩, .int .i64 0, .int .i64 0]) 3 32 Tryz.underlying123 ti hz0 hz1 hz2 rfl (by decide) (.slice ao1 tl cap1) tl (dwantsCells t) rfl hown1 wo wl wc rfl (dwantsCells ws) (by rw [← HWL.out]; exact flat3_length dwantCells_length ws) (HRW.out.src dwantCells_length) (dwants_one ws) (by unfold maxLen; omega) (by omega) hb10.size ?_)
                  intro ao2 cap2 w6 hown2 hgrow2 _
                  have hb11 : Below w0.heap.size w0 w6 := hb10.grown hgrow2 hb10.size (fun k' hk' => (hown1.lt k' hk').1)
                  have hbw11 := below_call hbw0 hb11
                  have HC2 := hide (show CRow dwantCells w6 ao2 (t ++ ws) from CRow.ofOwn dwantCells_length (by rw [List.flatMap_append]; exact hown2))
                  have hcap2 := own_cap hown2
                  have c3 := (hb11.cell (p := ⟨w.heap.size, 0, none⟩) HW0.out.1).trans HW0.out.2
                  have hwr6 := Nat.lt_of_lt_of_le HW0.out.1 hb11.size
                  clear hb10 hown1 hown2 hgrow2 HRW
                  go_wp2_with (at_builtin; refine wpList_append_nil _ rfl (.tmp 101) (.tmp 102) 126 rfl w6.heap.size 168 j0 (.agg #[.string ⟨#[]⟩, .int .i64 0, .string ⟨#[]⟩]) 3 40 Tryz.underlying126 tj hj0 hj1 hj2 rfl (by decide) rfl po cl pc rfl (ch.reverse.flatMap (pickCells ds)) (by rw [flat3_length (pickCells_length ds), List.length_reverse, HCL.out]) ((HPK.out.below hbw11).src (pickCells_length ds)) (picks_one ds _) (by unfold maxLen; omega) (by omega) (Nat.le_refl _) ?_)
                  intro ao3 cap3 w7 hown3 hgrow3
                  have hb12 : Below w6.heap.size w6 w7 := (Below.refl _ _).grown hgrow3 (Nat.le_refl _) (fun k' hk' => by cases hk')
                  have hb13 := below_call hb11 hb12
                  have c4 := (hb13.cell (p := ⟨w.heap.size, 0, none⟩) HW0.out.1).trans HW0.out.2
                  have hwr7 := Nat.lt_of_lt_of_le HW0.out.1 hb13.size
                  have hsz7 := hb12.size
                  clear hgrow3 c3 hwr6
                  have c4' : ∀ obj, (w7.alloc obj).cell? ⟨w.heap.size, 0, none⟩ = some (.string x.name) := fun obj => (((Below.refl w7.heap.size w7).alloc (Nat.le_refl _) obj).cell (p := ⟨w.heap.size, 0, none⟩) hwr7).trans c4
                  have B1 := hide (show cl + 1 ≤ maxLen by unfold maxLen; omega)
                  have B2 := hide (show (cl + 1) * 40 ≤ 140737488355328 by omega)
                  go_wp2_with fail
                  go_region_held3 (fun W => W.cell? ⟨w.heap.size, 0, none⟩ = some (.string x.name)) (first | exact c4 | exact c4' _ | exact c5) (first
                    | ((go_at_call 76; refine (HWHO.out _).mono ?_; rintro e w8 ⟨rfl, hw⟩; subst hw))
                    | (refine step_append_any rfl (.tmp 104) (.tmp 111) 126 rfl w6.heap.size 168 j0 (.agg #[.string ⟨#[]⟩, .int .i64 0, .string ⟨#[]⟩]) 3 40 Tryz.underlying126 tj hj0 hj1 hj2 rfl (by decide) (.slice ao3 cl cap3) cl (ch.reverse.flatMap (pickCells ds)) ?_ ?_ (some ⟨w7.heap.size, 0, none⟩) 1 1 ?_ [.string x.name, .int .i64 ((n : Int) + 1), .string (whoR ds x.name)] rfl ?_ ?_ B1.out B2.out ?_ ?_; (simp [Act.eval]); (exact hown3.alloc _); (simp [Act.eval]); (exact fun j u hu => ⟨_, rfl, news_at (t := 168) (fr := (0, 0)) (heap_alloc_new _ _) j u hu⟩); (simp [Value.oneCell']); (exact Nat.le_trans hsz7 (by simp)); intro ao4 cap4 w8 hown4 hgrow4 _; have hb14 : Below w6.heap.size w6 w8 := (hb12.alloc hb12.size _).grown (grown_start hgrow4 rfl rfl rfl rfl) (Nat.le_trans hsz7 (by simp)) (fun k' hk' => (hown3.lt k' hk').1); have c5 := ((below_call hb11 hb14).cell (p := ⟨w.heap.size, 0, none⟩) HW0.out.1).trans HW0.out.2; clear hgrow4))
                  all_goals
                    have hb15 := below_call hb11 hb14
                    have hbw15 := below_call hbw0 hb15
                    have HC4 := hide (show CRow (pickCells ds) w8 ao4 ((x.name, n + 1) :: ch).reverse from CRow.ofOwn (pickCells_length ds) (by rw [List.reverse_cons, List.flatMap_append]; exact hown4))
                    have hwr8 := Nat.lt_of_lt_of_le HW0.out.1 hb15.size
                    have hcc : (m : Int) ≤ 10000000 := by omega
                    clear hown4 hown3 c4 c4' hb12 hb13 hwr7
                    go_wp2_with fail
                    refine (HIH.out ao2 cap2 ao4 cap4 w8 (HR.out.below hbw15) (HASK.out.below hbw15) (HC2.out.below hb14) hcap2 HC4.out).mono ?_
                    rintro e w9 ⟨hend, hb16⟩
                    have hb17 := below_call hb15 hb16
                    have hbw17 := below_call hbw0 hb17
                    have HLE := hide (fun left' o h => solve_left (candRW ds house ask) k ((t ++ ws).map WantD.wt) ((x.name, n + 1) :: ch) m left' o h)
                    generalize solve (candRW ds house ask) k ((t ++ ws).map WantD.wt) ((x.name, n + 1) :: ch) m = R at hend HSV HLE
                    clear HIH HC2 HC4 hb16 hb14 hb15 hbw15 c5
                    rcases R with _ | ⟨left', _ | c⟩
                    · have he : e = .returned (.tuple #[.int .i64 2, .slice none 0 0, .int .i64 (m : Int)]) := hend
                      subst he
                      have HF := hide (show ∀ W, SolveAs ds most (TR hn most) (.returned (.tuple #[.int .i64 2, .slice none 0 0, .int .i64 (most : Int)])) W by
                        intro W
                        rw [HTRQ.out, HSV.out.2 none rfl (fun y h => by cases h)]
                        rfl)
                      have hadd : (sp : Int) + 1 + (m : Int) = (most : Int) := by omega
                      clear hend
                      go_wp2_with fail
                      go_ret3
                      exact ⟨by have := HF.out; simpa [hadd] using this _, hbw17⟩
                    · have he : e = .returned (.tuple #[.int .i64 0, .slice none 0 0, .int .i64 ((m - left' : Nat) : Int)]) := hend
                      subst he
                      have hle := HLE.out left' none rfl
                      have HF := hide (HTRQ.out.trans (HSV.out.1 left' rfl))
                      obtain ⟨d, hd⟩ : ∃ d, m - left' = d := ⟨_, rfl⟩
                      rw [hd]
                      clear hend
                      go_wp2_with fail
                      go_roundw
                      case rel => exact ⟨n, left', sp + 1 + d, by go_num, by go_num, by omega, by omega, by omega, by omega, HF.out, hb17⟩
                      case measure => simp [intOf] <;> omega
                    · obtain ⟨ao5, cap5, rfl, hrow⟩ := hend
                      have hle := HLE.out left' (some c) rfl
                      have HF := hide (HTRQ.out.trans (HSV.out.2 _ rfl (fun y h => by cases h)))
                      have HROW := hide hrow
                      obtain ⟨d, hd⟩ : ∃ d, m - left' = d := ⟨_, rfl⟩
                      rw [hd]
                      clear hrow
                      go_wp2_with fail
                      go_ret3
                      refine ⟨?_, hbw17⟩
                      rw [HF.out]
                      exact ⟨ao5, cap5, by rw [show most - left' = sp + 1 + d by omega]; rfl, HROW.out⟩
      · have hp1 : 1 ≤ picked ch x.name := by omega
        cases hh : x.wt.has (picked ch x.name) with
        | false =>
          have HF := hide (show ∀ W, SolveAs ds most (solve (candRW ds house ask) (k + 1) ((x :: t).map WantD.wt) ch most) (.returned (.tuple #[.int .i64 0, .slice none 0 0, .int .i64 0])) W by
            intro W
            rw [List.map_cons, solve_bad (skip_bad (w := x.wt) h0 hh)]
            show _ = _
            rw [Nat.sub_self]; rfl)
          have hbad : (picked ch x.name : Int) < x.lo ∨ x.hi < (picked ch x.name : Int) := by
            unfold Wt.has at hh
            rw [Bool.and_eq_false_iff] at hh
            rcases hh with h | h
            · left; have := of_decide_eq_false h; show _ < x.wt.lo; omega
            · right; have := of_decide_eq_false h; show x.wt.hi < _; omega
          generalize picked ch x.name = p at *
          clear hh h0 ih iht HT hgd hgt hch
          have hpi : (0 : Int) < (p : Int) := by omega
          go_enter Tryz.func79, Tryz.ntmps79
          go_wp2_with fail
          refine (HCH.out _ (hpk.below hbw0)).mono ?_
          rintro e w1 ⟨rfl, hb3⟩
          have hbw1 := below_call hbw0 hb3
          have hbx := (hb3.block w.heap.size (by simp)).trans (heap_alloc_new w _)
          have e1 : w1.cell? ⟨w.heap.size, 1, none⟩ = some (.int .i64 x.lo) := (cell_of_heap hbx 1).trans rfl
          have e2 : w1.cell? ⟨w.heap.size, 2, none⟩ = some (.int .i64 x.hi) := (cell_of_heap hbx 2).trans rfl
          have hwlt : w.heap.size < w1.heap.size := (Array.getElem?_eq_some_iff.1 hbx).1
          clear hbx hb3
          by_cases hlo : (p : Int) < x.lo
          · clear hbad
            go_wp2_with fail
            go_ret3
            exact ⟨HF.out _, hbw1⟩
          · have hhi : x.hi < (p : Int) := hbad.resolve_left hlo
            clear hbad
            go_wp2_with fail
            go_ret3
            exact ⟨HF.out _, hbw1⟩
        | true =>
          have hSV : solve (candRW ds house ask) (k + 1) ((x :: t).map WantD.wt) ch most = solve (candRW ds house ask) (k + 1) (t.map WantD.wt) ch most := by
            rw [List.map_cons]
            exact solve_skip (skip_cons (w := x.wt) h0 hh) _ _
          rw [hSV]
          clear hSV
          have hgood : ¬ (picked ch x.name : Int) < x.lo ∧ ¬ x.hi < (picked ch x.name : Int) := by
            unfold Wt.has at hh
            rw [Bool.and_eq_true, decide_eq_true_eq, decide_eq_true_eq] at hh
            have h1 : x.lo ≤ _ := hh.1
            have h2 : _ ≤ x.hi := hh.2
            omega
          have HIT := hide (fun tp cp W hcp h1 h2 h3 h4 => iht ch most tp cp po pc W h1 h2 h3 hcp h4 hgt hch hk (by omega) hb2)
          have HT0 := hide (show tc = 1 → ∀ W tp, CRow dwantCells W tp t from fun h W tp => by
            rw [List.eq_nil_of_length_eq_zero (by omega : t.length = 0)]
            exact CRow.nil W tp)
          generalize picked ch x.name = p at *
          clear hh h0 ih iht hgd hgt hch
          generalize solve (candRW ds house ask) (k + 1) (t.map WantD.wt) ch most = R at *
          have hpi : (0 : Int) < (p : Int) := by omega
          obtain ⟨hlo, hhi⟩ := hgood
          generalize t.length = n at *
          go_enter Tryz.func79, Tryz.ntmps79
          go_wp2_with fail
          refine (HCH.out _ (hpk.below hbw0)).mono ?_
          rintro e w1 ⟨rfl, hb3⟩
          have hbw1 := below_call hbw0 hb3
          have hbx := (hb3.block w.heap.size (by simp)).trans (heap_alloc_new w _)
          have e1 : w1.cell? ⟨w.heap.size, 1, none⟩ = some (.int .i64 x.lo) := (cell_of_heap hbx 1).trans rfl
          have e2 : w1.cell? ⟨w.heap.size, 2, none⟩ = some (.int .i64 x.hi) := (cell_of_heap hbx 2).trans rfl
          have hwlt : w.heap.size < w1.heap.size := (Array.getElem?_eq_some_iff.1 hbx).1
          clear hbx hb3
          go_wp2_with fail
          all_goals
            refine (HIT.out _ _ _ (by omega) (hr.below hbw1) (hask.below hbw1) ?_ (hpk.below hbw1)).mono ?_
            · first | exact HT.out.below hbw1 | exact HT0.out (by assumption) _ _
            rintro e w2 ⟨hend, hb4⟩
            have hbw2 := below_call hbw1 hb4
            clear HIT hb4
            rcases R with _ | ⟨left, _ | c⟩
            · have he : e = .returned (.tuple #[.int .i64 2, .slice none 0 0, .int .i64 (most : Int)]) := hend
              subst he
              clear hend
              go_wp2_with fail
              go_ret3
              exact ⟨rfl, hbw2⟩
            · have he : e = .returned (.tuple #[.int .i64 0, .slice none 0 0, .int .i64 ((most - left : Nat) : Int)]) := hend
              subst he
              clear hend
              go_wp2_with fail
              go_ret3
              exact ⟨rfl, hbw2⟩
            · obtain ⟨ao2, cap2, rfl, hrow⟩ := hend
              have HROW := hide hrow
              clear hrow
              go_wp2_with fail
              go_ret3
              exact ⟨⟨ao2, cap2, rfl, HROW.out⟩, hbw2⟩

end Go.Proofs.YtgcldedkempjhabGreatDoor
