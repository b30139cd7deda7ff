/-
  depotkeep: needed: the walk.
-/
import Derived.Test.YtgcldedkempjhaaDoorShopRdW
namespace Go.Proofs.YtgcldedkempjhaaDoor
section
open Go.RowKit

theorem range_all (p : Nat → Bool) (n : Nat) : (List.range (n + 1)).all p = ((List.range n).all p && p n) := by
  rw [List.range_succ, List.all_append]
  simp

theorem range_no {p : Nat → Bool} {n : Nat} (hn : n < 6) (h : p n = false) : (List.range 6).all p = false := all_not (j := n) (by simpa using hn) (by simpa using h)

theorem range_less {p : Nat → Bool} {n : Nat} (hn : n ≤ 6) (h : (List.range n).all p = false) : (List.range 6).all p = false := by
  cases ha : (List.range 6).all p with
  | false => rfl
  | true =>
    rw [List.all_eq_true] at ha
    have : (List.range n).all p = true := List.all_eq_true.2 fun x hx => ha x (List.mem_range.2 (by have := List.mem_range.1 hx; omega))
    rw [this] at h
    cases h

/-- What of a choice was looked at. -/
def goesTo (is : List It) (asked : List Nd) (c : Nat → Nat) (n : Nat) : Bool := asked.all (metN c) && (List.range n).all (goesAt is asked c)

theorem goesTo_succ (is : List It) (asked : List Nd) (c : Nat → Nat) (n : Nat) : goesTo is asked c (n + 1) = (goesTo is asked c n && goesAt is asked c n) := by
  unfold goesTo
  rw [range_all, Bool.and_assoc]

theorem goesTo_no {is : List It} {asked : List Nd} {c : Nat → Nat} {n : Nat} (hn : n ≤ 6) (h : goesTo is asked c n = false) : goesN is asked c = false := by
  unfold goesN
  unfold goesTo at h
  cases ha : asked.all (metN c) with
  | false => rfl
  | true =>
    rw [ha, Bool.true_and] at h
    rw [range_less hn h]
    rfl

theorem goesAt_no {is : List It} {asked : List Nd} {c : Nat → Nat} {n : Nat} (hn : n < 6) (h : goesAt is asked c n = false) : goesN is asked c = false := by
  unfold goesN
  rw [range_no hn h, Bool.and_false]

set_option maxHeartbeats 8000000 in
set_option maxRecDepth 100000 in
theorem goes_any (sb db base : Nat) (ao : Option Addr) (cap : Nat) (is : List It) (ra : Option Addr) (rcap : Nat) (asked : List Nd) (c : Nat → Nat) (w : World) (hr : ShopAt w sb db ao cap is) (hrows : ∀ x ∈ is, ItRow w sb x) (hst : Stock is) (hl6 : ∀ x ∈ is, x.ws.length ≤ 6)
    (own : w.ownsRow base 62 3 (.slice ra asked.length rcap) asked.length (ndsCells asked)) (h6 : asked.length ≤ 6) (hok : ∀ x ∈ asked, NdOk x) (h9 : ∀ n, c n ≤ 9) :
    Calls Tryd.prog 23 #[.pointer (some ⟨sb, 0, none⟩), .slice ra asked.length rcap, .agg (picksV c)] w fun e w' => e = .returned (.bool (goesN is asked c)) ∧ Below w.heap.size w w' := by
  have HB := hide (box_new w c)
  have HMA := hide (fun W (o : W.ownsRow base 62 3 (.slice ra asked.length rcap) asked.length (ndsCells asked)) => met_any base ra rcap asked c W o h6 hok h9)
  have HPA := hide (fun W (o : W.ownsRow base 62 3 (.slice ra asked.length rcap) asked.length (ndsCells asked)) (n : Nat) => pinned_any base ra rcap asked n (c n) W o h6)
  have HOWN := hide own
  have HSH := hide hr
  have HROWS := hide hrows
  have HST := hide hst
  have HL6 := hide hl6
  have H9 := hide h9
  have hslen := hr.len
  have hblt := (Below.alloc (Below.refl w.heap.size w) (Nat.le_refl _) (.cells (picksV c) 55))
  have HALL := hide (show (List.range 0).all (goesAt is asked c) = true from rfl)
  clear own h6 hok h9 hr hrows hst hl6
  generalize hal : asked.length = al at *
  have HAL := hide hal
  clear hal
  obtain ⟨z0, z1, z2, z3, z4, z5⟩ := six_at HB.out.at_
  go_enter Tryd.func23, Tryd.ntmps23
  go_wp2_with fail
  refine (HMA.out _ (ownsRow_keep' HOWN.out HB.out.bel)).mono ?_
  rintro e w1 ⟨rfl, hb1⟩
  have HB1 := hide (show BoxC w w1 w.heap.size c from HB.out.step hb1 rfl rfl rfl rfl)
  have HG0 := hide (show asked.all (metN c) = goesTo is asked c 0 from by unfold goesTo; rw [HALL.out, Bool.and_true])
  clear hb1 HMA HB z0 z1 z2 z3 z4 z5 hblt
  generalize asked.all (metN c) = ok0 at *
  go_wp2_with fail
  go_loopw [7, 8, 9, 10] (fun b x _ _ wx => ∃ (n : Nat) (ok : Bool), n ≤ 6 ∧ x = .int .i64 (n : Int) ∧ b = .bool ok ∧ ok = goesTo is asked c n ∧ BoxC w wx w.heap.size c) (fun _ x _ _ _ => 6 - (intOf x).toNat)
  case atStart => exact ⟨0, ok0, Nat.zero_le _, rfl, rfl, HG0.out, HB1.out⟩
  case round =>
    obtain ⟨n, ok, hn, rfl, rfl, hg, hbox⟩ := hrel
    clear HG0 HB1
    cases ok with
    | false =>
      have HE := hide (goesTo_no hn hg.symm)
      clear hg
      by_cases hlt : n < 6
      · have hlt' : decide ((n : Int) < 6) = true := decide_eq_true (by omega)
        go_wp2_with fail
        go_ret
        exact ⟨by rw [HE.out]; rfl, hbox.bel⟩
      · have hlt' : decide ((n : Int) < 6) = false := decide_eq_false (by omega)
        go_wp2_with fail
        go_ret
        exact ⟨by rw [HE.out]; rfl, hbox.bel⟩
    | true =>
      by_cases hlt : n < 6
      · have hlt' : decide ((n : Int) < 6) = true := decide_eq_true (by omega)
        have hn7 : (n : Int) < 6 := by omega
        have hn8 : (0 : Int) ≤ (n : Int) := by omega
        have HNEXT := hide (show ∀ b : Bool, goesAt is asked c n = b → b = goesTo is asked c (n + 1) from fun b h => by rw [goesTo_succ, ← hg, Bool.true_and, h])
        have c1 := picks_cell hbox.at_ hlt
        clear hg
        by_cases h0 : c n = 0
        · have h0' : ((c n : Int) == 0) = true := by rw [h0]; rfl
          have HG := hide (show goesAt is asked c n = true by unfold goesAt; rw [h0]; rfl)
          clear h0
          generalize c n = v at *
          go_wp2_with fail
          go_roundw
          case rel => exact ⟨n + 1, true, by omega, by go_num, rfl, HNEXT.out _ HG.out, hbox⟩
          case measure => simp [intOf] <;> omega
        · have h0' : ((c n : Int) == 0) = false := by rw [beq_eq_false_iff_ne]; omega
          have h0b : (c n == 0) = false := by rw [beq_eq_false_iff_ne]; exact h0
          have hrw := HSH.out.below hbox.bel
          rcases find_cases (itP n (c n)) is with ⟨i, hi, q1, q2, q3⟩ | ⟨q1, q3⟩
          · have HTH := hide (fun W (h : ShopAt W sb db ao cap is) => there_some sb db ao cap is n (c n) W h i hi q1 q2)
            have HPIN := hide (fun W o => HPA.out W o n)
            obtain ⟨g, hao, hx⟩ := hrw.entry i hi
            obtain ⟨ro, rc, hwv, hrow⟩ := HROWS.out is[i] (List.getElem_mem hi)
            have hwv2 : wr.cell? ⟨g, i * 4 + 3, none⟩ = some (.slice ro is[i].ws.length rc) := by
              obtain ⟨g2, hg2, _, _, key, _⟩ := row_cell (f := It.cells) (n := 4) (fun _ => rfl) hrw.own i hi
              rw [hao] at hg2
              injection hg2 with hg2
              injection hg2 with hg2
              subst hg2
              have := key 3 _ rfl
              rw [hwv] at this
              exact this
            have HMET := hide (fun W (o : W.ownsRow (sb + 1) 62 3 (.slice ro is[i].ws.length rc) is[i].ws.length (ndsCells is[i].ws)) => met_any (sb + 1) ro rc is[i].ws c W o (HL6.out _ (List.getElem_mem hi)) (HST.out.nds _ (List.getElem_mem hi)) H9.out)
            have hRow := ownsRow_keep' (ownsRow_keep' hrow hbox.bel) (Below.refl wr.heap.size wr)
            have HGA := hide (show goesAt is asked c n = (is[i].ws.all (metN c) && (!is[i].y || pinB asked n (c n))) by unfold goesAt; rw [h0b, Bool.false_or, q3])
            have hy2 := hx.d2
            subst hao
            have hglt : g < wr.heap.size := World.block_lt_of_cell? wr ⟨g, i * 4 + 2, none⟩ hy2
            have hsblt : sb < wr.heap.size := hrw.lt
            have hil : (i : Int) < (is.length : Int) := by omega
            have hi0 : (0 : Int) ≤ (i : Int) := by omega
            have hin : decide ((i : Int) < 0) = false := decide_eq_false (by omega)
            have hc1' := hrw.c1
            have HSS0 := hide (show ∀ W, Below wr.heap.size wr W → BoxC w W w.heap.size c → W.cell? ⟨sb, 1, none⟩ = some (.slice (some ⟨g, 0, none⟩) is.length cap) ∧ W.cell? ⟨g, i * 4 + 2, none⟩ = some (.bool is[i].y) ∧ W.cell? ⟨g, i * 4 + 3, none⟩ = some (.slice ro is[i].ws.length rc) ∧ W.cell? ⟨w.heap.size, 0, none⟩ = some (.int .i64 (c 0)) ∧ W.cell? ⟨w.heap.size, 1, none⟩ = some (.int .i64 (c 1)) ∧ W.cell? ⟨w.heap.size, 2, none⟩ = some (.int .i64 (c 2)) ∧ W.cell? ⟨w.heap.size, 3, none⟩ = some (.int .i64 (c 3)) ∧ W.cell? ⟨w.heap.size, 4, none⟩ = some (.int .i64 (c 4)) ∧ W.cell? ⟨w.heap.size, 5, none⟩ = some (.int .i64 (c 5)) from fun W hbw hbx =>
              ⟨(hbw.cell (p := ⟨sb, 1, none⟩) hsblt).trans hc1', (hbw.cell (p := ⟨g, i * 4 + 2, none⟩) hglt).trans hy2, (hbw.cell (p := ⟨g, i * 4 + 3, none⟩) hglt).trans hwv2, (six_at hbx.at_).z0, (six_at hbx.at_).z1, (six_at hbx.at_).z2, (six_at hbx.at_).z3, (six_at hbx.at_).z4, (six_at hbx.at_).z5⟩)
            have HSS := HSS0
            clear HSS0 hwv hrow
            generalize is[i].ws.all (metN c) = mb at *
            generalize pinB asked n (c n) = pb at *
            generalize is[i].y = yb at *
            generalize hwl : is[i].ws.length = wl at *
            clear hwl
            go_wp2_with fail
            refine (HTH.out _ hrw).mono ?_
            rintro e w2 ⟨rfl, hw2⟩
            have hw3 := hw2.symm
            subst hw3
            clear hw2 HTH
            go_wp2_with fail
            refine (HPIN.out _ (ownsRow_keep' HOWN.out hbox.bel)).mono ?_
            rintro e w2 ⟨rfl, hw2⟩
            have hw3 := hw2.symm
            subst hw3
            clear hw2 HPIN
            cases mb with
            | false =>
              have HG := hide (show goesAt is asked c n = false by rw [HGA.out]; rfl)
              go_wp2_with fail
              refine wp_region_held_drew (S := (fun W => W.cell? ⟨sb, 1, none⟩ = some (.slice (some ⟨g, 0, none⟩) is.length cap) ∧ W.cell? ⟨g, i * 4 + 2, none⟩ = some (.bool yb) ∧ W.cell? ⟨g, i * 4 + 3, none⟩ = some (.slice ro wl rc) ∧ W.cell? ⟨w.heap.size, 0, none⟩ = some (.int .i64 (c 0)) ∧ W.cell? ⟨w.heap.size, 1, none⟩ = some (.int .i64 (c 1)) ∧ W.cell? ⟨w.heap.size, 2, none⟩ = some (.int .i64 (c 2)) ∧ W.cell? ⟨w.heap.size, 3, none⟩ = some (.int .i64 (c 3)) ∧ W.cell? ⟨w.heap.size, 4, none⟩ = some (.int .i64 (c 4)) ∧ W.cell? ⟨w.heap.size, 5, none⟩ = some (.int .i64 (c 5)))) (by kernel_rfl) (HSS.out _ (below_drawn (Below.refl _ _) 1) ⟨hbox.at_, ⟨hbox.bel.os, hbox.bel.tape, hbox.bel.output, hbox.bel.size, hbox.bel.block⟩⟩) (fun hHeld => ?_)
              refine take_at 0 39 (.pointer (some ⟨sb, 0, none⟩)) rfl (by kernel_rfl) (by kernel_rfl) (by kernel_rfl) (by kernel_rfl) (fun _ _ _ h => h) (Or.inl ⟨by kernel_rfl, ?_⟩) hHeld ?_
              · intro wz hSw
                obtain ⟨s1, s2, s3, s4, s5, s6, s7, s8, s9⟩ := hSw
                go_simp
              simp only [List.setIfInBounds_toArray, List.set_cons_zero, List.set_cons_succ]
              refine take_at 1 40 (.pointer (some ⟨sb, 0, none⟩)) rfl (by kernel_rfl) (by kernel_rfl) (by kernel_rfl) (by kernel_rfl) (fun _ _ _ h => h) (Or.inl ⟨by kernel_rfl, ?_⟩) hHeld ?_
              · intro wz hSw
                obtain ⟨s1, s2, s3, s4, s5, s6, s7, s8, s9⟩ := hSw
                go_simp
              simp only [List.setIfInBounds_toArray, List.set_cons_zero, List.set_cons_succ]
              refine take_at 2 41 (.pointer (some ⟨sb, 1, none⟩)) rfl (by kernel_rfl) (by kernel_rfl) (by kernel_rfl) (by kernel_rfl) (fun _ _ _ h => h) (Or.inl ⟨by kernel_rfl, ?_⟩) hHeld ?_
              · intro wz hSw
                obtain ⟨s1, s2, s3, s4, s5, s6, s7, s8, s9⟩ := hSw
                go_simp
              simp only [List.setIfInBounds_toArray, List.set_cons_zero, List.set_cons_succ]
              refine take_at 3 42 (.slice (some ⟨g, 0, none⟩) is.length cap) rfl (by kernel_rfl) (by kernel_rfl) (by kernel_rfl) (by kernel_rfl) (fun _ _ _ h => h) (Or.inl ⟨by kernel_rfl, ?_⟩) hHeld ?_
              · intro wz hSw
                obtain ⟨s1, s2, s3, s4, s5, s6, s7, s8, s9⟩ := hSw
                go_simp
              simp only [List.setIfInBounds_toArray, List.set_cons_zero, List.set_cons_succ]
              refine take_at 4 43 (.int .i64 (i : Int)) rfl (by kernel_rfl) (by kernel_rfl) (by kernel_rfl) (by kernel_rfl) (fun _ _ _ h => h) (Or.inl ⟨by kernel_rfl, ?_⟩) hHeld ?_
              · intro wz hSw
                obtain ⟨s1, s2, s3, s4, s5, s6, s7, s8, s9⟩ := hSw
                go_simp
              simp only [List.setIfInBounds_toArray, List.set_cons_zero, List.set_cons_succ]
              refine take_at 5 44 (.pointer (some ⟨g, i * 4, none⟩)) rfl (by kernel_rfl) (by kernel_rfl) (by kernel_rfl) (by kernel_rfl) (fun _ _ _ h => h) (Or.inl ⟨by kernel_rfl, ?_⟩) hHeld ?_
              · intro wz hSw
                obtain ⟨s1, s2, s3, s4, s5, s6, s7, s8, s9⟩ := hSw
                go_simp
              simp only [List.setIfInBounds_toArray, List.set_cons_zero, List.set_cons_succ]
              refine take_at 6 45 (.pointer (some ⟨g, i * 4 + 3, none⟩)) rfl (by kernel_rfl) (by kernel_rfl) (by kernel_rfl) (by kernel_rfl) (fun _ _ _ h => h) (Or.inl ⟨by kernel_rfl, ?_⟩) hHeld ?_
              · intro wz hSw
                obtain ⟨s1, s2, s3, s4, s5, s6, s7, s8, s9⟩ := hSw
                go_simp
              simp only [List.setIfInBounds_toArray, List.set_cons_zero, List.set_cons_succ]
              refine take_at 7 46 (.slice ro wl rc) rfl (by kernel_rfl) (by kernel_rfl) (by kernel_rfl) (by kernel_rfl) (fun _ _ _ h => h) (Or.inl ⟨by kernel_rfl, ?_⟩) hHeld ?_
              · intro wz hSw
                obtain ⟨s1, s2, s3, s4, s5, s6, s7, s8, s9⟩ := hSw
                go_simp
              simp only [List.setIfInBounds_toArray, List.set_cons_zero, List.set_cons_succ]
              refine take_at 8 47 (.agg (picksV c)) rfl (by kernel_rfl) (by kernel_rfl) (by kernel_rfl) (by kernel_rfl) (fun _ _ _ h => h) (Or.inl ⟨by kernel_rfl, ?_⟩) hHeld ?_
              · intro wz hSw
                obtain ⟨s1, s2, s3, s4, s5, s6, s7, s8, s9⟩ := hSw
                go_simp
              simp only [List.setIfInBounds_toArray, List.set_cons_zero, List.set_cons_succ]
              refine wpAnyH_ready (rs := [9]) (by kernel_rfl) (by simp) ?_
              refine AllReadyH.cons (o := { dst := some 48, op := .call { callee := .value (.func 57), args := #[.tmp 46, .tmp 47], argTypes := #[49, 55] }, type := 4, pos := "choice.go:44", after := #[{ on := 7, ground := .data }, { on := 8, ground := .data }], guard := none }) rfl (fun K hK => ?_) AllReadyH.nil
              go_simp
              refine (HMET.out wr.drew hRow.drew).mono ?_
              rintro e w2 ⟨rfl, hbb⟩
              have hb2 : Below wr.heap.size wr w2 := ⟨hbb.os, hbb.tape, hbb.output, hbb.size, hbb.block⟩
              have hbox2 := hbox.step hbb rfl rfl rfl rfl
              have hS2 := HSS.out w2 hb2 hbox2
              clear hbb
              go_wp2_with fail
              refine hK.out _ _ hS2 (fun hHeld => ?_)
              clear hK K
              try simp only [Act.put, List.setIfInBounds_toArray, List.set_cons_zero, List.set_cons_succ]
              refine take_at 10 49 (.bool false) rfl (by kernel_rfl) (by kernel_rfl) (by kernel_rfl) (by kernel_rfl) (fun _ _ _ h => h) (Or.inl ⟨by kernel_rfl, ?_⟩) hHeld ?_
              · intro wz hSw
                obtain ⟨s1, s2, s3, s4, s5, s6, s7, s8, s9⟩ := hSw
                go_simp
              simp only [List.setIfInBounds_toArray, List.set_cons_zero, List.set_cons_succ]
              refine take_at 11 50 undef rfl (by kernel_rfl) (by kernel_rfl) (by kernel_rfl) (by kernel_rfl) (fun _ _ _ h => h) (Or.inr ⟨by kernel_rfl, rfl⟩) hHeld ?_
              simp only [List.setIfInBounds_toArray, List.set_cons_zero, List.set_cons_succ]
              refine take_at 12 51 undef rfl (by kernel_rfl) (by kernel_rfl) (by kernel_rfl) (by kernel_rfl) (fun _ _ _ h => h) (Or.inr ⟨by kernel_rfl, rfl⟩) hHeld ?_
              simp only [List.setIfInBounds_toArray, List.set_cons_zero, List.set_cons_succ]
              refine take_at 13 52 undef rfl (by kernel_rfl) (by kernel_rfl) (by kernel_rfl) (by kernel_rfl) (fun _ _ _ h => h) (Or.inr ⟨by kernel_rfl, rfl⟩) hHeld ?_
              simp only [List.setIfInBounds_toArray, List.set_cons_zero, List.set_cons_succ]
              refine take_at 14 53 undef rfl (by kernel_rfl) (by kernel_rfl) (by kernel_rfl) (by kernel_rfl) (fun _ _ _ h => h) (Or.inr ⟨by kernel_rfl, rfl⟩) hHeld ?_
              simp only [List.setIfInBounds_toArray, List.set_cons_zero, List.set_cons_succ]
              refine take_at 15 54 undef rfl (by kernel_rfl) (by kernel_rfl) (by kernel_rfl) (by kernel_rfl) (fun _ _ _ h => h) (Or.inr ⟨by kernel_rfl, rfl⟩) hHeld ?_
              simp only [List.setIfInBounds_toArray, List.set_cons_zero, List.set_cons_succ]
              refine take_at 16 55 undef rfl (by kernel_rfl) (by kernel_rfl) (by kernel_rfl) (by kernel_rfl) (fun _ _ _ h => h) (Or.inr ⟨by kernel_rfl, rfl⟩) hHeld ?_
              simp only [List.setIfInBounds_toArray, List.set_cons_zero, List.set_cons_succ]
              refine take_at 17 56 undef rfl (by kernel_rfl) (by kernel_rfl) (by kernel_rfl) (by kernel_rfl) (fun _ _ _ h => h) (Or.inr ⟨by kernel_rfl, rfl⟩) hHeld ?_
              simp only [List.setIfInBounds_toArray, List.set_cons_zero, List.set_cons_succ]
              refine take_at 18 57 undef rfl (by kernel_rfl) (by kernel_rfl) (by kernel_rfl) (by kernel_rfl) (fun _ _ _ h => h) (Or.inr ⟨by kernel_rfl, rfl⟩) hHeld ?_
              simp only [List.setIfInBounds_toArray, List.set_cons_zero, List.set_cons_succ]
              refine take_at 19 58 undef rfl (by kernel_rfl) (by kernel_rfl) (by kernel_rfl) (by kernel_rfl) (fun _ _ _ h => h) (Or.inr ⟨by kernel_rfl, rfl⟩) hHeld ?_
              simp only [List.setIfInBounds_toArray, List.set_cons_zero, List.set_cons_succ]
              refine take_at 20 59 undef rfl (by kernel_rfl) (by kernel_rfl) (by kernel_rfl) (by kernel_rfl) (fun _ _ _ h => h) (Or.inr ⟨by kernel_rfl, rfl⟩) hHeld ?_
              simp only [List.setIfInBounds_toArray, List.set_cons_zero, List.set_cons_succ]
              refine take_at 21 60 undef rfl (by kernel_rfl) (by kernel_rfl) (by kernel_rfl) (by kernel_rfl) (fun _ _ _ h => h) (Or.inr ⟨by kernel_rfl, rfl⟩) hHeld ?_
              simp only [List.setIfInBounds_toArray, List.set_cons_zero, List.set_cons_succ]
              refine take_at 22 61 undef rfl (by kernel_rfl) (by kernel_rfl) (by kernel_rfl) (by kernel_rfl) (fun _ _ _ h => h) (Or.inr ⟨by kernel_rfl, rfl⟩) hHeld ?_
              simp only [List.setIfInBounds_toArray, List.set_cons_zero, List.set_cons_succ]
              refine take_at 23 62 (.bool false) rfl (by kernel_rfl) (by kernel_rfl) (by kernel_rfl) (by kernel_rfl) (fun _ _ _ h => h) (Or.inl ⟨by kernel_rfl, ?_⟩) hHeld ?_
              · intro wz hSw
                obtain ⟨s1, s2, s3, s4, s5, s6, s7, s8, s9⟩ := hSw
                go_simp
              simp only [List.setIfInBounds_toArray, List.set_cons_zero, List.set_cons_succ]
              refine take_at 24 7 (.bool false) rfl (by kernel_rfl) (by kernel_rfl) (by kernel_rfl) (by kernel_rfl) (fun _ _ _ h => h) (Or.inl ⟨by kernel_rfl, ?_⟩) hHeld ?_
              · intro wz hSw
                obtain ⟨s1, s2, s3, s4, s5, s6, s7, s8, s9⟩ := hSw
                go_simp
              simp only [List.setIfInBounds_toArray, List.set_cons_zero, List.set_cons_succ]
              refine wpAnyH_done (by kernel_rfl) ?_ _
              go_wp2_with fail
              go_roundw
              case rel => exact ⟨n + 1, false, by omega, by go_num, rfl, HNEXT.out _ HG.out, hbox2⟩
              case measure => simp [intOf] <;> omega
            | true =>
              cases yb with
              | false =>
                have HG := hide (show goesAt is asked c n = true by rw [HGA.out]; rfl)
                go_wp2_with fail
                refine wp_region_held_drew (S := (fun W => W.cell? ⟨sb, 1, none⟩ = some (.slice (some ⟨g, 0, none⟩) is.length cap) ∧ W.cell? ⟨g, i * 4 + 2, none⟩ = some (.bool false) ∧ W.cell? ⟨g, i * 4 + 3, none⟩ = some (.slice ro wl rc) ∧ W.cell? ⟨w.heap.size, 0, none⟩ = some (.int .i64 (c 0)) ∧ W.cell? ⟨w.heap.size, 1, none⟩ = some (.int .i64 (c 1)) ∧ W.cell? ⟨w.heap.size, 2, none⟩ = some (.int .i64 (c 2)) ∧ W.cell? ⟨w.heap.size, 3, none⟩ = some (.int .i64 (c 3)) ∧ W.cell? ⟨w.heap.size, 4, none⟩ = some (.int .i64 (c 4)) ∧ W.cell? ⟨w.heap.size, 5, none⟩ = some (.int .i64 (c 5)))) (by kernel_rfl) (HSS.out _ (below_drawn (Below.refl _ _) 1) ⟨hbox.at_, ⟨hbox.bel.os, hbox.bel.tape, hbox.bel.output, hbox.bel.size, hbox.bel.block⟩⟩) (fun hHeld => ?_)
                refine take_at 0 39 (.pointer (some ⟨sb, 0, none⟩)) rfl (by kernel_rfl) (by kernel_rfl) (by kernel_rfl) (by kernel_rfl) (fun _ _ _ h => h) (Or.inl ⟨by kernel_rfl, ?_⟩) hHeld ?_
                · intro wz hSw
                  obtain ⟨s1, s2, s3, s4, s5, s6, s7, s8, s9⟩ := hSw
                  go_simp
                simp only [List.setIfInBounds_toArray, List.set_cons_zero, List.set_cons_succ]
                refine take_at 1 40 (.pointer (some ⟨sb, 0, none⟩)) rfl (by kernel_rfl) (by kernel_rfl) (by kernel_rfl) (by kernel_rfl) (fun _ _ _ h => h) (Or.inl ⟨by kernel_rfl, ?_⟩) hHeld ?_
                · intro wz hSw
                  obtain ⟨s1, s2, s3, s4, s5, s6, s7, s8, s9⟩ := hSw
                  go_simp
                simp only [List.setIfInBounds_toArray, List.set_cons_zero, List.set_cons_succ]
                refine take_at 2 41 (.pointer (some ⟨sb, 1, none⟩)) rfl (by kernel_rfl) (by kernel_rfl) (by kernel_rfl) (by kernel_rfl) (fun _ _ _ h => h) (Or.inl ⟨by kernel_rfl, ?_⟩) hHeld ?_
                · intro wz hSw
                  obtain ⟨s1, s2, s3, s4, s5, s6, s7, s8, s9⟩ := hSw
                  go_simp
                simp only [List.setIfInBounds_toArray, List.set_cons_zero, List.set_cons_succ]
                refine take_at 3 42 (.slice (some ⟨g, 0, none⟩) is.length cap) rfl (by kernel_rfl) (by kernel_rfl) (by kernel_rfl) (by kernel_rfl) (fun _ _ _ h => h) (Or.inl ⟨by kernel_rfl, ?_⟩) hHeld ?_
                · intro wz hSw
                  obtain ⟨s1, s2, s3, s4, s5, s6, s7, s8, s9⟩ := hSw
                  go_simp
                simp only [List.setIfInBounds_toArray, List.set_cons_zero, List.set_cons_succ]
                refine take_at 4 43 (.int .i64 (i : Int)) rfl (by kernel_rfl) (by kernel_rfl) (by kernel_rfl) (by kernel_rfl) (fun _ _ _ h => h) (Or.inl ⟨by kernel_rfl, ?_⟩) hHeld ?_
                · intro wz hSw
                  obtain ⟨s1, s2, s3, s4, s5, s6, s7, s8, s9⟩ := hSw
                  go_simp
                simp only [List.setIfInBounds_toArray, List.set_cons_zero, List.set_cons_succ]
                refine take_at 5 44 (.pointer (some ⟨g, i * 4, none⟩)) rfl (by kernel_rfl) (by kernel_rfl) (by kernel_rfl) (by kernel_rfl) (fun _ _ _ h => h) (Or.inl ⟨by kernel_rfl, ?_⟩) hHeld ?_
                · intro wz hSw
                  obtain ⟨s1, s2, s3, s4, s5, s6, s7, s8, s9⟩ := hSw
                  go_simp
                simp only [List.setIfInBounds_toArray, List.set_cons_zero, List.set_cons_succ]
                refine take_at 6 45 (.pointer (some ⟨g, i * 4 + 3, none⟩)) rfl (by kernel_rfl) (by kernel_rfl) (by kernel_rfl) (by kernel_rfl) (fun _ _ _ h => h) (Or.inl ⟨by kernel_rfl, ?_⟩) hHeld ?_
                · intro wz hSw
                  obtain ⟨s1, s2, s3, s4, s5, s6, s7, s8, s9⟩ := hSw
                  go_simp
                simp only [List.setIfInBounds_toArray, List.set_cons_zero, List.set_cons_succ]
                refine take_at 7 46 (.slice ro wl rc) rfl (by kernel_rfl) (by kernel_rfl) (by kernel_rfl) (by kernel_rfl) (fun _ _ _ h => h) (Or.inl ⟨by kernel_rfl, ?_⟩) hHeld ?_
                · intro wz hSw
                  obtain ⟨s1, s2, s3, s4, s5, s6, s7, s8, s9⟩ := hSw
                  go_simp
                simp only [List.setIfInBounds_toArray, List.set_cons_zero, List.set_cons_succ]
                refine take_at 8 47 (.agg (picksV c)) rfl (by kernel_rfl) (by kernel_rfl) (by kernel_rfl) (by kernel_rfl) (fun _ _ _ h => h) (Or.inl ⟨by kernel_rfl, ?_⟩) hHeld ?_
                · intro wz hSw
                  obtain ⟨s1, s2, s3, s4, s5, s6, s7, s8, s9⟩ := hSw
                  go_simp
                simp only [List.setIfInBounds_toArray, List.set_cons_zero, List.set_cons_succ]
                refine wpAnyH_ready (rs := [9]) (by kernel_rfl) (by simp) ?_
                refine AllReadyH.cons (o := { dst := some 48, op := .call { callee := .value (.func 57), args := #[.tmp 46, .tmp 47], argTypes := #[49, 55] }, type := 4, pos := "choice.go:44", after := #[{ on := 7, ground := .data }, { on := 8, ground := .data }], guard := none }) rfl (fun K hK => ?_) AllReadyH.nil
                go_simp
                refine (HMET.out wr.drew hRow.drew).mono ?_
                rintro e w2 ⟨rfl, hbb⟩
                have hb2 : Below wr.heap.size wr w2 := ⟨hbb.os, hbb.tape, hbb.output, hbb.size, hbb.block⟩
                have hbox2 := hbox.step hbb rfl rfl rfl rfl
                have hS2 := HSS.out w2 hb2 hbox2
                clear hbb
                go_wp2_with fail
                refine hK.out _ _ hS2 (fun hHeld => ?_)
                clear hK K
                try simp only [Act.put, List.setIfInBounds_toArray, List.set_cons_zero, List.set_cons_succ]
                refine take_at 10 49 (.bool true) rfl (by kernel_rfl) (by kernel_rfl) (by kernel_rfl) (by kernel_rfl) (fun _ _ _ h => h) (Or.inl ⟨by kernel_rfl, ?_⟩) hHeld ?_
                · intro wz hSw
                  obtain ⟨s1, s2, s3, s4, s5, s6, s7, s8, s9⟩ := hSw
                  go_simp
                simp only [List.setIfInBounds_toArray, List.set_cons_zero, List.set_cons_succ]
                refine take_at 11 50 (.pointer (some ⟨sb, 0, none⟩)) rfl (by kernel_rfl) (by kernel_rfl) (by kernel_rfl) (by kernel_rfl) (fun _ _ _ h => h) (Or.inl ⟨by kernel_rfl, ?_⟩) hHeld ?_
                · intro wz hSw
                  obtain ⟨s1, s2, s3, s4, s5, s6, s7, s8, s9⟩ := hSw
                  go_simp
                simp only [List.setIfInBounds_toArray, List.set_cons_zero, List.set_cons_succ]
                refine take_at 12 51 (.pointer (some ⟨sb, 0, none⟩)) rfl (by kernel_rfl) (by kernel_rfl) (by kernel_rfl) (by kernel_rfl) (fun _ _ _ h => h) (Or.inl ⟨by kernel_rfl, ?_⟩) hHeld ?_
                · intro wz hSw
                  obtain ⟨s1, s2, s3, s4, s5, s6, s7, s8, s9⟩ := hSw
                  go_simp
                simp only [List.setIfInBounds_toArray, List.set_cons_zero, List.set_cons_succ]
                refine take_at 13 52 (.pointer (some ⟨sb, 1, none⟩)) rfl (by kernel_rfl) (by kernel_rfl) (by kernel_rfl) (by kernel_rfl) (fun _ _ _ h => h) (Or.inl ⟨by kernel_rfl, ?_⟩) hHeld ?_
                · intro wz hSw
                  obtain ⟨s1, s2, s3, s4, s5, s6, s7, s8, s9⟩ := hSw
                  go_simp
                simp only [List.setIfInBounds_toArray, List.set_cons_zero, List.set_cons_succ]
                refine take_at 14 53 (.slice (some ⟨g, 0, none⟩) is.length cap) rfl (by kernel_rfl) (by kernel_rfl) (by kernel_rfl) (by kernel_rfl) (fun _ _ _ h => h) (Or.inl ⟨by kernel_rfl, ?_⟩) hHeld ?_
                · intro wz hSw
                  obtain ⟨s1, s2, s3, s4, s5, s6, s7, s8, s9⟩ := hSw
                  go_simp
                simp only [List.setIfInBounds_toArray, List.set_cons_zero, List.set_cons_succ]
                refine take_at 15 54 (.int .i64 (i : Int)) rfl (by kernel_rfl) (by kernel_rfl) (by kernel_rfl) (by kernel_rfl) (fun _ _ _ h => h) (Or.inl ⟨by kernel_rfl, ?_⟩) hHeld ?_
                · intro wz hSw
                  obtain ⟨s1, s2, s3, s4, s5, s6, s7, s8, s9⟩ := hSw
                  go_simp
                simp only [List.setIfInBounds_toArray, List.set_cons_zero, List.set_cons_succ]
                refine take_at 16 55 (.pointer (some ⟨g, i * 4, none⟩)) rfl (by kernel_rfl) (by kernel_rfl) (by kernel_rfl) (by kernel_rfl) (fun _ _ _ h => h) (Or.inl ⟨by kernel_rfl, ?_⟩) hHeld ?_
                · intro wz hSw
                  obtain ⟨s1, s2, s3, s4, s5, s6, s7, s8, s9⟩ := hSw
                  go_simp
                simp only [List.setIfInBounds_toArray, List.set_cons_zero, List.set_cons_succ]
                refine take_at 17 56 (.pointer (some ⟨g, i * 4 + 2, none⟩)) rfl (by kernel_rfl) (by kernel_rfl) (by kernel_rfl) (by kernel_rfl) (fun _ _ _ h => h) (Or.inl ⟨by kernel_rfl, ?_⟩) hHeld ?_
                · intro wz hSw
                  obtain ⟨s1, s2, s3, s4, s5, s6, s7, s8, s9⟩ := hSw
                  go_simp
                simp only [List.setIfInBounds_toArray, List.set_cons_zero, List.set_cons_succ]
                refine take_at 18 57 (.bool false) rfl (by kernel_rfl) (by kernel_rfl) (by kernel_rfl) (by kernel_rfl) (fun _ _ _ h => h) (Or.inl ⟨by kernel_rfl, ?_⟩) hHeld ?_
                · intro wz hSw
                  obtain ⟨s1, s2, s3, s4, s5, s6, s7, s8, s9⟩ := hSw
                  go_simp
                simp only [List.setIfInBounds_toArray, List.set_cons_zero, List.set_cons_succ]
                refine take_at 19 58 (.bool true) rfl (by kernel_rfl) (by kernel_rfl) (by kernel_rfl) (by kernel_rfl) (fun _ _ _ h => h) (Or.inl ⟨by kernel_rfl, ?_⟩) hHeld ?_
                · intro wz hSw
                  obtain ⟨s1, s2, s3, s4, s5, s6, s7, s8, s9⟩ := hSw
                  go_simp
                simp only [List.setIfInBounds_toArray, List.set_cons_zero, List.set_cons_succ]
                refine take_at 20 59 (.bool true) rfl (by kernel_rfl) (by kernel_rfl) (by kernel_rfl) (by kernel_rfl) (fun _ _ _ h => h) (Or.inl ⟨by kernel_rfl, ?_⟩) hHeld ?_
                · intro wz hSw
                  obtain ⟨s1, s2, s3, s4, s5, s6, s7, s8, s9⟩ := hSw
                  go_simp
                simp only [List.setIfInBounds_toArray, List.set_cons_zero, List.set_cons_succ]
                refine take_at 21 60 undef rfl (by kernel_rfl) (by kernel_rfl) (by kernel_rfl) (by kernel_rfl) (fun _ _ _ h => h) (Or.inr ⟨by kernel_rfl, rfl⟩) hHeld ?_
                simp only [List.setIfInBounds_toArray, List.set_cons_zero, List.set_cons_succ]
                refine take_at 22 61 (.bool true) rfl (by kernel_rfl) (by kernel_rfl) (by kernel_rfl) (by kernel_rfl) (fun _ _ _ h => h) (Or.inl ⟨by kernel_rfl, ?_⟩) hHeld ?_
                · intro wz hSw
                  obtain ⟨s1, s2, s3, s4, s5, s6, s7, s8, s9⟩ := hSw
                  go_simp
                simp only [List.setIfInBounds_toArray, List.set_cons_zero, List.set_cons_succ]
                refine take_at 23 62 (.bool true) rfl (by kernel_rfl) (by kernel_rfl) (by kernel_rfl) (by kernel_rfl) (fun _ _ _ h => h) (Or.inl ⟨by kernel_rfl, ?_⟩) hHeld ?_
                · intro wz hSw
                  obtain ⟨s1, s2, s3, s4, s5, s6, s7, s8, s9⟩ := hSw
                  go_simp
                simp only [List.setIfInBounds_toArray, List.set_cons_zero, List.set_cons_succ]
                refine take_at 24 7 (.bool true) rfl (by kernel_rfl) (by kernel_rfl) (by kernel_rfl) (by kernel_rfl) (fun _ _ _ h => h) (Or.inl ⟨by kernel_rfl, ?_⟩) hHeld ?_
                · intro wz hSw
                  obtain ⟨s1, s2, s3, s4, s5, s6, s7, s8, s9⟩ := hSw
                  go_simp
                simp only [List.setIfInBounds_toArray, List.set_cons_zero, List.set_cons_succ]
                refine wpAnyH_done (by kernel_rfl) ?_ _
                go_wp2_with fail
                go_roundw
                case rel => exact ⟨n + 1, true, by omega, by go_num, rfl, HNEXT.out _ HG.out, hbox2⟩
                case measure => simp [intOf] <;> omega
              | true =>
                have HG := hide (show goesAt is asked c n = pb by rw [HGA.out]; simp)
                go_wp2_with fail
                refine wp_region_held_drew (S := (fun W => W.cell? ⟨sb, 1, none⟩ = some (.slice (some ⟨g, 0, none⟩) is.length cap) ∧ W.cell? ⟨g, i * 4 + 2, none⟩ = some (.bool true) ∧ W.cell? ⟨g, i * 4 + 3, none⟩ = some (.slice ro wl rc) ∧ W.cell? ⟨w.heap.size, 0, none⟩ = some (.int .i64 (c 0)) ∧ W.cell? ⟨w.heap.size, 1, none⟩ = some (.int .i64 (c 1)) ∧ W.cell? ⟨w.heap.size, 2, none⟩ = some (.int .i64 (c 2)) ∧ W.cell? ⟨w.heap.size, 3, none⟩ = some (.int .i64 (c 3)) ∧ W.cell? ⟨w.heap.size, 4, none⟩ = some (.int .i64 (c 4)) ∧ W.cell? ⟨w.heap.size, 5, none⟩ = some (.int .i64 (c 5)))) (by kernel_rfl) (HSS.out _ (below_drawn (Below.refl _ _) 1) ⟨hbox.at_, ⟨hbox.bel.os, hbox.bel.tape, hbox.bel.output, hbox.bel.size, hbox.bel.block⟩⟩) (fun hHeld => ?_)
                refine take_at 0 39 (.pointer (some ⟨sb, 0, none⟩)) rfl (by kernel_rfl) (by kernel_rfl) (by kernel_rfl) (by kernel_rfl) (fun _ _ _ h => h) (Or.inl ⟨by kernel_rfl, ?_⟩) hHeld ?_
                · intro wz hSw
                  obtain ⟨s1, s2, s3, s4, s5, s6, s7, s8, s9⟩ := hSw
                  go_simp
                simp only [List.setIfInBounds_toArray, List.set_cons_zero, List.set_cons_succ]
                refine take_at 1 40 (.pointer (some ⟨sb, 0, none⟩)) rfl (by kernel_rfl) (by kernel_rfl) (by kernel_rfl) (by kernel_rfl) (fun _ _ _ h => h) (Or.inl ⟨by kernel_rfl, ?_⟩) hHeld ?_
                · intro wz hSw
                  obtain ⟨s1, s2, s3, s4, s5, s6, s7, s8, s9⟩ := hSw
                  go_simp
                simp only [List.setIfInBounds_toArray, List.set_cons_zero, List.set_cons_succ]
                refine take_at 2 41 (.pointer (some ⟨sb, 1, none⟩)) rfl (by kernel_rfl) (by kernel_rfl) (by kernel_rfl) (by kernel_rfl) (fun _ _ _ h => h) (Or.inl ⟨by kernel_rfl, ?_⟩) hHeld ?_
                · intro wz hSw
                  obtain ⟨s1, s2, s3, s4, s5, s6, s7, s8, s9⟩ := hSw
                  go_simp
                simp only [List.setIfInBounds_toArray, List.set_cons_zero, List.set_cons_succ]
                refine take_at 3 42 (.slice (some ⟨g, 0, none⟩) is.length cap) rfl (by kernel_rfl) (by kernel_rfl) (by kernel_rfl) (by kernel_rfl) (fun _ _ _ h => h) (Or.inl ⟨by kernel_rfl, ?_⟩) hHeld ?_
                · intro wz hSw
                  obtain ⟨s1, s2, s3, s4, s5, s6, s7, s8, s9⟩ := hSw
                  go_simp
                simp only [List.setIfInBounds_toArray, List.set_cons_zero, List.set_cons_succ]
                refine take_at 4 43 (.int .i64 (i : Int)) rfl (by kernel_rfl) (by kernel_rfl) (by kernel_rfl) (by kernel_rfl) (fun _ _ _ h => h) (Or.inl ⟨by kernel_rfl, ?_⟩) hHeld ?_
                · intro wz hSw
                  obtain ⟨s1, s2, s3, s4, s5, s6, s7, s8, s9⟩ := hSw
                  go_simp
                simp only [List.setIfInBounds_toArray, List.set_cons_zero, List.set_cons_succ]
                refine take_at 5 44 (.pointer (some ⟨g, i * 4, none⟩)) rfl (by kernel_rfl) (by kernel_rfl) (by kernel_rfl) (by kernel_rfl) (fun _ _ _ h => h) (Or.inl ⟨by kernel_rfl, ?_⟩) hHeld ?_
                · intro wz hSw
                  obtain ⟨s1, s2, s3, s4, s5, s6, s7, s8, s9⟩ := hSw
                  go_simp
                simp only [List.setIfInBounds_toArray, List.set_cons_zero, List.set_cons_succ]
                refine take_at 6 45 (.pointer (some ⟨g, i * 4 + 3, none⟩)) rfl (by kernel_rfl) (by kernel_rfl) (by kernel_rfl) (by kernel_rfl) (fun _ _ _ h => h) (Or.inl ⟨by kernel_rfl, ?_⟩) hHeld ?_
                · intro wz hSw
                  obtain ⟨s1, s2, s3, s4, s5, s6, s7, s8, s9⟩ := hSw
                  go_simp
                simp only [List.setIfInBounds_toArray, List.set_cons_zero, List.set_cons_succ]
                refine take_at 7 46 (.slice ro wl rc) rfl (by kernel_rfl) (by kernel_rfl) (by kernel_rfl) (by kernel_rfl) (fun _ _ _ h => h) (Or.inl ⟨by kernel_rfl, ?_⟩) hHeld ?_
                · intro wz hSw
                  obtain ⟨s1, s2, s3, s4, s5, s6, s7, s8, s9⟩ := hSw
                  go_simp
                simp only [List.setIfInBounds_toArray, List.set_cons_zero, List.set_cons_succ]
                refine take_at 8 47 (.agg (picksV c)) rfl (by kernel_rfl) (by kernel_rfl) (by kernel_rfl) (by kernel_rfl) (fun _ _ _ h => h) (Or.inl ⟨by kernel_rfl, ?_⟩) hHeld ?_
                · intro wz hSw
                  obtain ⟨s1, s2, s3, s4, s5, s6, s7, s8, s9⟩ := hSw
                  go_simp
                simp only [List.setIfInBounds_toArray, List.set_cons_zero, List.set_cons_succ]
                refine wpAnyH_ready (rs := [9]) (by kernel_rfl) (by simp) ?_
                refine AllReadyH.cons (o := { dst := some 48, op := .call { callee := .value (.func 57), args := #[.tmp 46, .tmp 47], argTypes := #[49, 55] }, type := 4, pos := "choice.go:44", after := #[{ on := 7, ground := .data }, { on := 8, ground := .data }], guard := none }) rfl (fun K hK => ?_) AllReadyH.nil
                go_simp
                refine (HMET.out wr.drew hRow.drew).mono ?_
                rintro e w2 ⟨rfl, hbb⟩
                have hb2 : Below wr.heap.size wr w2 := ⟨hbb.os, hbb.tape, hbb.output, hbb.size, hbb.block⟩
                have hbox2 := hbox.step hbb rfl rfl rfl rfl
                have hS2 := HSS.out w2 hb2 hbox2
                clear hbb
                go_wp2_with fail
                refine hK.out _ _ hS2 (fun hHeld => ?_)
                clear hK K
                try simp only [Act.put, List.setIfInBounds_toArray, List.set_cons_zero, List.set_cons_succ]
                refine take_at 10 49 (.bool true) rfl (by kernel_rfl) (by kernel_rfl) (by kernel_rfl) (by kernel_rfl) (fun _ _ _ h => h) (Or.inl ⟨by kernel_rfl, ?_⟩) hHeld ?_
                · intro wz hSw
                  obtain ⟨s1, s2, s3, s4, s5, s6, s7, s8, s9⟩ := hSw
                  go_simp
                simp only [List.setIfInBounds_toArray, List.set_cons_zero, List.set_cons_succ]
                refine take_at 11 50 (.pointer (some ⟨sb, 0, none⟩)) rfl (by kernel_rfl) (by kernel_rfl) (by kernel_rfl) (by kernel_rfl) (fun _ _ _ h => h) (Or.inl ⟨by kernel_rfl, ?_⟩) hHeld ?_
                · intro wz hSw
                  obtain ⟨s1, s2, s3, s4, s5, s6, s7, s8, s9⟩ := hSw
                  go_simp
                simp only [List.setIfInBounds_toArray, List.set_cons_zero, List.set_cons_succ]
                refine take_at 12 51 (.pointer (some ⟨sb, 0, none⟩)) rfl (by kernel_rfl) (by kernel_rfl) (by kernel_rfl) (by kernel_rfl) (fun _ _ _ h => h) (Or.inl ⟨by kernel_rfl, ?_⟩) hHeld ?_
                · intro wz hSw
                  obtain ⟨s1, s2, s3, s4, s5, s6, s7, s8, s9⟩ := hSw
                  go_simp
                simp only [List.setIfInBounds_toArray, List.set_cons_zero, List.set_cons_succ]
                refine take_at 13 52 (.pointer (some ⟨sb, 1, none⟩)) rfl (by kernel_rfl) (by kernel_rfl) (by kernel_rfl) (by kernel_rfl) (fun _ _ _ h => h) (Or.inl ⟨by kernel_rfl, ?_⟩) hHeld ?_
                · intro wz hSw
                  obtain ⟨s1, s2, s3, s4, s5, s6, s7, s8, s9⟩ := hSw
                  go_simp
                simp only [List.setIfInBounds_toArray, List.set_cons_zero, List.set_cons_succ]
                refine take_at 14 53 (.slice (some ⟨g, 0, none⟩) is.length cap) rfl (by kernel_rfl) (by kernel_rfl) (by kernel_rfl) (by kernel_rfl) (fun _ _ _ h => h) (Or.inl ⟨by kernel_rfl, ?_⟩) hHeld ?_
                · intro wz hSw
                  obtain ⟨s1, s2, s3, s4, s5, s6, s7, s8, s9⟩ := hSw
                  go_simp
                simp only [List.setIfInBounds_toArray, List.set_cons_zero, List.set_cons_succ]
                refine take_at 15 54 (.int .i64 (i : Int)) rfl (by kernel_rfl) (by kernel_rfl) (by kernel_rfl) (by kernel_rfl) (fun _ _ _ h => h) (Or.inl ⟨by kernel_rfl, ?_⟩) hHeld ?_
                · intro wz hSw
                  obtain ⟨s1, s2, s3, s4, s5, s6, s7, s8, s9⟩ := hSw
                  go_simp
                simp only [List.setIfInBounds_toArray, List.set_cons_zero, List.set_cons_succ]
                refine take_at 16 55 (.pointer (some ⟨g, i * 4, none⟩)) rfl (by kernel_rfl) (by kernel_rfl) (by kernel_rfl) (by kernel_rfl) (fun _ _ _ h => h) (Or.inl ⟨by kernel_rfl, ?_⟩) hHeld ?_
                · intro wz hSw
                  obtain ⟨s1, s2, s3, s4, s5, s6, s7, s8, s9⟩ := hSw
                  go_simp
                simp only [List.setIfInBounds_toArray, List.set_cons_zero, List.set_cons_succ]
                refine take_at 17 56 (.pointer (some ⟨g, i * 4 + 2, none⟩)) rfl (by kernel_rfl) (by kernel_rfl) (by kernel_rfl) (by kernel_rfl) (fun _ _ _ h => h) (Or.inl ⟨by kernel_rfl, ?_⟩) hHeld ?_
                · intro wz hSw
                  obtain ⟨s1, s2, s3, s4, s5, s6, s7, s8, s9⟩ := hSw
                  go_simp
                simp only [List.setIfInBounds_toArray, List.set_cons_zero, List.set_cons_succ]
                refine take_at 18 57 (.bool true) rfl (by kernel_rfl) (by kernel_rfl) (by kernel_rfl) (by kernel_rfl) (fun _ _ _ h => h) (Or.inl ⟨by kernel_rfl, ?_⟩) hHeld ?_
                · intro wz hSw
                  obtain ⟨s1, s2, s3, s4, s5, s6, s7, s8, s9⟩ := hSw
                  go_simp
                simp only [List.setIfInBounds_toArray, List.set_cons_zero, List.set_cons_succ]
                refine take_at 19 58 (.bool false) rfl (by kernel_rfl) (by kernel_rfl) (by kernel_rfl) (by kernel_rfl) (fun _ _ _ h => h) (Or.inl ⟨by kernel_rfl, ?_⟩) hHeld ?_
                · intro wz hSw
                  obtain ⟨s1, s2, s3, s4, s5, s6, s7, s8, s9⟩ := hSw
                  go_simp
                simp only [List.setIfInBounds_toArray, List.set_cons_zero, List.set_cons_succ]
                refine take_at 20 59 (.bool false) rfl (by kernel_rfl) (by kernel_rfl) (by kernel_rfl) (by kernel_rfl) (fun _ _ _ h => h) (Or.inl ⟨by kernel_rfl, ?_⟩) hHeld ?_
                · intro wz hSw
                  obtain ⟨s1, s2, s3, s4, s5, s6, s7, s8, s9⟩ := hSw
                  go_simp
                simp only [List.setIfInBounds_toArray, List.set_cons_zero, List.set_cons_succ]
                refine take_at 21 60 (.bool pb) rfl (by kernel_rfl) (by kernel_rfl) (by kernel_rfl) (by kernel_rfl) (fun _ _ _ h => h) (Or.inl ⟨by kernel_rfl, ?_⟩) hHeld ?_
                · intro wz hSw
                  obtain ⟨s1, s2, s3, s4, s5, s6, s7, s8, s9⟩ := hSw
                  go_simp
                simp only [List.setIfInBounds_toArray, List.set_cons_zero, List.set_cons_succ]
                refine take_at 22 61 (.bool pb) rfl (by kernel_rfl) (by kernel_rfl) (by kernel_rfl) (by kernel_rfl) (fun _ _ _ h => h) (Or.inl ⟨by kernel_rfl, ?_⟩) hHeld ?_
                · intro wz hSw
                  obtain ⟨s1, s2, s3, s4, s5, s6, s7, s8, s9⟩ := hSw
                  go_simp
                simp only [List.setIfInBounds_toArray, List.set_cons_zero, List.set_cons_succ]
                refine take_at 23 62 (.bool pb) rfl (by kernel_rfl) (by kernel_rfl) (by kernel_rfl) (by kernel_rfl) (fun _ _ _ h => h) (Or.inl ⟨by kernel_rfl, ?_⟩) hHeld ?_
                · intro wz hSw
                  obtain ⟨s1, s2, s3, s4, s5, s6, s7, s8, s9⟩ := hSw
                  go_simp
                simp only [List.setIfInBounds_toArray, List.set_cons_zero, List.set_cons_succ]
                refine take_at 24 7 (.bool pb) rfl (by kernel_rfl) (by kernel_rfl) (by kernel_rfl) (by kernel_rfl) (fun _ _ _ h => h) (Or.inl ⟨by kernel_rfl, ?_⟩) hHeld ?_
                · intro wz hSw
                  obtain ⟨s1, s2, s3, s4, s5, s6, s7, s8, s9⟩ := hSw
                  go_simp
                simp only [List.setIfInBounds_toArray, List.set_cons_zero, List.set_cons_succ]
                refine wpAnyH_done (by kernel_rfl) ?_ _
                go_wp2_with fail
                go_roundw
                case rel => exact ⟨n + 1, pb, by omega, by go_num, rfl, HNEXT.out _ HG.out, hbox2⟩
                case measure => simp [intOf] <;> omega
          · have HE := hide (goesAt_no (is := is) (asked := asked) hlt (show goesAt is asked c n = false by unfold goesAt; rw [h0b, Bool.false_or, q3]))
            have HTH := hide (fun W (h : ShopAt W sb db ao cap is) => there_none sb db ao cap is n (c n) W h q1)
            go_wp2_with fail
            refine (HTH.out _ hrw).mono ?_
            rintro e w2 ⟨rfl, hw2⟩
            have hw3 := hw2.symm
            subst hw3
            clear hw2 HTH
            go_wp2_with fail
            go_ret
            exact ⟨by rw [HE.out]; rfl, hbox.bel⟩
      · have hlt' : decide ((n : Int) < 6) = false := decide_eq_false (by omega)
        have HE := hide (show goesN is asked c = true from by have e6 : n = 6 := (by omega); subst e6; exact hg.symm)
        clear hg
        go_wp2_with fail
        go_ret
        exact ⟨by rw [HE.out]; rfl, hbox.bel⟩

end

section
open Go.RowKit

abbrev boolsV (o : Nat → Bool) : Array Value := #[.bool (o 0), .bool (o 1), .bool (o 2), .bool (o 3), .bool (o 4), .bool (o 5)]

def setB (o : Nat → Bool) (n : Nat) : Nat → Bool := fun m => if m = n then true else o m

theorem bools_cell {W : World} {b : Nat} {o : Nat → Bool} {t : TypeId} {fr : Nat × Nat} (h : W.heap[b]? = some (.cells (boolsV o) t fr)) {n : Nat} (hn : n < 6) : W.cell? ⟨b, n, none⟩ = some (.bool (o n)) := by
  have hv : n = 0 ∨ n = 1 ∨ n = 2 ∨ n = 3 ∨ n = 4 ∨ n = 5 := by omega
  rcases hv with rfl | rfl | rfl | rfl | rfl | rfl
  · exact (cell_of_heap h 0).trans rfl
  · exact (cell_of_heap h 1).trans rfl
  · exact (cell_of_heap h 2).trans rfl
  · exact (cell_of_heap h 3).trans rfl
  · exact (cell_of_heap h 4).trans rfl
  · exact (cell_of_heap h 5).trans rfl

theorem bools_set {W : World} {b : Nat} {o : Nat → Bool} {t : TypeId} {fr : Nat × Nat} (h : W.heap[b]? = some (.cells (boolsV o) t fr)) {n : Nat} (hn : n < 6) : (W.setCell ⟨b, n, none⟩ (.bool true)).heap[b]? = some (.cells (boolsV (setB o n)) t fr) := by
  have e : (boolsV o).set! n (.bool true) = boolsV (setB o n) := by
    have hv : n = 0 ∨ n = 1 ∨ n = 2 ∨ n = 3 ∨ n = 4 ∨ n = 5 := by omega
    rcases hv with rfl | rfl | rfl | rfl | rfl | rfl <;> simp [setB]
  rw [← e]
  simp [World.setCell, Array.getElem?_modify, h]

/-- A choice, and the names that are on. -/
structure OnAt (w wr : World) (c : Nat → Nat) (o : Nat → Bool) : Prop where
  box : wr.heap[w.heap.size]? = some (.cells (picksV c) 55 (0, 0))
  on : wr.heap[w.heap.size + 1]? = some (.cells (boolsV o) 113 (0, 0))
  bel : Below w.heap.size w wr

theorem OnAt.set {w wr : World} {c : Nat → Nat} {o : Nat → Bool} (h : OnAt w wr c o) {n : Nat} (hn : n < 6) : OnAt w (wr.setCell ⟨w.heap.size + 1, n, none⟩ (.bool true)) c (setB o n) := by
  refine ⟨?_, bools_set h.on hn, h.bel.setCell (Nat.le_succ _) _⟩
  rw [Below.heap_setCell _ _ _ _ (by simp)]
  exact h.box

theorem on_start (w : World) (c : Nat → Nat) : OnAt w ((w.alloc (.cells (picksV c) 55)).alloc (.cells (boolsV fun _ => false) 113)) c (fun _ => false) := by
  refine ⟨?_, heap2_new w _ _, ((Below.refl _ _).alloc (Nat.le_refl _) _).alloc (by simp) _⟩
  rw [Below.heap_alloc _ _ _ (by simp)]
  exact heap1_new w _

def leB (o1 o2 : Nat → Bool) : Prop := ∀ n, o1 n = true → o2 n = true

theorem leB_set (o : Nat → Bool) (n : Nat) : leB o (setB o n) := fun m h => by unfold setB; split; rfl; exact h
theorem setB_on (o : Nat → Bool) (n : Nat) : setB o n n = true := if_pos rfl
theorem setB_only {o : Nat → Bool} {n m : Nat} (h : setB o n m = true) : o m = true ∨ m = n := by
  unfold setB at h
  split at h
  · exact Or.inr (by assumption)
  · exact Or.inl h
theorem setB_same {o : Nat → Bool} {n : Nat} (h : o n = true) : setB o n = o := by
  funext m
  unfold setB
  split
  · rename_i e; rw [e, h]
  · rfl

/-- What is chosen of a name that is on wants nothing that is not. -/
def WantsOn (is : List It) (c : Nat → Nat) (n : Nat) (o : Nat → Bool) : Prop := ∀ x, is.find? (itP n (c n)) = some x → ∀ y ∈ x.ws, o y.n = true

def ClosedB (is : List It) (c : Nat → Nat) (o : Nat → Bool) : Prop := ∀ n, n < 6 → o n = true → WantsOn is c n o

def cntB (o : Nat → Bool) : Nat := (List.range 6).countP o

theorem cnt_more {o1 o2 : Nat → Bool} (h : leB o1 o2) {n : Nat} (hn : n < 6) (h1 : o1 n = false) (h2 : o2 n = true) : cntB o1 < cntB o2 :=
  countP_less (List.range 6) (fun x _ hx => h x hx) (List.mem_range.2 hn) h2 h1

theorem cnt_all {o : Nat → Bool} (h : 6 ≤ cntB o) : ∀ n, n < 6 → o n = true := by
  have hl : cntB o = (List.range 6).length := by
    have := List.countP_le_length (p := o) (l := List.range 6)
    unfold cntB at h ⊢
    simp at this ⊢
    omega
  have := (List.countP_eq_length.1 hl)
  exact fun n hn => this n (List.mem_range.2 hn)

/-- One name of a round. -/
structure Rnd (is : List It) (c : Nat → Nat) (o0 : Nat → Bool) (n : Nat) (o : Nat → Bool) : Prop where
  le : leB o0 o
  done : ∀ m, m < n → m < 6 → o0 m = true → WantsOn is c m o
  same : ClosedB is c o0 → o = o0

theorem WantsOn.le {is : List It} {c : Nat → Nat} {n : Nat} {o1 o2 : Nat → Bool} (h : WantsOn is c n o1) (hl : leB o1 o2) : WantsOn is c n o2 := fun x hx y hy => hl _ (h x hx y hy)

theorem Rnd.skip {is : List It} {c : Nat → Nat} {o0 o : Nat → Bool} {n : Nat} (h : Rnd is c o0 n o) (hs : o n = false ∨ is.find? (itP n (c n)) = none) : Rnd is c o0 (n + 1) o := by
  refine ⟨h.le, fun m hm h6 hom => ?_, h.same⟩
  by_cases e : m = n
  · subst e
    rcases hs with hs | hs
    · rw [h.le m hom] at hs; cases hs
    · intro x hx; rw [hs] at hx; cases hx
  · exact h.done m (by omega) h6 hom

theorem Rnd.took {is : List It} {c : Nat → Nat} {o0 o o2 : Nat → Bool} {n : Nat} {x : It} (h : Rnd is c o0 n o) (hn : n < 6) (hon : o n = true) (hx : is.find? (itP n (c n)) = some x) (hl : leB o o2) (hall : ∀ y ∈ x.ws, o2 y.n = true) (honly : ∀ m, o2 m = true → o m = true ∨ ∃ y ∈ x.ws, y.n = m) : Rnd is c o0 (n + 1) o2 := by
  refine ⟨fun m hm => hl m (h.le m hm), fun m hm h6 hom => ?_, fun hcl => ?_⟩
  · by_cases e : m = n
    · subst e
      intro x' hx'
      rw [hx] at hx'
      injection hx' with hx'
      subst hx'
      exact hall
    · exact (h.done m (by omega) h6 hom).le hl
  · have e := h.same hcl
    subst e
    funext m
    cases hb : o m with
    | true => exact hl m hb
    | false =>
      cases hb2 : o2 m with
      | false => rfl
      | true =>
        rcases honly m hb2 with h1 | ⟨y, hy, rfl⟩
        · rw [h1] at hb; cases hb
        · have := hcl n hn hon x hx y hy
          rw [this] at hb
          cases hb

/-- A round brings a name more, or nothing is wanted that is not on. -/
theorem Rnd.end_ {is : List It} {c : Nat → Nat} {o0 o : Nat → Bool} {r : Nat} (h : Rnd is c o0 6 o) (h0 : ClosedB is c o0 ∨ r ≤ cntB o0) : ClosedB is c o ∨ r + 1 ≤ cntB o := by
  by_cases hcl : ClosedB is c o0
  · rw [h.same hcl]
    exact Or.inl hcl
  · have hr := h0.resolve_left hcl
    by_cases hd : ∃ n, n < 6 ∧ o0 n = false ∧ o n = true
    · obtain ⟨n, h6, h1, h2⟩ := hd
      have := cnt_more h.le h6 h1 h2
      exact Or.inr (by omega)
    · refine Or.inl (fun n h6 hon => ?_)
      have h1 : o0 n = true := by
        cases hb : o0 n with
        | true => rfl
        | false => exact absurd ⟨n, h6, hb, hon⟩ hd
      exact h.done n h6 h6 h1

theorem closed_of {is : List It} (hst : Stock is) {c : Nat → Nat} {o : Nat → Bool} (h : ClosedB is c o ∨ 6 ≤ cntB o) : ClosedB is c o := by
  rcases h with h | h
  · exact h
  · intro n _ _ x hx y hy
    exact cnt_all h y.n (hst.nds x (find_it hx).1 y hy).n

end

section
open Go.RowKit

set_option maxHeartbeats 8000000 in
set_option maxRecDepth 100000 in
theorem needed_any (sb db base : Nat) (ao : Option Addr) (cap : Nat) (is : List It) (ra : Option Addr) (rcap : Nat) (asked : List Nd) (c : Nat → Nat) (w : World) (hr : ShopAt w sb db ao cap is) (hrows : ∀ x ∈ is, ItRow w sb x) (hst : Stock is) (hl6 : ∀ x ∈ is, x.ws.length ≤ 6)
    (own : w.ownsRow base 62 3 (.slice ra asked.length rcap) asked.length (ndsCells asked)) (h6 : asked.length ≤ 6) (hok : ∀ x ∈ asked, NdOk x) (_h9 : ∀ n, c n ≤ 9)
    (hneed : ∀ o : Nat → Bool, (∀ x ∈ asked, o x.n = true) → ClosedB is c o → ∀ n, n < 6 → c n ≠ 0 → o n = true) :
    Calls Tryd.prog 24 #[.pointer (some ⟨sb, 0, none⟩), .slice ra asked.length rcap, .agg (picksV c)] w fun e w' => e = .returned (.bool true) ∧ Below w.heap.size w w' := by
  have HO0 := hide (on_start w c)
  have HOWN := hide own
  have HSH := hide hr
  have HROWS := hide hrows
  have HST := hide hst
  have HL6 := hide hl6
  have HNEED := hide hneed
  have HOK := hide hok
  have hslen := hr.len
  clear own hok _h9 hr hrows hst hl6 hneed
  generalize hal : asked.length = al at *
  have HAL := hide hal
  clear hal
  go_enter Tryd.func24, Tryd.ntmps24
  go_wp2_with fail
  go_loopw [8] (fun x wx => ∃ (k : Nat) (o : Nat → Bool), k ≤ al ∧ x = .int .i64 (k : Int) ∧ OnAt w wx c o ∧ ∀ j, (hj : j < asked.length) → j < k → o asked[j].n = true) (fun x _ => al - (intOf x).toNat)
  case atStart => exact ⟨0, _, Nat.zero_le _, rfl, HO0.out, fun j _ h => by omega⟩
  case round =>
    obtain ⟨k, o, hk, rfl, hon, hask⟩ := hrel
    clear HO0
    have HASK := hide hask
    clear hask
    by_cases hlt : k < al
    · have hlt' : (k : Int) < (al : Int) := by omega
      have hkl : k < asked.length := by rw [HAL.out]; exact hlt
      obtain ⟨g, rfl, hx0⟩ := nds_entry (l := asked) (by rw [HAL.out]; exact HOWN.out) k hkl
      have hk2 : wr.heap[g]? = w.heap[g]? := hon.bel.block g (World.block_lt_of_cell? w ⟨g, k * 3, none⟩ hx0.d0)
      have d0 := (World.cell?_of_block (a := ⟨g, k * 3, none⟩) hk2).trans hx0.d0
      have q1 := (HOK.out _ (List.getElem_mem hkl)).n
      have bc := bools_cell hon.on q1
      have bf := frozen_of_heap hon.on
      have q1' : ((asked[k].n : Nat) : Int) < 6 := by omega
      have HF := hide (hon.set q1)
      have HN := hide (show ∀ j, (hj : j < asked.length) → j < k + 1 → setB o asked[k].n asked[j].n = true from fun j hj hjk => by
        by_cases e : j = k
        · subst e; exact setB_on _ _
        · exact leB_set _ _ _ (HASK.out j hj (by omega)))
      clear hx0 hk2 hon
      generalize asked[k].n = yn at *
      generalize o yn = ob at *
      go_wp2_with fail
      go_roundw
      case rel => exact ⟨k + 1, _, by omega, by go_num, HF.out, HN.out⟩
      case measure => simp [intOf] <;> omega
    · have hlt' : ¬ (k : Int) < (al : Int) := by omega
      have HA := hide (show ∀ x ∈ asked, o x.n = true from fun x hx => by
        obtain ⟨j, hj, rfl⟩ := List.getElem_of_mem hx
        exact HASK.out j hj (by rw [HAL.out] at hj; omega))
      have HON := hide hon
      clear HASK hon
      go_wp2_with fail
      obtain ⟨wo, rfl⟩ : ∃ wo : World, wo = wr := ⟨_, rfl⟩
      go_loopw [9, 10, 11, 12] (fun x _ _ _ wx => ∃ (r : Nat) (o : Nat → Bool), r ≤ 6 ∧ x = .int .i64 (r : Int) ∧ OnAt w wx c o ∧ (∀ x ∈ asked, o x.n = true) ∧ (ClosedB is c o ∨ r ≤ cntB o)) (fun x _ _ _ _ => 6 - (intOf x).toNat)
      case atStart => exact ⟨0, o, Nat.zero_le _, rfl, HON.out, HA.out, Or.inr (Nat.zero_le _)⟩
      case round =>
        clear HON HA o
        obtain ⟨r, o0, hr6, rfl, hon, ha, hcl⟩ := hrel
        have HA := hide ha
        have HCL := hide hcl
        have HON := hide hon
        clear ha hcl hon
        by_cases hrl : r < 6
        · have hrl' : (r : Int) < 6 := by omega
          go_wp2_with fail
          obtain ⟨wo, rfl⟩ : ∃ wo : World, wo = wr := ⟨_, rfl⟩
          go_loopw [10, 11, 12] (fun x _ _ wx => ∃ (n : Nat) (o : Nat → Bool), n ≤ 6 ∧ x = .int .i64 (n : Int) ∧ OnAt w wx c o ∧ Rnd is c o0 n o) (fun x _ _ _ => 6 - (intOf x).toNat)
          case atStart => exact ⟨0, o0, Nat.zero_le _, rfl, HON.out, fun _ h => h, fun m hm => by omega, fun _ => rfl⟩
          case round =>
            clear HON
            obtain ⟨n, o, hn6, rfl, hon, hrnd⟩ := hrel
            have HRND := hide hrnd
            clear hrnd
            by_cases hnl : n < 6
            · have hnl' : (n : Int) < 6 := by omega
              have hn0 : (0 : Int) ≤ (n : Int) := by omega
              have c1 := picks_cell hon.box hnl
              have b1 := bools_cell hon.on hnl
              have hrw := HSH.out.below hon.bel
              rcases find_cases (itP n (c n)) is with ⟨i, hi, q1, q2, q3⟩ | ⟨q1, q3⟩
              · have HTH := hide (there_some sb db ao cap is n (c n) _ hrw i hi q1 q2)
                obtain ⟨g, hao, hx⟩ := hrw.entry i hi
                obtain ⟨ro, rc, hwv, hrow⟩ := HROWS.out is[i] (List.getElem_mem hi)
                have hwl6 := HL6.out _ (List.getElem_mem hi)
                have HQ3 := hide q3
                have HWS := hide (show ∀ W, Below w.heap.size w W → W.cell? ⟨sb, 1, none⟩ = some (.slice (some ⟨g, 0, none⟩) is.length cap) ∧ W.cell? ⟨g, i * 4 + 3, none⟩ = some (.slice ro is[i].ws.length rc) from fun W hbw => by
                  have hW := HSH.out.below hbw
                  obtain ⟨g2, hg2, _, _, key, _⟩ := row_cell (f := It.cells) (n := 4) (fun _ => rfl) hW.own i hi
                  rw [hao] at hg2
                  injection hg2 with hg2
                  injection hg2 with hg2
                  subst hg2
                  refine ⟨by rw [← hao]; exact hW.c1, ?_⟩
                  have := key 3 _ rfl
                  rw [hwv] at this
                  exact this)
                have HWC := hide (show ∀ W, Below w.heap.size w W → ∀ k y, is[i].ws[k]? = some y → ∃ gw, ro = some ⟨gw, 0, none⟩ ∧ W.cell? ⟨gw, k * 3, none⟩ = some (.int .i64 (y.n : Int)) ∧ y.n < 6 from fun W hbw k y hy => by
                  obtain ⟨hk, rfl⟩ := List.getElem?_eq_some_iff.1 hy
                  obtain ⟨gw, e1, hx⟩ := nds_entry (ownsRow_keep' hrow hbw) k hk
                  exact ⟨gw, e1, hx.d0, (HST.out.nds _ (List.getElem_mem hi) _ (List.getElem_mem hk)).n⟩)
                have hil : (i : Int) < (is.length : Int) := by omega
                have hi0 : (0 : Int) ≤ (i : Int) := by omega
                have hin : decide ((i : Int) < 0) = false := decide_eq_false (by omega)
                clear hx hwv hrow hrw q1 q2 q3
                subst hao
                cases hb : o n with
                | false =>
                  rw [hb] at b1
                  have HF := hide (HRND.out.skip (Or.inl hb))
                  clear hb
                  go_wp2_with fail
                  refine HTH.out.mono ?_
                  rintro e w2 ⟨rfl, hw2⟩
                  have hw3 := hw2.symm
                  subst hw3
                  clear hw2 HTH
                  go_wp2_with fail
                  go_roundw
                  case rel => exact ⟨n + 1, o, by omega, by go_num, hon, HF.out⟩
                  case measure => simp [intOf] <;> omega
                | true =>
                  rw [hb] at b1
                  have HB := hide hb
                  have HON := hide hon
                  have HXX := hide (show ∀ o2 : Nat → Bool, leB o o2 → (∀ y ∈ is[i].ws, o2 y.n = true) → (∀ m, o2 m = true → o m = true ∨ ∃ y ∈ is[i].ws, y.n = m) → Rnd is c o0 (n + 1) o2 from fun o2 h1 h2 h3 => HRND.out.took hnl hb HQ3.out h1 h2 h3)
                  clear hb hon
                  generalize is[i].ws = ws at *
                  generalize hwl : ws.length = wl at *
                  have HWL := hide hwl
                  clear hwl
                  go_wp2_with fail
                  refine HTH.out.mono ?_
                  rintro e w2 ⟨rfl, hw2⟩
                  have hw3 := hw2.symm
                  subst hw3
                  clear hw2 HTH
                  go_wp2_with fail
                  obtain ⟨wo, rfl⟩ : ∃ wo : World, wo = wr := ⟨_, rfl⟩
                  go_loopw [12] (fun x wx => ∃ (k : Nat) (o2 : Nat → Bool), k ≤ wl ∧ x = .int .i64 (k : Int) ∧ OnAt w wx c o2 ∧ leB o o2 ∧ (∀ j, (hj : j < ws.length) → j < k → o2 ws[j].n = true) ∧ ∀ m, o2 m = true → o m = true ∨ ∃ y ∈ ws, y.n = m) (fun x _ => wl - (intOf x).toNat)
                  case atStart => exact ⟨0, o, Nat.zero_le _, rfl, HON.out, fun _ h => h, fun j _ h => by omega, fun _ h => Or.inl h⟩
                  case round =>
                    clear HON c1 b1
                    obtain ⟨k, o2, hk, rfl, hon, hle, hall, honly⟩ := hrel
                    obtain ⟨s1, s2⟩ := HWS.out _ hon.bel
                    have HLE := hide hle
                    have HALL := hide hall
                    have HONLY := hide honly
                    clear hle hall honly
                    by_cases hkl : k < wl
                    · have hkl' : (k : Int) < (wl : Int) := by omega
                      have hkl2 : k < ws.length := by rw [HWL.out]; exact hkl
                      obtain ⟨gw, rfl, d0, q1⟩ := HWC.out _ hon.bel k ws[k] (List.getElem?_eq_getElem hkl2)
                      have q1' : ((ws[k].n : Nat) : Int) < 6 := by omega
                      have bc := bools_cell hon.on q1
                      have bf := frozen_of_heap hon.on
                      have HF := hide (hon.set q1)
                      have HM := hide (show leB o (setB o2 ws[k].n) ∧ (∀ j, (hj : j < ws.length) → j < k + 1 → setB o2 ws[k].n ws[j].n = true) ∧ ∀ m, setB o2 ws[k].n m = true → o m = true ∨ ∃ y ∈ ws, y.n = m from by
                        refine ⟨fun m h => leB_set _ _ _ (HLE.out m h), fun j hj hjk => ?_, fun m h => ?_⟩
                        · by_cases e : j = k
                          · subst e; exact setB_on _ _
                          · exact leB_set _ _ _ (HALL.out j hj (by omega))
                        · rcases setB_only h with h | h
                          · exact HONLY.out m h
                          · exact Or.inr ⟨ws[k], List.getElem_mem hkl2, h.symm⟩)
                      clear hon
                      generalize ws[k].n = yn at *
                      generalize o2 yn = ob at *
                      go_wp2_with fail
                      go_roundw
                      case rel => exact ⟨k + 1, _, by omega, by go_num, HF.out, HM.out.1, HM.out.2.1, HM.out.2.2⟩
                      case measure => simp [intOf] <;> omega
                    · have hkl' : ¬ (k : Int) < (wl : Int) := by omega
                      have HF := hide (HXX.out o2 HLE.out (fun y hy => by
                        obtain ⟨j, hj, rfl⟩ := List.getElem_of_mem hy
                        exact HALL.out j hj (by rw [HWL.out] at hj; omega)) HONLY.out)
                      go_wp2_with fail
                      go_roundw
                      case rel => exact ⟨n + 1, o2, by omega, by go_num, hon, HF.out⟩
                      case measure => simp [intOf] <;> omega
              · have HTH := hide (there_none sb db ao cap is n (c n) _ hrw q1)
                have HF := hide (HRND.out.skip (Or.inr q3))
                clear q1 q3 hrw
                cases hb : o n with
                | false =>
                  rw [hb] at b1
                  clear hb
                  go_wp2_with fail
                  refine HTH.out.mono ?_
                  rintro e w2 ⟨rfl, hw2⟩
                  have hw3 := hw2.symm
                  subst hw3
                  clear hw2 HTH
                  go_wp2_with fail
                  go_roundw
                  case rel => exact ⟨n + 1, o, by omega, by go_num, hon, HF.out⟩
                  case measure => simp [intOf] <;> omega
                | true =>
                  rw [hb] at b1
                  clear hb
                  go_wp2_with fail
                  refine HTH.out.mono ?_
                  rintro e w2 ⟨rfl, hw2⟩
                  have hw3 := hw2.symm
                  subst hw3
                  clear hw2 HTH
                  go_wp2_with fail
                  go_roundw
                  case rel => exact ⟨n + 1, o, by omega, by go_num, hon, HF.out⟩
                  case measure => simp [intOf] <;> omega
            · have hnl' : ¬ (n : Int) < 6 := by omega
              have HF := hide (show (∀ x ∈ asked, o x.n = true) ∧ (ClosedB is c o ∨ r + 1 ≤ cntB o) from by
                have e6 : n = 6 := by omega
                subst e6
                exact ⟨fun x hx => HRND.out.le _ (HA.out x hx), HRND.out.end_ HCL.out⟩)
              go_wp2_with fail
              go_roundw
              case rel => exact ⟨r + 1, o, by omega, by go_num, hon, HF.out.1, HF.out.2⟩
              case measure => simp [intOf] <;> omega
        · have hrl' : ¬ (r : Int) < 6 := by omega
          have HC := hide (show ∀ n, n < 6 → c n ≠ 0 → o0 n = true from HNEED.out o0 HA.out (closed_of HST.out (by
            have e6 : r = 6 := by omega
            subst e6
            exact HCL.out)))
          clear HCL HA
          go_wp2_with fail
          obtain ⟨wo, rfl⟩ : ∃ wo : World, wo = wr := ⟨_, rfl⟩
          go_loopw [13] (fun x wx => ∃ n : Nat, n ≤ 6 ∧ x = .int .i64 (n : Int) ∧ OnAt w wx c o0) (fun x _ => 6 - (intOf x).toNat)
          case atStart => exact ⟨0, Nat.zero_le _, rfl, HON.out⟩
          case round =>
            clear HON
            obtain ⟨n, hn6, rfl, hon⟩ := hrel
            by_cases hnl : n < 6
            · have hnl' : (n : Int) < 6 := by omega
              have hn0 : (0 : Int) ≤ (n : Int) := by omega
              have c1 := picks_cell hon.box hnl
              have b1 := bools_cell hon.on hnl
              by_cases h0 : c n = 0
              · have h0' : ((c n : Int) != 0) = false := by rw [h0]; rfl
                clear h0
                generalize c n = v at *
                generalize o0 n = ob at *
                go_wp2_with fail
                go_roundw
                case rel => exact ⟨n + 1, by omega, by go_num, hon⟩
                case measure => simp [intOf] <;> omega
              · have h0' : ((c n : Int) != 0) = true := by rw [bne, beq_eq_false_iff_ne.2 (by omega)]; rfl
                rw [HC.out n hnl h0] at b1
                clear h0
                generalize c n = v at *
                go_wp2_with fail
                go_roundw
                case rel => exact ⟨n + 1, by omega, by go_num, hon⟩
                case measure => simp [intOf] <;> omega
            · have hnl' : ¬ (n : Int) < 6 := by omega
              go_wp2_with fail
              go_ret
              exact ⟨rfl, hon.bel⟩

end

end Go.Proofs.YtgcldedkempjhaaDoor
