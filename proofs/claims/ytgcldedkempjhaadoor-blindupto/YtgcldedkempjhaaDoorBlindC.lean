/-
  depotkeep: Blind: the walk.
-/
import Derived.Test.YtgcldedkempjhaaDoorBlindB
namespace Go.Proofs.YtgcldedkempjhaaDoor
open Go.RowKit

/-- Two depots, each with what known lays. -/
theorem blind_start {w w2 w3 w4 : World} {d1 d2 : Nat} {D1 D2 : DepD} (h : TwoX w2 w.heap.size d1 d2 D1 D2) (hb : Below w.heap.size w w2) (h3 : DepStep w2 w3 d1 D1 P1) (h4 : DepStep w3 w4 d2 D2 P1) : BInv w w4 w.heap.size d1 d2 0 := by
  obtain ⟨E1, t1, p1, b1⟩ := h.stepx h3
  obtain ⟨E2, t2, p2, b2⟩ := t1.stepy h4
  have c1 : E1.clock = 0 := congrArg PDep.clock p1
  refine ⟨E1, E2, t2, (hb.trans b1).trans b2, by rw [p1, p2], by rw [p1]; exact bok_P1, by rw [p2]; exact bok_P1, by omega, by omega, ?_, ?_⟩
  · exact Nat.le_of_eq (congrArg PDep.yanks p1)
  · exact Nat.le_of_eq (congrArg PDep.yanks p2)

theorem two_start {w w1 w2 : World} {D1 D2 : DepD} (h1 : DepAt w1 w.heap.size D1) (f1 : ∀ k, DepFoot w.heap.size D1 k → w.heap.size ≤ k) (h2 : DepAt w2 w1.heap.size D2) (b1 : Below w.heap.size w w1) (b2 : Below w1.heap.size w1 w2) (f2 : ∀ k, DepFoot w1.heap.size D2 k → w1.heap.size ≤ k) : TwoX w2 w.heap.size w.heap.size w1.heap.size D1 D2 ∧ Below w.heap.size w w2 := by
  have hs1 := b1.size
  have hs2 := b2.size
  refine ⟨⟨h1.below b2, h2, fun k hk hk2 => ?_, f1, fun k hk => Nat.le_trans hs1 (f2 k hk), by omega, h1.tlt⟩, b1.trans (b2.mono hs1)⟩
  have := (h1.foot hk).2
  have := f2 k hk2
  omega

set_option maxHeartbeats 4000000 in
set_option maxRecDepth 100000 in
theorem blind_any (so : Option Addr) (len cap0 : Nat) (f : Nat → TurnD) (w : World) (htab : TabOk w) (hlen : len ≤ 100000000000)
    (hscr : ∀ i, i < len → ∃ g o, so = some ⟨g, o, none⟩ ∧ g < w.heap.size ∧ TurnAt w g (o + i * 9) (f i) ∧ TurnFit (f i)) :
    Calls Tryd.prog 8 #[.slice so len cap0] w fun e w' => e = .returned (.bool true) ∧ Below w.heap.size w w' := by
  have HS := hide hscr
  clear hscr
  go_enter Tryd.func8, Tryd.ntmps8
  go_wp2_with fail
  refine (opened_any _ htab).mono ?_
  rintro e w1 ⟨rfl, D1, hD1, hP1, hB1, hF1⟩
  have hl1 : w.heap.size < w1.heap.size := hD1.lt
  have HO := hide (And.intro hD1 (And.intro hP1 (And.intro hB1 hF1)))
  have HT1 := hide (htab.below hB1)
  clear hD1 hP1 hB1 hF1
  go_wp2_with fail
  refine (opened_any _ HT1.out).mono ?_
  rintro e w2 ⟨rfl, D2, hD2, hP2, hB2, hF2⟩
  have hl2 : w1.heap.size < w2.heap.size := hD2.lt
  have HT2 := hide (two_start HO.out.1 HO.out.2.2.2 hD2 HO.out.2.2.1 hB2 hF2)
  have HP2 := hide hP2
  clear hD2 hP2 hB2 hF2
  go_wp2_with fail
  refine (known_any w.heap.size D1 _ HT2.out.1.x HO.out.2.1).mono ?_
  rintro e w3 ⟨rfl, hst3⟩
  have HS3 := hide hst3
  have HY3 := hide (show DepAt w3 w1.heap.size D2 from by obtain ⟨_, t, _⟩ := HT2.out.1.stepx hst3; exact t.y)
  clear hst3
  go_wp2_with fail
  refine (known_any w1.heap.size D2 _ HY3.out HP2.out).mono ?_
  rintro e w4 ⟨rfl, hst4⟩
  have HI0 := hide (blind_start HT2.out.1 HT2.out.2 HS3.out hst4)
  clear hst4 HS3 HY3 HT2 HO HT1 HP2
  go_wp2_with fail
  go_loopw [7, 8, 9, 10, 11, 12] (fun i _ _ _ _ _ wr => ∃ k : Nat, k ≤ len ∧ i = .int .i64 k ∧ BInv w wr w.heap.size w.heap.size w1.heap.size k) (fun i _ _ _ _ _ _ => len - (intOf i).toNat)
  case atStart => exact ⟨0, Nat.zero_le _, rfl, HI0.out⟩
  case round =>
    clear D1 D2
    obtain ⟨k, hk, rfl, D1, D2, hc⟩ := hrel
    clear HI0
    by_cases hlt : k < len
    · obtain ⟨g, o, rfl, hg, hop, hok⟩ := HS.out k hlt
      obtain ⟨d0, d1, d2, d3, d4, d5, d6, d7, d8⟩ := hop.below hc.bel hg
      clear hop
      generalize f k = x at *
      have hW := below_one wr (.cells (turnV x) 32)
      have hcl := hc.clock
      have hy1 := hc.y1
      have hy2 := hc.y2
      have HX0 := hide hc.two.x
      have HPK := hide (fun W => pick_any x.who W hok.who.1 hok.who.2)
      have HC1 := hide (call_any w.heap.size D1 x _ (hc.two.x.below hW) hok (by omega) hc.c0 hc.c1)
      have HC2 := hide (fun W (h : DepAt W w1.heap.size D2) => call_any w1.heap.size D2 x W h hok (by omega) (by rw [hcl]; exact hc.c0) (by rw [hcl]; exact hc.c1))
      have HCC := hide (hc.below hW)
      clear hok hc hW hcl hy1 hy2
      by_cases h2 : pickF x.who = 2
      · have hp2 : (pickF x.who == 2) = true := by rw [h2]; rfl
        have hp1 : (pickF x.who == 1) = false := by rw [h2]; rfl
        have HSH := hide (show showsH x.who = kG by unfold showsH; rw [h2]; rfl)
        by_cases hc : 0 ≤ x.kind ∧ x.kind ≤ 10
        · have HKK := hide hc
          have c11 : (x.kind == 11) = false := by rw [beq_eq_false_iff_ne]; omega
          have c12 : decide (12 ≤ x.kind) = false := decide_eq_false (by omega)
          have c0 : decide (x.kind < 0) = false := decide_eq_false (by omega)
          by_cases k6 : x.kind = 6
          · have k6' : (x.kind == 6) = true := by rw [k6]; rfl
            by_cases ht : x.t.toList = [104]
            · have ht' : (x.t.toList == [104]) = true := by rw [ht]; rfl
              clear k6 h2 hc
              generalize pickF x.who = pw at *
              go_wp2_with fail
              refine (HPK.out _).mono ?_
              rintro ε w2 ⟨rfl, hw2⟩
              subst hw2
              have HF := hide (show BInv w _ w.heap.size w.heap.size w1.heap.size (k + 1) from ⟨D1, D2, HCC.out.next⟩)
              clear HC1 HC2 HCC
              go_wp2_with fail
              go_roundw
              case rel => exact ⟨k + 1, by omega, by go_num, HF.out⟩
              case measure => simp [intOf] <;> omega
            · have ht' : (x.t.toList == [104]) = false := by rw [beq_eq_false_iff_ne]; exact ht
              have HG6 := hide (show x.kind = 6 → (x.t.toList == kH.toList) = false from fun _ => by rw [beq_eq_false_iff_ne]; intro h; exact ht (by rw [h, ByteArray.toList_eq]))
              clear k6 h2 hc
              generalize pickF x.who = pw at *
              generalize callA D1.pure x = ca at *
              obtain ⟨n1, s1, e1⟩ := ca
              simp only at HC1
              go_wp2_with fail
              refine (HPK.out _).mono ?_
              rintro ε w2 ⟨rfl, hw2⟩
              subst hw2
              go_wp2_with fail
              refine HC1.out.mono ?_
              rintro ε w3 ⟨rfl, hst⟩
              have HF := hide (HCC.out.one HSH.out HKK.out HG6.out hst)
              clear hst HC1 HC2 HCC
              go_wp2_with fail
              go_roundw
              case rel => exact ⟨k + 1, by omega, by go_num, HF.out⟩
              case measure => simp [intOf] <;> omega
          · have k6' : (x.kind == 6) = false := by rw [beq_eq_false_iff_ne]; exact k6
            have HG6 := hide (show x.kind = 6 → (x.t.toList == kH.toList) = false from fun h => absurd h k6)
            clear k6 h2 hc
            generalize pickF x.who = pw at *
            generalize callA D1.pure x = ca at *
            obtain ⟨n1, s1, e1⟩ := ca
            simp only at HC1
            go_wp2_with fail
            refine (HPK.out _).mono ?_
            rintro ε w2 ⟨rfl, hw2⟩
            subst hw2
            go_wp2_with fail
            refine HC1.out.mono ?_
            rintro ε w3 ⟨rfl, hst⟩
            have HF := hide (HCC.out.one HSH.out HKK.out HG6.out hst)
            clear hst HC1 HC2 HCC
            go_wp2_with fail
            go_roundw
            case rel => exact ⟨k + 1, by omega, by go_num, HF.out⟩
            case measure => simp [intOf] <;> omega
        · have k6' : (x.kind == 6) = false := by rw [beq_eq_false_iff_ne]; omega
          have HNX := hide (show ((x.kind = 11 ∨ 12 ≤ x.kind ∨ x.kind < 0) ∨ ((showsH x.who).toList == kG.toList) = false) ∧ ((x.kind = 11 ∨ 12 ≤ x.kind ∨ x.kind < 0) ∨ showsH x.who = kH) from ⟨Or.inl (by omega), Or.inl (by omega)⟩)
          have HG := hide (show x.kind = 6 → ((showsH x.who).toList == kG.toList) = true → (x.t.toList == kH.toList) = false from fun h => by omega)
          by_cases k11 : x.kind = 11
          · have k11' : (x.kind == 11) = true := by rw [k11]; rfl
            clear k11 hc h2
            have HN := hide HNX.out.1
            have hsm := HCC.out.same (x := x) HNX.out.2
            rw [← hsm] at HC2
            generalize callA D1.pure x = ca at *
            obtain ⟨n1, s1, e1⟩ := ca
            simp only at HC1 HC2
            clear hsm
            generalize pickF x.who = pw at *
            go_wp2_with fail
            refine (HPK.out _).mono ?_
            rintro ε w2 ⟨rfl, hw2⟩
            subst hw2
            go_wp2_with fail
            refine HC1.out.mono ?_
            rintro ε w3 ⟨rfl, hst⟩
            have hbx := box_kept HX0.out hst
            have hlt3 : wr.heap.size < w3.heap.size := (Array.getElem?_eq_some_iff.1 hbx).1
            have q0 : w3.cell? ⟨wr.heap.size, 0, none⟩ = some (.int .i64 x.who) := (cell_of_heap hbx 0).trans rfl
            have q1 : w3.cell? ⟨wr.heap.size, 1, none⟩ = some (.int .i64 x.kind) := (cell_of_heap hbx 1).trans rfl
            have q2 : w3.cell? ⟨wr.heap.size, 2, none⟩ = some (.int .i64 x.id) := (cell_of_heap hbx 2).trans rfl
            have q3 : w3.cell? ⟨wr.heap.size, 3, none⟩ = some (.string x.of) := (cell_of_heap hbx 3).trans rfl
            have q4 : w3.cell? ⟨wr.heap.size, 4, none⟩ = some (.string x.s) := (cell_of_heap hbx 4).trans rfl
            have q5 : w3.cell? ⟨wr.heap.size, 5, none⟩ = some (.string x.t) := (cell_of_heap hbx 5).trans rfl
            have q6 : w3.cell? ⟨wr.heap.size, 6, none⟩ = some (.int .i64 x.a) := (cell_of_heap hbx 6).trans rfl
            have q7 : w3.cell? ⟨wr.heap.size, 7, none⟩ = some (.int .i64 x.b) := (cell_of_heap hbx 7).trans rfl
            have q8 : w3.cell? ⟨wr.heap.size, 8, none⟩ = some (.int .i64 x.c) := (cell_of_heap hbx 8).trans rfl
            have HS1 := hide hst
            have HY := hide (show DepAt w3 w1.heap.size D2 from by obtain ⟨_, t, _⟩ := HCC.out.two.stepx hst; exact t.y)
            clear hst hbx HC1 d0 d1 d2 d3 d4 d5 d6 d7 d8
            go_wp2_with fail
            refine (HC2.out _ (HY.out.below (below_one w3 _))).mono ?_
            rintro ε w4 ⟨rfl, hst⟩
            have hax := box_kept HY.out hst
            have hlt4 : w3.heap.size < w4.heap.size := (Array.getElem?_eq_some_iff.1 hax).1
            have r0 : w4.cell? ⟨w3.heap.size, 0, none⟩ = some (.int .i64 n1) := (cell_of_heap hax 0).trans rfl
            have r1 : w4.cell? ⟨w3.heap.size, 1, none⟩ = some (.string s1) := (cell_of_heap hax 1).trans rfl
            have r2 : w4.cell? ⟨w3.heap.size, 2, none⟩ = some (.int .i64 e1) := (cell_of_heap hax 2).trans rfl
            have HF0 := hide (HCC.out.both HN.out HG.out HS1.out (fun _ _ => DepStep.behind (below_one w3 _) hst))
            clear hst hax HC2 HCC HS1 HY q0 q1 q2 q3 q4 q5 q6 q7 q8
            have HF := hide (show BInv w (w4.alloc (.cells (ansW n1 s1 e1) 35)) w.heap.size w.heap.size w1.heap.size (k + 1) from by obtain ⟨E1, E2, h⟩ := HF0.out; exact ⟨E1, E2, h.below (below_one w4 _)⟩)
            clear HF0
            go_wp2_with fail
            go_roundw
            case rel => exact ⟨k + 1, by omega, by go_num, HF.out⟩
            case measure => simp [intOf] <;> omega
          · have k11' : (x.kind == 11) = false := by rw [beq_eq_false_iff_ne]; exact k11
            clear h2
            by_cases k12 : 12 ≤ x.kind
            · have k12d : decide (12 ≤ x.kind) = true := decide_eq_true k12
              clear k12 hc k11
              have HN := hide HNX.out.1
              have hsm := HCC.out.same (x := x) HNX.out.2
              rw [← hsm] at HC2
              generalize callA D1.pure x = ca at *
              obtain ⟨n1, s1, e1⟩ := ca
              simp only at HC1 HC2
              clear hsm
              generalize pickF x.who = pw at *
              go_wp2_with fail
              refine (HPK.out _).mono ?_
              rintro ε w2 ⟨rfl, hw2⟩
              subst hw2
              go_wp2_with fail
              refine HC1.out.mono ?_
              rintro ε w3 ⟨rfl, hst⟩
              have hbx := box_kept HX0.out hst
              have hlt3 : wr.heap.size < w3.heap.size := (Array.getElem?_eq_some_iff.1 hbx).1
              have q0 : w3.cell? ⟨wr.heap.size, 0, none⟩ = some (.int .i64 x.who) := (cell_of_heap hbx 0).trans rfl
              have q1 : w3.cell? ⟨wr.heap.size, 1, none⟩ = some (.int .i64 x.kind) := (cell_of_heap hbx 1).trans rfl
              have q2 : w3.cell? ⟨wr.heap.size, 2, none⟩ = some (.int .i64 x.id) := (cell_of_heap hbx 2).trans rfl
              have q3 : w3.cell? ⟨wr.heap.size, 3, none⟩ = some (.string x.of) := (cell_of_heap hbx 3).trans rfl
              have q4 : w3.cell? ⟨wr.heap.size, 4, none⟩ = some (.string x.s) := (cell_of_heap hbx 4).trans rfl
              have q5 : w3.cell? ⟨wr.heap.size, 5, none⟩ = some (.string x.t) := (cell_of_heap hbx 5).trans rfl
              have q6 : w3.cell? ⟨wr.heap.size, 6, none⟩ = some (.int .i64 x.a) := (cell_of_heap hbx 6).trans rfl
              have q7 : w3.cell? ⟨wr.heap.size, 7, none⟩ = some (.int .i64 x.b) := (cell_of_heap hbx 7).trans rfl
              have q8 : w3.cell? ⟨wr.heap.size, 8, none⟩ = some (.int .i64 x.c) := (cell_of_heap hbx 8).trans rfl
              have HS1 := hide hst
              have HY := hide (show DepAt w3 w1.heap.size D2 from by obtain ⟨_, t, _⟩ := HCC.out.two.stepx hst; exact t.y)
              clear hst hbx HC1 d0 d1 d2 d3 d4 d5 d6 d7 d8
              go_wp2_with fail
              refine (HC2.out _ (HY.out.below (below_one w3 _))).mono ?_
              rintro ε w4 ⟨rfl, hst⟩
              have hax := box_kept HY.out hst
              have hlt4 : w3.heap.size < w4.heap.size := (Array.getElem?_eq_some_iff.1 hax).1
              have r0 : w4.cell? ⟨w3.heap.size, 0, none⟩ = some (.int .i64 n1) := (cell_of_heap hax 0).trans rfl
              have r1 : w4.cell? ⟨w3.heap.size, 1, none⟩ = some (.string s1) := (cell_of_heap hax 1).trans rfl
              have r2 : w4.cell? ⟨w3.heap.size, 2, none⟩ = some (.int .i64 e1) := (cell_of_heap hax 2).trans rfl
              have HF0 := hide (HCC.out.both HN.out HG.out HS1.out (fun _ _ => DepStep.behind (below_one w3 _) hst))
              clear hst hax HC2 HCC HS1 HY q0 q1 q2 q3 q4 q5 q6 q7 q8
              have HF := hide (show BInv w (w4.alloc (.cells (ansW n1 s1 e1) 35)) w.heap.size w.heap.size w1.heap.size (k + 1) from by obtain ⟨E1, E2, h⟩ := HF0.out; exact ⟨E1, E2, h.below (below_one w4 _)⟩)
              clear HF0
              go_wp2_with fail
              go_roundw
              case rel => exact ⟨k + 1, by omega, by go_num, HF.out⟩
              case measure => simp [intOf] <;> omega
            · have k12d : decide (12 ≤ x.kind) = false := decide_eq_false k12
              have k0d : decide (x.kind < 0) = true := decide_eq_true (by omega)
              clear k12 hc k11
              have HN := hide HNX.out.1
              have hsm := HCC.out.same (x := x) HNX.out.2
              rw [← hsm] at HC2
              generalize callA D1.pure x = ca at *
              obtain ⟨n1, s1, e1⟩ := ca
              simp only at HC1 HC2
              clear hsm
              generalize pickF x.who = pw at *
              go_wp2_with fail
              refine (HPK.out _).mono ?_
              rintro ε w2 ⟨rfl, hw2⟩
              subst hw2
              go_wp2_with fail
              refine HC1.out.mono ?_
              rintro ε w3 ⟨rfl, hst⟩
              have hbx := box_kept HX0.out hst
              have hlt3 : wr.heap.size < w3.heap.size := (Array.getElem?_eq_some_iff.1 hbx).1
              have q0 : w3.cell? ⟨wr.heap.size, 0, none⟩ = some (.int .i64 x.who) := (cell_of_heap hbx 0).trans rfl
              have q1 : w3.cell? ⟨wr.heap.size, 1, none⟩ = some (.int .i64 x.kind) := (cell_of_heap hbx 1).trans rfl
              have q2 : w3.cell? ⟨wr.heap.size, 2, none⟩ = some (.int .i64 x.id) := (cell_of_heap hbx 2).trans rfl
              have q3 : w3.cell? ⟨wr.heap.size, 3, none⟩ = some (.string x.of) := (cell_of_heap hbx 3).trans rfl
              have q4 : w3.cell? ⟨wr.heap.size, 4, none⟩ = some (.string x.s) := (cell_of_heap hbx 4).trans rfl
              have q5 : w3.cell? ⟨wr.heap.size, 5, none⟩ = some (.string x.t) := (cell_of_heap hbx 5).trans rfl
              have q6 : w3.cell? ⟨wr.heap.size, 6, none⟩ = some (.int .i64 x.a) := (cell_of_heap hbx 6).trans rfl
              have q7 : w3.cell? ⟨wr.heap.size, 7, none⟩ = some (.int .i64 x.b) := (cell_of_heap hbx 7).trans rfl
              have q8 : w3.cell? ⟨wr.heap.size, 8, none⟩ = some (.int .i64 x.c) := (cell_of_heap hbx 8).trans rfl
              have HS1 := hide hst
              have HY := hide (show DepAt w3 w1.heap.size D2 from by obtain ⟨_, t, _⟩ := HCC.out.two.stepx hst; exact t.y)
              clear hst hbx HC1 d0 d1 d2 d3 d4 d5 d6 d7 d8
              go_wp2_with fail
              refine (HC2.out _ (HY.out.below (below_one w3 _))).mono ?_
              rintro ε w4 ⟨rfl, hst⟩
              have hax := box_kept HY.out hst
              have hlt4 : w3.heap.size < w4.heap.size := (Array.getElem?_eq_some_iff.1 hax).1
              have r0 : w4.cell? ⟨w3.heap.size, 0, none⟩ = some (.int .i64 n1) := (cell_of_heap hax 0).trans rfl
              have r1 : w4.cell? ⟨w3.heap.size, 1, none⟩ = some (.string s1) := (cell_of_heap hax 1).trans rfl
              have r2 : w4.cell? ⟨w3.heap.size, 2, none⟩ = some (.int .i64 e1) := (cell_of_heap hax 2).trans rfl
              have HF0 := hide (HCC.out.both HN.out HG.out HS1.out (fun _ _ => DepStep.behind (below_one w3 _) hst))
              clear hst hax HC2 HCC HS1 HY q0 q1 q2 q3 q4 q5 q6 q7 q8
              have HF := hide (show BInv w (w4.alloc (.cells (ansW n1 s1 e1) 35)) w.heap.size w.heap.size w1.heap.size (k + 1) from by obtain ⟨E1, E2, h⟩ := HF0.out; exact ⟨E1, E2, h.below (below_one w4 _)⟩)
              clear HF0
              go_wp2_with fail
              go_roundw
              case rel => exact ⟨k + 1, by omega, by go_num, HF.out⟩
              case measure => simp [intOf] <;> omega
      · have hp2 : (pickF x.who == 2) = false := by rw [beq_eq_false_iff_ne]; exact h2
        have HSN := hide (show ((showsH x.who).toList == kG.toList) = false from by
          unfold showsH
          split
          · exact kHG.1
          · rw [hp2, if_neg (by decide)]; simp [ByteArray.toList_eq])
        have HN0 := hide (show (x.kind = 11 ∨ 12 ≤ x.kind ∨ x.kind < 0) ∨ ((showsH x.who).toList == kG.toList) = false from Or.inr HSN.out)
        have HG := hide (show x.kind = 6 → ((showsH x.who).toList == kG.toList) = true → (x.t.toList == kH.toList) = false from fun _ h => by rw [HSN.out] at h; cases h)
        by_cases h1 : pickF x.who = 1
        · have hp1 : (pickF x.who == 1) = true := by rw [h1]; rfl
          have HNX := hide (show ((x.kind = 11 ∨ 12 ≤ x.kind ∨ x.kind < 0) ∨ ((showsH x.who).toList == kG.toList) = false) ∧ ((x.kind = 11 ∨ 12 ≤ x.kind ∨ x.kind < 0) ∨ showsH x.who = kH) from ⟨HN0.out, Or.inr (by unfold showsH; rw [h1]; rfl)⟩)
          by_cases k11 : x.kind = 11
          · have k11' : (x.kind == 11) = true := by rw [k11]; rfl
            have HNC := hide (show x.kind = 11 ∨ 12 ≤ x.kind ∨ x.kind < 0 by omega)
            clear k11
            clear h1 h2
            have HN := hide HNX.out.1
            have hsm := HCC.out.same (x := x) HNX.out.2
            rw [← hsm] at HC2
            generalize callA D1.pure x = ca at *
            obtain ⟨n1, s1, e1⟩ := ca
            simp only at HC1 HC2
            clear hsm
            generalize pickF x.who = pw at *
            go_wp2_with fail
            refine (HPK.out _).mono ?_
            rintro ε w2 ⟨rfl, hw2⟩
            subst hw2
            go_wp2_with fail
            refine HC1.out.mono ?_
            rintro ε w3 ⟨rfl, hst⟩
            have hbx := box_kept HX0.out hst
            have hlt3 : wr.heap.size < w3.heap.size := (Array.getElem?_eq_some_iff.1 hbx).1
            have q0 : w3.cell? ⟨wr.heap.size, 0, none⟩ = some (.int .i64 x.who) := (cell_of_heap hbx 0).trans rfl
            have q1 : w3.cell? ⟨wr.heap.size, 1, none⟩ = some (.int .i64 x.kind) := (cell_of_heap hbx 1).trans rfl
            have q2 : w3.cell? ⟨wr.heap.size, 2, none⟩ = some (.int .i64 x.id) := (cell_of_heap hbx 2).trans rfl
            have q3 : w3.cell? ⟨wr.heap.size, 3, none⟩ = some (.string x.of) := (cell_of_heap hbx 3).trans rfl
            have q4 : w3.cell? ⟨wr.heap.size, 4, none⟩ = some (.string x.s) := (cell_of_heap hbx 4).trans rfl
            have q5 : w3.cell? ⟨wr.heap.size, 5, none⟩ = some (.string x.t) := (cell_of_heap hbx 5).trans rfl
            have q6 : w3.cell? ⟨wr.heap.size, 6, none⟩ = some (.int .i64 x.a) := (cell_of_heap hbx 6).trans rfl
            have q7 : w3.cell? ⟨wr.heap.size, 7, none⟩ = some (.int .i64 x.b) := (cell_of_heap hbx 7).trans rfl
            have q8 : w3.cell? ⟨wr.heap.size, 8, none⟩ = some (.int .i64 x.c) := (cell_of_heap hbx 8).trans rfl
            have HS1 := hide hst
            have HY := hide (show DepAt w3 w1.heap.size D2 from by obtain ⟨_, t, _⟩ := HCC.out.two.stepx hst; exact t.y)
            clear hst hbx HC1 d0 d1 d2 d3 d4 d5 d6 d7 d8
            go_wp2_with fail
            refine (HC2.out _ (HY.out.below (below_one w3 _))).mono ?_
            rintro ε w4 ⟨rfl, hst⟩
            have hax := box_kept HY.out hst
            have hlt4 : w3.heap.size < w4.heap.size := (Array.getElem?_eq_some_iff.1 hax).1
            have r0 : w4.cell? ⟨w3.heap.size, 0, none⟩ = some (.int .i64 n1) := (cell_of_heap hax 0).trans rfl
            have r1 : w4.cell? ⟨w3.heap.size, 1, none⟩ = some (.string s1) := (cell_of_heap hax 1).trans rfl
            have r2 : w4.cell? ⟨w3.heap.size, 2, none⟩ = some (.int .i64 e1) := (cell_of_heap hax 2).trans rfl
            have HF0 := hide (HCC.out.both HN.out HG.out HS1.out (fun _ _ => DepStep.behind (below_one w3 _) hst))
            clear hst hax HC2 HCC HS1 HY q0 q1 q2 q3 q4 q5 q6 q7 q8
            have HF := hide (show BInv w (w4.alloc (.cells (ansW n1 s1 e1) 35)) w.heap.size w.heap.size w1.heap.size (k + 1) from by obtain ⟨E1, E2, h⟩ := HF0.out; exact ⟨E1, E2, h.below (below_one w4 _)⟩)
            clear HF0
            go_wp2_with fail
            go_roundw
            case rel => exact ⟨k + 1, by omega, by go_num, HF.out⟩
            case measure => simp [intOf] <;> omega
          · have k11' : (x.kind == 11) = false := by rw [beq_eq_false_iff_ne]; exact k11
            by_cases k12 : 12 ≤ x.kind
            · have k12d : decide (12 ≤ x.kind) = true := decide_eq_true k12
              have HNC := hide (show x.kind = 11 ∨ 12 ≤ x.kind ∨ x.kind < 0 by omega)
              clear k12 k11
              clear h1 h2
              have HN := hide HNX.out.1
              have hsm := HCC.out.same (x := x) HNX.out.2
              rw [← hsm] at HC2
              generalize callA D1.pure x = ca at *
              obtain ⟨n1, s1, e1⟩ := ca
              simp only at HC1 HC2
              clear hsm
              generalize pickF x.who = pw at *
              go_wp2_with fail
              refine (HPK.out _).mono ?_
              rintro ε w2 ⟨rfl, hw2⟩
              subst hw2
              go_wp2_with fail
              refine HC1.out.mono ?_
              rintro ε w3 ⟨rfl, hst⟩
              have hbx := box_kept HX0.out hst
              have hlt3 : wr.heap.size < w3.heap.size := (Array.getElem?_eq_some_iff.1 hbx).1
              have q0 : w3.cell? ⟨wr.heap.size, 0, none⟩ = some (.int .i64 x.who) := (cell_of_heap hbx 0).trans rfl
              have q1 : w3.cell? ⟨wr.heap.size, 1, none⟩ = some (.int .i64 x.kind) := (cell_of_heap hbx 1).trans rfl
              have q2 : w3.cell? ⟨wr.heap.size, 2, none⟩ = some (.int .i64 x.id) := (cell_of_heap hbx 2).trans rfl
              have q3 : w3.cell? ⟨wr.heap.size, 3, none⟩ = some (.string x.of) := (cell_of_heap hbx 3).trans rfl
              have q4 : w3.cell? ⟨wr.heap.size, 4, none⟩ = some (.string x.s) := (cell_of_heap hbx 4).trans rfl
              have q5 : w3.cell? ⟨wr.heap.size, 5, none⟩ = some (.string x.t) := (cell_of_heap hbx 5).trans rfl
              have q6 : w3.cell? ⟨wr.heap.size, 6, none⟩ = some (.int .i64 x.a) := (cell_of_heap hbx 6).trans rfl
              have q7 : w3.cell? ⟨wr.heap.size, 7, none⟩ = some (.int .i64 x.b) := (cell_of_heap hbx 7).trans rfl
              have q8 : w3.cell? ⟨wr.heap.size, 8, none⟩ = some (.int .i64 x.c) := (cell_of_heap hbx 8).trans rfl
              have HS1 := hide hst
              have HY := hide (show DepAt w3 w1.heap.size D2 from by obtain ⟨_, t, _⟩ := HCC.out.two.stepx hst; exact t.y)
              clear hst hbx HC1 d0 d1 d2 d3 d4 d5 d6 d7 d8
              go_wp2_with fail
              refine (HC2.out _ (HY.out.below (below_one w3 _))).mono ?_
              rintro ε w4 ⟨rfl, hst⟩
              have hax := box_kept HY.out hst
              have hlt4 : w3.heap.size < w4.heap.size := (Array.getElem?_eq_some_iff.1 hax).1
              have r0 : w4.cell? ⟨w3.heap.size, 0, none⟩ = some (.int .i64 n1) := (cell_of_heap hax 0).trans rfl
              have r1 : w4.cell? ⟨w3.heap.size, 1, none⟩ = some (.string s1) := (cell_of_heap hax 1).trans rfl
              have r2 : w4.cell? ⟨w3.heap.size, 2, none⟩ = some (.int .i64 e1) := (cell_of_heap hax 2).trans rfl
              have HF0 := hide (HCC.out.both HN.out HG.out HS1.out (fun _ _ => DepStep.behind (below_one w3 _) hst))
              clear hst hax HC2 HCC HS1 HY q0 q1 q2 q3 q4 q5 q6 q7 q8
              have HF := hide (show BInv w (w4.alloc (.cells (ansW n1 s1 e1) 35)) w.heap.size w.heap.size w1.heap.size (k + 1) from by obtain ⟨E1, E2, h⟩ := HF0.out; exact ⟨E1, E2, h.below (below_one w4 _)⟩)
              clear HF0
              go_wp2_with fail
              go_roundw
              case rel => exact ⟨k + 1, by omega, by go_num, HF.out⟩
              case measure => simp [intOf] <;> omega
            · have k12d : decide (12 ≤ x.kind) = false := decide_eq_false k12
              by_cases k0 : x.kind < 0
              · have k0d : decide (x.kind < 0) = true := decide_eq_true k0
                have HNC := hide (show x.kind = 11 ∨ 12 ≤ x.kind ∨ x.kind < 0 by omega)
                clear k12 k0 k11
                clear h1 h2
                have HN := hide HNX.out.1
                have hsm := HCC.out.same (x := x) HNX.out.2
                rw [← hsm] at HC2
                generalize callA D1.pure x = ca at *
                obtain ⟨n1, s1, e1⟩ := ca
                simp only at HC1 HC2
                clear hsm
                generalize pickF x.who = pw at *
                go_wp2_with fail
                refine (HPK.out _).mono ?_
                rintro ε w2 ⟨rfl, hw2⟩
                subst hw2
                go_wp2_with fail
                refine HC1.out.mono ?_
                rintro ε w3 ⟨rfl, hst⟩
                have hbx := box_kept HX0.out hst
                have hlt3 : wr.heap.size < w3.heap.size := (Array.getElem?_eq_some_iff.1 hbx).1
                have q0 : w3.cell? ⟨wr.heap.size, 0, none⟩ = some (.int .i64 x.who) := (cell_of_heap hbx 0).trans rfl
                have q1 : w3.cell? ⟨wr.heap.size, 1, none⟩ = some (.int .i64 x.kind) := (cell_of_heap hbx 1).trans rfl
                have q2 : w3.cell? ⟨wr.heap.size, 2, none⟩ = some (.int .i64 x.id) := (cell_of_heap hbx 2).trans rfl
                have q3 : w3.cell? ⟨wr.heap.size, 3, none⟩ = some (.string x.of) := (cell_of_heap hbx 3).trans rfl
                have q4 : w3.cell? ⟨wr.heap.size, 4, none⟩ = some (.string x.s) := (cell_of_heap hbx 4).trans rfl
                have q5 : w3.cell? ⟨wr.heap.size, 5, none⟩ = some (.string x.t) := (cell_of_heap hbx 5).trans rfl
                have q6 : w3.cell? ⟨wr.heap.size, 6, none⟩ = some (.int .i64 x.a) := (cell_of_heap hbx 6).trans rfl
                have q7 : w3.cell? ⟨wr.heap.size, 7, none⟩ = some (.int .i64 x.b) := (cell_of_heap hbx 7).trans rfl
                have q8 : w3.cell? ⟨wr.heap.size, 8, none⟩ = some (.int .i64 x.c) := (cell_of_heap hbx 8).trans rfl
                have HS1 := hide hst
                have HY := hide (show DepAt w3 w1.heap.size D2 from by obtain ⟨_, t, _⟩ := HCC.out.two.stepx hst; exact t.y)
                clear hst hbx HC1 d0 d1 d2 d3 d4 d5 d6 d7 d8
                go_wp2_with fail
                refine (HC2.out _ (HY.out.below (below_one w3 _))).mono ?_
                rintro ε w4 ⟨rfl, hst⟩
                have hax := box_kept HY.out hst
                have hlt4 : w3.heap.size < w4.heap.size := (Array.getElem?_eq_some_iff.1 hax).1
                have r0 : w4.cell? ⟨w3.heap.size, 0, none⟩ = some (.int .i64 n1) := (cell_of_heap hax 0).trans rfl
                have r1 : w4.cell? ⟨w3.heap.size, 1, none⟩ = some (.string s1) := (cell_of_heap hax 1).trans rfl
                have r2 : w4.cell? ⟨w3.heap.size, 2, none⟩ = some (.int .i64 e1) := (cell_of_heap hax 2).trans rfl
                have HF0 := hide (HCC.out.both HN.out HG.out HS1.out (fun _ _ => DepStep.behind (below_one w3 _) hst))
                clear hst hax HC2 HCC HS1 HY q0 q1 q2 q3 q4 q5 q6 q7 q8
                have HF := hide (show BInv w (w4.alloc (.cells (ansW n1 s1 e1) 35)) w.heap.size w.heap.size w1.heap.size (k + 1) from by obtain ⟨E1, E2, h⟩ := HF0.out; exact ⟨E1, E2, h.below (below_one w4 _)⟩)
                clear HF0
                go_wp2_with fail
                go_roundw
                case rel => exact ⟨k + 1, by omega, by go_num, HF.out⟩
                case measure => simp [intOf] <;> omega
              · have k0d : decide (x.kind < 0) = false := decide_eq_false k0
                clear k12 k0 k11
                clear h1 h2
                have HN := hide HNX.out.1
                have hsm := HCC.out.same (x := x) HNX.out.2
                rw [← hsm] at HC2
                generalize callA D1.pure x = ca at *
                obtain ⟨n1, s1, e1⟩ := ca
                simp only at HC1 HC2
                clear hsm
                generalize pickF x.who = pw at *
                go_wp2_with fail
                refine (HPK.out _).mono ?_
                rintro ε w2 ⟨rfl, hw2⟩
                subst hw2
                go_wp2_with fail
                refine HC1.out.mono ?_
                rintro ε w3 ⟨rfl, hst⟩
                have hbx := box_kept HX0.out hst
                have hlt3 : wr.heap.size < w3.heap.size := (Array.getElem?_eq_some_iff.1 hbx).1
                have q0 : w3.cell? ⟨wr.heap.size, 0, none⟩ = some (.int .i64 x.who) := (cell_of_heap hbx 0).trans rfl
                have q1 : w3.cell? ⟨wr.heap.size, 1, none⟩ = some (.int .i64 x.kind) := (cell_of_heap hbx 1).trans rfl
                have q2 : w3.cell? ⟨wr.heap.size, 2, none⟩ = some (.int .i64 x.id) := (cell_of_heap hbx 2).trans rfl
                have q3 : w3.cell? ⟨wr.heap.size, 3, none⟩ = some (.string x.of) := (cell_of_heap hbx 3).trans rfl
                have q4 : w3.cell? ⟨wr.heap.size, 4, none⟩ = some (.string x.s) := (cell_of_heap hbx 4).trans rfl
                have q5 : w3.cell? ⟨wr.heap.size, 5, none⟩ = some (.string x.t) := (cell_of_heap hbx 5).trans rfl
                have q6 : w3.cell? ⟨wr.heap.size, 6, none⟩ = some (.int .i64 x.a) := (cell_of_heap hbx 6).trans rfl
                have q7 : w3.cell? ⟨wr.heap.size, 7, none⟩ = some (.int .i64 x.b) := (cell_of_heap hbx 7).trans rfl
                have q8 : w3.cell? ⟨wr.heap.size, 8, none⟩ = some (.int .i64 x.c) := (cell_of_heap hbx 8).trans rfl
                have HS1 := hide hst
                have HY := hide (show DepAt w3 w1.heap.size D2 from by obtain ⟨_, t, _⟩ := HCC.out.two.stepx hst; exact t.y)
                clear hst hbx HC1 d0 d1 d2 d3 d4 d5 d6 d7 d8
                go_wp2_with fail
                refine (HC2.out _ (HY.out.below (below_one w3 _))).mono ?_
                rintro ε w4 ⟨rfl, hst⟩
                have hax := box_kept HY.out hst
                have hlt4 : w3.heap.size < w4.heap.size := (Array.getElem?_eq_some_iff.1 hax).1
                have r0 : w4.cell? ⟨w3.heap.size, 0, none⟩ = some (.int .i64 n1) := (cell_of_heap hax 0).trans rfl
                have r1 : w4.cell? ⟨w3.heap.size, 1, none⟩ = some (.string s1) := (cell_of_heap hax 1).trans rfl
                have r2 : w4.cell? ⟨w3.heap.size, 2, none⟩ = some (.int .i64 e1) := (cell_of_heap hax 2).trans rfl
                have HF0 := hide (HCC.out.both HN.out HG.out HS1.out (fun _ _ => DepStep.behind (below_one w3 _) hst))
                clear hst hax HC2 HCC HS1 HY q0 q1 q2 q3 q4 q5 q6 q7 q8
                have HF := hide (show BInv w (w4.alloc (.cells (ansW n1 s1 e1) 35)) w.heap.size w.heap.size w1.heap.size (k + 1) from by obtain ⟨E1, E2, h⟩ := HF0.out; exact ⟨E1, E2, h.below (below_one w4 _)⟩)
                clear HF0
                go_wp2_with fail
                go_roundw
                case rel => exact ⟨k + 1, by omega, by go_num, HF.out⟩
                case measure => simp [intOf] <;> omega
        · have hp1 : (pickF x.who == 1) = false := by rw [beq_eq_false_iff_ne]; exact h1
          by_cases k11 : x.kind = 11
          · have k11' : (x.kind == 11) = true := by rw [k11]; rfl
            have HNC := hide (show x.kind = 11 ∨ 12 ≤ x.kind ∨ x.kind < 0 by omega)
            clear k11
            have HNX := hide (show ((x.kind = 11 ∨ 12 ≤ x.kind ∨ x.kind < 0) ∨ ((showsH x.who).toList == kG.toList) = false) ∧ ((x.kind = 11 ∨ 12 ≤ x.kind ∨ x.kind < 0) ∨ showsH x.who = kH) from ⟨HN0.out, Or.inl HNC.out⟩)
            clear h1 h2
            have HN := hide HNX.out.1
            have hsm := HCC.out.same (x := x) HNX.out.2
            rw [← hsm] at HC2
            generalize callA D1.pure x = ca at *
            obtain ⟨n1, s1, e1⟩ := ca
            simp only at HC1 HC2
            clear hsm
            generalize pickF x.who = pw at *
            go_wp2_with fail
            refine (HPK.out _).mono ?_
            rintro ε w2 ⟨rfl, hw2⟩
            subst hw2
            go_wp2_with fail
            refine HC1.out.mono ?_
            rintro ε w3 ⟨rfl, hst⟩
            have hbx := box_kept HX0.out hst
            have hlt3 : wr.heap.size < w3.heap.size := (Array.getElem?_eq_some_iff.1 hbx).1
            have q0 : w3.cell? ⟨wr.heap.size, 0, none⟩ = some (.int .i64 x.who) := (cell_of_heap hbx 0).trans rfl
            have q1 : w3.cell? ⟨wr.heap.size, 1, none⟩ = some (.int .i64 x.kind) := (cell_of_heap hbx 1).trans rfl
            have q2 : w3.cell? ⟨wr.heap.size, 2, none⟩ = some (.int .i64 x.id) := (cell_of_heap hbx 2).trans rfl
            have q3 : w3.cell? ⟨wr.heap.size, 3, none⟩ = some (.string x.of) := (cell_of_heap hbx 3).trans rfl
            have q4 : w3.cell? ⟨wr.heap.size, 4, none⟩ = some (.string x.s) := (cell_of_heap hbx 4).trans rfl
            have q5 : w3.cell? ⟨wr.heap.size, 5, none⟩ = some (.string x.t) := (cell_of_heap hbx 5).trans rfl
            have q6 : w3.cell? ⟨wr.heap.size, 6, none⟩ = some (.int .i64 x.a) := (cell_of_heap hbx 6).trans rfl
            have q7 : w3.cell? ⟨wr.heap.size, 7, none⟩ = some (.int .i64 x.b) := (cell_of_heap hbx 7).trans rfl
            have q8 : w3.cell? ⟨wr.heap.size, 8, none⟩ = some (.int .i64 x.c) := (cell_of_heap hbx 8).trans rfl
            have HS1 := hide hst
            have HY := hide (show DepAt w3 w1.heap.size D2 from by obtain ⟨_, t, _⟩ := HCC.out.two.stepx hst; exact t.y)
            clear hst hbx HC1 d0 d1 d2 d3 d4 d5 d6 d7 d8
            go_wp2_with fail
            refine (HC2.out _ (HY.out.below (below_one w3 _))).mono ?_
            rintro ε w4 ⟨rfl, hst⟩
            have hax := box_kept HY.out hst
            have hlt4 : w3.heap.size < w4.heap.size := (Array.getElem?_eq_some_iff.1 hax).1
            have r0 : w4.cell? ⟨w3.heap.size, 0, none⟩ = some (.int .i64 n1) := (cell_of_heap hax 0).trans rfl
            have r1 : w4.cell? ⟨w3.heap.size, 1, none⟩ = some (.string s1) := (cell_of_heap hax 1).trans rfl
            have r2 : w4.cell? ⟨w3.heap.size, 2, none⟩ = some (.int .i64 e1) := (cell_of_heap hax 2).trans rfl
            have HF0 := hide (HCC.out.both HN.out HG.out HS1.out (fun _ _ => DepStep.behind (below_one w3 _) hst))
            clear hst hax HC2 HCC HS1 HY q0 q1 q2 q3 q4 q5 q6 q7 q8
            have HF := hide (show BInv w (w4.alloc (.cells (ansW n1 s1 e1) 35)) w.heap.size w.heap.size w1.heap.size (k + 1) from by obtain ⟨E1, E2, h⟩ := HF0.out; exact ⟨E1, E2, h.below (below_one w4 _)⟩)
            clear HF0
            go_wp2_with fail
            go_roundw
            case rel => exact ⟨k + 1, by omega, by go_num, HF.out⟩
            case measure => simp [intOf] <;> omega
          · have k11' : (x.kind == 11) = false := by rw [beq_eq_false_iff_ne]; exact k11
            by_cases k12 : 12 ≤ x.kind
            · have k12d : decide (12 ≤ x.kind) = true := decide_eq_true k12
              have HNC := hide (show x.kind = 11 ∨ 12 ≤ x.kind ∨ x.kind < 0 by omega)
              clear k12 k11
              have HNX := hide (show ((x.kind = 11 ∨ 12 ≤ x.kind ∨ x.kind < 0) ∨ ((showsH x.who).toList == kG.toList) = false) ∧ ((x.kind = 11 ∨ 12 ≤ x.kind ∨ x.kind < 0) ∨ showsH x.who = kH) from ⟨HN0.out, Or.inl HNC.out⟩)
              clear h1 h2
              have HN := hide HNX.out.1
              have hsm := HCC.out.same (x := x) HNX.out.2
              rw [← hsm] at HC2
              generalize callA D1.pure x = ca at *
              obtain ⟨n1, s1, e1⟩ := ca
              simp only at HC1 HC2
              clear hsm
              generalize pickF x.who = pw at *
              go_wp2_with fail
              refine (HPK.out _).mono ?_
              rintro ε w2 ⟨rfl, hw2⟩
              subst hw2
              go_wp2_with fail
              refine HC1.out.mono ?_
              rintro ε w3 ⟨rfl, hst⟩
              have hbx := box_kept HX0.out hst
              have hlt3 : wr.heap.size < w3.heap.size := (Array.getElem?_eq_some_iff.1 hbx).1
              have q0 : w3.cell? ⟨wr.heap.size, 0, none⟩ = some (.int .i64 x.who) := (cell_of_heap hbx 0).trans rfl
              have q1 : w3.cell? ⟨wr.heap.size, 1, none⟩ = some (.int .i64 x.kind) := (cell_of_heap hbx 1).trans rfl
              have q2 : w3.cell? ⟨wr.heap.size, 2, none⟩ = some (.int .i64 x.id) := (cell_of_heap hbx 2).trans rfl
              have q3 : w3.cell? ⟨wr.heap.size, 3, none⟩ = some (.string x.of) := (cell_of_heap hbx 3).trans rfl
              have q4 : w3.cell? ⟨wr.heap.size, 4, none⟩ = some (.string x.s) := (cell_of_heap hbx 4).trans rfl
              have q5 : w3.cell? ⟨wr.heap.size, 5, none⟩ = some (.string x.t) := (cell_of_heap hbx 5).trans rfl
              have q6 : w3.cell? ⟨wr.heap.size, 6, none⟩ = some (.int .i64 x.a) := (cell_of_heap hbx 6).trans rfl
              have q7 : w3.cell? ⟨wr.heap.size, 7, none⟩ = some (.int .i64 x.b) := (cell_of_heap hbx 7).trans rfl
              have q8 : w3.cell? ⟨wr.heap.size, 8, none⟩ = some (.int .i64 x.c) := (cell_of_heap hbx 8).trans rfl
              have HS1 := hide hst
              have HY := hide (show DepAt w3 w1.heap.size D2 from by obtain ⟨_, t, _⟩ := HCC.out.two.stepx hst; exact t.y)
              clear hst hbx HC1 d0 d1 d2 d3 d4 d5 d6 d7 d8
              go_wp2_with fail
              refine (HC2.out _ (HY.out.below (below_one w3 _))).mono ?_
              rintro ε w4 ⟨rfl, hst⟩
              have hax := box_kept HY.out hst
              have hlt4 : w3.heap.size < w4.heap.size := (Array.getElem?_eq_some_iff.1 hax).1
              have r0 : w4.cell? ⟨w3.heap.size, 0, none⟩ = some (.int .i64 n1) := (cell_of_heap hax 0).trans rfl
              have r1 : w4.cell? ⟨w3.heap.size, 1, none⟩ = some (.string s1) := (cell_of_heap hax 1).trans rfl
              have r2 : w4.cell? ⟨w3.heap.size, 2, none⟩ = some (.int .i64 e1) := (cell_of_heap hax 2).trans rfl
              have HF0 := hide (HCC.out.both HN.out HG.out HS1.out (fun _ _ => DepStep.behind (below_one w3 _) hst))
              clear hst hax HC2 HCC HS1 HY q0 q1 q2 q3 q4 q5 q6 q7 q8
              have HF := hide (show BInv w (w4.alloc (.cells (ansW n1 s1 e1) 35)) w.heap.size w.heap.size w1.heap.size (k + 1) from by obtain ⟨E1, E2, h⟩ := HF0.out; exact ⟨E1, E2, h.below (below_one w4 _)⟩)
              clear HF0
              go_wp2_with fail
              go_roundw
              case rel => exact ⟨k + 1, by omega, by go_num, HF.out⟩
              case measure => simp [intOf] <;> omega
            · have k12d : decide (12 ≤ x.kind) = false := decide_eq_false k12
              by_cases k0 : x.kind < 0
              · have k0d : decide (x.kind < 0) = true := decide_eq_true k0
                have HNC := hide (show x.kind = 11 ∨ 12 ≤ x.kind ∨ x.kind < 0 by omega)
                clear k12 k0 k11
                have HNX := hide (show ((x.kind = 11 ∨ 12 ≤ x.kind ∨ x.kind < 0) ∨ ((showsH x.who).toList == kG.toList) = false) ∧ ((x.kind = 11 ∨ 12 ≤ x.kind ∨ x.kind < 0) ∨ showsH x.who = kH) from ⟨HN0.out, Or.inl HNC.out⟩)
                clear h1 h2
                have HN := hide HNX.out.1
                have hsm := HCC.out.same (x := x) HNX.out.2
                rw [← hsm] at HC2
                generalize callA D1.pure x = ca at *
                obtain ⟨n1, s1, e1⟩ := ca
                simp only at HC1 HC2
                clear hsm
                generalize pickF x.who = pw at *
                go_wp2_with fail
                refine (HPK.out _).mono ?_
                rintro ε w2 ⟨rfl, hw2⟩
                subst hw2
                go_wp2_with fail
                refine HC1.out.mono ?_
                rintro ε w3 ⟨rfl, hst⟩
                have hbx := box_kept HX0.out hst
                have hlt3 : wr.heap.size < w3.heap.size := (Array.getElem?_eq_some_iff.1 hbx).1
                have q0 : w3.cell? ⟨wr.heap.size, 0, none⟩ = some (.int .i64 x.who) := (cell_of_heap hbx 0).trans rfl
                have q1 : w3.cell? ⟨wr.heap.size, 1, none⟩ = some (.int .i64 x.kind) := (cell_of_heap hbx 1).trans rfl
                have q2 : w3.cell? ⟨wr.heap.size, 2, none⟩ = some (.int .i64 x.id) := (cell_of_heap hbx 2).trans rfl
                have q3 : w3.cell? ⟨wr.heap.size, 3, none⟩ = some (.string x.of) := (cell_of_heap hbx 3).trans rfl
                have q4 : w3.cell? ⟨wr.heap.size, 4, none⟩ = some (.string x.s) := (cell_of_heap hbx 4).trans rfl
                have q5 : w3.cell? ⟨wr.heap.size, 5, none⟩ = some (.string x.t) := (cell_of_heap hbx 5).trans rfl
                have q6 : w3.cell? ⟨wr.heap.size, 6, none⟩ = some (.int .i64 x.a) := (cell_of_heap hbx 6).trans rfl
                have q7 : w3.cell? ⟨wr.heap.size, 7, none⟩ = some (.int .i64 x.b) := (cell_of_heap hbx 7).trans rfl
                have q8 : w3.cell? ⟨wr.heap.size, 8, none⟩ = some (.int .i64 x.c) := (cell_of_heap hbx 8).trans rfl
                have HS1 := hide hst
                have HY := hide (show DepAt w3 w1.heap.size D2 from by obtain ⟨_, t, _⟩ := HCC.out.two.stepx hst; exact t.y)
                clear hst hbx HC1 d0 d1 d2 d3 d4 d5 d6 d7 d8
                go_wp2_with fail
                refine (HC2.out _ (HY.out.below (below_one w3 _))).mono ?_
                rintro ε w4 ⟨rfl, hst⟩
                have hax := box_kept HY.out hst
                have hlt4 : w3.heap.size < w4.heap.size := (Array.getElem?_eq_some_iff.1 hax).1
                have r0 : w4.cell? ⟨w3.heap.size, 0, none⟩ = some (.int .i64 n1) := (cell_of_heap hax 0).trans rfl
                have r1 : w4.cell? ⟨w3.heap.size, 1, none⟩ = some (.string s1) := (cell_of_heap hax 1).trans rfl
                have r2 : w4.cell? ⟨w3.heap.size, 2, none⟩ = some (.int .i64 e1) := (cell_of_heap hax 2).trans rfl
                have HF0 := hide (HCC.out.both HN.out HG.out HS1.out (fun _ _ => DepStep.behind (below_one w3 _) hst))
                clear hst hax HC2 HCC HS1 HY q0 q1 q2 q3 q4 q5 q6 q7 q8
                have HF := hide (show BInv w (w4.alloc (.cells (ansW n1 s1 e1) 35)) w.heap.size w.heap.size w1.heap.size (k + 1) from by obtain ⟨E1, E2, h⟩ := HF0.out; exact ⟨E1, E2, h.below (below_one w4 _)⟩)
                clear HF0
                go_wp2_with fail
                go_roundw
                case rel => exact ⟨k + 1, by omega, by go_num, HF.out⟩
                case measure => simp [intOf] <;> omega
              · have k0d : decide (x.kind < 0) = false := decide_eq_false k0
                clear k12 k0 k11
                clear h1 h2
                have HN := hide HN0.out
                generalize callA D1.pure x = ca at *
                generalize callA D2.pure x = cb at *
                obtain ⟨n1, s1, e1⟩ := ca
                obtain ⟨n2, s2, e2⟩ := cb
                simp only at HC1 HC2
                generalize pickF x.who = pw at *
                go_wp2_with fail
                refine (HPK.out _).mono ?_
                rintro ε w2 ⟨rfl, hw2⟩
                subst hw2
                go_wp2_with fail
                refine HC1.out.mono ?_
                rintro ε w3 ⟨rfl, hst⟩
                have hbx := box_kept HX0.out hst
                have hlt3 : wr.heap.size < w3.heap.size := (Array.getElem?_eq_some_iff.1 hbx).1
                have q0 : w3.cell? ⟨wr.heap.size, 0, none⟩ = some (.int .i64 x.who) := (cell_of_heap hbx 0).trans rfl
                have q1 : w3.cell? ⟨wr.heap.size, 1, none⟩ = some (.int .i64 x.kind) := (cell_of_heap hbx 1).trans rfl
                have q2 : w3.cell? ⟨wr.heap.size, 2, none⟩ = some (.int .i64 x.id) := (cell_of_heap hbx 2).trans rfl
                have q3 : w3.cell? ⟨wr.heap.size, 3, none⟩ = some (.string x.of) := (cell_of_heap hbx 3).trans rfl
                have q4 : w3.cell? ⟨wr.heap.size, 4, none⟩ = some (.string x.s) := (cell_of_heap hbx 4).trans rfl
                have q5 : w3.cell? ⟨wr.heap.size, 5, none⟩ = some (.string x.t) := (cell_of_heap hbx 5).trans rfl
                have q6 : w3.cell? ⟨wr.heap.size, 6, none⟩ = some (.int .i64 x.a) := (cell_of_heap hbx 6).trans rfl
                have q7 : w3.cell? ⟨wr.heap.size, 7, none⟩ = some (.int .i64 x.b) := (cell_of_heap hbx 7).trans rfl
                have q8 : w3.cell? ⟨wr.heap.size, 8, none⟩ = some (.int .i64 x.c) := (cell_of_heap hbx 8).trans rfl
                have HS1 := hide hst
                have HY := hide (show DepAt w3 w1.heap.size D2 from by obtain ⟨_, t, _⟩ := HCC.out.two.stepx hst; exact t.y)
                clear hst hbx HC1 d0 d1 d2 d3 d4 d5 d6 d7 d8
                go_wp2_with fail
                refine (HC2.out _ (HY.out.below (below_one w3 _))).mono ?_
                rintro ε w4 ⟨rfl, hst⟩
                have hax := box_kept HY.out hst
                have hlt4 : w3.heap.size < w4.heap.size := (Array.getElem?_eq_some_iff.1 hax).1
                have r0 : w4.cell? ⟨w3.heap.size, 0, none⟩ = some (.int .i64 n1) := (cell_of_heap hax 0).trans rfl
                have r1 : w4.cell? ⟨w3.heap.size, 1, none⟩ = some (.string s1) := (cell_of_heap hax 1).trans rfl
                have r2 : w4.cell? ⟨w3.heap.size, 2, none⟩ = some (.int .i64 e1) := (cell_of_heap hax 2).trans rfl
                have HF0 := hide (HCC.out.both HN.out HG.out HS1.out (fun _ _ => DepStep.behind (below_one w3 _) hst))
                clear hst hax HC2 HCC HS1 HY q0 q1 q2 q3 q4 q5 q6 q7 q8
                have HF := hide (show BInv w (w4.alloc (.cells (ansW n2 s2 e2) 35)) w.heap.size w.heap.size w1.heap.size (k + 1) from by obtain ⟨E1, E2, h⟩ := HF0.out; exact ⟨E1, E2, h.below (below_one w4 _)⟩)
                clear HF0
                cases b0 : (n1 == n2) <;> cases b1 : (s1.toList == s2.toList) <;> cases b2 : (e1 == e2)
                all_goals
                  go_wp2_with fail
                  go_roundw
                  case rel => exact ⟨k + 1, by omega, by go_num, HF.out⟩
                  case measure => simp [intOf] <;> omega
    · go_wp2_with fail
      go_ret
      exact ⟨rfl, hc.bel⟩

end Go.Proofs.YtgcldedkempjhaaDoor
