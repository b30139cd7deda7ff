/-
  depotkeep: Still: the walk.
-/
import Derived.Test.YtgcldedkempjhabDoorStillA
import Derived.BigQuiet
namespace Go.Proofs.YtgcldedkempjhabDoor
open Go.RowKit

/-- A row of answers, its cells. -/
def RowAt (w : World) (g : Nat) (L : List An) : Prop :=
  ∀ j y, L[j]? = some y → w.cell? ⟨g, j * 3, none⟩ = some (.int .i64 y.n) ∧ w.cell? ⟨g, j * 3 + 1, none⟩ = some (.string y.s) ∧ w.cell? ⟨g, j * 3 + 2, none⟩ = some (.int .i64 y.e)

theorem RowAt.keep {w w' : World} {g : Nat} {L : List An} (h : RowAt w g L) (hk : w'.heap[g]? = w.heap[g]?) : RowAt w' g L := by
  intro j y hy
  obtain ⟨h0, h1, h2⟩ := h j y hy
  exact ⟨(World.cell?_of_block hk).trans h0, (World.cell?_of_block hk).trans h1, (World.cell?_of_block hk).trans h2⟩

/-- A picture as it lies. -/
theorem pic_full {w wr : World} {v : Value} {P : PDep} (h : Pic w wr v (picP P)) : ∃ g cp, v = .slice (some ⟨g, 0, none⟩) 41 cp ∧ w.heap.size ≤ g ∧ g < wr.heap.size ∧ RowAt wr g (picP P) ∧ Below w.heap.size w wr := by
  obtain ⟨ao, cp, rfl, own, hb⟩ := h
  have hl := picP_len P
  obtain ⟨g, hg, hlt, hbase, _, _⟩ := row_cell An.cells_length own 0 (by omega)
  refine ⟨g, cp, by rw [hg, hl], hbase, hlt, fun j y hy => ?_, hb⟩
  obtain ⟨hj, hy'⟩ := List.getElem?_eq_some_iff.1 hy
  obtain ⟨g2, hg2, _, _, hc, _⟩ := row_cell An.cells_length own j hj
  have : g2 = g := by
    rw [hg] at hg2
    injection hg2 with hg2
    injection hg2 with hg2
    exact hg2.symm
  subst this
  rw [hy'] at hc
  exact ⟨hc 0 _ rfl, hc 1 _ rfl, hc 2 _ rfl⟩

/-- A depot between two turns. -/
structure StAt (w wr : World) (db : Nat) (D : DepD) (k : Nat) : Prop where
  dep : DepAt wr db D
  bel : Below w.heap.size w wr
  foot : ∀ j, DepFoot db D j → w.heap.size ≤ j
  c0 : 0 ≤ D.clock
  c1 : D.clock ≤ 1099511627776
  y : D.yanks ≤ k

def StInv (w wr : World) (db k : Nat) : Prop := ∃ D, StAt w wr db D k

theorem StAt.below {w wr w' : World} {db k : Nat} {D : DepD} (c : StAt w wr db D k) (hb : Below wr.heap.size wr w') : StAt w w' db D k :=
  ⟨c.dep.below hb, below_call c.bel hb, c.foot, c.c0, c.c1, c.y⟩

theorem still_next {w wr w3 : World} {db k : Nat} {D D' : DepD} {x : TurnD} (c : StAt w wr db D k) (hst : DepTo wr w3 db D D') (hP : D'.pure = callS D.pure x) : StAt w w3 db D' (k + 1) := by
  have hc := callS_clock (P := D.pure) (x := x) c.c0 c.c1
  have hy := callS_yanks D.pure x
  rw [← hP] at hc hy
  refine ⟨hst.dep, c.bel.trans (hst.chg.below c.bel.size (fun j hj => c.foot j hj)), fun j hj => ?_, hc.1, hc.2, Nat.le_trans hy (Nat.succ_le_succ c.y)⟩
  exact (hst.foot j hj).elim (c.foot j) (fun h => Nat.le_trans c.bel.size h)

/-- What two rows tell, where the depot is as it was. -/
theorem rows_same {w : World} {g1 g2 : Nat} {L : List An} (h1 : RowAt w g1 L) (h2 : RowAt w g2 L) {j : Nat} (hj : j < L.length) :
    ∃ y : An, (w.cell? ⟨g1, j * 3, none⟩ = some (.int .i64 y.n) ∧ w.cell? ⟨g1, j * 3 + 1, none⟩ = some (.string y.s) ∧ w.cell? ⟨g1, j * 3 + 2, none⟩ = some (.int .i64 y.e)) ∧ w.cell? ⟨g2, j * 3, none⟩ = some (.int .i64 y.n) ∧ w.cell? ⟨g2, j * 3 + 1, none⟩ = some (.string y.s) ∧ w.cell? ⟨g2, j * 3 + 2, none⟩ = some (.int .i64 y.e) :=
  ⟨L[j], h1 j _ (List.getElem?_eq_getElem hj), h2 j _ (List.getElem?_eq_getElem hj)⟩

set_option maxHeartbeats 8000000 in
set_option maxRecDepth 100000 in
theorem still_any (so : Option Addr) (len cap0 : Nat) (f : Nat → TurnD) (w : World) (htab : TabOk w) (hlen : len ≤ 100000000000)
    (hscr : ∀ i, i < len → ∃ g o, so = some ⟨g, o, none⟩ ∧ g < w.heap.size ∧ TurnAt w g (o + i * 9) (f i) ∧ TurnFit (f i)) :
    Calls Tryd.prog 3 #[.slice so len cap0] w fun e w' => e = .returned (.bool true) ∧ Below w.heap.size w w' := by
  have HS := hide hscr
  clear hscr
  go_enter Tryd.func3, Tryd.ntmps3
  go_wp2_with fail
  refine (opened_any _ htab).mono ?_
  rintro e w1 ⟨rfl, D, hD, hP, hB, hF⟩
  have hl1 : w.heap.size < w1.heap.size := hD.lt
  have HO := hide (And.intro hD (And.intro hP (And.intro hB hF)))
  clear hD hP hB hF
  go_wp2_with fail
  refine (known_any w.heap.size D _ HO.out.1 HO.out.2.1).mono ?_
  rintro e w2 ⟨rfl, D2, hD2, hP2, hC2, hF2⟩
  have HI0 := hide (show StInv w w2 w.heap.size 0 from ⟨D2, hD2, HO.out.2.2.1.trans (hC2.below HO.out.2.2.1.size (fun j hj => HO.out.2.2.2 j hj)), fun j hj => (hF2 j hj).elim (HO.out.2.2.2 j) (fun h => Nat.le_trans HO.out.2.2.1.size h),
    by rw [show D2.clock = 0 from congrArg PDep.clock hP2]; decide, by rw [show D2.clock = 0 from congrArg PDep.clock hP2]; decide, Nat.le_of_eq (show D2.yanks = 0 from congrArg PDep.yanks hP2)⟩)
  clear hD2 hP2 hC2 hF2 HO
  go_wp2_with fail
  go_loopw [5, 6, 7, 8, 9, 10, 11] (fun i _ _ _ _ _ _ wx => ∃ k : Nat, k ≤ len ∧ i = .int .i64 (k : Int) ∧ StInv w wx w.heap.size k) (fun i _ _ _ _ _ _ _ => len - (intOf i).toNat)
  case atStart => exact ⟨0, Nat.zero_le _, rfl, HI0.out⟩
  case round =>
    clear D2
    obtain ⟨k, hk, rfl, D, hc⟩ := hrel
    clear HI0
    by_cases hlt : k < len
    · obtain ⟨g, o, rfl, hg, hop, hok⟩ := HS.out k hlt
      obtain ⟨d0, d1, d2, d3, d4, d5, d6, d7, d8⟩ := hop.below hc.bel hg
      clear hop
      generalize f k = x at *
      have hW := below_one wr (.cells (turnV x) 27)
      have hcy := hc.y
      have HCC := hide hc
      have HPIC := hide (fun (E : DepD) W (h : DepAt W w.heap.size E) => picture_any w.heap.size E W h)
      have HCALL := hide (fun W (h : DepAt W w.heap.size D) => call_any w.heap.size D x W h hok (by omega) hc.c0 hc.c1)
      have HW := hide hW
      generalize hA : callA D.pure x = ca at *
      obtain ⟨n, s, e⟩ := ca
      have HA := hide hA
      simp only at HCALL
      clear hok hc hW hA
      go_wp2_with fail
      refine (HPIC.out D _ (HCC.out.dep.below HW.out)).mono ?_
      rintro ε w2 ⟨v, rfl, hpic⟩
      obtain ⟨g1, c1, rfl, hg1, hl1, hr1, hb2⟩ := pic_full hpic
      have hbx : w2.heap[wr.heap.size]? = some (.cells (turnV x) 27 (0, 0)) := by rw [hb2.block wr.heap.size (by simp)]; exact heap_alloc_new wr _
      have hlt2 : wr.heap.size < w2.heap.size := (Array.getElem?_eq_some_iff.1 hbx).1
      have q0 : w2.cell? ⟨wr.heap.size, 0, none⟩ = some (.int .i64 x.who) := (cell_of_heap hbx 0).trans rfl
      have q1 : w2.cell? ⟨wr.heap.size, 1, none⟩ = some (.int .i64 x.kind) := (cell_of_heap hbx 1).trans rfl
      have q2 : w2.cell? ⟨wr.heap.size, 2, none⟩ = some (.int .i64 x.id) := (cell_of_heap hbx 2).trans rfl
      have q3 : w2.cell? ⟨wr.heap.size, 3, none⟩ = some (.string x.of) := (cell_of_heap hbx 3).trans rfl
      have q4 : w2.cell? ⟨wr.heap.size, 4, none⟩ = some (.string x.s) := (cell_of_heap hbx 4).trans rfl
      have q5 : w2.cell? ⟨wr.heap.size, 5, none⟩ = some (.string x.t) := (cell_of_heap hbx 5).trans rfl
      have q6 : w2.cell? ⟨wr.heap.size, 6, none⟩ = some (.int .i64 x.a) := (cell_of_heap hbx 6).trans rfl
      have q7 : w2.cell? ⟨wr.heap.size, 7, none⟩ = some (.int .i64 x.b) := (cell_of_heap hbx 7).trans rfl
      have q8 : w2.cell? ⟨wr.heap.size, 8, none⟩ = some (.int .i64 x.c) := (cell_of_heap hbx 8).trans rfl
      have HB2 := hide (below_call HW.out hb2)
      have HBX := hide hbx
      have HR1 := hide hr1
      have hg1' : wr.heap.size < g1 := by simp at hg1; omega
      clear hpic hb2 hbx hr1 d0 d1 d2 d3 d4 d5 d6 d7 d8 hg1
      go_wp2_with fail
      refine (HCALL.out _ (HCC.out.dep.below HB2.out)).mono ?_
      rintro ε w3 ⟨rfl, hst⟩
      have hab := fun (j : Nat) (h1 : wr.heap.size ≤ j) (h2 : j < w2.heap.size) => hst.above HCC.out.dep h1 h2
      have hbx3 := (hab _ (Nat.le_refl _) hlt2).trans HBX.out
      have hr3 := HR1.out.keep (hab g1 (by omega) hl1)
      have hgr := hst.grows
      obtain ⟨D', hD', hP', hC', hF'⟩ := DepStep.behind HB2.out hst
      have HTO := hide (show DepTo wr w3 w.heap.size D D' from ⟨hD', hC', hF'⟩)
      have HP3 := hide hP'
      have HBX3 := hide hbx3
      have HR3 := hide hr3
      have hlt3 : wr.heap.size < w3.heap.size := by omega
      have hl13 : g1 < w3.heap.size := by omega
      clear hst hab hbx3 hr3 hD' hP' hC' hF' HCALL HBX HR1 q0 q1 q2 q3 q4 q5 q6 q7 q8
      go_wp2_with fail
      refine (HPIC.out D' _ (HTO.out.dep.below (below_one w3 _))).mono ?_
      rintro ε w4 ⟨v, rfl, hpic⟩
      obtain ⟨g2, c2, rfl, hg2, hl2, hr2, hb4⟩ := pic_full hpic
      have HB4 := hide (below_call (below_one w3 _) hb4)
      have hax : w4.heap[w3.heap.size]? = some (.cells (ansW n s e) 32 (0, 0)) := by rw [hb4.block w3.heap.size (by simp)]; exact heap_alloc_new w3 _
      have hlt4 : w3.heap.size < w4.heap.size := (Array.getElem?_eq_some_iff.1 hax).1
      have hbx4 := (HB4.out.block wr.heap.size hlt3).trans HBX3.out
      have HR1 := hide (HR3.out.keep (HB4.out.block g1 hl13))
      have HR2 := hide hr2
      have t1 : w4.cell? ⟨wr.heap.size, 1, none⟩ = some (.int .i64 x.kind) := (cell_of_heap hbx4 1).trans rfl
      have r2 : w4.cell? ⟨w3.heap.size, 2, none⟩ = some (.int .i64 e) := (cell_of_heap hax 2).trans rfl
      have HF := hide (show StInv w w4 w.heap.size (k + 1) from ⟨D', (still_next HCC.out HTO.out HP3.out).below HB4.out⟩)
      clear hpic hr2 hb4 hax hbx4 HPIC HTO HBX3 HR3 HB4 HB2 HW HCC hg2
      by_cases k0 : x.kind = 0
      · have HK := hide (show (x.kind < 1 ∨ (7 ≤ x.kind ∧ x.kind ≤ 10)) ∨ 13 ≤ x.kind by omega)
        have k0' : (x.kind == 0) = true := by rw [k0]; rfl
        clear k0
        by_cases he : e = 0
        · subst he
          have HSAME := hide (show callS D.pure x = D.pure from call_e0 D.pure HK.out)
          have HROW := hide (fun (j : Nat) (hj : j < 41) (wx : World) (hbw : Below w4.heap.size w4 wx) => rows_same (w := wx) (g1 := g1) (g2 := g2) (HR1.out.keep (hbw.block g1 (by omega))) (by have := HR2.out.keep (hbw.block g2 hl2); rw [HP3.out, HSAME.out] at this; exact this) (j := j) (by rw [picP_len]; exact hj))
          clear HR1 HR2 HP3
          go_wp2_with fail
          obtain ⟨wo, rfl⟩ : ∃ wo : World, wo = wr := ⟨_, rfl⟩
          go_loopw [11] (fun i wx => ∃ j : Nat, j ≤ 41 ∧ i = .int .i64 (j : Int) ∧ Below w4.heap.size w4 wx) (fun i _ => 41 - (intOf i).toNat)
          case atStart => exact ⟨0, by omega, rfl, Below.refl _ _⟩
          case round =>
            obtain ⟨j, hj, rfl, hbw⟩ := hrel
            have r2' := (hbw.cell (p := ⟨w3.heap.size, 2, none⟩) hlt4).trans r2
            by_cases hlt2 : j < 41
            · obtain ⟨y, ⟨a0, a1, a2⟩, b0, b1, b2⟩ := HROW.out j hlt2 wr hbw
              have hl2 : (j : Int) < 41 := by omega
              go_wp2_with fail
              go_quiet (fail)
              go_wp2_with fail
              go_roundw
              case rel => exact ⟨j + 1, by omega, by go_num, ⟨hbw.os, hbw.tape, hbw.output, hbw.size, hbw.block⟩⟩
              case measure => simp [intOf] <;> omega
            · have hl2 : ¬ (j : Int) < 41 := by omega
              go_wp2_with fail
              go_roundw
              case rel => exact ⟨k + 1, by omega, by go_num, by obtain ⟨E, h⟩ := HF.out; exact ⟨E, h.below hbw⟩⟩
              case measure => simp [intOf] <;> omega
        · have hz : (e == 0) = false := by rw [beq_eq_false_iff_ne]; exact he
          have HSAME := hide (show callS D.pure x = D.pure from by unfold callS stepP; rw [if_neg (by rw [HA.out]; exact he)])
          have HROW := hide (fun (j : Nat) (hj : j < 41) (wx : World) (hbw : Below w4.heap.size w4 wx) => rows_same (w := wx) (g1 := g1) (g2 := g2) (HR1.out.keep (hbw.block g1 (by omega))) (by have := HR2.out.keep (hbw.block g2 hl2); rw [HP3.out, HSAME.out] at this; exact this) (j := j) (by rw [picP_len]; exact hj))
          clear HR1 HR2 HP3
          go_wp2_with fail
          obtain ⟨wo, rfl⟩ : ∃ wo : World, wo = wr := ⟨_, rfl⟩
          go_loopw [11] (fun i wx => ∃ j : Nat, j ≤ 41 ∧ i = .int .i64 (j : Int) ∧ Below w4.heap.size w4 wx) (fun i _ => 41 - (intOf i).toNat)
          case atStart => exact ⟨0, by omega, rfl, Below.refl _ _⟩
          case round =>
            obtain ⟨j, hj, rfl, hbw⟩ := hrel
            have r2' := (hbw.cell (p := ⟨w3.heap.size, 2, none⟩) hlt4).trans r2
            by_cases hlt2 : j < 41
            · obtain ⟨y, ⟨a0, a1, a2⟩, b0, b1, b2⟩ := HROW.out j hlt2 wr hbw
              have hl2 : (j : Int) < 41 := by omega
              go_wp2_with fail
              go_quiet (fail)
              go_wp2_with fail
              go_roundw
              case rel => exact ⟨j + 1, by omega, by go_num, ⟨hbw.os, hbw.tape, hbw.output, hbw.size, hbw.block⟩⟩
              case measure => simp [intOf] <;> omega
            · have hl2 : ¬ (j : Int) < 41 := by omega
              go_wp2_with fail
              go_roundw
              case rel => exact ⟨k + 1, by omega, by go_num, by obtain ⟨E, h⟩ := HF.out; exact ⟨E, h.below hbw⟩⟩
              case measure => simp [intOf] <;> omega
      have k0' : (x.kind == 0) = false := by rw [beq_eq_false_iff_ne]; exact k0
      by_cases k7 : 7 ≤ x.kind ∧ x.kind ≤ 10
      · have HK := hide (show (x.kind < 1 ∨ (7 ≤ x.kind ∧ x.kind ≤ 10)) ∨ 13 ≤ x.kind by omega)
        have k7' : decide (7 ≤ x.kind) = true := decide_eq_true k7.1
        have k10' : decide (x.kind ≤ 10) = true := decide_eq_true k7.2
        clear k0 k7
        by_cases he : e = 0
        · subst he
          have HSAME := hide (show callS D.pure x = D.pure from call_e0 D.pure HK.out)
          have HROW := hide (fun (j : Nat) (hj : j < 41) (wx : World) (hbw : Below w4.heap.size w4 wx) => rows_same (w := wx) (g1 := g1) (g2 := g2) (HR1.out.keep (hbw.block g1 (by omega))) (by have := HR2.out.keep (hbw.block g2 hl2); rw [HP3.out, HSAME.out] at this; exact this) (j := j) (by rw [picP_len]; exact hj))
          clear HR1 HR2 HP3
          go_wp2_with fail
          obtain ⟨wo, rfl⟩ : ∃ wo : World, wo = wr := ⟨_, rfl⟩
          go_loopw [11] (fun i wx => ∃ j : Nat, j ≤ 41 ∧ i = .int .i64 (j : Int) ∧ Below w4.heap.size w4 wx) (fun i _ => 41 - (intOf i).toNat)
          case atStart => exact ⟨0, by omega, rfl, Below.refl _ _⟩
          case round =>
            obtain ⟨j, hj, rfl, hbw⟩ := hrel
            have r2' := (hbw.cell (p := ⟨w3.heap.size, 2, none⟩) hlt4).trans r2
            by_cases hlt2 : j < 41
            · obtain ⟨y, ⟨a0, a1, a2⟩, b0, b1, b2⟩ := HROW.out j hlt2 wr hbw
              have hl2 : (j : Int) < 41 := by omega
              go_wp2_with fail
              go_quiet (fail)
              go_wp2_with fail
              go_roundw
              case rel => exact ⟨j + 1, by omega, by go_num, ⟨hbw.os, hbw.tape, hbw.output, hbw.size, hbw.block⟩⟩
              case measure => simp [intOf] <;> omega
            · have hl2 : ¬ (j : Int) < 41 := by omega
              go_wp2_with fail
              go_roundw
              case rel => exact ⟨k + 1, by omega, by go_num, by obtain ⟨E, h⟩ := HF.out; exact ⟨E, h.below hbw⟩⟩
              case measure => simp [intOf] <;> omega
        · have hz : (e == 0) = false := by rw [beq_eq_false_iff_ne]; exact he
          have HSAME := hide (show callS D.pure x = D.pure from by unfold callS stepP; rw [if_neg (by rw [HA.out]; exact he)])
          have HROW := hide (fun (j : Nat) (hj : j < 41) (wx : World) (hbw : Below w4.heap.size w4 wx) => rows_same (w := wx) (g1 := g1) (g2 := g2) (HR1.out.keep (hbw.block g1 (by omega))) (by have := HR2.out.keep (hbw.block g2 hl2); rw [HP3.out, HSAME.out] at this; exact this) (j := j) (by rw [picP_len]; exact hj))
          clear HR1 HR2 HP3
          go_wp2_with fail
          obtain ⟨wo, rfl⟩ : ∃ wo : World, wo = wr := ⟨_, rfl⟩
          go_loopw [11] (fun i wx => ∃ j : Nat, j ≤ 41 ∧ i = .int .i64 (j : Int) ∧ Below w4.heap.size w4 wx) (fun i _ => 41 - (intOf i).toNat)
          case atStart => exact ⟨0, by omega, rfl, Below.refl _ _⟩
          case round =>
            obtain ⟨j, hj, rfl, hbw⟩ := hrel
            have r2' := (hbw.cell (p := ⟨w3.heap.size, 2, none⟩) hlt4).trans r2
            by_cases hlt2 : j < 41
            · obtain ⟨y, ⟨a0, a1, a2⟩, b0, b1, b2⟩ := HROW.out j hlt2 wr hbw
              have hl2 : (j : Int) < 41 := by omega
              go_wp2_with fail
              go_quiet (fail)
              go_wp2_with fail
              go_roundw
              case rel => exact ⟨j + 1, by omega, by go_num, ⟨hbw.os, hbw.tape, hbw.output, hbw.size, hbw.block⟩⟩
              case measure => simp [intOf] <;> omega
            · have hl2 : ¬ (j : Int) < 41 := by omega
              go_wp2_with fail
              go_roundw
              case rel => exact ⟨k + 1, by omega, by go_num, by obtain ⟨E, h⟩ := HF.out; exact ⟨E, h.below hbw⟩⟩
              case measure => simp [intOf] <;> omega
      by_cases k13 : 13 ≤ x.kind
      · have HK := hide (show (x.kind < 1 ∨ (7 ≤ x.kind ∧ x.kind ≤ 10)) ∨ 13 ≤ x.kind by omega)
        have k7' : decide (7 ≤ x.kind) = true := decide_eq_true (by omega)
        have k10' : decide (x.kind ≤ 10) = false := decide_eq_false (by omega)
        have k13' : decide (13 ≤ x.kind) = true := decide_eq_true k13
        clear k0 k7 k13
        by_cases he : e = 0
        · subst he
          have HSAME := hide (show callS D.pure x = D.pure from call_e0 D.pure HK.out)
          have HROW := hide (fun (j : Nat) (hj : j < 41) (wx : World) (hbw : Below w4.heap.size w4 wx) => rows_same (w := wx) (g1 := g1) (g2 := g2) (HR1.out.keep (hbw.block g1 (by omega))) (by have := HR2.out.keep (hbw.block g2 hl2); rw [HP3.out, HSAME.out] at this; exact this) (j := j) (by rw [picP_len]; exact hj))
          clear HR1 HR2 HP3
          go_wp2_with fail
          obtain ⟨wo, rfl⟩ : ∃ wo : World, wo = wr := ⟨_, rfl⟩
          go_loopw [11] (fun i wx => ∃ j : Nat, j ≤ 41 ∧ i = .int .i64 (j : Int) ∧ Below w4.heap.size w4 wx) (fun i _ => 41 - (intOf i).toNat)
          case atStart => exact ⟨0, by omega, rfl, Below.refl _ _⟩
          case round =>
            obtain ⟨j, hj, rfl, hbw⟩ := hrel
            have r2' := (hbw.cell (p := ⟨w3.heap.size, 2, none⟩) hlt4).trans r2
            by_cases hlt2 : j < 41
            · obtain ⟨y, ⟨a0, a1, a2⟩, b0, b1, b2⟩ := HROW.out j hlt2 wr hbw
              have hl2 : (j : Int) < 41 := by omega
              go_wp2_with fail
              go_quiet (fail)
              go_wp2_with fail
              go_roundw
              case rel => exact ⟨j + 1, by omega, by go_num, ⟨hbw.os, hbw.tape, hbw.output, hbw.size, hbw.block⟩⟩
              case measure => simp [intOf] <;> omega
            · have hl2 : ¬ (j : Int) < 41 := by omega
              go_wp2_with fail
              go_roundw
              case rel => exact ⟨k + 1, by omega, by go_num, by obtain ⟨E, h⟩ := HF.out; exact ⟨E, h.below hbw⟩⟩
              case measure => simp [intOf] <;> omega
        · have hz : (e == 0) = false := by rw [beq_eq_false_iff_ne]; exact he
          have HSAME := hide (show callS D.pure x = D.pure from by unfold callS stepP; rw [if_neg (by rw [HA.out]; exact he)])
          have HROW := hide (fun (j : Nat) (hj : j < 41) (wx : World) (hbw : Below w4.heap.size w4 wx) => rows_same (w := wx) (g1 := g1) (g2 := g2) (HR1.out.keep (hbw.block g1 (by omega))) (by have := HR2.out.keep (hbw.block g2 hl2); rw [HP3.out, HSAME.out] at this; exact this) (j := j) (by rw [picP_len]; exact hj))
          clear HR1 HR2 HP3
          go_wp2_with fail
          obtain ⟨wo, rfl⟩ : ∃ wo : World, wo = wr := ⟨_, rfl⟩
          go_loopw [11] (fun i wx => ∃ j : Nat, j ≤ 41 ∧ i = .int .i64 (j : Int) ∧ Below w4.heap.size w4 wx) (fun i _ => 41 - (intOf i).toNat)
          case atStart => exact ⟨0, by omega, rfl, Below.refl _ _⟩
          case round =>
            obtain ⟨j, hj, rfl, hbw⟩ := hrel
            have r2' := (hbw.cell (p := ⟨w3.heap.size, 2, none⟩) hlt4).trans r2
            by_cases hlt2 : j < 41
            · obtain ⟨y, ⟨a0, a1, a2⟩, b0, b1, b2⟩ := HROW.out j hlt2 wr hbw
              have hl2 : (j : Int) < 41 := by omega
              go_wp2_with fail
              go_quiet (fail)
              go_wp2_with fail
              go_roundw
              case rel => exact ⟨j + 1, by omega, by go_num, ⟨hbw.os, hbw.tape, hbw.output, hbw.size, hbw.block⟩⟩
              case measure => simp [intOf] <;> omega
            · have hl2 : ¬ (j : Int) < 41 := by omega
              go_wp2_with fail
              go_roundw
              case rel => exact ⟨k + 1, by omega, by go_num, by obtain ⟨E, h⟩ := HF.out; exact ⟨E, h.below hbw⟩⟩
              case measure => simp [intOf] <;> omega
      have k13' : decide (13 ≤ x.kind) = false := decide_eq_false k13
      by_cases kn : x.kind < 0
      · have HK := hide (show (x.kind < 1 ∨ (7 ≤ x.kind ∧ x.kind ≤ 10)) ∨ 13 ≤ x.kind by omega)
        have k7' : decide (7 ≤ x.kind) = false := decide_eq_false (by omega)
        have kn' : decide (x.kind < 0) = true := decide_eq_true kn
        clear k0 k7 k13 kn
        by_cases he : e = 0
        · subst he
          have HSAME := hide (show callS D.pure x = D.pure from call_e0 D.pure HK.out)
          have HROW := hide (fun (j : Nat) (hj : j < 41) (wx : World) (hbw : Below w4.heap.size w4 wx) => rows_same (w := wx) (g1 := g1) (g2 := g2) (HR1.out.keep (hbw.block g1 (by omega))) (by have := HR2.out.keep (hbw.block g2 hl2); rw [HP3.out, HSAME.out] at this; exact this) (j := j) (by rw [picP_len]; exact hj))
          clear HR1 HR2 HP3
          go_wp2_with fail
          obtain ⟨wo, rfl⟩ : ∃ wo : World, wo = wr := ⟨_, rfl⟩
          go_loopw [11] (fun i wx => ∃ j : Nat, j ≤ 41 ∧ i = .int .i64 (j : Int) ∧ Below w4.heap.size w4 wx) (fun i _ => 41 - (intOf i).toNat)
          case atStart => exact ⟨0, by omega, rfl, Below.refl _ _⟩
          case round =>
            obtain ⟨j, hj, rfl, hbw⟩ := hrel
            have r2' := (hbw.cell (p := ⟨w3.heap.size, 2, none⟩) hlt4).trans r2
            by_cases hlt2 : j < 41
            · obtain ⟨y, ⟨a0, a1, a2⟩, b0, b1, b2⟩ := HROW.out j hlt2 wr hbw
              have hl2 : (j : Int) < 41 := by omega
              go_wp2_with fail
              go_quiet (fail)
              go_wp2_with fail
              go_roundw
              case rel => exact ⟨j + 1, by omega, by go_num, ⟨hbw.os, hbw.tape, hbw.output, hbw.size, hbw.block⟩⟩
              case measure => simp [intOf] <;> omega
            · have hl2 : ¬ (j : Int) < 41 := by omega
              go_wp2_with fail
              go_roundw
              case rel => exact ⟨k + 1, by omega, by go_num, by obtain ⟨E, h⟩ := HF.out; exact ⟨E, h.below hbw⟩⟩
              case measure => simp [intOf] <;> omega
        · have hz : (e == 0) = false := by rw [beq_eq_false_iff_ne]; exact he
          have HSAME := hide (show callS D.pure x = D.pure from by unfold callS stepP; rw [if_neg (by rw [HA.out]; exact he)])
          have HROW := hide (fun (j : Nat) (hj : j < 41) (wx : World) (hbw : Below w4.heap.size w4 wx) => rows_same (w := wx) (g1 := g1) (g2 := g2) (HR1.out.keep (hbw.block g1 (by omega))) (by have := HR2.out.keep (hbw.block g2 hl2); rw [HP3.out, HSAME.out] at this; exact this) (j := j) (by rw [picP_len]; exact hj))
          clear HR1 HR2 HP3
          go_wp2_with fail
          obtain ⟨wo, rfl⟩ : ∃ wo : World, wo = wr := ⟨_, rfl⟩
          go_loopw [11] (fun i wx => ∃ j : Nat, j ≤ 41 ∧ i = .int .i64 (j : Int) ∧ Below w4.heap.size w4 wx) (fun i _ => 41 - (intOf i).toNat)
          case atStart => exact ⟨0, by omega, rfl, Below.refl _ _⟩
          case round =>
            obtain ⟨j, hj, rfl, hbw⟩ := hrel
            have r2' := (hbw.cell (p := ⟨w3.heap.size, 2, none⟩) hlt4).trans r2
            by_cases hlt2 : j < 41
            · obtain ⟨y, ⟨a0, a1, a2⟩, b0, b1, b2⟩ := HROW.out j hlt2 wr hbw
              have hl2 : (j : Int) < 41 := by omega
              go_wp2_with fail
              go_quiet (fail)
              go_wp2_with fail
              go_roundw
              case rel => exact ⟨j + 1, by omega, by go_num, ⟨hbw.os, hbw.tape, hbw.output, hbw.size, hbw.block⟩⟩
              case measure => simp [intOf] <;> omega
            · have hl2 : ¬ (j : Int) < 41 := by omega
              go_wp2_with fail
              go_roundw
              case rel => exact ⟨k + 1, by omega, by go_num, by obtain ⟨E, h⟩ := HF.out; exact ⟨E, h.below hbw⟩⟩
              case measure => simp [intOf] <;> omega
      have kn' : decide (x.kind < 0) = false := decide_eq_false kn
      by_cases k11 : 7 ≤ x.kind
      · have k7' : decide (7 ≤ x.kind) = true := decide_eq_true k11
        have k10' : decide (x.kind ≤ 10) = false := decide_eq_false (by omega)
        clear k0 k7 k13 kn k11
        by_cases he : e = 0
        · subst he
          clear HR1 HR2 HP3
          go_wp2_with fail
          obtain ⟨wo, rfl⟩ : ∃ wo : World, wo = wr := ⟨_, rfl⟩
          go_loopw [11] (fun i wx => i = .int .i64 0 ∧ w4 = wx) (fun _ _ => 0)
          case atStart => exact ⟨rfl, rfl⟩
          case round =>
            obtain ⟨rfl, rfl⟩ := hrel
            go_wp2_with fail
            go_roundw
            case rel => exact ⟨k + 1, by omega, by go_num, HF.out⟩
            case measure => simp [intOf] <;> omega
        · have hz : (e == 0) = false := by rw [beq_eq_false_iff_ne]; exact he
          have HSAME := hide (show callS D.pure x = D.pure from by unfold callS stepP; rw [if_neg (by rw [HA.out]; exact he)])
          have HROW := hide (fun (j : Nat) (hj : j < 41) (wx : World) (hbw : Below w4.heap.size w4 wx) => rows_same (w := wx) (g1 := g1) (g2 := g2) (HR1.out.keep (hbw.block g1 (by omega))) (by have := HR2.out.keep (hbw.block g2 hl2); rw [HP3.out, HSAME.out] at this; exact this) (j := j) (by rw [picP_len]; exact hj))
          clear HR1 HR2 HP3
          go_wp2_with fail
          obtain ⟨wo, rfl⟩ : ∃ wo : World, wo = wr := ⟨_, rfl⟩
          go_loopw [11] (fun i wx => ∃ j : Nat, j ≤ 41 ∧ i = .int .i64 (j : Int) ∧ Below w4.heap.size w4 wx) (fun i _ => 41 - (intOf i).toNat)
          case atStart => exact ⟨0, by omega, rfl, Below.refl _ _⟩
          case round =>
            obtain ⟨j, hj, rfl, hbw⟩ := hrel
            have r2' := (hbw.cell (p := ⟨w3.heap.size, 2, none⟩) hlt4).trans r2
            by_cases hlt2 : j < 41
            · obtain ⟨y, ⟨a0, a1, a2⟩, b0, b1, b2⟩ := HROW.out j hlt2 wr hbw
              have hl2 : (j : Int) < 41 := by omega
              go_wp2_with fail
              go_quiet (fail)
              go_wp2_with fail
              go_roundw
              case rel => exact ⟨j + 1, by omega, by go_num, ⟨hbw.os, hbw.tape, hbw.output, hbw.size, hbw.block⟩⟩
              case measure => simp [intOf] <;> omega
            · have hl2 : ¬ (j : Int) < 41 := by omega
              go_wp2_with fail
              go_roundw
              case rel => exact ⟨k + 1, by omega, by go_num, by obtain ⟨E, h⟩ := HF.out; exact ⟨E, h.below hbw⟩⟩
              case measure => simp [intOf] <;> omega
      · have k7' : decide (7 ≤ x.kind) = false := decide_eq_false k11
        clear k0 k7 k13 kn k11
        by_cases he : e = 0
        · subst he
          clear HR1 HR2 HP3
          go_wp2_with fail
          obtain ⟨wo, rfl⟩ : ∃ wo : World, wo = wr := ⟨_, rfl⟩
          go_loopw [11] (fun i wx => i = .int .i64 0 ∧ w4 = wx) (fun _ _ => 0)
          case atStart => exact ⟨rfl, rfl⟩
          case round =>
            obtain ⟨rfl, rfl⟩ := hrel
            go_wp2_with fail
            go_roundw
            case rel => exact ⟨k + 1, by omega, by go_num, HF.out⟩
            case measure => simp [intOf] <;> omega
        · have hz : (e == 0) = false := by rw [beq_eq_false_iff_ne]; exact he
          have HSAME := hide (show callS D.pure x = D.pure from by unfold callS stepP; rw [if_neg (by rw [HA.out]; exact he)])
          have HROW := hide (fun (j : Nat) (hj : j < 41) (wx : World) (hbw : Below w4.heap.size w4 wx) => rows_same (w := wx) (g1 := g1) (g2 := g2) (HR1.out.keep (hbw.block g1 (by omega))) (by have := HR2.out.keep (hbw.block g2 hl2); rw [HP3.out, HSAME.out] at this; exact this) (j := j) (by rw [picP_len]; exact hj))
          clear HR1 HR2 HP3
          go_wp2_with fail
          obtain ⟨wo, rfl⟩ : ∃ wo : World, wo = wr := ⟨_, rfl⟩
          go_loopw [11] (fun i wx => ∃ j : Nat, j ≤ 41 ∧ i = .int .i64 (j : Int) ∧ Below w4.heap.size w4 wx) (fun i _ => 41 - (intOf i).toNat)
          case atStart => exact ⟨0, by omega, rfl, Below.refl _ _⟩
          case round =>
            obtain ⟨j, hj, rfl, hbw⟩ := hrel
            have r2' := (hbw.cell (p := ⟨w3.heap.size, 2, none⟩) hlt4).trans r2
            by_cases hlt2 : j < 41
            · obtain ⟨y, ⟨a0, a1, a2⟩, b0, b1, b2⟩ := HROW.out j hlt2 wr hbw
              have hl2 : (j : Int) < 41 := by omega
              go_wp2_with fail
              go_quiet (fail)
              go_wp2_with fail
              go_roundw
              case rel => exact ⟨j + 1, by omega, by go_num, ⟨hbw.os, hbw.tape, hbw.output, hbw.size, hbw.block⟩⟩
              case measure => simp [intOf] <;> omega
            · have hl2 : ¬ (j : Int) < 41 := by omega
              go_wp2_with fail
              go_roundw
              case rel => exact ⟨k + 1, by omega, by go_num, by obtain ⟨E, h⟩ := HF.out; exact ⟨E, h.below hbw⟩⟩
              case measure => simp [intOf] <;> omega
    · go_wp2_with fail
      go_ret
      exact ⟨rfl, hc.bel⟩

end Go.Proofs.YtgcldedkempjhabDoor
