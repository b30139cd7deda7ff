/-
  depotkeep: the law Gate.
-/
import Derived.Test.YtgcldedkempjhaaDoorOpened
namespace Go.Proofs.YtgcldedkempjhaaDoor
open Go.RowKit

structure TwoB (w : World) (base db bb : Nat) (D : DepD) (cB : Int) (ao : Option Addr) (cap : Nat) (bs : List Bk) : Prop where
  dep : DepAt w db D
  book : KBookAt w bb cB ao cap bs
  a1 : ∀ k, DepFoot db D k → ¬ BookFoot bb ao k
  b1 : ∀ k, DepFoot db D k → base ≤ k
  b2 : ∀ k, BookFoot bb ao k → base ≤ k
  b3 : base ≤ w.heap.size
  b4 : tabB < base

section
variable {w w' : World} {base db bb : Nat} {D : DepD} {cB c' : Int} {ao : Option Addr} {cap : Nat} {bs : List Bk} {P' : PDep} {RB : List Bk → Prop}

theorem TwoB.dstep (h : TwoB w base db bb D cB ao cap bs) (hst : DepStep w w' db D P') : ∃ D', TwoB w' base db bb D' cB ao cap bs ∧ D'.pure = P' ∧ Below base w w' := by
  obtain ⟨D', hd, hR, hc, hf⟩ := hst
  refine ⟨D', ⟨hd, h.book.keep (fun k hk => hc.block k (h.book.foot hk).2 (fun hk' => h.a1 k hk' hk)), ?_, ?_, h.b2, Nat.le_trans h.b3 hc.size, h.b4⟩, hR, hc.below h.b3 h.b1⟩
  · intro k hk hr
    rcases hf k hk with h1 | h1
    · exact h.a1 k h1 hr
    · have := (h.book.foot hr).2; omega
  · intro k hk
    rcases hf k hk with h1 | h1
    · exact h.b1 k h1
    · have := h.b3; omega

theorem TwoB.bstep (h : TwoB w base db bb D cB ao cap bs) (hst : BookStep w w' bb c' ao RB) : ∃ ao' cap' bs', TwoB w' base db bb D c' ao' cap' bs' ∧ RB bs' ∧ Below base w w' := by
  obtain ⟨ao', cap', bs', hd, hR, hc, hf⟩ := hst
  refine ⟨ao', cap', bs', ⟨h.dep.keep (fun k hk => hc.block k (h.dep.foot hk).2 (h.a1 k hk)) (hc.block _ h.dep.tab.lt (fun hk => by have := h.b2 _ hk; have := h.b4; omega)), hd, ?_, h.b1, ?_, Nat.le_trans h.b3 hc.size, h.b4⟩, hR, hc.below h.b3 h.b2⟩
  · intro k hk hr
    rcases hf k hr with h1 | h1
    · exact h.a1 k hk h1
    · have := (h.dep.foot hk).2; omega
  · intro k hk
    rcases hf k hk with h1 | h1
    · exact h.b2 k h1
    · have := h.b3; omega

theorem TwoB.below (h : TwoB w base db bb D cB ao cap bs) (hb : Below w.heap.size w w') : TwoB w' base db bb D cB ao cap bs :=
  ⟨h.dep.below hb, h.book.below hb, h.a1, h.b1, h.b2, Nat.le_trans h.b3 hb.size, h.b4⟩

end

def GInv (w : World) (base db bb : Nat) : Prop := ∃ D ao cap bs, TwoB w base db bb D D.clock ao cap bs ∧ BSim D.pure.hs bs ∧ D.root = 77 ∧ 0 ≤ D.clock ∧ D.clock ≤ 1099511627776

theorem GInv.below {w w' : World} {base db bb : Nat} (h : GInv w base db bb) (hb : Below w.heap.size w w') : GInv w' base db bb := by
  obtain ⟨D, ao, cap, bs, h1, h2⟩ := h
  exact ⟨D, ao, cap, bs, h1.below hb, h2⟩

structure TurnAt (w : World) (g o : Nat) (x : TurnD) : Prop where
  d0 : w.cell? ⟨g, o, none⟩ = some (.int .i64 x.who)
  d1 : w.cell? ⟨g, o + 1, none⟩ = some (.int .i64 x.kind)
  d2 : w.cell? ⟨g, o + 2, none⟩ = some (.int .i64 x.id)
  d3 : w.cell? ⟨g, o + 3, none⟩ = some (.string x.of)
  d4 : w.cell? ⟨g, o + 4, none⟩ = some (.string x.s)
  d5 : w.cell? ⟨g, o + 5, none⟩ = some (.string x.t)
  d6 : w.cell? ⟨g, o + 6, none⟩ = some (.int .i64 x.a)
  d7 : w.cell? ⟨g, o + 7, none⟩ = some (.int .i64 x.b)
  d8 : w.cell? ⟨g, o + 8, none⟩ = some (.int .i64 x.c)

theorem TurnAt.below {w w' : World} {B g o : Nat} {x : TurnD} (h : TurnAt w g o x) (hb : Below B w w') (hg : g < B) : TurnAt w' g o x :=
  ⟨(hb.cell (p := ⟨g, _, none⟩) hg).trans h.d0, (hb.cell (p := ⟨g, _, none⟩) hg).trans h.d1, (hb.cell (p := ⟨g, _, none⟩) hg).trans h.d2, (hb.cell (p := ⟨g, _, none⟩) hg).trans h.d3,
    (hb.cell (p := ⟨g, _, none⟩) hg).trans h.d4, (hb.cell (p := ⟨g, _, none⟩) hg).trans h.d5, (hb.cell (p := ⟨g, _, none⟩) hg).trans h.d6, (hb.cell (p := ⟨g, _, none⟩) hg).trans h.d7, (hb.cell (p := ⟨g, _, none⟩) hg).trans h.d8⟩

structure TurnOk (x : TurnD) : Prop where
  w1 : -9223372036854775808 ≤ x.who
  w2 : x.who ≤ 9223372036854775807
  a2 : x.a ≤ 9223372036854775807
  ints : TurnInt x

theorem box_kept {W w1 : World} {db : Nat} {D : DepD} {P' : PDep} {o : Obj} (hr : DepAt W db D) (hst : DepStep (W.alloc o) w1 db D P') : w1.heap[W.heap.size]? = some o := by
  rw [hst.above hr (Nat.le_refl _) (by simp), heap_alloc_new]

theorem ans_kept {W w1 : World} {bb : Nat} {now c' : Int} {ao : Option Addr} {cap : Nat} {bs : List Bk} {RB : List Bk → Prop} {o : Obj} (hr : KBookAt W bb now ao cap bs) (hst : BookStep (W.alloc o) w1 bb c' ao RB) : w1.heap[W.heap.size]? = some o := by
  rw [hst.above hr (Nat.le_refl _) (by simp), heap_alloc_new]

theorem below_one (w : World) (o : Obj) : Below w.heap.size w (w.alloc o) := (Below.refl _ _).alloc (Nat.le_refl _) _

theorem gate_start {w w1 w2 : World} {D : DepD} {o2 : Obj} {g' cap' : Nat} (hD : DepAt w1 w.heap.size D) (hP : D.pure = P0) (hB : Below w.heap.size w w1) (hF : ∀ k, DepFoot w.heap.size D k → w.heap.size ≤ k)
    (hgrow : ((w1.alloc (.cells #[.slice none 0 0, .int .i64 0] 28)).alloc o2).grownBy w2 none) (hown : w2.ownsRow (w1.heap.size + 1) 30 5 (.slice (some ⟨g', 0, none⟩) 2 cap') 2 (bksCells bk0)) (hg : w1.heap.size + 1 ≤ g') :
    GInv (w2.setCell ⟨w1.heap.size, 0, none⟩ (.slice (some ⟨g', 0, none⟩) 2 cap')) w.heap.size w.heap.size w1.heap.size ∧ Below w.heap.size w (w2.setCell ⟨w1.heap.size, 0, none⟩ (.slice (some ⟨g', 0, none⟩) 2 cap')) := by
  have hs2 := size2 w1 (.cells #[.slice none 0 0, .int .i64 0] 28) o2
  have hsz := hgrow.size
  have hbk := hgrow.block w1.heap.size (by omega) (by intro h; cases h)
  rw [Below.heap_alloc _ _ _ (by simp), heap_alloc_new] at hbk
  have hold : ∀ k, k < w1.heap.size → w2.heap[k]? = w1.heap[k]? := fun k hk => by rw [hgrow.block k (by omega) (by intro h; cases h), heap2_old _ _ _ _ hk]
  have e0 : w2.cell? ⟨w1.heap.size, 0, none⟩ = some (.slice none 0 0) := (cell_of_heap hbk 0).trans rfl
  have hdlt := hD.lt
  have hset : ∀ k, k ≠ w1.heap.size → (w2.setCell ⟨w1.heap.size, 0, none⟩ (.slice (some ⟨g', 0, none⟩) 2 cap')).heap[k]? = w2.heap[k]? := fun k hk => Below.heap_setCell _ _ _ _ (by exact hk)
  have hD2 : DepAt (w2.setCell ⟨w1.heap.size, 0, none⟩ (.slice (some ⟨g', 0, none⟩) 2 cap')) w.heap.size D := hD.keep (fun k hk => by
    have := (hD.foot hk).2
    rw [hset k (by omega), hold k this]) (by have := hD.tab.lt; rw [hset _ (by omega), hold _ this])
  have hBk : KBookAt (w2.setCell ⟨w1.heap.size, 0, none⟩ (.slice (some ⟨g', 0, none⟩) 2 cap')) w1.heap.size 0 (some ⟨g', 0, none⟩) cap' bk0 := by
    refine ⟨?_, ?_, ?_, ?_, ?_, by decide⟩
    · rw [cell_setCell_same e0]; rfl
    · rw [cell_setCell_ne (by omega)]; exact (cell_of_heap hbk 1).trans rfl
    · rw [frozen_setCell]; exact frozen_of_heap hbk 0
    · rw [frozen_setCell]; exact frozen_of_heap hbk 1
    · exact ownsRow_setCell_below hown (Nat.lt_succ_self _) _
  have hbsz := hB.size
  have hclk : D.clock = 0 := congrArg PDep.clock hP
  have hroot : D.root = 77 := congrArg PDep.root hP
  have hSim : BSim D.pure.hs bk0 := by rw [hP]; exact bsim_start rfl rfl rfl rfl
  refine ⟨⟨D, some ⟨g', 0, none⟩, cap', bk0, ⟨hD2, by rw [hclk]; exact hBk, ?_, hF, ?_, by simp [World.setCell]; omega, hD.tlt⟩, hSim, hroot, by omega, by omega⟩, ?_⟩
  · intro k hk hk'
    have h1 := (hD.foot hk).2
    rcases hk' with rfl | ⟨a, e, rfl⟩
    · omega
    · injection e with e
      subst e
      simp only at h1
      omega
  · intro k hk
    rcases hk with rfl | ⟨a, e, rfl⟩
    · omega
    · injection e with e
      subst e
      simp only
      omega
  · refine ⟨hgrow.os.trans hB.os, hgrow.tape.trans hB.tape, hgrow.output.trans hB.output, by simp [World.setCell]; omega, fun k hk => ?_⟩
    rw [hset k (by omega), hold k (by omega), hB.block k hk]

set_option maxHeartbeats 1600000 in
set_option maxRecDepth 100000 in
theorem gate_any (so : Option Addr) (len cap0 : Nat) (f : Nat → TurnD) (w : World) (htab : TabOk w) (hlen : len ≤ 9223372036854775807)
    (hscr : ∀ i, i < len → ∃ g o, so = some ⟨g, o, none⟩ ∧ g < w.heap.size ∧ TurnAt w g (o + i * 9) (f i) ∧ TurnOk (f i)) :
    Calls Tryd.prog 3 #[.slice so len cap0] w fun e w' => e = .returned (.bool true) ∧ Below w.heap.size w w' := by
  have HS := hide hscr
  clear hscr
  obtain ⟨i0, ti, hz0, hz1, hz2⟩ := info_parts Tryd.infoBk
  go_enter Tryd.func3, Tryd.ntmps3
  go_wp2_with fail
  refine (opened_any _ htab).mono ?_
  rintro e w1 ⟨rfl, D, hD, hSim, hB, hF⟩
  have HO := hide (And.intro hD (And.intro hSim (And.intro hB hF)))
  clear hD hSim hB hF
  go_wp2_with (at_builtin; refine wpList_append_own2 _ rfl (.tmp 18) (.tmp 21) 26 rfl (w1.heap.size + 1) 30 i0 (.agg #[.string ⟨#[]⟩, .int .i64 0, .int .i64 0, .int .i64 0, .bool false]) 5 48 Tryd.underlying26 ti hz0 hz1 hz2 rfl (by decide) (.slice none 0 0) 0 [] rfl (World.ownsRow_nil _ _ _ _) ⟨w1.heap.size + 1, 0, none⟩ 2 2 (bksCells bk0) rfl rfl (news_at (t := 30) (fr := (0, 0)) (heap2_new w1 _ _)) ?_ (by unfold maxLen; omega) (by omega) ?_ (by omega) ?_)
  · simp [bksCells, bk0, Bk.cells, Value.oneCell']
  · simp
  · intro g' cap' w2 hown hgrow hnew
    have hG := hide (gate_start HO.out.1 HO.out.2.1 HO.out.2.2.1 HO.out.2.2.2 hgrow hown (hnew.elim (fun h => by cases h) (fun h => by omega)))
    have hbk := hgrow.block w1.heap.size (by simp; omega) (by intro h; cases h)
    rw [Below.heap_alloc _ _ _ (by simp), heap_alloc_new] at hbk
    have y0 : w2.cell? ⟨w1.heap.size, 0, none⟩ = some _ := (cell_of_heap hbk 0).trans rfl
    have yf := frozen_of_heap hbk 0
    clear hown hgrow hnew hbk HO
    go_wp2_with fail
    go_loopw [5, 6, 7, 8] (fun i _ _ _ wr => ∃ k : Nat, k ≤ len ∧ i = .int .i64 k ∧ GInv wr w.heap.size w.heap.size w1.heap.size ∧ Below w.heap.size w wr) (fun i _ _ _ _ => len - (intOf i).toNat)
    case atStart => exact ⟨0, Nat.zero_le _, rfl, hG.out.1, hG.out.2⟩
    case round =>
      obtain ⟨k, hk, rfl, hI, hb⟩ := hrel
      clear hG y0 yf
      by_cases hlt : k < len
      · obtain ⟨g, o, rfl, hg, hop, hok⟩ := HS.out k hlt
        obtain ⟨d0, d1, d2, d3, d4, d5, d6, d7, d8⟩ := hop.below hb hg
        clear hop
        generalize f k = x at *
        have HB1 := hide (below_one wr (.cells (turnV x) 32))
        have skip := hide (show GInv (wr.alloc (.cells (turnV x) 32)) w.heap.size w.heap.size w1.heap.size ∧ Below w.heap.size w (wr.alloc (.cells (turnV x) 32)) from ⟨hI.below HB1.out, hb.alloc hb.size _⟩)
        by_cases hk1 : x.kind = 1
        · have hk1' : (x.kind == 1) = true := by simp [hk1]
          clear hk1
          go_wp2_with fail
          go_roundw
          case rel => exact ⟨k + 1, by omega, by go_num, skip.out.1, skip.out.2⟩
          case measure => simp [intOf] <;> omega
        · have hk1' : (x.kind == 1) = false := beq_eq_false_iff_ne.2 hk1
          by_cases hk2 : 4 ≤ x.kind ∧ x.kind ≤ 11
          · obtain ⟨hk3, hk4⟩ := hk2
            go_wp2_with fail
            go_roundw
            case rel => exact ⟨k + 1, by omega, by go_num, skip.out.1, skip.out.2⟩
            case measure => simp [intOf] <;> omega
          · obtain ⟨D', ao', cap2, bs, hT, hSim, hrt, hc0, hc1⟩ := hI
            obtain ⟨n, e, P', RB, HC, HW, HR, hrr, hcc0, hcc1⟩ := turn_both x w.heap.size w1.heap.size D' ao' cap2 bs hSim hrt (hSim.few hT.dep.lens.t) hc0 hc1 hok.w1 hok.w2 hok.a2 hok.ints hk1 hk2
            have HC' := hide HC
            have HW' := hide HW
            have HR' := hide HR
            have HK2 := hide hk2
            clear HC HW HR hk2
            have hT1 := hT.below HB1.out
            by_cases h4 : 4 ≤ x.kind
            · have h11 : ¬ x.kind ≤ 11 := fun h => HK2.out ⟨h4, h⟩
              go_wp2_with fail
              refine (HC'.out _ hT1.dep).mono ?_
              rintro ε w3 ⟨rfl, hst⟩
              have hbx := box_kept hT.dep hst
              have hlt3 : wr.heap.size < w3.heap.size := (Array.getElem?_eq_some_iff.1 hbx).1
              obtain ⟨D3, hT3, hR3, hB3⟩ := hT1.dstep hst
              have q0 : w3.cell? ⟨wr.heap.size, 0, none⟩ = some (.int .i64 x.who) := (cell_of_heap hbx 0).trans rfl
              have q1 : w3.cell? ⟨wr.heap.size, 1, none⟩ = some (.int .i64 x.kind) := (cell_of_heap hbx 1).trans rfl
              have q2 : w3.cell? ⟨wr.heap.size, 2, none⟩ = some (.int .i64 x.id) := (cell_of_heap hbx 2).trans rfl
              have q3 : w3.cell? ⟨wr.heap.size, 3, none⟩ = some (.string x.of) := (cell_of_heap hbx 3).trans rfl
              have q4 : w3.cell? ⟨wr.heap.size, 4, none⟩ = some (.string x.s) := (cell_of_heap hbx 4).trans rfl
              have q5 : w3.cell? ⟨wr.heap.size, 5, none⟩ = some (.string x.t) := (cell_of_heap hbx 5).trans rfl
              have q6 : w3.cell? ⟨wr.heap.size, 6, none⟩ = some (.int .i64 x.a) := (cell_of_heap hbx 6).trans rfl
              have q7 : w3.cell? ⟨wr.heap.size, 7, none⟩ = some (.int .i64 x.b) := (cell_of_heap hbx 7).trans rfl
              have q8 : w3.cell? ⟨wr.heap.size, 8, none⟩ = some (.int .i64 x.c) := (cell_of_heap hbx 8).trans rfl
              have hT3' := hT3.below (below_one w3 (.cells (ansV n e) 35))
              clear hst hbx
              go_wp2_with fail
              refine (HW'.out _ hT3'.book).mono ?_
              rintro ε w4 ⟨rfl, hst⟩
              have hax := ans_kept hT3.book hst
              have hlt4 : w3.heap.size < w4.heap.size := (Array.getElem?_eq_some_iff.1 hax).1
              obtain ⟨ao4, cap4, bs4, hT4, hR4, hB4⟩ := hT3'.bstep hst
              have a0 : w4.cell? ⟨w3.heap.size, 0, none⟩ = some (.int .i64 n) := (cell_of_heap hax 0).trans rfl
              have a1 : w4.cell? ⟨w3.heap.size, 1, none⟩ = some (.string ⟨#[]⟩) := (cell_of_heap hax 1).trans rfl
              have a2 : w4.cell? ⟨w3.heap.size, 2, none⟩ = some (.int .i64 e) := (cell_of_heap hax 2).trans rfl
              have HFIN := hide (show GInv (w4.alloc (.cells (ansV n e) 35)) w.heap.size w.heap.size w1.heap.size ∧ Below w.heap.size w (w4.alloc (.cells (ansV n e) 35)) from
                ⟨GInv.below ⟨D3, ao4, cap4, bs4, by rw [show D3.clock = P'.clock from congrArg PDep.clock hR3]; exact hT4, by rw [hR3]; exact HR'.out _ hR4, (show D3.root = P'.root from congrArg PDep.root hR3).trans hrr, by rw [show D3.clock = P'.clock from congrArg PDep.clock hR3]; exact hcc0, by rw [show D3.clock = P'.clock from congrArg PDep.clock hR3]; exact hcc1⟩ (below_one w4 _), (((skip.out.2.trans hB3).alloc (Nat.le_trans hb.size (by omega)) _).trans hB4).alloc (Nat.le_trans hb.size (by omega)) _⟩)
              clear hst hax hT hT1 hT3 hT3' hT4 hB3 hB4 hR3 hR4 HC' HW' HR' q0 q1 q2 q3 q4 q5 q6 q7 q8 d0 d1 d2 d3 d4 d5 d6 d7 d8
              go_wp2_with fail
              go_roundw
              case rel => exact ⟨k + 1, by omega, by go_num, HFIN.out.1, HFIN.out.2⟩
              case measure => simp [intOf] <;> omega
            · go_wp2_with fail
              refine (HC'.out _ hT1.dep).mono ?_
              rintro ε w3 ⟨rfl, hst⟩
              have hbx := box_kept hT.dep hst
              have hlt3 : wr.heap.size < w3.heap.size := (Array.getElem?_eq_some_iff.1 hbx).1
              obtain ⟨D3, hT3, hR3, hB3⟩ := hT1.dstep hst
              have q0 : w3.cell? ⟨wr.heap.size, 0, none⟩ = some (.int .i64 x.who) := (cell_of_heap hbx 0).trans rfl
              have q1 : w3.cell? ⟨wr.heap.size, 1, none⟩ = some (.int .i64 x.kind) := (cell_of_heap hbx 1).trans rfl
              have q2 : w3.cell? ⟨wr.heap.size, 2, none⟩ = some (.int .i64 x.id) := (cell_of_heap hbx 2).trans rfl
              have q3 : w3.cell? ⟨wr.heap.size, 3, none⟩ = some (.string x.of) := (cell_of_heap hbx 3).trans rfl
              have q4 : w3.cell? ⟨wr.heap.size, 4, none⟩ = some (.string x.s) := (cell_of_heap hbx 4).trans rfl
              have q5 : w3.cell? ⟨wr.heap.size, 5, none⟩ = some (.string x.t) := (cell_of_heap hbx 5).trans rfl
              have q6 : w3.cell? ⟨wr.heap.size, 6, none⟩ = some (.int .i64 x.a) := (cell_of_heap hbx 6).trans rfl
              have q7 : w3.cell? ⟨wr.heap.size, 7, none⟩ = some (.int .i64 x.b) := (cell_of_heap hbx 7).trans rfl
              have q8 : w3.cell? ⟨wr.heap.size, 8, none⟩ = some (.int .i64 x.c) := (cell_of_heap hbx 8).trans rfl
              have hT3' := hT3.below (below_one w3 (.cells (ansV n e) 35))
              clear hst hbx
              go_wp2_with fail
              refine (HW'.out _ hT3'.book).mono ?_
              rintro ε w4 ⟨rfl, hst⟩
              have hax := ans_kept hT3.book hst
              have hlt4 : w3.heap.size < w4.heap.size := (Array.getElem?_eq_some_iff.1 hax).1
              obtain ⟨ao4, cap4, bs4, hT4, hR4, hB4⟩ := hT3'.bstep hst
              have a0 : w4.cell? ⟨w3.heap.size, 0, none⟩ = some (.int .i64 n) := (cell_of_heap hax 0).trans rfl
              have a1 : w4.cell? ⟨w3.heap.size, 1, none⟩ = some (.string ⟨#[]⟩) := (cell_of_heap hax 1).trans rfl
              have a2 : w4.cell? ⟨w3.heap.size, 2, none⟩ = some (.int .i64 e) := (cell_of_heap hax 2).trans rfl
              have HFIN := hide (show GInv (w4.alloc (.cells (ansV n e) 35)) w.heap.size w.heap.size w1.heap.size ∧ Below w.heap.size w (w4.alloc (.cells (ansV n e) 35)) from
                ⟨GInv.below ⟨D3, ao4, cap4, bs4, by rw [show D3.clock = P'.clock from congrArg PDep.clock hR3]; exact hT4, by rw [hR3]; exact HR'.out _ hR4, (show D3.root = P'.root from congrArg PDep.root hR3).trans hrr, by rw [show D3.clock = P'.clock from congrArg PDep.clock hR3]; exact hcc0, by rw [show D3.clock = P'.clock from congrArg PDep.clock hR3]; exact hcc1⟩ (below_one w4 _), (((skip.out.2.trans hB3).alloc (Nat.le_trans hb.size (by omega)) _).trans hB4).alloc (Nat.le_trans hb.size (by omega)) _⟩)
              clear hst hax hT hT1 hT3 hT3' hT4 hB3 hB4 hR3 hR4 HC' HW' HR' q0 q1 q2 q3 q4 q5 q6 q7 q8 d0 d1 d2 d3 d4 d5 d6 d7 d8
              go_wp2_with fail
              go_roundw
              case rel => exact ⟨k + 1, by omega, by go_num, HFIN.out.1, HFIN.out.2⟩
              case measure => simp [intOf] <;> omega
      · go_wp2_with fail
        go_ret
        exact ⟨rfl, hb⟩

end Go.Proofs.YtgcldedkempjhaaDoor
