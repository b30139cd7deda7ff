/-
  depotkeep: Chain: the walk.
-/
import Derived.Test.YtgcldedkempjhaaDoorChainC
namespace Go.Proofs.YtgcldedkempjhaaDoor
open Go.RowKit

structure TurnBrief (x : TurnD) : Prop where
  fit : TurnFit x
  s : x.s.size ≤ 1000000000000000
  t : x.t.size ≤ 1000000000000000

set_option maxHeartbeats 4000000 in
set_option maxRecDepth 100000 in
theorem chain_any (so : Option Addr) (len cap0 : Nat) (f : Nat → TurnD) (w : World) (htab : TabOk w) (hlen : len ≤ 100000000000)
    (hscr : ∀ i, i < len → ∃ g o, so = some ⟨g, o, none⟩ ∧ g < w.heap.size ∧ TurnAt w g (o + i * 9) (f i) ∧ TurnBrief (f i)) :
    Calls Tryd.prog 9 #[.slice so len cap0] w fun e w' => e = .returned (.bool true) ∧ Below w.heap.size w w' := by
  have HS := hide hscr
  clear hscr
  have hfs : first0.size ≤ 1000 := by
    unfold first0
    have := ten_size (n := 1099511627776) ⟨by decide, by decide⟩
    simp only [ByteArray.size_append]
    have z1 : (⟨#[55, 55, 58, 109, 105, 110, 116, 32, 49, 32, 51, 32]⟩ : ByteArray).size = 12 := rfl
    have z2 : (⟨#[59]⟩ : ByteArray).size = 1 := rfl
    omega
  have hfe : first0 = ⟨#[55, 55, 58, 109, 105, 110, 116, 32, 49, 32, 51, 32]⟩ ++ ten 1099511627776 ++ ⟨#[59]⟩ := rfl
  have HFE := hide hfe
  have htn := ten_size (n := 1099511627776) ⟨by decide, by decide⟩
  have HT := hide (show ∀ W, TabOk W → Calls Tryd.prog 29 #[.int .i64 1099511627776] W fun e w' => e = .returned (.string (ten 1099511627776)) ∧ Below W.heap.size W w' from fun W h => itoa_any _ ⟨by decide, by decide⟩ W h)
  have HSUM := hide (fun W => ksum_any first0 W (by omega))
  clear hfe
  go_enter Tryd.func9, Tryd.ntmps9
  go_wp2_with fail
  refine (opened_any _ htab).mono ?_
  rintro e w1 ⟨rfl, D, hD, hP, hB, hF⟩
  have HO := hide (And.intro hD (And.intro hP (And.intro hB hF)))
  have HTW := hide (htab.below hB)
  have hwl : w.heap.size < w1.heap.size := hD.lt
  clear hD hP hB hF
  generalize ten 1099511627776 = tn at *
  go_wp2_with fail
  refine (HT.out _ HTW.out).mono ?_
  rintro e w2 ⟨rfl, hb2⟩
  have HB2 := hide hb2
  have HL := hide (log_any w.heap.size D kH 1 w2 (HO.out.1.below hb2))
  rw [HO.out.2.1, log_P0] at HL
  clear hb2
  go_wp2_with fail
  refine HL.out.mono ?_
  rintro e w3 ⟨rfl, hb3⟩
  have HB3 := hide (below_call HB2.out hb3)
  have HH := hide (head_any w.heap.size D kG 1 w3 (HO.out.1.below HB3.out))
  rw [HO.out.2.1, head_P0] at HH
  clear hb3 HL
  generalize sumF first0.data.toList = sq at *
  go_wp2_with fail
  refine HH.out.mono ?_
  rintro e w4 ⟨rfl, hb4⟩
  have HB4 := hide (below_call HB3.out hb4)
  clear hb4 HH
  rw [← HFE.out]
  go_wp2_with fail
  refine (HSUM.out _).mono ?_
  rintro e w5 ⟨rfl, hb5⟩
  have HB5 := hide (below_call HB4.out hb5)
  clear hb5 HSUM
  have HC0 := hide (show CInv w w5 w.heap.size 0 first0 first0 from ⟨D, CAt.below ⟨HO.out.1, HO.out.2.2.1, HO.out.2.2.2, by rw [HO.out.2.1, hse_P0.1]; rfl, by rw [HO.out.2.1, hse_P0.2]; rfl, by rw [HO.out.2.1]; unfold logK; rw [hse_P0.1, first0_is]; rfl, by rw [HO.out.2.1]; unfold logK; rw [hse_P0.2, first0_is]; rfl,
    by rw [show D.clock = 0 from congrArg PDep.clock HO.out.2.1]; decide, by rw [show D.clock = 0 from congrArg PDep.clock HO.out.2.1]; decide, Nat.le_of_eq (show D.yanks = 0 from congrArg PDep.yanks HO.out.2.1)⟩ HB5.out⟩)
  clear HO HB2 HB3 HB4 HB5
  go_wp2_with fail
  go_loopw [5, 6, 11, 12, 13, 14, 15, 16, 17, 18, 19] (fun a b i _ _ _ _ _ _ _ _ wr => ∃ (k : Nat) (h g : ByteArray), k ≤ len ∧ i = .int .i64 k ∧ a = .string h ∧ b = .string g ∧ CInv w wr w.heap.size k h g) (fun _ _ i _ _ _ _ _ _ _ _ _ => len - (intOf i).toNat)
  case atStart => exact ⟨0, first0, first0, Nat.zero_le _, rfl, rfl, rfl, HC0.out⟩
  case round =>
    obtain ⟨k, h, g, hk, rfl, rfl, rfl, D, hc⟩ := hrel
    clear HC0 HFE HT hfs htn
    by_cases hlt : k < len
    · obtain ⟨b, o, rfl, hg, hop, hok⟩ := HS.out k hlt
      obtain ⟨d0, d1, d2, d3, d4, d5, d6, d7, d8⟩ := hop.below hc.bel hg
      clear hop
      generalize f k = x at *
      have hW := below_one wr (.cells (turnV x) 32)
      have hcl := hc.y
      have HCALL := hide (call_any w.heap.size D x _ (hc.dep.below hW) hok.fit (by omega) hc.c0 hc.c1)
      have HTOLD := hide (fun hk => told_at (x := x) hc hk)
      have hts := text_less hc
      have hls := line_size hok.fit hok.s hok.t
      have HSH := hide (fun W => shows_any x (showsH x.who) (showsI x.who x.id) W hok.fit.who.1 hok.fit.who.2 rfl rfl)
      have HLINE := hide (fun W (ht : TabOk W) => kline_any x W ht hok.fit)
      have HASK := hide (fun hk => line_ask (x := x) hk)
      have HCC := hide hc
      have HW := hide hW
      generalize hA : callA D.pure x = ca at *
      obtain ⟨n, s, e⟩ := ca
      have HA := hide hA
      simp only at HCALL HTOLD
      have HX := hide hok
      generalize hL : lineW x = lw at *
      obtain ⟨ln, lo⟩ := lw
      simp only at HLINE hls
      have HLW := hide hL
      clear hA hok hc hW hL hcl
      go_wp2_with fail
      refine HCALL.out.mono ?_
      rintro ε w3 ⟨rfl, hst⟩
      have hbx := box_kept HCC.out.dep hst
      have hlt3 : wr.heap.size < w3.heap.size := (Array.getElem?_eq_some_iff.1 hbx).1
      have HST := hide hst
      have HT3 := hide (show TabOk w3 from by obtain ⟨D', hD', _⟩ := hst; exact hD'.tab)
      have q0 : w3.cell? ⟨wr.heap.size, 0, none⟩ = some (.int .i64 x.who) := (cell_of_heap hbx 0).trans rfl
      have q1 : w3.cell? ⟨wr.heap.size, 1, none⟩ = some (.int .i64 x.kind) := (cell_of_heap hbx 1).trans rfl
      have q2 : w3.cell? ⟨wr.heap.size, 2, none⟩ = some (.int .i64 x.id) := (cell_of_heap hbx 2).trans rfl
      have q3 : w3.cell? ⟨wr.heap.size, 3, none⟩ = some (.string x.of) := (cell_of_heap hbx 3).trans rfl
      have q4 : w3.cell? ⟨wr.heap.size, 4, none⟩ = some (.string x.s) := (cell_of_heap hbx 4).trans rfl
      have q5 : w3.cell? ⟨wr.heap.size, 5, none⟩ = some (.string x.t) := (cell_of_heap hbx 5).trans rfl
      have q6 : w3.cell? ⟨wr.heap.size, 6, none⟩ = some (.int .i64 x.a) := (cell_of_heap hbx 6).trans rfl
      have q7 : w3.cell? ⟨wr.heap.size, 7, none⟩ = some (.int .i64 x.b) := (cell_of_heap hbx 7).trans rfl
      have q8 : w3.cell? ⟨wr.heap.size, 8, none⟩ = some (.int .i64 x.c) := (cell_of_heap hbx 8).trans rfl
      clear hst HCALL d0 d1 d2 d3 d4 d5 d6 d7 d8
      go_wp2_with fail
      refine (HSH.out _).mono ?_
      rintro ε w4 ⟨rfl, hb4⟩
      have hax : w4.heap[w3.heap.size]? = some (.cells (ansW n s e) 35 (0, 0)) := by rw [hb4.block w3.heap.size (by simp)]; exact heap_alloc_new w3 _
      have hbx4 := (hb4.block wr.heap.size (by simp; omega)).trans ((Below.heap_alloc _ _ _ (by omega)).trans hbx)
      have hlt4 : w3.heap.size < w4.heap.size := (Array.getElem?_eq_some_iff.1 hax).1
      have HB4 := hide (show Below w3.heap.size w3 w4 from below_alloc_call (Below.refl _ _) hb4)
      have HAX := hide hax
      have HBX := hide hbx4
      have p1 : w4.cell? ⟨wr.heap.size, 1, none⟩ = some (.int .i64 x.kind) := (cell_of_heap hbx4 1).trans rfl
      have r0 : w4.cell? ⟨w3.heap.size, 0, none⟩ = some (.int .i64 n) := (cell_of_heap hax 0).trans rfl
      have r1 : w4.cell? ⟨w3.heap.size, 1, none⟩ = some (.string s) := (cell_of_heap hax 1).trans rfl
      have r2 : w4.cell? ⟨w3.heap.size, 2, none⟩ = some (.int .i64 e) := (cell_of_heap hax 2).trans rfl
      clear hb4 hax hbx4 hbx HSH q0 q1 q2 q3 q4 q5 q6 q7 q8
      by_cases hask : x.kind = 9 ∨ x.kind = 10
      · rcases hask with hk9 | hk10
        · have HK := hide (show x.kind = 9 ∨ x.kind = 10 from Or.inl hk9)
          have k9 : (x.kind == 9) = true := by rw [hk9]; rfl
          clear hk9
          cases hsg : ((showsH x.who).toList == kG.toList) with
          | true =>
            have HTL := hide (HTOLD.out HK.out)
            rw [hsg] at HTL
            simp only [if_true] at HTL
            have hgs : (showsH x.who).toList = [103] := by rw [eq_of_beq hsg, ByteArray.toList_eq]
            clear hsg
            generalize showsH x.who = sh at *
            go_wp2_with fail
            refine (HTL.out _ (HT3.out.below HB4.out)).mono ?_
            rintro ε w5 ⟨rfl, hb5⟩
            have HB5 := hide (below_call HB4.out hb5)
            have hax5 := (hb5.block w3.heap.size hlt4).trans HAX.out
            have hbx5 := (hb5.block wr.heap.size (by omega)).trans HBX.out
            have s2 : w5.cell? ⟨w3.heap.size, 2, none⟩ = some (.int .i64 e) := (cell_of_heap hax5 2).trans rfl
            have hlt5 : w3.heap.size < w5.heap.size := (Array.getElem?_eq_some_iff.1 hax5).1
            have t0 : w5.cell? ⟨wr.heap.size, 0, none⟩ = some (.int .i64 x.who) := (cell_of_heap hbx5 0).trans rfl
            have t1 : w5.cell? ⟨wr.heap.size, 1, none⟩ = some (.int .i64 x.kind) := (cell_of_heap hbx5 1).trans rfl
            have t2 : w5.cell? ⟨wr.heap.size, 2, none⟩ = some (.int .i64 x.id) := (cell_of_heap hbx5 2).trans rfl
            have t3 : w5.cell? ⟨wr.heap.size, 3, none⟩ = some (.string x.of) := (cell_of_heap hbx5 3).trans rfl
            have t4 : w5.cell? ⟨wr.heap.size, 4, none⟩ = some (.string x.s) := (cell_of_heap hbx5 4).trans rfl
            have t5 : w5.cell? ⟨wr.heap.size, 5, none⟩ = some (.string x.t) := (cell_of_heap hbx5 5).trans rfl
            have t6 : w5.cell? ⟨wr.heap.size, 6, none⟩ = some (.int .i64 x.a) := (cell_of_heap hbx5 6).trans rfl
            have t7 : w5.cell? ⟨wr.heap.size, 7, none⟩ = some (.int .i64 x.b) := (cell_of_heap hbx5 7).trans rfl
            have t8 : w5.cell? ⟨wr.heap.size, 8, none⟩ = some (.int .i64 x.c) := (cell_of_heap hbx5 8).trans rfl

            clear hb5 p1 r0 r1 r2 hax5 hbx5
            by_cases he : e = 0
            · subst he
              go_wp2_with fail
              refine (HLINE.out _ (HT3.out.below HB5.out)).mono ?_
              rintro ε w6 ⟨rfl, hb6⟩
              have HB6 := hide (below_call HB5.out hb6)
              have hll := HASK.out HK.out
              injection hll with hl1 hl2
              subst hl1
              subst hl2
              have h1 : ((⟨#[]⟩ : ByteArray).toList == kH.toList) = false := by rw [ByteArray.toList_eq, ByteArray.toList_eq]; rfl
              have h2 : ((⟨#[]⟩ : ByteArray).toList == kG.toList) = false := by rw [ByteArray.toList_eq, ByteArray.toList_eq]; rfl
              have HF := hide (chain_next HCC.out HW.out HST.out HB6.out h g (by rw [more_no (by rw [HLW.out]; exact h1), List.append_nil]) (by rw [more_no (by rw [HLW.out]; exact h2), List.append_nil]))
              clear hb6 h1 h2
              clear HST HCC HTOLD HASK HLINE
              go_wp2_with fail
              go_roundw
              case rel => exact ⟨k + 1, h, g, by omega, by go_num, rfl, rfl, HF.out⟩
              case measure => simp [intOf] <;> omega
            · have hz : (e == 0) = false := by rw [beq_eq_false_iff_ne]; exact he
              have HF := hide (chain_next HCC.out HW.out HST.out HB5.out h g (by rw [more_err (by rw [HA.out]; exact he), List.append_nil]) (by rw [more_err (by rw [HA.out]; exact he), List.append_nil]))
              clear HST HCC HTOLD HASK HLINE
              go_wp2_with fail
              go_roundw
              case rel => exact ⟨k + 1, h, g, by omega, by go_num, rfl, rfl, HF.out⟩
              case measure => simp [intOf] <;> omega
          | false =>
            have HTL := hide (HTOLD.out HK.out)
            rw [hsg] at HTL
            simp only [Bool.false_eq_true, if_false] at HTL
            have hgs : ¬ (showsH x.who).toList = [103] := fun hc => by rw [beq_eq_false_iff_ne] at hsg; exact hsg (by rw [hc, ByteArray.toList_eq])
            have hgsb : ((showsH x.who).toList == [103]) = false := by rw [beq_eq_false_iff_ne]; exact hgs
            clear hsg
            generalize showsH x.who = sh at *
            go_wp2_with fail
            refine (HTL.out _ (HT3.out.below HB4.out)).mono ?_
            rintro ε w5 ⟨rfl, hb5⟩
            have HB5 := hide (below_call HB4.out hb5)
            have hax5 := (hb5.block w3.heap.size hlt4).trans HAX.out
            have hbx5 := (hb5.block wr.heap.size (by omega)).trans HBX.out
            have s2 : w5.cell? ⟨w3.heap.size, 2, none⟩ = some (.int .i64 e) := (cell_of_heap hax5 2).trans rfl
            have hlt5 : w3.heap.size < w5.heap.size := (Array.getElem?_eq_some_iff.1 hax5).1
            have t0 : w5.cell? ⟨wr.heap.size, 0, none⟩ = some (.int .i64 x.who) := (cell_of_heap hbx5 0).trans rfl
            have t1 : w5.cell? ⟨wr.heap.size, 1, none⟩ = some (.int .i64 x.kind) := (cell_of_heap hbx5 1).trans rfl
            have t2 : w5.cell? ⟨wr.heap.size, 2, none⟩ = some (.int .i64 x.id) := (cell_of_heap hbx5 2).trans rfl
            have t3 : w5.cell? ⟨wr.heap.size, 3, none⟩ = some (.string x.of) := (cell_of_heap hbx5 3).trans rfl
            have t4 : w5.cell? ⟨wr.heap.size, 4, none⟩ = some (.string x.s) := (cell_of_heap hbx5 4).trans rfl
            have t5 : w5.cell? ⟨wr.heap.size, 5, none⟩ = some (.string x.t) := (cell_of_heap hbx5 5).trans rfl
            have t6 : w5.cell? ⟨wr.heap.size, 6, none⟩ = some (.int .i64 x.a) := (cell_of_heap hbx5 6).trans rfl
            have t7 : w5.cell? ⟨wr.heap.size, 7, none⟩ = some (.int .i64 x.b) := (cell_of_heap hbx5 7).trans rfl
            have t8 : w5.cell? ⟨wr.heap.size, 8, none⟩ = some (.int .i64 x.c) := (cell_of_heap hbx5 8).trans rfl

            clear hb5 p1 r0 r1 r2 hax5 hbx5
            by_cases he : e = 0
            · subst he
              go_wp2_with fail
              refine (HLINE.out _ (HT3.out.below HB5.out)).mono ?_
              rintro ε w6 ⟨rfl, hb6⟩
              have HB6 := hide (below_call HB5.out hb6)
              have hll := HASK.out HK.out
              injection hll with hl1 hl2
              subst hl1
              subst hl2
              have h1 : ((⟨#[]⟩ : ByteArray).toList == kH.toList) = false := by rw [ByteArray.toList_eq, ByteArray.toList_eq]; rfl
              have h2 : ((⟨#[]⟩ : ByteArray).toList == kG.toList) = false := by rw [ByteArray.toList_eq, ByteArray.toList_eq]; rfl
              have HF := hide (chain_next HCC.out HW.out HST.out HB6.out h g (by rw [more_no (by rw [HLW.out]; exact h1), List.append_nil]) (by rw [more_no (by rw [HLW.out]; exact h2), List.append_nil]))
              clear hb6 h1 h2
              clear HST HCC HTOLD HASK HLINE
              go_wp2_with fail
              go_roundw
              case rel => exact ⟨k + 1, h, g, by omega, by go_num, rfl, rfl, HF.out⟩
              case measure => simp [intOf] <;> omega
            · have hz : (e == 0) = false := by rw [beq_eq_false_iff_ne]; exact he
              have HF := hide (chain_next HCC.out HW.out HST.out HB5.out h g (by rw [more_err (by rw [HA.out]; exact he), List.append_nil]) (by rw [more_err (by rw [HA.out]; exact he), List.append_nil]))
              clear HST HCC HTOLD HASK HLINE
              go_wp2_with fail
              go_roundw
              case rel => exact ⟨k + 1, h, g, by omega, by go_num, rfl, rfl, HF.out⟩
              case measure => simp [intOf] <;> omega
        · have HK := hide (show x.kind = 9 ∨ x.kind = 10 from Or.inr hk10)
          have k9 : (x.kind == 9) = false := by rw [hk10]; rfl
          have k10 : (x.kind == 10) = true := by rw [hk10]; rfl
          clear hk10
          cases hsg : ((showsH x.who).toList == kG.toList) with
          | true =>
            have HTL := hide (HTOLD.out HK.out)
            rw [hsg] at HTL
            simp only [if_true] at HTL
            have hgs : (showsH x.who).toList = [103] := by rw [eq_of_beq hsg, ByteArray.toList_eq]
            clear hsg
            generalize showsH x.who = sh at *
            go_wp2_with fail
            refine (HTL.out _ (HT3.out.below HB4.out)).mono ?_
            rintro ε w5 ⟨rfl, hb5⟩
            have HB5 := hide (below_call HB4.out hb5)
            have hax5 := (hb5.block w3.heap.size hlt4).trans HAX.out
            have hbx5 := (hb5.block wr.heap.size (by omega)).trans HBX.out
            have s2 : w5.cell? ⟨w3.heap.size, 2, none⟩ = some (.int .i64 e) := (cell_of_heap hax5 2).trans rfl
            have hlt5 : w3.heap.size < w5.heap.size := (Array.getElem?_eq_some_iff.1 hax5).1
            have t0 : w5.cell? ⟨wr.heap.size, 0, none⟩ = some (.int .i64 x.who) := (cell_of_heap hbx5 0).trans rfl
            have t1 : w5.cell? ⟨wr.heap.size, 1, none⟩ = some (.int .i64 x.kind) := (cell_of_heap hbx5 1).trans rfl
            have t2 : w5.cell? ⟨wr.heap.size, 2, none⟩ = some (.int .i64 x.id) := (cell_of_heap hbx5 2).trans rfl
            have t3 : w5.cell? ⟨wr.heap.size, 3, none⟩ = some (.string x.of) := (cell_of_heap hbx5 3).trans rfl
            have t4 : w5.cell? ⟨wr.heap.size, 4, none⟩ = some (.string x.s) := (cell_of_heap hbx5 4).trans rfl
            have t5 : w5.cell? ⟨wr.heap.size, 5, none⟩ = some (.string x.t) := (cell_of_heap hbx5 5).trans rfl
            have t6 : w5.cell? ⟨wr.heap.size, 6, none⟩ = some (.int .i64 x.a) := (cell_of_heap hbx5 6).trans rfl
            have t7 : w5.cell? ⟨wr.heap.size, 7, none⟩ = some (.int .i64 x.b) := (cell_of_heap hbx5 7).trans rfl
            have t8 : w5.cell? ⟨wr.heap.size, 8, none⟩ = some (.int .i64 x.c) := (cell_of_heap hbx5 8).trans rfl

            clear hb5 p1 r0 r1 r2 hax5 hbx5
            by_cases he : e = 0
            · subst he
              go_wp2_with fail
              refine (HLINE.out _ (HT3.out.below HB5.out)).mono ?_
              rintro ε w6 ⟨rfl, hb6⟩
              have HB6 := hide (below_call HB5.out hb6)
              have hll := HASK.out HK.out
              injection hll with hl1 hl2
              subst hl1
              subst hl2
              have h1 : ((⟨#[]⟩ : ByteArray).toList == kH.toList) = false := by rw [ByteArray.toList_eq, ByteArray.toList_eq]; rfl
              have h2 : ((⟨#[]⟩ : ByteArray).toList == kG.toList) = false := by rw [ByteArray.toList_eq, ByteArray.toList_eq]; rfl
              have HF := hide (chain_next HCC.out HW.out HST.out HB6.out h g (by rw [more_no (by rw [HLW.out]; exact h1), List.append_nil]) (by rw [more_no (by rw [HLW.out]; exact h2), List.append_nil]))
              clear hb6 h1 h2
              clear HST HCC HTOLD HASK HLINE
              go_wp2_with fail
              go_roundw
              case rel => exact ⟨k + 1, h, g, by omega, by go_num, rfl, rfl, HF.out⟩
              case measure => simp [intOf] <;> omega
            · have hz : (e == 0) = false := by rw [beq_eq_false_iff_ne]; exact he
              have HF := hide (chain_next HCC.out HW.out HST.out HB5.out h g (by rw [more_err (by rw [HA.out]; exact he), List.append_nil]) (by rw [more_err (by rw [HA.out]; exact he), List.append_nil]))
              clear HST HCC HTOLD HASK HLINE
              go_wp2_with fail
              go_roundw
              case rel => exact ⟨k + 1, h, g, by omega, by go_num, rfl, rfl, HF.out⟩
              case measure => simp [intOf] <;> omega
          | false =>
            have HTL := hide (HTOLD.out HK.out)
            rw [hsg] at HTL
            simp only [Bool.false_eq_true, if_false] at HTL
            have hgs : ¬ (showsH x.who).toList = [103] := fun hc => by rw [beq_eq_false_iff_ne] at hsg; exact hsg (by rw [hc, ByteArray.toList_eq])
            have hgsb : ((showsH x.who).toList == [103]) = false := by rw [beq_eq_false_iff_ne]; exact hgs
            clear hsg
            generalize showsH x.who = sh at *
            go_wp2_with fail
            refine (HTL.out _ (HT3.out.below HB4.out)).mono ?_
            rintro ε w5 ⟨rfl, hb5⟩
            have HB5 := hide (below_call HB4.out hb5)
            have hax5 := (hb5.block w3.heap.size hlt4).trans HAX.out
            have hbx5 := (hb5.block wr.heap.size (by omega)).trans HBX.out
            have s2 : w5.cell? ⟨w3.heap.size, 2, none⟩ = some (.int .i64 e) := (cell_of_heap hax5 2).trans rfl
            have hlt5 : w3.heap.size < w5.heap.size := (Array.getElem?_eq_some_iff.1 hax5).1
            have t0 : w5.cell? ⟨wr.heap.size, 0, none⟩ = some (.int .i64 x.who) := (cell_of_heap hbx5 0).trans rfl
            have t1 : w5.cell? ⟨wr.heap.size, 1, none⟩ = some (.int .i64 x.kind) := (cell_of_heap hbx5 1).trans rfl
            have t2 : w5.cell? ⟨wr.heap.size, 2, none⟩ = some (.int .i64 x.id) := (cell_of_heap hbx5 2).trans rfl
            have t3 : w5.cell? ⟨wr.heap.size, 3, none⟩ = some (.string x.of) := (cell_of_heap hbx5 3).trans rfl
            have t4 : w5.cell? ⟨wr.heap.size, 4, none⟩ = some (.string x.s) := (cell_of_heap hbx5 4).trans rfl
            have t5 : w5.cell? ⟨wr.heap.size, 5, none⟩ = some (.string x.t) := (cell_of_heap hbx5 5).trans rfl
            have t6 : w5.cell? ⟨wr.heap.size, 6, none⟩ = some (.int .i64 x.a) := (cell_of_heap hbx5 6).trans rfl
            have t7 : w5.cell? ⟨wr.heap.size, 7, none⟩ = some (.int .i64 x.b) := (cell_of_heap hbx5 7).trans rfl
            have t8 : w5.cell? ⟨wr.heap.size, 8, none⟩ = some (.int .i64 x.c) := (cell_of_heap hbx5 8).trans rfl

            clear hb5 p1 r0 r1 r2 hax5 hbx5
            by_cases he : e = 0
            · subst he
              go_wp2_with fail
              refine (HLINE.out _ (HT3.out.below HB5.out)).mono ?_
              rintro ε w6 ⟨rfl, hb6⟩
              have HB6 := hide (below_call HB5.out hb6)
              have hll := HASK.out HK.out
              injection hll with hl1 hl2
              subst hl1
              subst hl2
              have h1 : ((⟨#[]⟩ : ByteArray).toList == kH.toList) = false := by rw [ByteArray.toList_eq, ByteArray.toList_eq]; rfl
              have h2 : ((⟨#[]⟩ : ByteArray).toList == kG.toList) = false := by rw [ByteArray.toList_eq, ByteArray.toList_eq]; rfl
              have HF := hide (chain_next HCC.out HW.out HST.out HB6.out h g (by rw [more_no (by rw [HLW.out]; exact h1), List.append_nil]) (by rw [more_no (by rw [HLW.out]; exact h2), List.append_nil]))
              clear hb6 h1 h2
              clear HST HCC HTOLD HASK HLINE
              go_wp2_with fail
              go_roundw
              case rel => exact ⟨k + 1, h, g, by omega, by go_num, rfl, rfl, HF.out⟩
              case measure => simp [intOf] <;> omega
            · have hz : (e == 0) = false := by rw [beq_eq_false_iff_ne]; exact he
              have HF := hide (chain_next HCC.out HW.out HST.out HB5.out h g (by rw [more_err (by rw [HA.out]; exact he), List.append_nil]) (by rw [more_err (by rw [HA.out]; exact he), List.append_nil]))
              clear HST HCC HTOLD HASK HLINE
              go_wp2_with fail
              go_roundw
              case rel => exact ⟨k + 1, h, g, by omega, by go_num, rfl, rfl, HF.out⟩
              case measure => simp [intOf] <;> omega
      · have k9 : (x.kind == 9) = false := by rw [beq_eq_false_iff_ne]; exact fun hc => hask (Or.inl hc)
        have k10 : (x.kind == 10) = false := by rw [beq_eq_false_iff_ne]; exact fun hc => hask (Or.inr hc)
        clear hask
        by_cases he : e = 0
        · subst he
          have t0 : w4.cell? ⟨wr.heap.size, 0, none⟩ = some (.int .i64 x.who) := (cell_of_heap HBX.out 0).trans rfl
          have t1 : w4.cell? ⟨wr.heap.size, 1, none⟩ = some (.int .i64 x.kind) := (cell_of_heap HBX.out 1).trans rfl
          have t2 : w4.cell? ⟨wr.heap.size, 2, none⟩ = some (.int .i64 x.id) := (cell_of_heap HBX.out 2).trans rfl
          have t3 : w4.cell? ⟨wr.heap.size, 3, none⟩ = some (.string x.of) := (cell_of_heap HBX.out 3).trans rfl
          have t4 : w4.cell? ⟨wr.heap.size, 4, none⟩ = some (.string x.s) := (cell_of_heap HBX.out 4).trans rfl
          have t5 : w4.cell? ⟨wr.heap.size, 5, none⟩ = some (.string x.t) := (cell_of_heap HBX.out 5).trans rfl
          have t6 : w4.cell? ⟨wr.heap.size, 6, none⟩ = some (.int .i64 x.a) := (cell_of_heap HBX.out 6).trans rfl
          have t7 : w4.cell? ⟨wr.heap.size, 7, none⟩ = some (.int .i64 x.b) := (cell_of_heap HBX.out 7).trans rfl
          have t8 : w4.cell? ⟨wr.heap.size, 8, none⟩ = some (.int .i64 x.c) := (cell_of_heap HBX.out 8).trans rfl

          go_wp2_with fail
          refine (HLINE.out _ (HT3.out.below HB4.out)).mono ?_
          rintro ε w5 ⟨rfl, hb5⟩
          have HB5 := hide (below_call HB4.out hb5)
          have m1 : ¬ 9223372036854775807 < h.size + ln.size := by omega
          have m2 : ¬ 9223372036854775807 < g.size + ln.size := by omega
          clear hb5 t0 t1 t2 t3 t4 t5 t6 t7 t8 p1 r0 r1 r2
          cases h1 : (lo.toList == kH.toList) with
          | true =>
            have h2 : (lo.toList == kG.toList) = false := by rw [eq_of_beq h1]; exact kHG.1
            have HF := hide (chain_next HCC.out HW.out HST.out HB5.out (h ++ ln) g (by rw [bytes_add, more_yes (by rw [HA.out]) (by rw [HLW.out]; exact h1), HLW.out]) (by rw [more_no (by rw [HLW.out]; exact h2), List.append_nil]))
            have h3 : lo.toList = [104] := by rw [eq_of_beq h1, ByteArray.toList_eq]
            clear h1 h2
            clear HST HCC HTOLD HASK HLINE
            go_wp2_with fail
            go_roundw
            case rel => exact ⟨k + 1, h ++ ln, g, by omega, by go_num, rfl, rfl, HF.out⟩
            case measure => simp [intOf] <;> omega
          | false =>
            have h3 : ¬ lo.toList = [104] := fun hc => by rw [beq_eq_false_iff_ne] at h1; exact h1 (by rw [hc, ByteArray.toList_eq])
            have h3b : (lo.toList == [104]) = false := by rw [beq_eq_false_iff_ne]; exact h3
            cases h2 : (lo.toList == kG.toList) with
            | true =>
              have HF := hide (chain_next HCC.out HW.out HST.out HB5.out h (g ++ ln) (by rw [more_no (by rw [HLW.out]; exact h1), List.append_nil]) (by rw [bytes_add, more_yes (by rw [HA.out]) (by rw [HLW.out]; exact h2), HLW.out]))
              have h4 : lo.toList = [103] := by rw [eq_of_beq h2, ByteArray.toList_eq]
              clear h1 h2 h3
              clear HST HCC HTOLD HASK HLINE
              go_wp2_with fail
              go_roundw
              case rel => exact ⟨k + 1, h, g ++ ln, by omega, by go_num, rfl, rfl, HF.out⟩
              case measure => simp [intOf] <;> omega
            | false =>
              have h4 : ¬ lo.toList = [103] := fun hc => by rw [beq_eq_false_iff_ne] at h2; exact h2 (by rw [hc, ByteArray.toList_eq])
              have h4b : (lo.toList == [103]) = false := by rw [beq_eq_false_iff_ne]; exact h4
              have HF := hide (chain_next HCC.out HW.out HST.out HB5.out h g (by rw [more_no (by rw [HLW.out]; exact h1), List.append_nil]) (by rw [more_no (by rw [HLW.out]; exact h2), List.append_nil]))
              clear h1 h2
              clear HST HCC HTOLD HASK HLINE
              go_wp2_with fail
              go_roundw
              case rel => exact ⟨k + 1, h, g, by omega, by go_num, rfl, rfl, HF.out⟩
              case measure => simp [intOf] <;> omega
        · have hz : (e == 0) = false := by rw [beq_eq_false_iff_ne]; exact he
          have HF := hide (chain_next HCC.out HW.out HST.out HB4.out h g (by rw [more_err (by rw [HA.out]; exact he), List.append_nil]) (by rw [more_err (by rw [HA.out]; exact he), List.append_nil]))
          clear HST HCC HTOLD HASK HLINE
          go_wp2_with fail
          go_roundw
          case rel => exact ⟨k + 1, h, g, by omega, by go_num, rfl, rfl, HF.out⟩
          case measure => simp [intOf] <;> omega
    · go_wp2_with fail
      go_ret
      exact ⟨rfl, hc.bel⟩

end Go.Proofs.YtgcldedkempjhaaDoor
