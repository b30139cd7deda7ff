/-
  search.Search: linked, New, Next, isAskedAlone, Offer.
-/
import Derived.Test.YtgcldedkempjhaaDoorSrchMem
import Derived.Test.YtgcldedkempjhaaDoorWntB
namespace Go.Proofs.YtgcldedkempjhaaDoor
open Go.RowKit

/-- Wants as links, one after the other. -/
def linkStep (p : List (Wt Nat) × List ByteArray) (x : WantD) : List (Wt Nat) × List ByteArray := (p.1 ++ [⟨(placeN p.2 x.name).1, x.lo, x.hi⟩], (placeN p.2 x.name).2)

def linkedN (ns : List ByteArray) (ws : List WantD) : List (Wt Nat) × List ByteArray := ws.foldl linkStep ([], ns)

theorem placeN_len (ns : List ByteArray) (nm : ByteArray) : (placeN ns nm).2.length ≤ ns.length + 1 := by
  unfold placeN
  split <;> simp

theorem linkedN_take (ns : List ByteArray) (ws : List WantD) (k : Nat) (hk : k < ws.length) : linkedN ns (ws.take (k + 1)) = linkStep (linkedN ns (ws.take k)) ws[k] := by
  unfold linkedN
  rw [List.take_succ_eq_append_getElem hk, List.foldl_append]
  rfl

theorem linkedN_lens (ns : List ByteArray) (ws : List WantD) (k : Nat) (hk : k ≤ ws.length) : (linkedN ns (ws.take k)).1.length = k ∧ (linkedN ns (ws.take k)).2.length ≤ ns.length + k := by
  induction k with
  | zero => simp [linkedN]
  | succ k ih =>
    obtain ⟨h1, h2⟩ := ih (by omega)
    rw [linkedN_take ns ws k (by omega)]
    unfold linkStep
    have := placeN_len (linkedN ns (ws.take k)).2 ws[k].name
    refine ⟨by simp [h1], ?_⟩
    simp only
    omega

theorem Grown.trans {S S1 S2 : SD} {n1 n2 : List ByteArray} (h : Grown S S1 n1) (k : Grown S1 S2 n2) : Grown S S2 n2 := by
  obtain ⟨a, na, ca, rfl, ha, _⟩ := h
  obtain ⟨b, nb, cb, rfl, hb, e⟩ := k
  exact ⟨a ++ b, nb, cb, by simp, fun x hx => (List.mem_append.1 hx).elim (ha x) (hb x), e⟩

theorem Grown.names {S S' : SD} {ns : List ByteArray} (h : Grown S S' ns) : S'.names = ns := h.choose_spec.choose_spec.choose_spec.2.2

theorem Grown.len {S S' : SD} {ns : List ByteArray} (h : Grown S S' ns) : S'.ents.length = ns.length := by
  rw [← h.names]; simp [SD.names]

/-- The blocks of a search with more names: its names' row aside they are those it had. -/
theorem Grown.foot {S S' : SD} {ns : List ByteArray} {sb k : Nat} (h : Grown S S' ns) (hk : SFoot sb S' k) : SFoot sb S k ∨ blockOf S'.nao k := by
  obtain ⟨new, nao, ncap, rfl, hn, _⟩ := h
  rcases hk with hk | hk | hk | ⟨e, he, v, hk⟩
  · exact Or.inl (Or.inl hk)
  · exact Or.inl (Or.inr (Or.inl hk))
  · exact Or.inr hk
  · rcases List.mem_append.1 he with he | he
    · exact Or.inl (Or.inr (Or.inr (Or.inr ⟨e, he, v, hk⟩)))
    · obtain ⟨nm, rfl⟩ := hn e he
      obtain ⟨a, ha, _⟩ := hk
      cases ha

theorem Tryd.infoLink : (Tryd.prog.info? 185).map (fun i => (i.zero, i.size, i.bytes)) = some (some (.agg #[.int .i64 0, .int .i64 0, .int .i64 0]), 3, 24) := by kernel_rfl

/-- The row of links that a call makes, beside a search. -/
structure LinkMid (w wr : World) (sb : Nat) (S : SD) (ao : Option Addr) (cap : Nat) (l : List (Wt Nat)) (ns : List ByteArray) (S' : SD) : Prop where
  at_ : SAt wr sb S'
  gr : Grown S S' ns
  row : LinkRow wr w.heap.size ao cap l
  bel : Below sb w wr
  sz : w.heap.size ≤ wr.heap.size
  chg : Chg (fun k => k = sb ∨ blockOf S.nao k) w wr
  nao : ∀ k, blockOf S'.nao k → blockOf S.nao k ∨ w.heap.size ≤ k

theorem LinkMid.place {w wr w2 : World} {sb : Nat} {S S' : SD} {ao : Option Addr} {cap : Nat} {l : List (Wt Nat)} {ns ns2 : List ByteArray} (hr : SAt w sb S) (h : LinkMid w wr sb S ao cap l ns S') (hm : SMore wr w2 sb S' ns2) : ∃ S2, LinkMid w w2 sb S ao cap l ns2 S2 := by
  obtain ⟨S2, h2, g2, hc, hn2⟩ := hm
  refine ⟨S2, ⟨h2, h.gr.trans g2, ?_, h.bel.trans (hc.below (Nat.le_of_lt h.at_.lt) ?_), Nat.le_trans h.sz hc.size, h.chg.trans hc ?_, fun k hk => (hn2 k hk).elim (h.nao k) (fun hge => Or.inr (Nat.le_trans h.sz hge))⟩⟩
  · refine ownsRow_keep h.row (fun k hk => hc.block k (blockOf_lt h.row hk).2 ?_)
    rintro (rfl | hk')
    · have := (blockOf_lt h.row hk).1; have := hr.lt; omega
    · exact blocks_apart h.row h.at_.nown (by decide) hk hk'
  · rintro k (rfl | hk)
    · exact Nat.le_refl _
    · have := (blockOf_lt h.at_.nown hk).1; omega
  · rintro k (hk | hk)
    · exact Or.inl (Or.inl hk)
    · exact (h.nao k hk).imp Or.inr id

theorem LinkMid.push {w wr wx w2 : World} {sb : Nat} {S S' : SD} {ao : Option Addr} {cap : Nat} {l : List (Wt Nat)} {ns : List ByteArray} {x : Wt Nat} (hr : SAt w sb S) (h : LinkMid w wr sb S ao cap l ns S') (hb : Below wr.heap.size wr wx) {g' cap' : Nat}
    (hown : w2.ownsRow w.heap.size 185 3 (.slice (some ⟨g', 0, none⟩) (l.length + 1) cap') (l.length + 1) (lksCells l ++ lkCells x)) (hgrow : wx.grownBy w2 (Value.ownBlock (.slice ao l.length cap))) :
    LinkMid w w2 sb S (some ⟨g', 0, none⟩) cap' (l ++ [x]) ns S' := by
  have hsz := hb.size
  have hsz2 := hgrow.size
  have hrow := h.row
  have hao : ∀ k, Value.ownBlock (.slice ao l.length cap) = some k → w.heap.size ≤ k ∧ blockOf ao k := fun k hk => ⟨(blockOf_lt hrow (row_of hk)).1, row_of hk⟩
  have hat := h.at_
  have hnot : ∀ k, SFoot sb S' k → Value.ownBlock (.slice ao l.length cap) ≠ some k := by
    intro k hk e
    obtain ⟨h1, h2⟩ := hao k e
    rcases h.gr.foot hk with hk | hk
    · have := (hr.foot hk).2; omega
    · exact blocks_apart hrow hat.nown (by decide) h2 hk
  refine ⟨(hat.below hb).keep (fun k hk => hgrow.block k ?_ ?_), h.gr, ?_, ?_, by have := h.sz; omega, ?_, h.nao⟩
  · have := (hat.foot hk).2; omega
  · exact fun e => hnot k hk e.symm
  · have e : lksCells (l ++ [x]) = lksCells l ++ lkCells x := by simp [lksCells]
    show w2.ownsRow w.heap.size 185 3 (.slice (some ⟨g', 0, none⟩) (l ++ [x]).length cap') (l ++ [x]).length (lksCells (l ++ [x]))
    rw [e, List.length_append, List.length_singleton]
    exact hown
  · refine (h.bel.trans (hb.mono (Nat.le_of_lt hat.lt))).grown hgrow (by have := hat.lt; omega) (fun k hk => ?_)
    have := (hao k hk).1
    have := hr.lt
    omega
  · exact Chg.grown (S := fun k => k = sb ∨ blockOf S.nao k) (h.chg.trans (Chg.ofBelow (S := fun k => k = sb ∨ blockOf S.nao k) hb) (fun _ h => Or.inl h)) hgrow (fun k hk => Or.inr (hao k hk).1)

theorem size1 (w : World) (o : Obj) : (w.alloc o).heap.size = w.heap.size + 1 := by simp

theorem grown_start {w W w' : World} {row : Option Nat} (h : W.grownBy w' row) (h0 : W.heap = w.heap) (h1 : W.os = w.os) (h2 : W.tape = w.tape) (h3 : W.output = w.output) : w.grownBy w' row :=
  ⟨h.os.trans h1, h.tape.trans h2, h.output.trans h3, by rw [← h0]; exact h.size, fun k hk hn => by rw [← h0] at hk ⊢; exact h.block k hk hn⟩

set_option maxHeartbeats 1600000 in
set_option maxRecDepth 100000 in
theorem linked_any (sb : Nat) (S : SD) (wao : Option Addr) (wcap wbase : Nat) (ws : List WantD) (w : World) (hr : SAt w sb S) (hl : S.ents.length + ws.length < 10000)
    (hw : w.ownsRow wbase 164 3 (.slice wao ws.length wcap) ws.length (wantsCells ws)) (hwb : ∀ k, blockOf wao k → k < sb) :
    Calls Tryd.prog 104 #[.pointer (some ⟨sb, 0, none⟩), .slice wao ws.length wcap] w fun e w' => ∃ ao cap S', e = .returned (.slice ao ws.length cap) ∧ LinkMid w w' sb S ao cap (linkedN S.names ws).1 (linkedN S.names ws).2 S' := by
  have HR := hide hr
  have HW := hide hw
  have HB := hide hwb
  have HP := hide (fun (T : SD) (nm : ByteArray) (W : World) (h : SAt W sb T) (h2 : T.ents.length < 10000) => place_any sb T nm W h h2)
  obtain ⟨i0, ti, hz0, hz1, hz2⟩ := info_parts Tryd.infoLink
  clear hr hw hwb
  go_enter Tryd.func104, Tryd.ntmps104
  go_wp2_with fail
  go_loopw [5, 6, 7] (fun v i _ wr => ∃ (k : Nat) (ao : Option Addr) (cap : Nat) (S' : SD), k ≤ ws.length ∧ i = .int .i64 k ∧ v = .slice ao k cap ∧ LinkMid w wr sb S ao cap (linkedN S.names (ws.take k)).1 (linkedN S.names (ws.take k)).2 S') (fun _ i _ _ => ws.length - (intOf i).toNat)
  case atStart => exact ⟨0, none, 0, S, Nat.zero_le _, rfl, rfl, ⟨HR.out, ⟨[], S.nao, S.ncap, by simp, (fun _ h => by cases h), rfl⟩, World.ownsRow_nil _ _ _ _, Below.refl _ _, Nat.le_refl _, Chg.refl _ _, fun _ h => Or.inl h⟩⟩
  case round =>
    obtain ⟨k, ao, cap, S', hk, rfl, rfl, hm⟩ := hrel
    obtain ⟨hl1, hl2⟩ := linkedN_lens S.names ws k hk
    by_cases hlt : k < ws.length
    · obtain ⟨g, rfl, hg, _, hc, _⟩ := row_cell (f := wantCells) (fun _ => rfl) HW.out k hlt
      have hgs := HB.out g ⟨_, rfl, rfl⟩
      have hcell : ∀ (W : World), Below sb w W → W.cell? ⟨g, k * 3, none⟩ = some (.string ws[k].name) ∧ W.cell? ⟨g, k * 3 + 1, none⟩ = some (.int .i64 ws[k].lo) ∧ W.cell? ⟨g, k * 3 + 2, none⟩ = some (.int .i64 ws[k].hi) := fun W hb =>
        ⟨(hb.cell (p := ⟨g, k * 3, none⟩) hgs).trans (hc 0 _ rfl), (hb.cell (p := ⟨g, k * 3 + 1, none⟩) hgs).trans (hc 1 _ rfl), (hb.cell (p := ⟨g, k * 3 + 2, none⟩) hgs).trans (hc 2 _ rfl)⟩
      have HCL := hide hcell
      obtain ⟨d0, _, _⟩ := hcell _ hm.bel
      have HT := hide (linkedN_take S.names ws k hlt)
      have HPk := hide (HP.out S' ws[k].name _ hm.at_ (by have h1 := hm.gr.len; have h2 : S.names.length = S.ents.length := (by simp [SD.names]); omega))
      have HGN := hide hm.gr.names
      have HM := hide hm
      clear hm hcell hc
      generalize ws[k] = x at *
      go_wp2_with fail
      refine HPk.out.mono ?_
      rintro e w2 ⟨rfl, hmore⟩
      obtain ⟨S2, hm2⟩ := HM.out.place HR.out hmore
      obtain ⟨_, d1, d2⟩ := HCL.out _ hm2.bel
      rw [HGN.out] at hm2 ⊢
      have HM2 := hide hm2
      have hrow2 : w2.ownsRow w.heap.size 185 3 (.slice ao k cap) k (lksCells (linkedN S.names (ws.take k)).1) := by
        have := hm2.row
        unfold LinkRow at this
        rw [hl1] at this
        exact this
      have hsz2 := hm2.sz
      have HG := hide (show ∀ (g' cap' : Nat) (W2 : World), W2.ownsRow w.heap.size 185 3 (.slice (some ⟨g', 0, none⟩) (k + 1) cap') (k + 1) (lksCells (linkedN S.names (ws.take k)).1 ++ lkCells ⟨(placeN (linkedN S.names (ws.take k)).2 x.name).1, x.lo, x.hi⟩) → (w2.alloc (.cells #[.int .i64 (placeN (linkedN S.names (ws.take k)).2 x.name).1, .int .i64 x.lo, .int .i64 x.hi] 185)).grownBy W2 (Value.ownBlock (.slice ao k cap)) →
          ∃ S'', LinkMid w W2 sb S (some ⟨g', 0, none⟩) cap' (linkedN S.names (ws.take (k + 1))).1 (linkedN S.names (ws.take (k + 1))).2 S'' from fun g' cap' W2 ho hgw => by
        rw [HT.out]
        refine ⟨S2, HM2.out.push (x := ⟨(placeN (linkedN S.names (ws.take k)).2 x.name).1, x.lo, x.hi⟩) HR.out ((Below.refl _ _).alloc (Nat.le_refl _) _) (by rw [hl1]; exact ho) (by rw [hl1]; exact hgw)⟩)
      generalize (placeN (linkedN S.names (ws.take k)).2 x.name).1 = pl at *
      generalize lksCells (linkedN S.names (ws.take k)).1 = lc at *
      have B1 := hide (show k + 1 ≤ maxLen by unfold maxLen; omega)
      have B2 := hide (show (k + 1) * 24 ≤ 140737488355328 by omega)
      clear hm2 hmore HM HPk d0 HT HGN HM2
      go_wp2_with fail
      go_region_law (refine step_append_own rfl (.tmp 21) (.tmp 34) 167 rfl w.heap.size 185 i0 (.agg #[.int .i64 0, .int .i64 0, .int .i64 0]) 3 24 Tryd.underlying167 ti hz0 hz1 hz2 rfl (by decide) (.slice ao k cap) k lc ?_ ?_ ⟨w2.heap.size, 0, none⟩ 1 1 [.int .i64 pl, .int .i64 x.lo, .int .i64 x.hi] ?_ rfl ?_ ?_ B1.out B2.out ?_ (Nat.succ_pos _) ?_; simp [Act.eval]; exact hrow2.alloc _; simp [Act.eval]; exact news_at (t := 185) (fr := (0, 0)) (heap_alloc_new w2 _); simp [Value.oneCell']; exact Nat.le_trans hsz2 (Nat.le_trans (Nat.le_add_right _ 1) (Nat.le_of_eq (size1 w2 _).symm)); intro g' cap' w3 hown3 hgrow _; have HF := hide (HG.out g' cap' w3 hown3 (grown_start hgrow rfl rfl rfl rfl)))
      all_goals
        clear hgrow hown3
        go_wp2_with fail
        go_roundw
        case rel => obtain ⟨S3, h3⟩ := HF.out; exact ⟨k + 1, _, _, S3, by omega, by go_num, by simp, h3⟩
        case measure => simp [intOf] <;> omega
    · obtain rfl : k = ws.length := by omega
      rw [List.take_length] at hm
      go_wp2_with fail
      go_ret
      exact ⟨_, _, _, rfl, hm⟩

end Go.Proofs.YtgcldedkempjhaaDoor
