/-
  search.Search in memory: what a write of one of its cells leaves; Next.
-/
import Derived.Test.YtgcldedkempjhabGreatDoorSrchMem
import Derived.Test.YtgcldedkempjhabGreatDoorWntB
namespace Go.Proofs.YtgcldedkempjhabGreatDoor
section
open Go.RowKit

/-- Wants as links, one after the other. -/
def linkStep (p : List (Wt Nat) × List ByteArray) (x : WantD) : List (Wt Nat) × List ByteArray := (p.1 ++ [⟨(placeN p.2 x.name).1, x.lo, x.hi⟩], (placeN p.2 x.name).2)

def linkedN (ns : List ByteArray) (ws : List WantD) : List (Wt Nat) × List ByteArray := ws.foldl linkStep ([], ns)

theorem placeN_len (ns : List ByteArray) (nm : ByteArray) : (placeN ns nm).2.length ≤ ns.length + 1 := by
  unfold placeN
  split <;> simp

theorem linkedN_take (ns : List ByteArray) (ws : List WantD) (k : Nat) (hk : k < ws.length) : linkedN ns (ws.take (k + 1)) = linkStep (linkedN ns (ws.take k)) ws[k] := by
  unfold linkedN
  rw [List.take_succ_eq_append_getElem hk, List.foldl_append]
  rfl

theorem linkedN_lens (ns : List ByteArray) (ws : List WantD) (k : Nat) (hk : k ≤ ws.length) : (linkedN ns (ws.take k)).1.length = k ∧ (linkedN ns (ws.take k)).2.length ≤ ns.length + k := by
  induction k with
  | zero => simp [linkedN]
  | succ k ih =>
    obtain ⟨h1, h2⟩ := ih (by omega)
    rw [linkedN_take ns ws k (by omega)]
    unfold linkStep
    have := placeN_len (linkedN ns (ws.take k)).2 ws[k].name
    refine ⟨by simp [h1], ?_⟩
    simp only
    omega

theorem Grown.trans {S S1 S2 : SD} {n1 n2 : List ByteArray} (h : Grown S S1 n1) (k : Grown S1 S2 n2) : Grown S S2 n2 := by
  obtain ⟨a, na, ca, rfl, ha, _⟩ := h
  obtain ⟨b, nb, cb, rfl, hb, e⟩ := k
  exact ⟨a ++ b, nb, cb, by simp, fun x hx => (List.mem_append.1 hx).elim (ha x) (hb x), e⟩

theorem Grown.names {S S' : SD} {ns : List ByteArray} (h : Grown S S' ns) : S'.names = ns := h.choose_spec.choose_spec.choose_spec.2.2

theorem Grown.len {S S' : SD} {ns : List ByteArray} (h : Grown S S' ns) : S'.ents.length = ns.length := by
  rw [← h.names]; simp [SD.names]

/-- The blocks of a search with more names: its names' row aside they are those it had. -/
theorem Grown.foot {S S' : SD} {ns : List ByteArray} {sb k : Nat} (h : Grown S S' ns) (hk : SFoot sb S' k) : SFoot sb S k ∨ blockOf S'.nao k := by
  obtain ⟨new, nao, ncap, rfl, hn, _⟩ := h
  rcases hk with hk | hk | hk | ⟨e, he, v, hk⟩
  · exact Or.inl (Or.inl hk)
  · exact Or.inl (Or.inr (Or.inl hk))
  · exact Or.inr hk
  · rcases List.mem_append.1 he with he | he
    · exact Or.inl (Or.inr (Or.inr (Or.inr ⟨e, he, v, hk⟩)))
    · obtain ⟨nm, rfl⟩ := hn e he
      obtain ⟨a, ha, _⟩ := hk
      cases ha

theorem Tryz.infoLink : (Tryz.prog.info? 188).map (fun i => (i.zero, i.size, i.bytes)) = some (some (.agg #[.int .i64 0, .int .i64 0, .int .i64 0]), 3, 24) := by kernel_rfl

/-- The row of links that a call makes, beside a search. -/
structure LinkMid (w wr : World) (sb : Nat) (S : SD) (ao : Option Addr) (cap : Nat) (l : List (Wt Nat)) (ns : List ByteArray) (S' : SD) : Prop where
  at_ : SAt wr sb S'
  gr : Grown S S' ns
  row : LinkRow wr w.heap.size ao cap l
  bel : Below sb w wr
  sz : w.heap.size ≤ wr.heap.size
  chg : Chg (fun k => k = sb ∨ blockOf S.nao k) w wr
  nao : ∀ k, blockOf S'.nao k → blockOf S.nao k ∨ w.heap.size ≤ k

theorem LinkMid.place {w wr w2 : World} {sb : Nat} {S S' : SD} {ao : Option Addr} {cap : Nat} {l : List (Wt Nat)} {ns ns2 : List ByteArray} (hr : SAt w sb S) (h : LinkMid w wr sb S ao cap l ns S') (hm : SMore wr w2 sb S' ns2) : ∃ S2, LinkMid w w2 sb S ao cap l ns2 S2 := by
  obtain ⟨S2, h2, g2, hc, hn2⟩ := hm
  refine ⟨S2, ⟨h2, h.gr.trans g2, ?_, h.bel.trans (hc.below (Nat.le_of_lt h.at_.lt) ?_), Nat.le_trans h.sz hc.size, h.chg.trans hc ?_, fun k hk => (hn2 k hk).elim (h.nao k) (fun hge => Or.inr (Nat.le_trans h.sz hge))⟩⟩
  · refine ownsRow_keep h.row (fun k hk => hc.block k (blockOf_lt h.row hk).2 ?_)
    rintro (rfl | hk')
    · have := (blockOf_lt h.row hk).1; have := hr.lt; omega
    · exact blocks_apart h.row h.at_.nown (by decide) hk hk'
  · rintro k (rfl | hk)
    · exact Nat.le_refl _
    · have := (blockOf_lt h.at_.nown hk).1; omega
  · rintro k (hk | hk)
    · exact Or.inl (Or.inl hk)
    · exact (h.nao k hk).imp Or.inr id

theorem LinkMid.push {w wr wx w2 : World} {sb : Nat} {S S' : SD} {ao : Option Addr} {cap : Nat} {l : List (Wt Nat)} {ns : List ByteArray} {x : Wt Nat} (hr : SAt w sb S) (h : LinkMid w wr sb S ao cap l ns S') (hb : Below wr.heap.size wr wx) {g' cap' : Nat}
    (hown : w2.ownsRow w.heap.size 188 3 (.slice (some ⟨g', 0, none⟩) (l.length + 1) cap') (l.length + 1) (lksCells l ++ lkCells x)) (hgrow : wx.grownBy w2 (Value.ownBlock (.slice ao l.length cap))) :
    LinkMid w w2 sb S (some ⟨g', 0, none⟩) cap' (l ++ [x]) ns S' := by
  have hsz := hb.size
  have hsz2 := hgrow.size
  have hrow := h.row
  have hao : ∀ k, Value.ownBlock (.slice ao l.length cap) = some k → w.heap.size ≤ k ∧ blockOf ao k := fun k hk => ⟨(blockOf_lt hrow (row_of hk)).1, row_of hk⟩
  have hat := h.at_
  have hnot : ∀ k, SFoot sb S' k → Value.ownBlock (.slice ao l.length cap) ≠ some k := by
    intro k hk e
    obtain ⟨h1, h2⟩ := hao k e
    rcases h.gr.foot hk with hk | hk
    · have := (hr.foot hk).2; omega
    · exact blocks_apart hrow hat.nown (by decide) h2 hk
  refine ⟨(hat.below hb).keep (fun k hk => hgrow.block k ?_ ?_), h.gr, ?_, ?_, by have := h.sz; omega, ?_, h.nao⟩
  · have := (hat.foot hk).2; omega
  · exact fun e => hnot k hk e.symm
  · have e : lksCells (l ++ [x]) = lksCells l ++ lkCells x := by simp [lksCells]
    show w2.ownsRow w.heap.size 188 3 (.slice (some ⟨g', 0, none⟩) (l ++ [x]).length cap') (l ++ [x]).length (lksCells (l ++ [x]))
    rw [e, List.length_append, List.length_singleton]
    exact hown
  · refine (h.bel.trans (hb.mono (Nat.le_of_lt hat.lt))).grown hgrow (by have := hat.lt; omega) (fun k hk => ?_)
    have := (hao k hk).1
    have := hr.lt
    omega
  · exact Chg.grown (S := fun k => k = sb ∨ blockOf S.nao k) (h.chg.trans (Chg.ofBelow (S := fun k => k = sb ∨ blockOf S.nao k) hb) (fun _ h => Or.inl h)) hgrow (fun k hk => Or.inr (hao k hk).1)

theorem size1 (w : World) (o : Obj) : (w.alloc o).heap.size = w.heap.size + 1 := by simp

theorem grown_start {w W w' : World} {row : Option Nat} (h : W.grownBy w' row) (h0 : W.heap = w.heap) (h1 : W.os = w.os) (h2 : W.tape = w.tape) (h3 : W.output = w.output) : w.grownBy w' row :=
  ⟨h.os.trans h1, h.tape.trans h2, h.output.trans h3, by rw [← h0]; exact h.size, fun k hk hn => by rw [← h0] at hk ⊢; exact h.block k hk hn⟩

set_option maxHeartbeats 1600000 in
set_option maxRecDepth 100000 in
theorem linked_any (sb : Nat) (S : SD) (wao : Option Addr) (wcap wbase : Nat) (ws : List WantD) (w : World) (hr : SAt w sb S) (hl : S.ents.length + ws.length < 10000)
    (hw : w.ownsRow wbase 172 3 (.slice wao ws.length wcap) ws.length (wantsCells ws)) (hwb : ∀ k, blockOf wao k → k < sb) :
    Calls Tryz.prog 112 #[.pointer (some ⟨sb, 0, none⟩), .slice wao ws.length wcap] w fun e w' => ∃ ao cap S', e = .returned (.slice ao ws.length cap) ∧ LinkMid w w' sb S ao cap (linkedN S.names ws).1 (linkedN S.names ws).2 S' := by
  have HR := hide hr
  have HW := hide hw
  have HB := hide hwb
  have HP := hide (fun (T : SD) (nm : ByteArray) (W : World) (h : SAt W sb T) (h2 : T.ents.length < 10000) => place_any sb T nm W h h2)
  obtain ⟨i0, ti, hz0, hz1, hz2⟩ := info_parts Tryz.infoLink
  clear hr hw hwb
  go_enter Tryz.func112, Tryz.ntmps112
  go_wp2_with fail
  go_loopw [5, 6, 7] (fun v i _ wr => ∃ (k : Nat) (ao : Option Addr) (cap : Nat) (S' : SD), k ≤ ws.length ∧ i = .int .i64 k ∧ v = .slice ao k cap ∧ LinkMid w wr sb S ao cap (linkedN S.names (ws.take k)).1 (linkedN S.names (ws.take k)).2 S') (fun _ i _ _ => ws.length - (intOf i).toNat)
  case atStart => exact ⟨0, none, 0, S, Nat.zero_le _, rfl, rfl, ⟨HR.out, ⟨[], S.nao, S.ncap, by simp, (fun _ h => by cases h), rfl⟩, World.ownsRow_nil _ _ _ _, Below.refl _ _, Nat.le_refl _, Chg.refl _ _, fun _ h => Or.inl h⟩⟩
  case round =>
    obtain ⟨k, ao, cap, S', hk, rfl, rfl, hm⟩ := hrel
    obtain ⟨hl1, hl2⟩ := linkedN_lens S.names ws k hk
    by_cases hlt : k < ws.length
    · obtain ⟨g, rfl, hg, _, hc, _⟩ := row_cell (f := wantCells) (fun _ => rfl) HW.out k hlt
      have hgs := HB.out g ⟨_, rfl, rfl⟩
      have hcell : ∀ (W : World), Below sb w W → W.cell? ⟨g, k * 3, none⟩ = some (.string ws[k].name) ∧ W.cell? ⟨g, k * 3 + 1, none⟩ = some (.int .i64 ws[k].lo) ∧ W.cell? ⟨g, k * 3 + 2, none⟩ = some (.int .i64 ws[k].hi) := fun W hb =>
        ⟨(hb.cell (p := ⟨g, k * 3, none⟩) hgs).trans (hc 0 _ rfl), (hb.cell (p := ⟨g, k * 3 + 1, none⟩) hgs).trans (hc 1 _ rfl), (hb.cell (p := ⟨g, k * 3 + 2, none⟩) hgs).trans (hc 2 _ rfl)⟩
      have HCL := hide hcell
      obtain ⟨d0, _, _⟩ := hcell _ hm.bel
      have HT := hide (linkedN_take S.names ws k hlt)
      have HPk := hide (HP.out S' ws[k].name _ hm.at_ (by have h1 := hm.gr.len; have h2 : S.names.length = S.ents.length := (by simp [SD.names]); omega))
      have HGN := hide hm.gr.names
      have HM := hide hm
      clear hm hcell hc
      generalize ws[k] = x at *
      go_wp2_with fail
      refine HPk.out.mono ?_
      rintro e w2 ⟨rfl, hmore⟩
      obtain ⟨S2, hm2⟩ := HM.out.place HR.out hmore
      obtain ⟨_, d1, d2⟩ := HCL.out _ hm2.bel
      rw [HGN.out] at hm2 ⊢
      have HM2 := hide hm2
      have hrow2 : w2.ownsRow w.heap.size 188 3 (.slice ao k cap) k (lksCells (linkedN S.names (ws.take k)).1) := by
        have := hm2.row
        unfold LinkRow at this
        rw [hl1] at this
        exact this
      have hsz2 := hm2.sz
      have HG := hide (show ∀ (g' cap' : Nat) (W2 : World), W2.ownsRow w.heap.size 188 3 (.slice (some ⟨g', 0, none⟩) (k + 1) cap') (k + 1) (lksCells (linkedN S.names (ws.take k)).1 ++ lkCells ⟨(placeN (linkedN S.names (ws.take k)).2 x.name).1, x.lo, x.hi⟩) → (w2.alloc (.cells #[.int .i64 (placeN (linkedN S.names (ws.take k)).2 x.name).1, .int .i64 x.lo, .int .i64 x.hi] 188)).grownBy W2 (Value.ownBlock (.slice ao k cap)) →
          ∃ S'', LinkMid w W2 sb S (some ⟨g', 0, none⟩) cap' (linkedN S.names (ws.take (k + 1))).1 (linkedN S.names (ws.take (k + 1))).2 S'' from fun g' cap' W2 ho hgw => by
        rw [HT.out]
        refine ⟨S2, HM2.out.push (x := ⟨(placeN (linkedN S.names (ws.take k)).2 x.name).1, x.lo, x.hi⟩) HR.out ((Below.refl _ _).alloc (Nat.le_refl _) _) (by rw [hl1]; exact ho) (by rw [hl1]; exact hgw)⟩)
      generalize (placeN (linkedN S.names (ws.take k)).2 x.name).1 = pl at *
      generalize lksCells (linkedN S.names (ws.take k)).1 = lc at *
      have B1 := hide (show k + 1 ≤ maxLen by unfold maxLen; omega)
      have B2 := hide (show (k + 1) * 24 ≤ 140737488355328 by omega)
      clear hm2 hmore HM HPk d0 HT HGN HM2
      go_wp2_with fail
      go_region_law (refine step_append_own rfl (.tmp 21) (.tmp 34) 175 rfl w.heap.size 188 i0 (.agg #[.int .i64 0, .int .i64 0, .int .i64 0]) 3 24 Tryz.underlying175 ti hz0 hz1 hz2 rfl (by decide) (.slice ao k cap) k lc ?_ ?_ ⟨w2.heap.size, 0, none⟩ 1 1 [.int .i64 pl, .int .i64 x.lo, .int .i64 x.hi] ?_ rfl ?_ ?_ B1.out B2.out ?_ (Nat.succ_pos _) ?_; simp [Act.eval]; exact hrow2.alloc _; simp [Act.eval]; exact news_at (t := 188) (fr := (0, 0)) (heap_alloc_new w2 _); simp [Value.oneCell']; exact Nat.le_trans hsz2 (Nat.le_trans (Nat.le_add_right _ 1) (Nat.le_of_eq (size1 w2 _).symm)); intro g' cap' w3 hown3 hgrow _; have HF := hide (HG.out g' cap' w3 hown3 (grown_start hgrow rfl rfl rfl rfl)))
      all_goals
        clear hgrow hown3
        go_wp2_with fail
        go_roundw
        case rel => obtain ⟨S3, h3⟩ := HF.out; exact ⟨k + 1, _, _, S3, by omega, by go_num, by simp, h3⟩
        case measure => simp [intOf] <;> omega
    · obtain rfl : k = ws.length := by omega
      rw [List.take_length] at hm
      go_wp2_with fail
      go_ret
      exact ⟨_, _, _, rfl, hm⟩

end

section
open Go.RowKit

section
variable {w : World} {sb : Nat} {S : SD}

theorem SAt.setList (h : SAt w sb S) (ao : Option Addr) (cap : Nat) (l : List (Wt Nat)) (hrow : LinkRow w (sb + 1) ao cap l) (hsep : ∀ e ∈ S.ents, ∀ v k, blockOf (e.ofr v).ao k → ¬ blockOf ao k) (hl : l.length ≤ 100000) :
    SAt (w.setCell ⟨sb, 0, none⟩ (.slice ao l.length cap)) sb { S with list := l, lao := ao, lcap := cap } := by
  refine ⟨⟨?_, ?_, ?_, ?_, ?_, ?_⟩, ownsRow_setCell_below hrow (Nat.lt_succ_self sb) _, ownsRow_setCell_below h.nown (Nat.lt_succ_self sb) _, fun e he v => ownsRow_setCell_below (h.wown e he v) (Nat.lt_succ_self sb) _, hsep, hl, h.nl⟩
  · rw [cell_setCell_same h.head.c0]
  · rw [cell_setCell_ne (by omega)]; exact h.head.c1
  · rw [cell_setCell_ne (by omega)]; exact h.head.c2
  · rw [cell_setCell_ne (by omega)]; exact h.head.c3
  · rw [cell_setCell_ne (by omega)]; exact h.head.c4
  · intro j; rw [frozen_setCell]; exact h.head.f j

theorem SAt.setTold (h : SAt w sb S) (n : Nat) : SAt (w.setCell ⟨sb, 3, none⟩ (.int .i64 n)) sb { S with told := n } := by
  refine ⟨⟨?_, ?_, ?_, ?_, ?_, ?_⟩, ownsRow_setCell_below h.lown (Nat.lt_succ_self sb) _, ownsRow_setCell_below h.nown (Nat.lt_succ_self sb) _, fun e he v => ownsRow_setCell_below (h.wown e he v) (Nat.lt_succ_self sb) _, h.sep, h.ll, h.nl⟩
  · rw [cell_setCell_ne (by omega)]; exact h.head.c0
  · rw [cell_setCell_ne (by omega)]; exact h.head.c1
  · rw [cell_setCell_ne (by omega)]; exact h.head.c2
  · rw [cell_setCell_same h.head.c3]
  · rw [cell_setCell_ne (by omega)]; exact h.head.c4
  · intro j; rw [frozen_setCell]; exact h.head.f j

theorem SAt.setLeft (h : SAt w sb S) (n : Int) : SAt (w.setCell ⟨sb, 4, none⟩ (.int .i64 n)) sb { S with left := n } := by
  refine ⟨⟨?_, ?_, ?_, ?_, ?_, ?_⟩, ownsRow_setCell_below h.lown (Nat.lt_succ_self sb) _, ownsRow_setCell_below h.nown (Nat.lt_succ_self sb) _, fun e he v => ownsRow_setCell_below (h.wown e he v) (Nat.lt_succ_self sb) _, h.sep, h.ll, h.nl⟩
  · rw [cell_setCell_ne (by omega)]; exact h.head.c0
  · rw [cell_setCell_ne (by omega)]; exact h.head.c1
  · rw [cell_setCell_ne (by omega)]; exact h.head.c2
  · rw [cell_setCell_ne (by omega)]; exact h.head.c3
  · rw [cell_setCell_same h.head.c4]
  · intro j; rw [frozen_setCell]; exact h.head.f j

/-- A write into the names' row leaves the rest. -/
theorem SAt.setNames (h : SAt w sb S) {g : Nat} (hg : S.nao = some ⟨g, 0, none⟩) (j : Nat) (u : Value) {i : Nat} (_hi : i < S.ents.length) (x : Ent) (hx : entsCells (S.ents.set i x) = (entsCells S.ents).set j u)
    (hw : ∀ v, LinkRow w (sb + 1) (x.ofr v).ao (x.ofr v).cap (x.ofr v).list ∧ ∀ k, blockOf (x.ofr v).ao k → ¬ blockOf S.lao k) : SAt (w.setCell ⟨g, j, none⟩ u) sb { S with ents := S.ents.set i x } := by
  have hgb : blockOf S.nao g := ⟨_, hg, rfl⟩
  have hgs := blockOf_lt h.nown hgb
  have far : ∀ {ao : Option Addr} {cap : Nat} {l : List (Wt Nat)}, LinkRow w (sb + 1) ao cap l → LinkRow (w.setCell ⟨g, j, none⟩ u) (sb + 1) ao cap l := fun ho =>
    ownsRow_setCell_other ho (a := ⟨g, j, none⟩) (fun hk => blocks_apart h.nown ho (by decide) hgb hk) _
  have h0 : (w.setCell ⟨g, j, none⟩ u).heap[sb]? = w.heap[sb]? := Below.heap_setCell _ _ _ _ (by show sb ≠ g; omega)
  have hh := h.head.keep h0
  refine ⟨⟨hh.c0, hh.c1, ?_, hh.c3, hh.c4, hh.f⟩, far h.lown, ?_, ?_, ?_, h.ll, by simpa using h.nl⟩
  · simp only [List.length_set]; exact hh.c2
  · simp only [List.length_set]
    rw [hx]
    have ho := h.nown
    rw [hg] at ho ⊢
    exact ownsRow_set ho _ _
  · intro e he v
    rcases List.mem_or_eq_of_mem_set he with he | rfl
    · exact far (h.wown e he v)
    · exact far (hw v).1
  · intro e he v
    rcases List.mem_or_eq_of_mem_set he with he | rfl
    · exact h.sep e he v
    · exact (hw v).2

theorem SAt.setCh (h : SAt w sb S) {g : Nat} (hg : S.nao = some ⟨g, 0, none⟩) {i : Nat} (hi : i < S.ents.length) (n : Nat) :
    SAt (w.setCell ⟨g, i * 22 + 21, none⟩ (.int .i64 n)) sb { S with ents := S.ents.set i { S.ents[i] with ch := n } } := by
  refine h.setNames hg _ _ hi _ (flat_set Ent.cells 22 Ent.cells_length S.ents i 21 _ _ hi (by decide) rfl) (fun v => ⟨h.wown S.ents[i] (List.getElem_mem hi) v, h.sep S.ents[i] (List.getElem_mem hi) v⟩)

end

set_option maxHeartbeats 800000 in
set_option maxRecDepth 100000 in
theorem next_no (sb : Nat) (S : SD) (w : World) (hr : SAt w sb S) (h : S.ents.length ≤ S.told) :
    Calls Tryz.prog 113 #[.pointer (some ⟨sb, 0, none⟩)] w fun e w' => e = .returned (.tuple #[.string ⟨#[]⟩, .bool false]) ∧ Below w.heap.size w w' := by
  have c2 := hr.head.c2
  have c3 := hr.head.c3
  have hb0 : ∀ n, Below w.heap.size w (w.drewN n) := fun n => below_drawn (Below.refl _ _) n
  go_enter Tryz.func113, Tryz.ntmps113
  go_wp2
  go_region
  all_goals
    go_wp2
    go_ret2
    exact ⟨rfl, hb0 _⟩

set_option maxHeartbeats 800000 in
set_option maxRecDepth 100000 in
theorem next_yes (sb : Nat) (S : SD) (w : World) (hr : SAt w sb S) (h : S.told < S.ents.length) :
    Calls Tryz.prog 113 #[.pointer (some ⟨sb, 0, none⟩)] w fun e w' => e = .returned (.tuple #[.string S.ents[S.told].name, .bool true]) ∧ SAt w' sb { S with told := S.told + 1 } ∧ Below sb w w' := by
  have c2 := hr.head.c2
  have c3 := hr.head.c3
  have f3 := hr.head.f 3
  have hn := hr.nl
  have hlt := hr.lt
  obtain ⟨g, hg, hglt, hgs, d0, _⟩ := hr.ent S.told h
  rw [hg] at c2
  have HF := hide (show SAt (w.setCell ⟨sb, 3, none⟩ (.int .i64 ((S.told : Int) + 1))) sb { S with told := S.told + 1 } from hr.setTold (S.told + 1))
  have HB := hide ((Below.refl sb w).setCell (p := ⟨sb, 3, none⟩) (Nat.le_refl _) (.int .i64 ((S.told : Int) + 1)))
  generalize S.ents[S.told].name = nm at *
  clear hr
  go_enter Tryz.func113, Tryz.ntmps113
  go_wp2
  go_region
  all_goals
    go_wp2
    go_region
    all_goals
      go_wp2
      go_ret2
      exact ⟨rfl, HF.out.same rfl, HB.out.os, HB.out.tape, HB.out.output, HB.out.size, HB.out.block⟩

/-- Among the wants that were asked: is there one of just this version? -/
def aloneN (l : List (Wt Nat)) (i : Nat) (v : Int) : Bool := l.any fun x => x.n == i && (x.lo == v && x.hi == v)

set_option maxHeartbeats 800000 in
set_option maxRecDepth 100000 in
theorem alone_any (sb : Nat) (S : SD) (i : Nat) (v : Int) (w : World) (hr : SAt w sb S) (ha : S.asked ≤ S.list.length) :
    Calls Tryz.prog 129 #[.pointer (some ⟨sb, 0, none⟩), .int .i64 i, .int .i64 v] w fun e w' => e = .returned (.bool (aloneN (S.list.take S.asked) i v)) ∧ Below w.heap.size w w' := by
  have HR := hide hr
  have hll := hr.ll
  clear hr
  go_enter Tryz.func129, Tryz.ntmps129
  go_wp2_with fail
  go_loopw [7, 8] (fun x _ wr => ∃ k : Nat, k ≤ S.asked ∧ x = .int .i64 k ∧ aloneN (S.list.take k) i v = false ∧ Below w.heap.size w wr) (fun x _ _ => S.asked - (intOf x).toNat)
  case atStart => exact ⟨0, Nat.zero_le _, rfl, by simp [aloneN], Below.refl _ _⟩
  case round =>
    obtain ⟨k, hk, rfl, hno, hb⟩ := hrel
    have hr := HR.out.below hb
    have c0 := hr.head.c0
    have c1 := hr.head.c1
    by_cases hlt : k < S.asked
    · obtain ⟨g, hg, _, _, d0, d1, d2⟩ := hr.link k (by omega)
      rw [hg] at c0
      have hkl : k < S.list.length := by omega
      have HNX := hide (show ∀ b : Bool, (S.list[k].n == i && (S.list[k].lo == v && S.list[k].hi == v)) = b → aloneN (S.list.take (k + 1)) i v = b from fun b hb => by
        unfold aloneN at hno ⊢
        rw [List.take_succ_eq_append_getElem hkl, List.any_append, hno]
        simpa using hb)
      have HFin := hide (show (S.list[k].n == i && (S.list[k].lo == v && S.list[k].hi == v)) = true → aloneN (S.list.take S.asked) i v = true from fun hb => by
        unfold aloneN
        rw [List.any_eq_true]
        refine ⟨S.list[k], ?_, hb⟩
        rw [List.mem_take_iff_getElem]
        exact ⟨k, by omega, rfl⟩)
      have hb1 := hide (show Below w.heap.size w (wr.alloc (.cells #[.int .i64 S.list[k].n, .int .i64 S.list[k].lo, .int .i64 S.list[k].hi] 188)) from hb.alloc hb.size _)
      generalize S.list[k] = x at *
      clear hno
      by_cases q1 : (x.n : Int) = (i : Int)
      · have q1' : ((x.n : Int) == (i : Int)) = true := by simpa using q1
        have q1n : (x.n == i) = true := beq_iff_eq.2 (by omega)
        by_cases q2 : x.lo = v
        · have q2' : (x.lo == v) = true := by simpa using q2
          by_cases q3 : x.hi = v
          · have q3' : (x.hi == v) = true := by simpa using q3
            have HT := hide (HFin.out (by rw [q1n, q2', q3']; rfl))
            clear HNX HFin q1 q2 q3
            go_wp2_with fail
            go_ret
            exact ⟨ret_bool HT.out.symm, hb1.out⟩
          · have q3' : (x.hi == v) = false := by simpa using q3
            have HN := hide (HNX.out false (by rw [q1n, q2', q3']; rfl))
            clear HNX HFin q1 q2 q3
            go_wp2_with fail
            go_roundw
            case rel => exact ⟨k + 1, by omega, by go_num, HN.out, hb1.out⟩
            case measure => simp [intOf] <;> omega
        · have q2' : (x.lo == v) = false := by simpa using q2
          have HN := hide (HNX.out false (by rw [q1n, q2']; rfl))
          clear HNX HFin q1 q2
          go_wp2_with fail
          go_roundw
          case rel => exact ⟨k + 1, by omega, by go_num, HN.out, hb1.out⟩
          case measure => simp [intOf] <;> omega
      · have q1' : ((x.n : Int) == (i : Int)) = false := by simpa using q1
        have q1n : (x.n == i) = false := beq_eq_false_iff_ne.2 (fun e => q1 (by rw [e]))
        have HN := hide (HNX.out false (by rw [q1n]; rfl))
        clear HNX HFin q1
        go_wp2_with fail
        go_roundw
        case rel => exact ⟨k + 1, by omega, by go_num, HN.out, hb1.out⟩
        case measure => simp [intOf] <;> omega
    · obtain rfl : k = S.asked := by omega
      go_wp2_with fail
      go_ret
      exact ⟨ret_bool hno.symm, hb⟩

theorem flat_set2 {α : Type} (f : α → List Value) (n : Nat) (hf : ∀ x, (f x).length = n) (l : List α) (i j : Nat) (x : α) (u u' : Value) (hi : i < l.length) (hj : j + 1 < n) (hx : f x = ((f l[i]).set j u).set (j + 1) u') : (l.set i x).flatMap f = ((l.flatMap f).set (i * n + j) u).set (i * n + j + 1) u' := by
  induction l generalizing i with
  | nil => simp at hi
  | cons y l ih =>
    have hl := hf y
    cases i with
    | zero =>
      have hx' : f x = ((f y).set j u).set (j + 1) u' := hx
      rw [List.set_cons_zero, List.flatMap_cons, List.flatMap_cons, List.set_append_left _ _ (by rw [hl]; omega), List.set_append_left _ _ (by rw [List.length_set, hl]; omega), hx']
      simp
    | succ i =>
      rw [List.set_cons_succ, List.flatMap_cons, List.flatMap_cons, List.set_append_right _ _ (by rw [hl, Nat.succ_mul]; omega), List.set_append_right _ _ (by rw [hl, Nat.succ_mul]; omega), hl, ih i (by simpa using hi) (by simpa using hx), show (i + 1) * n + j - n = i * n + j from by rw [Nat.succ_mul]; omega, show (i + 1) * n + j + 1 - n = i * n + j + 1 from by rw [Nat.succ_mul]; omega]

/-- What an offer leaves of a search: more names; what is offered of one. -/
def Offered (S S' : SD) (ns : List ByteArray) (i v : Nat) (l : List (Wt Nat)) : Prop :=
  ∃ S1, Grown S S1 ns ∧ ∃ hi : i < S1.ents.length, ∃ ao cap, S' = { S1 with ents := S1.ents.set i (S1.ents[i].offer v ⟨ao, cap, some l⟩) }

theorem SAt.setOffer {w w' : World} {sb : Nat} {S : SD} (h : SAt w sb S) {g : Nat} (hg : S.nao = some ⟨g, 0, none⟩) {i : Nat} (hi : i < S.ents.length) (v : Nat) (hv : v < 10) (o : Ofr) (hrow : LinkRow w (sb + 1) o.ao o.cap o.list) (hsep : ∀ k, blockOf o.ao k → ¬ blockOf S.lao k)
    (hw : w' = (w.setCell ⟨g, i * 22 + 1 + v * 2, none⟩ (.bool o.ws.isSome)).setCell ⟨g, i * 22 + 1 + v * 2 + 1, none⟩ (.slice o.ao o.list.length o.cap)) :
    SAt w' sb { S with ents := S.ents.set i (S.ents[i].offer v o) } := by
  have hgb : blockOf S.nao g := ⟨_, hg, rfl⟩
  have hgs := blockOf_lt h.nown hgb
  subst hw
  have far : ∀ {ao : Option Addr} {cap : Nat} {l : List (Wt Nat)}, LinkRow w (sb + 1) ao cap l → LinkRow ((w.setCell ⟨g, i * 22 + 1 + v * 2, none⟩ (.bool o.ws.isSome)).setCell ⟨g, i * 22 + 1 + v * 2 + 1, none⟩ (.slice o.ao o.list.length o.cap)) (sb + 1) ao cap l := fun ho =>
    ownsRow_setCell_other (ownsRow_setCell_other ho (a := ⟨g, i * 22 + 1 + v * 2, none⟩) (fun hk => blocks_apart h.nown ho (by decide) hgb hk) _) (a := ⟨g, i * 22 + 1 + v * 2 + 1, none⟩) (fun hk => blocks_apart h.nown ho (by decide) hgb hk) _
  have h0 : ((w.setCell ⟨g, i * 22 + 1 + v * 2, none⟩ (.bool o.ws.isSome)).setCell ⟨g, i * 22 + 1 + v * 2 + 1, none⟩ (.slice o.ao o.list.length o.cap)).heap[sb]? = w.heap[sb]? := by
    rw [Below.heap_setCell _ _ _ _ (by show sb ≠ g; omega), Below.heap_setCell _ _ _ _ (by show sb ≠ g; omega)]
  have hh := h.head.keep h0
  have hx : entsCells (S.ents.set i (S.ents[i].offer v o)) = ((entsCells S.ents).set (i * 22 + 1 + v * 2) (.bool o.ws.isSome)).set (i * 22 + 1 + v * 2 + 1) (.slice o.ao o.list.length o.cap) := by
    have e := Ent.cells_offer S.ents[i] v hv o
    have e2 := flat_set2 Ent.cells 22 Ent.cells_length S.ents i (1 + v * 2) _ _ _ hi (by omega) e
    rw [← Nat.add_assoc] at e2
    exact e2
  refine ⟨⟨hh.c0, hh.c1, ?_, hh.c3, hh.c4, hh.f⟩, far h.lown, ?_, ?_, ?_, h.ll, by simpa using h.nl⟩
  · simp only [List.length_set]; exact hh.c2
  · simp only [List.length_set]
    rw [hx]
    have ho := h.nown
    rw [hg] at ho ⊢
    exact ownsRow_set (ownsRow_set ho _ _) _ _
  · intro e he u
    rcases List.mem_or_eq_of_mem_set he with he | rfl
    · exact far (h.wown e he u)
    · unfold Ent.offer
      simp only
      split
      · exact far hrow
      · exact far (h.wown S.ents[i] (List.getElem_mem hi) u)
  · intro e he u
    rcases List.mem_or_eq_of_mem_set he with he | rfl
    · exact h.sep e he u
    · unfold Ent.offer
      simp only
      split
      · exact hsep
      · exact h.sep S.ents[i] (List.getElem_mem hi) u

end

end Go.Proofs.YtgcldedkempjhabGreatDoor
