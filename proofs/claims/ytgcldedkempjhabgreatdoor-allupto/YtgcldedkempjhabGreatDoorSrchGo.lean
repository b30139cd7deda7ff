/-
  search.Search: Run.
-/
import Derived.Test.YtgcldedkempjhabGreatDoorSrchTry
namespace Go.Proofs.YtgcldedkempjhabGreatDoor
section
open Go.RowKit

theorem goOn_any (sb : Nat) (K : RK) (k : Nat) : ∀ (lao : Option Addr) (list : List (Wt Nat)) (chl : List (Nat × Nat)) (left start : Nat) (w : World), RAt w sb K lao list chl left → RunOk K k list chl left → start ≤ list.length →
    Calls Tryz.prog 115 #[.pointer (some ⟨sb, 0, none⟩), .int .i64 start] w fun e w' => EndsAs w sb K lao list chl (solve (candN K.E) k (list.drop start) chl left) e w' := by
  induction k with
  | zero =>
    intro lao list chl left start w hr hok hs
    refine goOn_of sb K 0 lao list chl left start ?_ w hr hok hs
    intro x next _ hx h0
    have h1 := freeN_pos hx h0
    have h2 := hok.free
    omega
  | succ k ih =>
    intro lao list chl left start w hr hok hs
    refine goOn_of sb K (k + 1) lao list chl left start ?_ w hr hok hs
    intro x next hn hx h0 hsk w' hr'
    refine (tryEach_of sb K k ih x next lao list chl left w' hr' hok hn hx h0).mono ?_
    intro e w'' h
    exact h.mono (solve_at hsk).symm

structure Pk where
  name : ByteArray
  ver : Nat

def Pk.cells (p : Pk) : List Value := [.string p.name, .int .i64 p.ver]

theorem Pk.cells_length (p : Pk) : p.cells.length = 2 := rfl

def pksCells (l : List Pk) : List Value := l.flatMap Pk.cells

theorem Tryz.infoPick : (Tryz.prog.info? 184).map (fun i => (i.zero, i.size, i.bytes)) = some (some (.agg #[.string ⟨#[]⟩, .int .i64 0]), 2, 24) := by kernel_rfl

def pkLess (p q : Pk) : Bool := Op.bytesLess p.name.toList q.name.toList

/-- Where a pick goes among the first i of a list. -/
def insPos (l : List Pk) (p : Pk) : Nat → Nat
  | 0 => 0
  | i + 1 => if (l[i]?.map (pkLess p)).getD false = true then insPos l p i else i + 1

def insAt (l : List Pk) (p : Pk) (i : Nat) : List Pk := l.take i ++ p :: l.drop i

/-- A pick laid into a list. -/
def insP (l : List Pk) (p : Pk) : List Pk := insAt l p (insPos l p l.length)

theorem insAt_length (l : List Pk) (p : Pk) (i : Nat) : (insAt l p i).length = l.length + 1 := by
  simp only [insAt, List.length_append, List.length_cons, List.length_take, List.length_drop]; omega

theorem insP_length (l : List Pk) (p : Pk) : (insP l p).length = l.length + 1 := insAt_length _ _ _

theorem insAt_at (l : List Pk) (p : Pk) (i : Nat) (hi : i ≤ l.length) : (insAt l p i)[i]? = some p := by
  unfold insAt
  rw [List.getElem?_append_right (by rw [List.length_take]; omega), List.length_take, show i - min i l.length = 0 by omega]
  rfl

theorem insAt_before (l : List Pk) (p : Pk) (i : Nat) (hi : i < l.length) : (insAt l p (i + 1))[i]? = some l[i] := by
  unfold insAt
  rw [List.getElem?_append_left (by rw [List.length_take]; omega), List.getElem?_take]
  simp [hi]

theorem insAt_swap (l : List Pk) (p : Pk) (i : Nat) (hi : i < l.length) : ((insAt l p (i + 1)).set i p).set (i + 1) l[i] = insAt l p i := by
  have e1 : l.take (i + 1) = l.take i ++ [l[i]] := by rw [List.take_succ_eq_append_getElem hi]
  have e2 : l.drop i = l[i] :: l.drop (i + 1) := List.drop_eq_getElem_cons hi
  have hlen : (l.take i).length = i := by rw [List.length_take]; omega
  unfold insAt
  rw [e1, e2, List.append_assoc, List.set_append_right _ _ (by omega), hlen, Nat.sub_self, List.set_append_right _ _ (by omega), hlen, show i + 1 - i = 1 by omega]
  rfl

theorem pks_swap (l : List Pk) (p : Pk) (i : Nat) (hi : i < l.length) :
    pksCells (insAt l p i) = ((((pksCells (insAt l p (i + 1))).set (i * 2) (.string p.name)).set (i * 2 + 1) (.int .i64 p.ver)).set ((i + 1) * 2) (.string l[i].name)).set ((i + 1) * 2 + 1) (.int .i64 l[i].ver) := by
  have hl := insAt_length l p (i + 1)
  have h1 : pksCells ((insAt l p (i + 1)).set i p) = ((pksCells (insAt l p (i + 1))).set (i * 2) (.string p.name)).set (i * 2 + 1) (.int .i64 p.ver) :=
    flat_set2 Pk.cells 2 Pk.cells_length (insAt l p (i + 1)) i 0 p _ _ (by omega) (by decide) (by rfl)
  have h2 : pksCells (((insAt l p (i + 1)).set i p).set (i + 1) l[i]) = ((pksCells ((insAt l p (i + 1)).set i p)).set ((i + 1) * 2) (.string l[i].name)).set ((i + 1) * 2 + 1) (.int .i64 l[i].ver) :=
    flat_set2 Pk.cells 2 Pk.cells_length ((insAt l p (i + 1)).set i p) (i + 1) 0 l[i] _ _ (by rw [List.length_set]; omega) (by decide) (by rfl)
  rw [← insAt_swap l p i hi, h2, h1]

theorem insAt_end (l : List Pk) (p : Pk) : insAt l p l.length = l ++ [p] := by simp [insAt]

/-- The row of picks while one is laid into it. -/
structure InsMid (w wr : World) (base : Nat) (l : List Pk) (p : Pk) (g cap i : Nat) : Prop where
  row : wr.ownsRow base 184 2 (.slice (some ⟨g, 0, none⟩) (l.length + 1) cap) (l.length + 1) (pksCells (insAt l p i))
  le : i ≤ l.length
  pos : insPos l p l.length = insPos l p i
  bel : Below base w wr

theorem InsMid.swap {w wr : World} {base : Nat} {l : List Pk} {p : Pk} {g cap i : Nat} {o : Obj} (h : InsMid w wr base l p g cap (i + 1)) (hb : base ≤ wr.heap.size) (hi : i < l.length) (hless : pkLess p l[i] = true) :
    InsMid w (((((wr.setCell ⟨g, i * 2, none⟩ (.string p.name)).setCell ⟨g, i * 2 + 1, none⟩ (.int .i64 p.ver)).setCell ⟨g, (i + 1) * 2, none⟩ (.string l[i].name)).setCell ⟨g, (i + 1) * 2 + 1, none⟩ (.int .i64 l[i].ver)).alloc o).drew base l p g cap i := by
  have hgb : base ≤ g := (blockOf_lt h.row ⟨_, rfl, rfl⟩).1
  refine ⟨?_, by omega, ?_, ?_⟩
  · rw [pks_swap l p i hi]
    exact ownsRow_keep ((ownsRow_set (ownsRow_set (ownsRow_set (ownsRow_set h.row _ _) _ _) _ _) _ _).alloc o) (fun _ _ => rfl)
  · rw [h.pos, insPos, if_pos (by simp [hi, hless])]
  · exact below_drawn ((((((h.bel.setCell (p := ⟨g, _, none⟩) hgb _).setCell (p := ⟨g, _, none⟩) hgb _).setCell (p := ⟨g, _, none⟩) hgb _).setCell (p := ⟨g, _, none⟩) hgb _)).alloc (by simpa [World.setCell] using hb) o) 1

/-- A pick of a row, in memory. -/
theorem pick_cell {w : World} {base g cap n : Nat} {R : List Pk} (h : w.ownsRow base 184 2 (.slice (some ⟨g, 0, none⟩) n cap) n (pksCells R)) (hn : R.length = n) {i : Nat} {q : Pk} (hq : R[i]? = some q) :
    w.cell? ⟨g, i * 2, none⟩ = some (.string q.name) ∧ w.cell? ⟨g, i * 2 + 1, none⟩ = some (.int .i64 q.ver) ∧ (∀ j, w.frozen? ⟨g, j, none⟩ = false) ∧ g < w.heap.size := by
  subst hn
  obtain ⟨hi, rfl⟩ := List.getElem?_eq_some_iff.1 hq
  obtain ⟨g1, e, hlt, _, hc, hf⟩ := row_cell Pk.cells_length h i hi
  injection e with e
  injection e with e
  subst e
  exact ⟨hc 0 _ rfl, hc 1 _ rfl, hf, hlt⟩

set_option maxHeartbeats 1600000 in
set_option maxRecDepth 100000 in
theorem inserted_any (ao : Option Addr) (cap base : Nat) (l : List Pk) (p : Pk) (w : World) (hw : w.ownsRow base 184 2 (.slice ao l.length cap) l.length (pksCells l)) (hb : base ≤ w.heap.size) (hl : l.length ≤ 10000) :
    Calls Tryz.prog 124 #[.slice ao l.length cap, .agg #[.string p.name, .int .i64 p.ver]] w fun e w' => ∃ ao' cap', e = .returned (.slice ao' (l.length + 1) cap') ∧ w'.ownsRow base 184 2 (.slice ao' (l.length + 1) cap') (l.length + 1) (pksCells (insP l p)) ∧ Below base w w' := by
  obtain ⟨i0, ti, hz0, hz1, hz2⟩ := info_parts Tryz.infoPick
  go_enter Tryz.func124, Tryz.ntmps124
  go_wp2_with (at_builtin; refine wpList_append_own2 _ rfl (.tmp 7) (.tmp 9) 156 rfl base 184 i0 (.agg #[.string ⟨#[]⟩, .int .i64 0]) 2 24 Tryz.underlying156 ti hz0 hz1 hz2 rfl (by decide) (.slice ao l.length cap) l.length (pksCells l) rfl ((hw.alloc _).alloc _) ⟨w.heap.size + 1, 0, none⟩ 1 1 [.string p.name, .int .i64 p.ver] rfl rfl (news_at (t := 184) (fr := (0, 0)) (heap2_new w _ _)) ?_ (by unfold maxLen; omega) (by omega) (by simp; omega) (by omega) ?_)
  · simp [Value.oneCell']
  · intro g' cap' w1 hown hgrow hnew
    have HM0 := hide (show InsMid w w1 base l p g' cap' l.length from ⟨by rw [insAt_end]; simpa [pksCells, Pk.cells] using hown, Nat.le_refl _, rfl,
      (((Below.refl _ _).alloc hb _).alloc (by simp; omega) _).grown hgrow (by simp; omega) (fun k hk => (blockOf_lt hw (row_of hk)).1)⟩)
    clear hown hgrow hnew
    go_wp2_with fail
    go_loopw [5, 6] (fun v _ wr => ∃ i : Nat, v = .int .i64 i ∧ InsMid w wr base l p g' cap' i) (fun v _ _ => (intOf v).toNat)
    case atStart => exact ⟨l.length, by go_num, HM0.out⟩
    case round =>
      obtain ⟨i, rfl, hm⟩ := hrel
      have hile := hm.le
      have hrow := hm.row
      have hbr : base ≤ wr.heap.size := Nat.le_trans hb hm.bel.size
      cases i with
      | zero =>
        have HF := hide (show wr.ownsRow base 184 2 (.slice (some ⟨g', 0, none⟩) (l.length + 1) cap') (l.length + 1) (pksCells (insP l p)) ∧ Below base w wr from ⟨by unfold insP; rw [hm.pos]; exact hrow, hm.bel⟩)
        clear hm hrow HM0
        go_wp2_with fail
        go_region
        all_goals
          go_wp2_with fail
          go_ret
          exact ⟨_, _, rfl, ownsRow_keep HF.out.1 (fun _ _ => rfl), HF.out.2.os, HF.out.2.tape, HF.out.2.output, HF.out.2.size, HF.out.2.block⟩
      | succ i =>
        have hi : i < l.length := by omega
        obtain ⟨d0, d1, df, hglt⟩ := pick_cell hrow (insAt_length _ _ _) (insAt_at l p (i + 1) hile)
        obtain ⟨d2, d3, _, _⟩ := pick_cell hrow (insAt_length _ _ _) (insAt_before l p i hi)
        have hii : (((i + 1 : Nat) : Int) - 1).toNat = i := by omega
        cases hless : pkLess p l[i] with
        | true =>
          have hls : Op.bytesLess p.name.toList l[i].name.toList = true := hless
          have HF := hide (hm.swap (o := .cells #[.string l[i].name, .int .i64 l[i].ver] 184) hbr hi hless)
          clear hm hrow HM0 hless
          generalize l[i] = q at *
          go_wp2_with fail
          go_region
          all_goals
            go_wp2_with fail
            go_roundw
            case rel => exact ⟨i, by go_num, HF.out⟩
            case measure => simp [intOf] <;> omega
        | false =>
          have hls : Op.bytesLess p.name.toList l[i].name.toList = false := hless
          have HF := hide (show wr.ownsRow base 184 2 (.slice (some ⟨g', 0, none⟩) (l.length + 1) cap') (l.length + 1) (pksCells (insP l p)) ∧ Below base w wr from ⟨by unfold insP; rw [hm.pos, insPos, if_neg (by simp [hi, hless])]; exact hrow, hm.bel⟩)
          clear hm hrow HM0 hless
          generalize l[i] = q at *
          go_wp2_with fail
          go_region
          all_goals
            go_wp2_with fail
            go_ret
            exact ⟨_, _, rfl, ownsRow_keep HF.out.1 (fun _ _ => rfl), HF.out.2.os, HF.out.2.tape, HF.out.2.output, HF.out.2.size, HF.out.2.block⟩

/-- All that is chosen, the least name first. -/
def picksP (es : List Ent) : List Pk := es.foldl (fun l e => if e.ch = 0 then l else insP l ⟨e.name, e.ch⟩) []

theorem picksP_take (es : List Ent) (k : Nat) (hk : k < es.length) : picksP (es.take (k + 1)) = if es[k].ch = 0 then picksP (es.take k) else insP (picksP (es.take k)) ⟨es[k].name, es[k].ch⟩ := by
  unfold picksP
  rw [List.take_succ_eq_append_getElem hk, List.foldl_append]
  rfl

theorem picksP_len (es : List Ent) (k : Nat) (hk : k ≤ es.length) : (picksP (es.take k)).length ≤ k := by
  induction k with
  | zero => simp [picksP]
  | succ k ih =>
    rw [picksP_take es k (by omega)]
    have := ih (by omega)
    split
    · omega
    · rw [insP_length]; omega

set_option maxHeartbeats 1600000 in
set_option maxRecDepth 100000 in
theorem picks_any (sb : Nat) (S : SD) (w : World) (hr : SAt w sb S) :
    Calls Tryz.prog 116 #[.pointer (some ⟨sb, 0, none⟩)] w fun e w' => ∃ ao cap, e = .returned (.slice ao (picksP S.ents).length cap) ∧ w'.ownsRow w.heap.size 184 2 (.slice ao (picksP S.ents).length cap) (picksP S.ents).length (pksCells (picksP S.ents)) ∧ Below w.heap.size w w' := by
  have HR := hide hr
  have hnl := hr.nl
  clear hr
  go_enter Tryz.func116, Tryz.ntmps116
  go_wp2_with fail
  go_loopw [3, 4] (fun v i wr => ∃ (k : Nat) (ao : Option Addr) (cap : Nat), k ≤ S.ents.length ∧ i = .int .i64 k ∧ v = .slice ao (picksP (S.ents.take k)).length cap ∧ wr.ownsRow w.heap.size 184 2 (.slice ao (picksP (S.ents.take k)).length cap) (picksP (S.ents.take k)).length (pksCells (picksP (S.ents.take k))) ∧ Below w.heap.size w wr) (fun _ i _ => S.ents.length - (intOf i).toNat)
  case atStart => exact ⟨0, none, 0, Nat.zero_le _, rfl, rfl, World.ownsRow_nil _ _ _ _, Below.refl _ _⟩
  case round =>
    obtain ⟨k, ao, cap, hk, rfl, rfl, hrow, hb⟩ := hrel
    have hr := HR.out.below hb
    have c2 := hr.head.c2
    have hpl := picksP_len S.ents k hk
    by_cases hlt : k < S.ents.length
    · obtain ⟨g, hg, hglt, _, d0, dch, _⟩ := hr.ent k hlt
      rw [hg] at c2
      have hnx := picksP_take S.ents k hlt
      have hbs := hb.size
      generalize hpp : picksP (S.ents.take k) = P at *
      generalize hQ : picksP (S.ents.take (k + 1)) = Q at *
      have HQ := hide hQ
      generalize S.ents[k] = x at *
      obtain ⟨xn, xo, xc⟩ := x
      simp only at d0 dch hnx
      by_cases hc : xc = 0
      · subst hc
        rw [if_pos rfl] at hnx
        subst hnx
        clear hpp hQ
        go_wp2_with fail
        go_roundw
        case rel => exact ⟨k + 1, ao, cap, by omega, by go_num, by rw [HQ.out], by rw [HQ.out]; exact hrow, hb⟩
        case measure => simp [intOf] <;> omega
      · rw [if_neg hc] at hnx
        have hcz : ((xc : Int) == 0) = false := by rw [beq_eq_false_iff_ne]; omega
        have hcz' : ((xc : Int) != 0) = true := by rw [bne, hcz]; rfl
        have HI := hide (fun W (h : W.ownsRow w.heap.size 184 2 (.slice ao P.length cap) P.length (pksCells P)) (h2 : w.heap.size ≤ W.heap.size) => inserted_any ao cap w.heap.size P ⟨xn, xc⟩ W h h2 (by omega))
        have hQl : Q.length = P.length + 1 := by rw [hnx, insP_length]
        have HNX := hide hnx
        clear hpp hc hQ hnx
        go_wp2_with fail
        go_region_with (go_at_call 124; refine (HI.out _ ?_ ?_).mono ?_; exact ownsRow_keep hrow (fun _ _ => rfl); exact hbs; rintro e w2 ⟨ao2, cap2, rfl, hrow2, hb2⟩)
        all_goals
          have HF := hide (show w2.ownsRow w.heap.size 184 2 (.slice ao2 Q.length cap2) Q.length (pksCells Q) ∧ Below w.heap.size w w2 from ⟨by rw [hQl, HNX.out]; exact hrow2, hb.trans ⟨hb2.os, hb2.tape, hb2.output, hb2.size, hb2.block⟩⟩)
          clear hrow2 hb2
          go_wp2_with fail
          go_roundw
          case rel => exact ⟨k + 1, ao2, cap2, by omega, by go_num, by rw [HQ.out, hQl], by rw [HQ.out]; exact HF.out.1, HF.out.2⟩
          case measure => simp [intOf] <;> omega
    · obtain rfl : k = S.ents.length := by omega
      rw [List.take_length] at hrow ⊢
      go_wp2_with fail
      go_ret
      exact ⟨ao, cap, rfl, hrow, hb⟩

end

section
open Go.RowKit

/-- What a search tells: what goes together, the steps, the error. -/
def runP (E : List Ent) (list : List (Wt Nat)) (budget : Nat) : List Pk × Nat × Int :=
  match solve (candN E) E.length list [] budget with
  | none => ([], budget, 10)
  | some (left, none) => ([], budget - left, 9)
  | some (left, some chl) => (picksP (chEnts E chl), budget - left, 0)

theorem chEnts_nil (E : List Ent) (h : ∀ e ∈ E, e.ch = 0) : chEnts E [] = E := by
  apply List.ext_getElem
  · simp [chEnts]
  · intro i h1 h2
    have := h E[i] (List.getElem_mem h2)
    rw [chEnts_get E [] i h2]
    simp only [picked]
    rw [← this]

set_option maxHeartbeats 1600000 in
set_option maxRecDepth 100000 in
theorem run_any (sb : Nat) (S : SD) (budget : Nat) (w : World) (hr : SAt w sb S) (hok : OfrOk S.ents) (hlst : ∀ x ∈ S.list, x.n < S.ents.length) (hlen : S.list.length + 6 * S.ents.length ≤ 100000) (hch : ∀ e ∈ S.ents, e.ch = 0) (hbu : budget ≤ 1000000) :
    Calls Tryz.prog 102 #[.pointer (some ⟨sb, 0, none⟩), .int .i64 budget] w fun e w' => ∃ ao cap, e = .returned (.tuple #[.slice ao (runP S.ents S.list budget).1.length cap, .int .i64 (runP S.ents S.list budget).2.1, .int .i64 (runP S.ents S.list budget).2.2]) ∧
      w'.ownsRow (sb + 1) 184 2 (.slice ao (runP S.ents S.list budget).1.length cap) (runP S.ents S.list budget).1.length (pksCells (runP S.ents S.list budget).1) ∧ Below sb w w' := by
  have hlt := hr.lt
  have f4 := hr.head.f 4
  have c4 := hr.head.c4
  let K : RK := ⟨S.asked, S.ents, S.nao, S.ncap, S.told⟩
  have h1 : RAt (w.setCell ⟨sb, 4, none⟩ (.int .i64 budget)) sb K S.lao S.list [] budget := ⟨S.lcap, by
    have := hr.setLeft budget
    show SAt _ sb ⟨S.list, S.lao, S.lcap, S.asked, chEnts S.ents [], S.nao, S.ncap, S.told, budget⟩
    rw [chEnts_nil S.ents hch]
    exact this⟩
  have hrun : RunOk K S.ents.length S.list [] budget := ⟨hok, hlst, hlen, by
    unfold freeN
    refine Nat.le_trans List.countP_le_length ?_
    simp [K], hbu, fun i p hp => by cases hp⟩
  have HG := hide (goOn_any sb K S.ents.length S.lao S.list [] budget 0 _ h1 hrun (Nat.zero_le _))
  rw [List.drop_zero] at HG
  have HFo := hide (fun k (hk : RFoot sb K S.lao k) => (h1.foot hk).1)
  have HR := hide hr
  have HP := hide (fun W T (h : SAt W sb T) => picks_any sb T W h)
  have hsz : w.heap.size = (w.setCell ⟨sb, 4, none⟩ (.int .i64 budget)).heap.size := by simp [World.setCell]
  have HB0 := hide ((Below.refl sb w).setCell (p := ⟨sb, 4, none⟩) (Nat.le_refl _) (.int .i64 (budget : Int)))
  have hKE : K.E = S.ents := rfl
  rw [hKE] at HG
  clear hr h1 hrun hok hlst hlen hch
  unfold runP
  generalize hres : solve (candN S.ents) S.ents.length S.list [] budget = r at HG ⊢
  have HLE := hide (show ∀ l o, r = some (l, o) → l ≤ budget from fun l o h => solve_left (candN S.ents) S.ents.length S.list [] budget l o (hres.trans h))
  clear hres
  match r with
  | none =>
    go_enter Tryz.func102, Tryz.ntmps102
    go_wp2_with fail
    refine HG.out.mono ?_
    rintro e w2 ⟨rfl, l', c', lao', ⟨lcap', h2⟩, _, hc⟩
    have c42 := h2.head.c4
    simp only at c42
    have HB := hide (HB0.out.trans (hc.below (by rw [← hsz]; omega) HFo.out))
    clear hc h2
    go_wp2_with fail
    go_ret3
    exact ⟨none, 0, by simp, World.ownsRow_nil _ _ _ _, HB.out⟩
  | some (left, none) =>
    have hlb := hide (HLE.out left none rfl)
    go_enter Tryz.func102, Tryz.ntmps102
    go_wp2_with fail
    refine HG.out.mono ?_
    rintro e w2 ⟨rfl, lao', ⟨lcap', h2⟩, _, hc⟩
    have c42 := h2.head.c4
    simp only at c42
    have HB := hide (HB0.out.trans (hc.below (by rw [← hsz]; omega) HFo.out))
    have hle := hlb.out
    clear hc h2
    go_wp2_with fail
    go_ret3
    refine ⟨none, 0, ?_, World.ownsRow_nil _ _ _ _, HB.out⟩
    simp
    omega
  | some (left, some chl) =>
    have hlb := hide (HLE.out left (some chl) rfl)
    go_enter Tryz.func102, Tryz.ntmps102
    go_wp2_with fail
    refine HG.out.mono ?_
    rintro e w2 ⟨rfl, l', lao', ⟨lcap', h2⟩, _, hc⟩
    have c42 := h2.head.c4
    simp only at c42
    have HB := hide (HB0.out.trans (hc.below (by rw [← hsz]; omega) HFo.out))
    have hle := hlb.out
    have HPk := hide (HP.out _ _ h2)
    have h2lt := h2.lt
    clear hc h2
    go_wp2_with fail
    refine HPk.out.mono ?_
    rintro e w3 ⟨ao, cap, rfl, hrow, hb3⟩
    have HF := hide (show w3.ownsRow (sb + 1) 184 2 (.slice ao (picksP (chEnts S.ents chl)).length cap) (picksP (chEnts S.ents chl)).length (pksCells (picksP (chEnts S.ents chl))) ∧ Below sb w w3 from ⟨ownsRow_base hrow (by omega), HB.out.trans (hb3.mono (by omega))⟩)
    clear hrow hb3
    go_wp2_with fail
    go_ret3
    refine ⟨ao, cap, ?_, HF.out.1, HF.out.2⟩
    simp
    omega

end

end Go.Proofs.YtgcldedkempjhabGreatDoor
