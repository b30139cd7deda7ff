/-
  search.Search: tryEach; the whole search of the program.
-/
import Derived.Test.YtgcldedkempjhabGreatDoorSrchRun
import Derived.Deep.DeepCutAuto
namespace Go.Proofs.YtgcldedkempjhabGreatDoor
open Go.RowKit

abbrev linkV (x : Wt Nat) : Array Value := #[.int .i64 x.n, .int .i64 x.lo, .int .i64 x.hi]

theorem run_append_zero {P : Program} (w : World) (t ty e : TypeId) (i : TypeInfo) (ht : P.underlying t = some (.slice e)) (hi : P.info? e = some i) (base oao : Option Addr) (sLen sCap c : Nat) (hle : sLen ≤ sCap) :
    (Builtin.append_ #[t, t] ty #[.slice base sLen sCap, .slice oao 0 c]).run P w = .ok (.slice base sLen sCap) w := by
  cases base <;> cases oao <;> simp [Builtin.append_, run_underlying ht, sizeOf, typeInfo, hi, hle, Builtin.lenOf, Builtin.firstCells, storeCells, loadCells, loadCellsFrom]

/-- 'append' of one row's elements behind another, as one step of a region that draws its order. -/
theorem step_append_list {P : Program} {ops : Array Oper} {o : Oper} {a : Act} {w : World} {K : Act → World → Prop} {Q : Exit → Act → World → Prop} {E : Prop}
    (hg : o.guard = none) (s x : Operand) (t : TypeId) (hop : o.op = Op.call { callee := Callee.builtin Builtin.append, args := #[s, x], argTypes := #[t, t] })
    (base : Nat) (e : TypeId) (i : TypeInfo) (z : Value) (size bytes : Nat) (h1 : P.underlying t = some (.slice e)) (h2 : P.info? e = some i) (h3 : i.zero = some z) (h4 : i.size = size) (h5 : i.bytes = bytes) (h6 : z.cells.size = size) (h7 : 0 < size)
    (v : Value) (n : Nat) (xs : List Value) (hs : a.eval s = v) (hown : w.ownsRow base e size v n xs) (oao : Option Addr) (m c : Nat) (hx : a.eval x = .slice oao m c) (base2 : Nat) (news : List Value) (hsrc : w.ownsRow base2 e size (.slice oao m c) m news) (h1c : ∀ u ∈ news, u.oneCell' = true)
    (b1 : n + m ≤ maxLen) (b2 : (n + m) * bytes ≤ 140737488355328) (hbase : base ≤ w.heap.size)
    (hK : ∀ ao' cap' w', w'.ownsRow base e size (.slice ao' (n + m) cap') (n + m) (xs ++ news) → w.grownBy w' v.ownBlock → (∀ k, blockOf ao' k → v.ownBlock = some k ∨ w.heap.size ≤ k) → K (a.put o.dst (.slice ao' (n + m) cap')) w') :
    if Region.wanted o (yielded ops a.tmps) = true then Oper.wp P o a w K Q else E := by
  have hw : Region.wanted o (yielded ops a.tmps) = true := by simp [Region.wanted, hg]
  rw [if_pos hw]
  have key : ∃ ao' cap' w', (Builtin.append_ #[t, t] o.type #[v, .slice oao m c]).run P w = .ok (.slice ao' (n + m) cap') w' ∧ w'.ownsRow base e size (.slice ao' (n + m) cap') (n + m) (xs ++ news) ∧ w.grownBy w' v.ownBlock ∧ ∀ k, blockOf ao' k → v.ownBlock = some k ∨ w.heap.size ≤ k := by
    by_cases hm : m = 0
    · subst hm
      have hn : news = [] := List.eq_nil_of_length_eq_zero (by simpa using hsrc.1)
      subst hn
      obtain ⟨ao0, cap0, hv, hle⟩ : ∃ ao0 cap0, v = .slice ao0 n cap0 ∧ n ≤ cap0 := by
        rcases hown.2 with ⟨hv, h0⟩ | ⟨g, cap, cur, hv, _, _, hle, _⟩
        · exact ⟨none, 0, by rw [hv, h0], by omega⟩
        · exact ⟨_, cap, hv, hle⟩
      subst hv
      refine ⟨ao0, cap0, w, run_append_zero w t o.type e i h1 h2 ao0 oao n cap0 c hle, by simpa using hown, ⟨rfl, rfl, rfl, Nat.le_refl _, fun _ _ _ => rfl⟩, ?_⟩
      rintro k ⟨ad, rfl, rfl⟩
      exact Or.inl rfl
    · rcases hsrc.2 with ⟨_, h0⟩ | ⟨g, cap, cur, hv, _⟩
      · exact absurd h0 hm
      · injection hv with hv1 _ hv3
        subst hv1
        obtain ⟨v', w', hrun, r1, r2, r3⟩ := run_append_own2 (P := P) w base t o.type e i z size bytes h1 h2 h3 h4 h5 h6 h7 v n xs hown ⟨g, 0, none⟩ m c news hsrc.1 (hsrc.cells (g := g) rfl) h1c b1 b2 hbase
        rcases r1.2 with ⟨_, h0⟩ | ⟨g', cap', _, hv', _⟩
        · omega
        · subst hv'
          refine ⟨_, cap', w', hrun, r1, r2, ?_⟩
          rintro k ⟨ad, e1, rfl⟩
          injection e1 with e1
          subst e1
          exact r3 _ rfl
  obtain ⟨ao', cap', w', hrun, r1, r2, r3⟩ := key
  unfold Oper.wp
  simp [execOp, hop, resolve, invoke, builtin, hs, hx, hrun, Result.andThen]
  exact hK ao' cap' w' r1 r2 r3

theorem lks_one (l : List (Wt Nat)) : ∀ u ∈ lksCells l, u.oneCell' = true := by
  intro u hu
  unfold lksCells at hu
  obtain ⟨x, _, hx⟩ := List.mem_flatMap.1 hu
  simp [lkCells] at hx
  rcases hx with rfl | rfl | rfl <;> rfl

theorem linkRow_take {w : World} {base : Nat} {ao : Option Addr} {cap : Nat} {l : List (Wt Nat)} (h : LinkRow w base ao cap l) {n : Nat} (hn : n ≤ l.length) : w.ownsRow base 188 3 (.slice ao n cap) n (lksCells (l.take n)) := by
  have hlen : ∀ t : List (Wt Nat), (lksCells t).length = t.length * 3 := by
    intro t
    induction t with
    | nil => rfl
    | cons y t ih =>
      show (lkCells y ++ lksCells t).length = _
      rw [List.length_append, ih, lkCells_length, List.length_cons]
      omega
  have htake : (lksCells l).take (n * 3) = lksCells (l.take n) := by
    have e : lksCells l = lksCells (l.take n) ++ lksCells (l.drop n) := by
      unfold lksCells
      rw [← List.flatMap_append, List.take_append_drop]
    rw [e, List.take_append_of_le_length (by rw [hlen, List.length_take]; omega), List.take_of_length_le (by rw [hlen, List.length_take]; omega)]
  refine ⟨by rw [hlen, List.length_take]; omega, ?_⟩
  rcases h.2 with ⟨h0, hl⟩ | ⟨g, cp, cur, hv, hb, hg, h1, h2, h3, h4⟩
  · have hn0 : n = 0 := by omega
    injection h0 with e1 e2 e3
    exact Or.inl ⟨by rw [e1, hn0, e3], hn0⟩
  · injection hv with e1 e2 e3
    refine Or.inr ⟨g, cp, cur, by rw [e1, e3], hb, hg, by omega, h2, h3, ?_⟩
    rw [← htake, ← h4, List.take_take]
    congr 1
    omega

theorem SAt.relist {w w5 : World} {sb : Nat} {S : SD} (h : SAt w sb S) (hgrow : w.grownBy w5 (Value.ownBlock (.slice S.lao S.list.length S.lcap))) {ao' : Option Addr} {cap' : Nat} {l' : List (Wt Nat)} (hown : LinkRow w5 (sb + 1) ao' cap' l') (hao : ∀ k, blockOf ao' k → blockOf S.lao k ∨ w.heap.size ≤ k) (hl : l'.length ≤ 100000) :
    SAt (w5.setCell ⟨sb, 0, none⟩ (.slice ao' l'.length cap')) sb { S with list := l', lao := ao', lcap := cap' } ∧ Chg (fun j => j = sb ∨ blockOf S.lao j) w (w5.setCell ⟨sb, 0, none⟩ (.slice ao' l'.length cap')) := by
  have hkeep : ∀ k, k < w.heap.size → ¬ blockOf S.lao k → w5.heap[k]? = w.heap[k]? := fun k hk hn => hgrow.block k hk (fun e => hn (row_of e.symm))
  have h0 : w5.heap[sb]? = w.heap[sb]? := hkeep sb h.lt (fun hk => by have := (blockOf_lt h.lown hk).1; omega)
  have hh := h.head.keep h0
  have hw5 : ∀ e ∈ S.ents, ∀ v, LinkRow w5 (sb + 1) (e.ofr v).ao (e.ofr v).cap (e.ofr v).list := fun e he v => ownsRow_keep (h.wown e he v) (fun k hk => hkeep k (blockOf_lt (h.wown e he v) hk).2 (h.sep e he v k hk))
  have hn5 := ownsRow_keep (w' := w5) h.nown (fun k hk => hkeep k (blockOf_lt h.nown hk).2 (fun hk' => blocks_apart h.nown h.lown (by decide) hk hk'))
  refine ⟨⟨⟨?_, ?_, ?_, ?_, ?_, ?_⟩, ownsRow_setCell_below hown (Nat.lt_succ_self sb) _, ownsRow_setCell_below hn5 (Nat.lt_succ_self sb) _, fun e he v => ownsRow_setCell_below (hw5 e he v) (Nat.lt_succ_self sb) _, ?_, hl, h.nl⟩, ?_⟩
  · rw [cell_setCell_same hh.c0]
  · rw [cell_setCell_ne (by omega)]; exact hh.c1
  · rw [cell_setCell_ne (by omega)]; exact hh.c2
  · rw [cell_setCell_ne (by omega)]; exact hh.c3
  · rw [cell_setCell_ne (by omega)]; exact hh.c4
  · intro j; rw [frozen_setCell]; exact hh.f j
  · intro e he v k hk hk'
    rcases hao k hk' with h1 | h1
    · exact h.sep e he v k hk h1
    · have := (blockOf_lt (h.wown e he v) hk).2; omega
  · exact Chg.setCell (S := fun j => j = sb ∨ blockOf S.lao j) ⟨hgrow.os, hgrow.tape, hgrow.output, hgrow.size, fun k hk hn => hkeep k hk (fun h => hn (Or.inr h))⟩ (p := ⟨sb, 0, none⟩) (Or.inl (Or.inl rfl)) _

theorem RunOk.choose {K : RK} {k n m left : Nat} {list l : List (Wt Nat)} {chl : List (Nat × Nat)} {x : Wt Nat} (h : RunOk K (k + 1) list chl left) (hx : x.n < K.E.length) (h0 : picked chl x.n = 0) (hl : (K.E[x.n].ofr (n + 1)).ws = some l) (h9 : n + 1 ≤ 9) (hm : m ≤ left) : RunOk K k (list ++ l) ((x.n, n + 1) :: chl) m := by
  obtain ⟨q1, q2⟩ := h.ofr x.n hx (n + 1) l hl
  have hf := freeN_choose (n := K.E.length) hx h0 (v := n + 1) (by omega)
  have hf2 := h.free
  have hlen := h.len
  refine ⟨h.ofr, fun y hy => (List.mem_append.1 hy).elim (h.lst y) (q2 y), ?_, by omega, Nat.le_trans hm h.left, ?_⟩
  · rw [List.length_append]; omega
  · intro i p hp he
    rcases List.mem_cons.1 hp with rfl | hp
    · exact ⟨by simp, h9⟩
    · exact h.pos i p hp he

/-- Where the tries of a want have come to: those of the versions above n have failed. -/
def TryRel (w : World) (sb : Nat) (K : RK) (k : Nat) (lao : Option Addr) (x : Wt Nat) (next : Nat) (list : List (Wt Nat)) (chl : List (Nat × Nat)) (left n : Nat) (wr : World) : Prop :=
  ∃ (left' : Nat) (lao' : Option Addr), RAt wr sb K lao' list chl left' ∧ (∀ j, blockOf lao' j → blockOf lao j ∨ w.heap.size ≤ j) ∧ Chg (RFoot sb K lao) w wr ∧ wr.heap[w.heap.size]? = some (.cells (linkV x) 188 (0, 0)) ∧ ¬ blockOf lao' w.heap.size ∧
    tries (solve (candN K.E) k) (candN K.E x.n) (list.drop next) chl x 9 left = tries (solve (candN K.E) k) (candN K.E x.n) (list.drop next) chl x n left' ∧ left' ≤ left

theorem below_new1 (w : World) (o : Obj) : Below w.heap.size w (w.alloc o) := (Below.refl _ _).alloc (Nat.le_refl _) _

set_option maxHeartbeats 1600000 in
set_option maxRecDepth 100000 in
theorem tryEach_of (sb : Nat) (K : RK) (k : Nat)
    (HG : ∀ (lao : Option Addr) (list : List (Wt Nat)) (chl : List (Nat × Nat)) (left start : Nat) (w : World), RAt w sb K lao list chl left → RunOk K k list chl left → start ≤ list.length →
      Calls Tryz.prog 115 #[.pointer (some ⟨sb, 0, none⟩), .int .i64 start] w fun e w' => EndsAs w sb K lao list chl (solve (candN K.E) k (list.drop start) chl left) e w')
    (x : Wt Nat) (next : Nat) (lao : Option Addr) (list : List (Wt Nat)) (chl : List (Nat × Nat)) (left : Nat) (w : World) (hr : RAt w sb K lao list chl left) (hok : RunOk K (k + 1) list chl left) (hn : next ≤ list.length) (hx : x.n < K.E.length) (h0 : picked chl x.n = 0) :
    Calls Tryz.prog 122 #[.pointer (some ⟨sb, 0, none⟩), .agg (linkV x), .int .i64 next] w fun e w' => EndsAs w sb K lao list chl (tries (solve (candN K.E) k) (candN K.E x.n) (list.drop next) chl x 9 left) e w' := by
  have HG' := hide HG
  have HOK := hide hok
  obtain ⟨i0, ti, hz0, hz1, hz2⟩ := info_parts Tryz.infoLink
  have HR := hide hr
  have hll := hr.choose_spec.ll
  have hsl := hr.choose_spec.lt
  have c00 := hr.choose_spec.head.c0
  simp only [RK.sd] at hll c00
  generalize hr.choose = lcap0 at *
  clear HG hok hr
  go_enter Tryz.func122, Tryz.ntmps122
  go_wp2_with fail
  go_loopw [8, 9, 10] (fun v _ _ wr => ∃ (n left' : Nat) (lao' : Option Addr), n ≤ 9 ∧ v = .int .i64 n ∧ RAt wr sb K lao' list chl left' ∧ (∀ j, blockOf lao' j → blockOf lao j ∨ w.heap.size ≤ j) ∧ Chg (RFoot sb K lao) w wr ∧ wr.heap[w.heap.size]? = some (.cells (linkV x) 188 (0, 0)) ∧ ¬ blockOf lao' w.heap.size ∧
    tries (solve (candN K.E) k) (candN K.E x.n) (list.drop next) chl x 9 left = tries (solve (candN K.E) k) (candN K.E x.n) (list.drop next) chl x n left' ∧ left' ≤ left) (fun v _ _ _ => (intOf v).toNat)
  case atStart =>
    refine ⟨9, left, lao, Nat.le_refl _, rfl, HR.out.below ((Below.refl _ _).alloc (Nat.le_refl _) _), fun _ h => Or.inl h, Chg.ofBelow ((Below.refl _ _).alloc (Nat.le_refl _) _), heap_alloc_new w _, fun hk => ?_, rfl, Nat.le_refl _⟩
    have := (HR.out.foot (Or.inr (Or.inl hk))).2
    omega
  case round =>
    obtain ⟨n, left', lao', h9, rfl, hat, hla, hchg, hbox, hnb, htr, hlf⟩ := hrel
    clear c00
    cases n with
    | zero =>
      have HF := hide (show EndsAs w sb K lao list chl (tries (solve (candN K.E) k) (candN K.E x.n) (list.drop next) chl x 9 left) (.returned (.int .i64 9)) wr by
        rw [htr]
        exact ⟨rfl, lao', hat, hla, hchg⟩)
      clear htr
      go_wp2_with fail
      go_ret
      exact HF.out
    | succ n =>
      obtain ⟨lcap, hat0⟩ := hat
      have hxl : x.n < (chEnts K.E chl).length := by rw [chEnts_length]; exact hx
      obtain ⟨g2, hg2, hg2lt, hg2s, _, dch, dv, df⟩ := hat0.ent x.n hxl
      obtain ⟨e1, e2⟩ := dv (n + 1) (by omega)
      have c2 := hat0.head.c2
      have hsr := hat0.lt
      have hnl := hat0.nl
      have hof : ((chEnts K.E chl)[x.n]'hxl).ofr = K.E[x.n].ofr := by rw [chEnts_get K.E chl _ hx]
      simp only at hg2 c2 hnl e1 e2
      rw [hof] at e1 e2
      rw [hg2] at c2
      rw [chEnts_length] at c2 hnl
      have HAT := hide hat0
      have HC := hide (candN_at K.E hx (n + 1))
      have HBX := hide hbox
      have HTR := hide htr
      have b0 : wr.cell? ⟨w.heap.size, 0, none⟩ = some (.int .i64 x.n) := (cell_of_heap hbox 0).trans rfl
      have b1 : wr.cell? ⟨w.heap.size, 1, none⟩ = some (.int .i64 x.lo) := (cell_of_heap hbox 1).trans rfl
      have b2 : wr.cell? ⟨w.heap.size, 2, none⟩ = some (.int .i64 x.hi) := (cell_of_heap hbox 2).trans rfl
      have hwlt : w.heap.size < wr.heap.size := (Array.getElem?_eq_some_iff.1 hbox).1
      have HREL := hide (show tries (solve (candN K.E) k) (candN K.E x.n) (list.drop next) chl x (n + 1) left' = tries (solve (candN K.E) k) (candN K.E x.n) (list.drop next) chl x n left' → ∀ W, Below wr.heap.size wr W → TryRel w sb K k lao x next list chl left n W from fun ht W hb =>
        ⟨left', lao', ⟨lcap, HAT.out.below hb⟩, hla, hchg.trans (Chg.ofBelow (S := RFoot sb K lao) hb) (fun _ h => Or.inl h), (hb.block _ hwlt).trans HBX.out, hnb, HTR.out.trans ht, hlf⟩)
      generalize hO : K.E[x.n].ofr (n + 1) = o at *
      have HO := hide hO
      have HB1 := hide (below_new1 wr (.cells #[.bool o.ws.isSome, .slice o.ao o.list.length o.cap] 190))
      have HN1 := hide (heap_alloc_new wr (.cells #[.bool o.ws.isSome, .slice o.ao o.list.length o.cap] 190))
      clear hbox htr hat0 dv hof hO
      go_wp2_with fail
      go_cut [9] (fun c wx => c = .pointer (some ⟨wr.heap.size, 0, none⟩) ∧ Below wr.heap.size wr wx ∧ wx.heap[wr.heap.size]? = some (.cells #[.bool o.ws.isSome, .slice o.ao o.list.length o.cap] 190 (0, 0)))
      case first =>
        go_region
        all_goals
          go_wp2_with fail
          go_meet
          exact ⟨rfl, below_drawn HB1.out 1, HN1.out⟩
      case rest =>
        obtain ⟨rfl, hb1, hcb1⟩ := hcut
        have hw1 : w.heap.size < wc.heap.size := Nat.lt_of_lt_of_le hwlt hb1.size
        have hbx1 := (hb1.block _ hwlt).trans HBX.out
        have k0 : wc.cell? ⟨wr.heap.size, 0, none⟩ = some (.bool o.ws.isSome) := (cell_of_heap hcb1 0).trans rfl
        have b0 : wc.cell? ⟨w.heap.size, 0, none⟩ = some (.int .i64 x.n) := (cell_of_heap hbx1 0).trans rfl
        have b1 : wc.cell? ⟨w.heap.size, 1, none⟩ = some (.int .i64 x.lo) := (cell_of_heap hbx1 1).trans rfl
        have b2 : wc.cell? ⟨w.heap.size, 2, none⟩ = some (.int .i64 x.hi) := (cell_of_heap hbx1 2).trans rfl
        clear e1 e2 dch df c2 HN1 HB1
        obtain ⟨oao, ocap, ows⟩ := o
        cases ows with
        | none =>
          have HSK := hide (tries_skip (f := solve (candN K.E) k) (cand := candN K.E x.n) (rest := list.drop next) (ch := chl) (w := x) (v := n) (left := left') (by rw [HC.out]; simp))
          clear HC
          go_wp2_with fail
          go_roundw
          case rel => obtain ⟨q1, q2, q3⟩ := HREL.out HSK.out _ hb1; exact ⟨n, q1, q2, by omega, by go_num, q3⟩
          case measure => simp [intOf] <;> omega
        | some l =>
          have HH := hide (lkHas_any x ((n : Int) + 1))
          cases hhas : x.has ((n : Int) + 1) with
          | false =>
            rw [hhas] at HH
            have HSK := hide (tries_skip (f := solve (candN K.E) k) (cand := candN K.E x.n) (rest := list.drop next) (ch := chl) (w := x) (v := n) (left := left') (by rw [HC.out, show (((n + 1 : Nat) : Int)) = (n : Int) + 1 from rfl, hhas]; simp))
            clear HC hhas
            go_wp2_with fail
            refine (HH.out _).mono ?_
            rintro e w2 ⟨rfl, hb2⟩
            have HB2 := hide (below_call hb1 hb2)
            clear hb2
            go_wp2_with fail
            go_roundw
            case rel => obtain ⟨q1, q2, q3⟩ := HREL.out HSK.out _ HB2.out; exact ⟨n, q1, q2, by omega, by go_num, q3⟩
            case measure => simp [intOf] <;> omega
          | true =>
            rw [hhas] at HH
            have HCS := hide (show (if x.has (((n + 1 : Nat) : Int)) then candN K.E x.n (n + 1) else none) = some l by rw [HC.out, show (((n + 1 : Nat) : Int)) = (n : Int) + 1 from rfl, hhas]; rfl)
            clear HC hhas
            go_wp2_with fail
            refine (HH.out _).mono ?_
            rintro e w2 ⟨rfl, hb2⟩
            have HB2 := hide (below_call hb1 hb2)
            have hcb : w2.heap[wr.heap.size]? = some (.cells #[.bool true, .slice oao l.length ocap] 190 (0, 0)) := (hb2.block wr.heap.size (Array.getElem?_eq_some_iff.1 hcb1).1).trans hcb1
            have HAT2 := hide (HAT.out.below HB2.out)
            have c4 := HAT2.out.head.c4
            have f4 := HAT2.out.head.f 4
            have hs2 := HAT2.out.lt
            have HBX2 := hide ((HB2.out.block _ hwlt).trans HBX.out)
            have HCH := hide hcb
            have hw2 : w.heap.size < w2.heap.size := Nat.lt_of_lt_of_le hwlt HB2.out.size
            have hc2 : wr.heap.size < w2.heap.size := (Array.getElem?_eq_some_iff.1 hcb).1
            simp only at c4
            clear hb2 hcb hcb1 hbx1 b0 b1 b2 k0 hb1
            cases left' with
            | zero =>
              have HF := hide (show EndsAs w sb K lao list chl (tries (solve (candN K.E) k) (candN K.E x.n) (list.drop next) chl x 9 left) (.returned (.int .i64 10)) w2 by
                rw [HTR.out, tries_broke HCS.out]
                exact ⟨rfl, list, chl, lao', ⟨lcap, HAT2.out⟩, hla, hchg.trans (Chg.ofBelow (S := RFoot sb K lao) HB2.out) (fun _ h => Or.inl h)⟩)
              go_wp2_with fail
              go_ret
              exact HF.out
            | succ m =>
              have hm6 : m ≤ 1000000 := by have := HOK.out.left; omega
              go_wp2_with fail
              generalize hW3 : World.setCell w2 ⟨sb, 4, none⟩ _ = W3
              have hA3 : SAt W3 sb (K.sd list lao' lcap chl m) := by rw [← hW3]; exact HAT2.out.setLeft m
              have hk3 : ∀ j, j ≠ sb → W3.heap[j]? = w2.heap[j]? := fun j hj => by rw [← hW3]; exact Below.heap_setCell _ _ _ _ hj
              have hc3 : Chg (fun j => j = sb) w2 W3 := by rw [← hW3]; exact Chg.setCell (S := fun j => j = sb) (Chg.refl _ _) (p := ⟨sb, 4, none⟩) (Or.inl rfl) _
              have hbx3 := (hk3 w.heap.size (by omega)).trans HBX2.out
              have b0 : W3.cell? ⟨w.heap.size, 0, none⟩ = some (.int .i64 x.n) := (cell_of_heap hbx3 0).trans rfl
              obtain ⟨g3, hg3, hg3lt, _, _, dch, _, df⟩ := hA3.ent x.n hxl
              have c2 := hA3.head.c2
              simp only at hg3 c2 dch
              rw [hg2] at hg3
              injection hg3 with hg3
              injection hg3 with hg3
              subst hg3
              rw [hg2] at c2
              rw [chEnts_length] at c2
              have hs3 := hA3.lt
              have HA4 := hide (show SAt (W3.setCell ⟨g2, x.n * 22 + 21, none⟩ (.int .i64 ((n : Int) + 1))) sb (K.sd list lao' lcap ((x.n, n + 1) :: chl) m) from by
                have := hA3.setCh hg2 hxl (n + 1)
                simp only at this
                rw [chEnts_choose K.E chl x.n (n + 1) hx] at this
                exact this)
              have HC4 := hide (show Chg (fun j => j = sb ∨ j = g2) w2 (W3.setCell ⟨g2, x.n * 22 + 21, none⟩ (.int .i64 ((n : Int) + 1))) from Chg.setCell (S := fun j => j = sb ∨ j = g2) (hc3.mono (fun _ h => Or.inl h)) (p := ⟨g2, _, none⟩) (Or.inl (Or.inr rfl)) _)
              clear hW3 hA3 hk3 hc3 c4 f4 hbx3
              go_cut [10] (fun _ wx => SAt wx sb (K.sd list lao' lcap ((x.n, n + 1) :: chl) m) ∧ Chg (fun j => j = sb ∨ j = g2) w2 wx)
              case first =>
                go_region
                all_goals
                  go_wp2_with fail
                  go_meet
                  exact ⟨HA4.out.same rfl, HC4.out.os, HC4.out.tape, HC4.out.output, HC4.out.size, HC4.out.block⟩
              case rest =>
                obtain ⟨hA5, hC5⟩ := hcut
                have hcb5 := (hC5.block _ hc2 (by rintro (h | h) <;> omega)).trans HCH.out
                have hbx5 := (hC5.block _ hw2 (by
                  rintro (h | h)
                  · omega
                  · have := (HR.out.foot (Or.inr (Or.inr ⟨_, hg2, rfl⟩))).2
                    simp only at this
                    omega)).trans HBX2.out
                have k1 : wc.cell? ⟨wr.heap.size, 1, none⟩ = some (.slice oao l.length ocap) := (cell_of_heap hcb5 1).trans rfl
                have c0 := hA5.head.c0
                have f0 := hA5.head.f 0
                have hs5 := hA5.lt
                have hws : (K.E[x.n].ofr (n + 1)).ws = some l := by rw [HO.out]
                have hl6 := (HOK.out.ofr x.n hx (n + 1) l hws).1
                have HWS := hide hws
                simp only at c0
                have hrowL : wc.ownsRow (sb + 1) 188 3 (.slice lao' list.length lcap) list.length (lksCells list) := hA5.lown
                have hrowO : wc.ownsRow (sb + 1) 188 3 (.slice oao l.length ocap) l.length (lksCells l) := by
                  have hx5 : x.n < (chEnts K.E ((x.n, n + 1) :: chl)).length := by rw [chEnts_length]; exact hx
                  have q := hA5.wown _ (List.getElem_mem hx5) (n + 1)
                  simp only [chEnts_get K.E _ x.n hx, HO.out] at q
                  exact q
                have B1 := hide (show list.length + l.length ≤ maxLen by unfold maxLen; omega)
                have B2 := hide (show (list.length + l.length) * 24 ≤ 140737488355328 by omega)
                have hlen6 : list.length + 6 ≤ 100000 := by have := HOK.out.len; omega
                have HREL5 := hide (show ∀ (ao' : Option Addr) (cap' : Nat) (w5 : World), w5.ownsRow (sb + 1) 188 3 (.slice ao' (list.length + l.length) cap') (list.length + l.length) (lksCells list ++ lksCells l) → wc.grownBy w5 (Value.ownBlock (.slice lao' list.length lcap)) → (∀ j, blockOf ao' j → Value.ownBlock (.slice lao' list.length lcap) = some j ∨ wc.heap.size ≤ j) →
                    RAt (w5.setCell ⟨sb, 0, none⟩ (.slice ao' (list.length + l.length) cap')) sb K ao' (list ++ l) ((x.n, n + 1) :: chl) m ∧ Chg (fun j => j = sb ∨ blockOf lao' j ∨ j = g2) w2 (w5.setCell ⟨sb, 0, none⟩ (.slice ao' (list.length + l.length) cap')) ∧ (∀ j, blockOf ao' j → blockOf lao' j ∨ w2.heap.size ≤ j) ∧ w5.cell? ⟨sb, 0, none⟩ = some (.slice lao' list.length lcap) ∧ w5.frozen? ⟨sb, 0, none⟩ = false from fun ao' cap' w5 ho hgw hn => by
                  have e : lksCells (list ++ l) = lksCells list ++ lksCells l := by unfold lksCells; rw [List.flatMap_append]
                  have hown' : LinkRow w5 (sb + 1) ao' cap' (list ++ l) := by
                    unfold LinkRow
                    rw [List.length_append, e]
                    exact ho
                  have hao' : ∀ j, blockOf ao' j → blockOf lao' j ∨ wc.heap.size ≤ j := fun j hj => (hn j hj).imp row_of id
                  obtain ⟨q1, q2⟩ := hA5.relist hgw hown' hao' (by rw [List.length_append]; omega)
                  rw [List.length_append] at q1 q2
                  have h0 : w5.heap[sb]? = wc.heap[sb]? := hgw.block sb hs5 (fun e => by have := (blockOf_lt hrowL (row_of e.symm)).1; omega)
                  refine ⟨⟨cap', q1⟩, (hC5.mono (fun j h => h.elim Or.inl (fun h => Or.inr (Or.inr h)))).trans q2 (fun j h => Or.inl (h.elim Or.inl (fun h => Or.inr (Or.inl h)))), fun j hj => (hao' j hj).imp id (fun h => Nat.le_trans hC5.size h), (World.cell?_of_block h0).trans c0, (World.frozen?_of_block h0).trans f0⟩)
                clear hA5 hC5 hcb5 hbx5 hws HA4 HC4
                go_wp2_with fail
                go_cut [10] (fun _ wx => ∃ ao', RAt wx sb K ao' (list ++ l) ((x.n, n + 1) :: chl) m ∧ Chg (fun j => j = sb ∨ blockOf lao' j ∨ j = g2) w2 wx ∧ ∀ j, blockOf ao' j → blockOf lao' j ∨ w2.heap.size ≤ j)
                case first =>
                  go_region_law (refine step_append_list rfl (.tmp 65) (.tmp 67) 175 rfl (sb + 1) 188 i0 (.agg #[.int .i64 0, .int .i64 0, .int .i64 0]) 3 24 Tryz.underlying175 ti hz0 hz1 hz2 rfl (by decide) (.slice lao' list.length lcap) list.length (lksCells list) ?_ ?_ oao l.length ocap ?_ (sb + 1) (lksCells l) ?_ ?_ B1.out B2.out ?_ ?_; simp [Act.eval]; exact hrowL; simp [Act.eval]; exact hrowO; exact lks_one l; exact hs5; intro ao' cap' w5 ho hgw hnw; obtain ⟨q1, q2, q3, kc, kf⟩ := HREL5.out ao' cap' w5 ho (grown_start hgw rfl rfl rfl rfl) hnw)
                  all_goals
                    have HF := hide (And.intro q1 (And.intro q2 q3))
                    clear ho hgw hnw q1 q2 q3
                    go_wp2_with fail
                    go_meet
                    exact ⟨ao', HF.out.1.same rfl, ⟨HF.out.2.1.os, HF.out.2.1.tape, HF.out.2.1.output, HF.out.2.1.size, HF.out.2.1.block⟩, HF.out.2.2⟩
                case rest =>
                  obtain ⟨ao', hR6, hC6, hao6⟩ := hcut
                  have HGO := hide (HG'.out ao' (list ++ l) ((x.n, n + 1) :: chl) m next _ hR6 (HOK.out.choose hx h0 HWS.out h9 (by omega)) (by rw [List.length_append]; omega))
                  rw [List.drop_append_of_le_length hn] at HGO
                  have hnao : ∀ j, blockOf K.nao j → j = g2 := by
                    rintro j ⟨a, e, rfl⟩
                    rw [hg2] at e
                    injection e with e
                    rw [← e]
                  have hg2w : g2 < w.heap.size := by
                    have := (HR.out.foot (Or.inr (Or.inr ⟨_, hg2, rfl⟩))).2
                    simpa using this
                  have HCW := hide (show Chg (RFoot sb K lao) w wc from (hchg.trans (Chg.ofBelow (S := RFoot sb K lao) HB2.out) (fun _ h => Or.inl h)).trans hC6 (by
                    rintro j (h | h | h)
                    · exact Or.inl (Or.inl h)
                    · exact (hla j h).imp (fun h => Or.inr (Or.inl h)) id
                    · exact Or.inl (Or.inr (Or.inr ⟨_, hg2, h.symm⟩))))
                  have HAW := hide (show ∀ j, blockOf ao' j → blockOf lao j ∨ w.heap.size ≤ j from fun j hj => (hao6 j hj).elim (hla j) (fun h => Or.inr (by omega)))
                  have hbx6 := (hC6.block _ hw2 (by
                    rintro (h | h | h)
                    · omega
                    · exact hnb h
                    · omega)).trans HBX2.out
                  have hnb6 : ¬ blockOf ao' w.heap.size := fun h => (hao6 _ h).elim hnb (fun h => by omega)
                  have HBX6 := hide hbx6
                  have hw6 : w.heap.size < wc.heap.size := (Array.getElem?_eq_some_iff.1 hbx6).1
                  clear hR6 hC6 hao6 hbx6 HREL5 HBX HBX2 HCH HB2 HAT HAT2 HREL B1 B2 hrowL hrowO k1 c0 f0 HH hg3lt
                  go_wp2_with fail
                  refine HGO.out.mono ?_
                  intro e w7 hend
                  generalize hres : solve (candN K.E) k (list.drop next ++ l) ((x.n, n + 1) :: chl) m = r at hend
                  match r, hres, hend with
                  | none, hres, hend =>
                    obtain ⟨rfl, l', c', hwent⟩ := hend
                    have HF := hide (show EndsAs w sb K lao list chl (tries (solve (candN K.E) k) (candN K.E x.n) (list.drop next) chl x 9 left) (.returned (.int .i64 10)) w7 by
                      rw [HTR.out, tries_else HCS.out hres (fun x h => by cases h)]
                      exact ⟨rfl, l', c', hwent.behind HAW.out HCW.out⟩)
                    clear hwent hres
                    go_wp2_with fail
                    go_ret
                    exact HF.out
                  | some (left2, some chl'), hres, hend =>
                    obtain ⟨rfl, l', hwent⟩ := hend
                    have HF := hide (show EndsAs w sb K lao list chl (tries (solve (candN K.E) k) (candN K.E x.n) (list.drop next) chl x 9 left) (.returned (.int .i64 0)) w7 by
                      rw [HTR.out, tries_else HCS.out hres (fun x h => by cases h)]
                      exact ⟨rfl, l', hwent.behind HAW.out HCW.out⟩)
                    clear hwent hres
                    go_wp2_with fail
                    go_ret
                    exact HF.out
                  | some (left2, none), hres, hend =>
                    obtain ⟨rfl, lao7, ⟨lcap7, hA7⟩, hao7, hC7⟩ := hend
                    have HTR7 := hide (HTR.out.trans (tries_failed HCS.out hres))
                    have hbx7 := (hC7.block _ hw6 (by
                      rintro (h | h | h)
                      · omega
                      · exact hnb6 h
                      · have := hnao _ h; omega)).trans HBX6.out
                    have hnb7 : ¬ blockOf lao7 w.heap.size := fun h => (hao7 _ h).elim hnb6 (fun h => by omega)
                    have b0 : w7.cell? ⟨w.heap.size, 0, none⟩ = some (.int .i64 x.n) := (cell_of_heap hbx7 0).trans rfl
                    have hxl7 : x.n < (chEnts K.E ((x.n, n + 1) :: chl)).length := by rw [chEnts_length]; exact hx
                    obtain ⟨g3, hg3, hg3lt, _, _, dch, _, df⟩ := hA7.ent x.n hxl7
                    have c2 := hA7.head.c2
                    simp only at hg3 c2 dch
                    rw [hg2] at hg3
                    injection hg3 with hg3
                    injection hg3 with hg3
                    subst hg3
                    rw [hg2] at c2
                    rw [chEnts_length] at c2
                    have hs7 := hA7.lt
                    have HA8 := hide (show SAt (w7.setCell ⟨g2, x.n * 22 + 21, none⟩ (.int .i64 0)) sb (K.sd (list ++ l) lao7 lcap7 chl left2) from by
                      have := hA7.setCh hg2 hxl7 0
                      simp only at this
                      rw [chEnts_undo K.E chl x.n (n + 1) hx h0] at this
                      exact this)
                    have HC8 := hide (show Chg (fun j => j = g2) w7 (w7.setCell ⟨g2, x.n * 22 + 21, none⟩ (.int .i64 0)) from Chg.setCell (S := fun j => j = g2) (Chg.refl _ _) (p := ⟨g2, _, none⟩) (Or.inl rfl) _)
                    have HX7 := hide (And.intro hao7 (And.intro hC7 (And.intro hbx7 hnb7)))
                    have hlf2 : left2 ≤ left := Nat.le_trans (solve_left (candN K.E) k _ _ m left2 none hres) (by omega)
                    clear hA7 hao7 hC7 hbx7 hnb7 hres HTR HCS HGO
                    go_wp2_with fail
                    go_cut [10] (fun _ wx => SAt wx sb (K.sd (list ++ l) lao7 lcap7 chl left2) ∧ Chg (fun j => j = g2) w7 wx)
                    case first =>
                      go_region
                      all_goals
                        go_wp2_with fail
                        go_meet
                        exact ⟨HA8.out.same rfl, HC8.out.os, HC8.out.tape, HC8.out.output, HC8.out.size, HC8.out.block⟩
                    case rest =>
                      obtain ⟨hA9, hC9⟩ := hcut
                      have c0 := hA9.head.c0
                      have f0 := hA9.head.f 0
                      have hs9 := hA9.lt
                      simp only at c0
                      have hcap7 : list.length ≤ lcap7 := by
                        have hrow : LinkRow wc (sb + 1) lao7 lcap7 (list ++ l) := hA9.lown
                        rcases hrow.2 with ⟨_, h⟩ | ⟨g, cp, cur, hv, _, _, h, _⟩
                        · rw [List.length_append] at h; omega
                        · injection hv with _ _ e3
                          rw [List.length_append] at h
                          omega
                      have HFIN := hide (show TryRel w sb K k lao x next list chl left n (wc.setCell ⟨sb, 0, none⟩ (.slice lao7 list.length lcap7)) from by
                        obtain ⟨hao7, hC7, hbx7, hnb7⟩ := HX7.out
                        have hcw7 : Chg (RFoot sb K lao) w w7 := HCW.out.trans hC7 (by
                          rintro j (h | h | h)
                          · exact Or.inl (Or.inl h)
                          · exact (HAW.out j h).imp (fun h => Or.inr (Or.inl h)) id
                          · exact Or.inl (Or.inr (Or.inr h)))
                        have hw7 : w.heap.size < w7.heap.size := (Array.getElem?_eq_some_iff.1 hbx7).1
                        refine ⟨left2, lao7, ⟨lcap7, hA9.setList lao7 lcap7 list ?_ hA9.sep hll⟩, ?_, ?_, ?_, hnb7, HTR7.out, hlf2⟩
                        · have hrow : LinkRow wc (sb + 1) lao7 lcap7 (list ++ l) := hA9.lown
                          have := linkRow_take hrow (n := list.length) (by rw [List.length_append]; omega)
                          rw [List.take_left'  rfl] at this
                          exact this
                        · intro j hj
                          exact (hao7 j hj).elim (HAW.out j) (fun h => Or.inr (Nat.le_trans HCW.out.size h))
                        · exact Chg.setCell (S := RFoot sb K lao) (hcw7.trans hC9 (fun j h => Or.inl (Or.inr (Or.inr ⟨_, hg2, h.symm⟩)))) (p := ⟨sb, 0, none⟩) (Or.inl (Or.inl rfl)) _
                        · rw [Below.heap_setCell _ _ _ _ (by show w.heap.size ≠ sb; omega), hC9.block _ hw7 (by omega)]
                          exact hbx7)
                      clear hA9 hC9 HX7 HA8 HC8
                      go_wp2_with fail
                      go_roundw
                      case rel => obtain ⟨q1, q2, q3⟩ := HFIN.out; exact ⟨n, q1, q2, by omega, by go_num, q3⟩
                      case measure => simp [intOf] <;> omega

end Go.Proofs.YtgcldedkempjhabGreatDoor
