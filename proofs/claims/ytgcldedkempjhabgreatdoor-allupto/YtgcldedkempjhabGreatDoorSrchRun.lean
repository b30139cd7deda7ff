/-
  search.Search: goOn, tryEach: the search of the program is the pure one.
-/
import Derived.Test.YtgcldedkempjhabGreatDoorSrchNew
namespace Go.Proofs.YtgcldedkempjhabGreatDoor
open Go.RowKit

/-- The names, with what is chosen. -/
def chEnts (E : List Ent) (chl : List (Nat × Nat)) : List Ent := E.mapIdx fun i e => { e with ch := picked chl i }

theorem chEnts_length (E : List Ent) (chl : List (Nat × Nat)) : (chEnts E chl).length = E.length := by simp [chEnts]

theorem chEnts_get (E : List Ent) (chl : List (Nat × Nat)) (i : Nat) (hi : i < E.length) : (chEnts E chl)[i]'(by rw [chEnts_length]; exact hi) = { E[i] with ch := picked chl i } := by simp [chEnts]

theorem picked_same (chl : List (Nat × Nat)) (i v : Nat) : picked ((i, v) :: chl) i = v := by simp [picked]
theorem picked_ne (chl : List (Nat × Nat)) {i j : Nat} (v : Nat) (h : i ≠ j) : picked ((i, v) :: chl) j = picked chl j := by simp [picked, h]

theorem chEnts_choose (E : List Ent) (chl : List (Nat × Nat)) (i v : Nat) (hi : i < E.length) :
    (chEnts E chl).set i { (chEnts E chl)[i]'(by rw [chEnts_length]; exact hi) with ch := v } = chEnts E ((i, v) :: chl) := by
  apply List.ext_getElem
  · simp [chEnts]
  · intro j h1 h2
    have hj : j < E.length := by simpa [chEnts] using h2
    rw [List.getElem_set]
    split
    · rename_i e
      subst e
      simp [chEnts_get E _ i hi, picked]
    · rename_i e
      simp [chEnts_get E _ j hj, picked, e]

theorem chEnts_undo (E : List Ent) (chl : List (Nat × Nat)) (i v : Nat) (hi : i < E.length) (h0 : picked chl i = 0) :
    (chEnts E ((i, v) :: chl)).set i { (chEnts E ((i, v) :: chl))[i]'(by rw [chEnts_length]; exact hi) with ch := 0 } = chEnts E chl := by
  apply List.ext_getElem
  · simp [chEnts]
  · intro j h1 h2
    have hj : j < E.length := by simpa [chEnts] using h2
    rw [List.getElem_set]
    split
    · rename_i e
      subst e
      simp [chEnts_get E _ i hi, h0]
    · rename_i e
      simp [chEnts_get E _ j hj, picked, e]

def candN (E : List Ent) (i v : Nat) : Option (List (Wt Nat)) := (E[i]?).bind fun e => (e.ofr v).ws

theorem candN_at (E : List Ent) {i : Nat} (hi : i < E.length) (v : Nat) : candN E i v = (E[i].ofr v).ws := by simp [candN, hi]

/-- What stays while versions are tried. -/
structure RK where
  asked : Nat
  E : List Ent
  nao : Option Addr
  ncap : Nat
  told : Nat

abbrev RK.sd (K : RK) (list : List (Wt Nat)) (lao : Option Addr) (lcap : Nat) (chl : List (Nat × Nat)) (left : Nat) : SD := ⟨list, lao, lcap, K.asked, chEnts K.E chl, K.nao, K.ncap, K.told, left⟩

/-- A search, while versions are tried. -/
def RAt (w : World) (sb : Nat) (K : RK) (lao : Option Addr) (list : List (Wt Nat)) (chl : List (Nat × Nat)) (left : Nat) : Prop := ∃ lcap, SAt w sb (K.sd list lao lcap chl left)

theorem RAt.below {w w' : World} {sb : Nat} {K : RK} {lao : Option Addr} {list : List (Wt Nat)} {chl : List (Nat × Nat)} {left : Nat} (h : RAt w sb K lao list chl left) (hb : Below w.heap.size w w') : RAt w' sb K lao list chl left := by
  obtain ⟨lcap, h⟩ := h
  exact ⟨lcap, h.below hb⟩

theorem RAt.same {w w' : World} {sb : Nat} {K : RK} {lao : Option Addr} {list : List (Wt Nat)} {chl : List (Nat × Nat)} {left : Nat} (h : RAt w sb K lao list chl left) (hh : w'.heap = w.heap) : RAt w' sb K lao list chl left := by
  obtain ⟨lcap, h⟩ := h
  exact ⟨lcap, h.same hh⟩

/-- What the search writes. -/
def RFoot (sb : Nat) (K : RK) (lao : Option Addr) (k : Nat) : Prop := k = sb ∨ blockOf lao k ∨ blockOf K.nao k

theorem RAt.foot {w : World} {sb : Nat} {K : RK} {lao : Option Addr} {list : List (Wt Nat)} {chl : List (Nat × Nat)} {left : Nat} (h : RAt w sb K lao list chl left) {k : Nat} (hk : RFoot sb K lao k) : sb ≤ k ∧ k < w.heap.size := by
  obtain ⟨lcap, h⟩ := h
  rcases hk with rfl | hk | hk
  · exact ⟨Nat.le_refl _, h.lt⟩
  · have := blockOf_lt h.lown hk; omega
  · have := blockOf_lt h.nown hk; omega

/-- What is offered wants known names, and not many. -/
def OfrOk (E : List Ent) : Prop := ∀ i, (hi : i < E.length) → ∀ v l, (E[i].ofr v).ws = some l → l.length ≤ 6 ∧ ∀ x ∈ l, x.n < E.length

theorem countP_less {α : Type} {p q : α → Bool} (l : List α) (h : ∀ x ∈ l, q x = true → p x = true) {x : α} (hx : x ∈ l) (h1 : p x = true) (h2 : q x = false) : l.countP q < l.countP p := by
  induction l with
  | nil => cases hx
  | cons y t ih =>
    have hle : t.countP q ≤ t.countP p := List.countP_mono_left (fun z hz hq => h z (by simp [hz]) hq)
    rw [List.countP_cons, List.countP_cons]
    rcases List.mem_cons.1 hx with rfl | hx
    · rw [h1, h2]; simp; omega
    · have := ih (fun z hz => h z (by simp [hz])) hx
      have hy := h y (by simp)
      cases hq : q y
      · simp; split <;> omega
      · rw [hy hq]; simp; omega

/-- How many names are not chosen. -/
def freeN (n : Nat) (chl : List (Nat × Nat)) : Nat := (List.range n).countP fun i => picked chl i == 0

theorem freeN_choose {n i v : Nat} {chl : List (Nat × Nat)} (hi : i < n) (h0 : picked chl i = 0) (hv : v ≠ 0) : freeN n ((i, v) :: chl) < freeN n chl := by
  unfold freeN
  refine countP_less _ (fun j _ hj => ?_) (x := i) (by simpa using hi) (by simpa using h0) (by simpa [picked] using hv)
  by_cases e : i = j
  · subst e; simp [picked] at hj; exact absurd hj hv
  · rw [picked_ne chl v e] at hj; exact hj

theorem freeN_pos {n i : Nat} {chl : List (Nat × Nat)} (hi : i < n) (h0 : picked chl i = 0) : 0 < freeN n chl := by
  unfold freeN
  rw [List.countP_pos_iff]
  exact ⟨i, by simpa using hi, by simpa using h0⟩

set_option maxHeartbeats 400000 in
theorem lkHas_any (x : Wt Nat) (v : Int) (w : World) :
    Calls Tryz.prog 123 #[.agg #[.int .i64 x.n, .int .i64 x.lo, .int .i64 x.hi], .int .i64 v] w fun e w' => e = .returned (.bool (x.has v)) ∧ Below w.heap.size w w' := by
  have hb : Below w.heap.size w (w.alloc (.cells #[.int .i64 x.n, .int .i64 x.lo, .int .i64 x.hi] 188)) := (Below.refl _ _).alloc (Nat.le_refl _) _
  by_cases h1 : x.lo ≤ v
  · by_cases h2 : v ≤ x.hi
    · have HF := hide (show x.has v = true by simp [Wt.has, h1, h2])
      go_enter Tryz.func123, Tryz.ntmps123
      go_wp2
      go_ret
      exact ⟨ret_bool (by rw [HF.out]), hb⟩
    · have HF := hide (show x.has v = false by simp [Wt.has, h1, h2])
      go_enter Tryz.func123, Tryz.ntmps123
      go_wp2
      go_ret
      exact ⟨ret_bool (by rw [HF.out]), hb⟩
  · have HF := hide (show x.has v = false by simp [Wt.has, h1])
    go_enter Tryz.func123, Tryz.ntmps123
    go_wp2
    go_ret
    exact ⟨ret_bool (by rw [HF.out]), hb⟩

/-- Where a search has come to. -/
def Went (w w' : World) (sb : Nat) (K : RK) (lao : Option Addr) (list : List (Wt Nat)) (chl : List (Nat × Nat)) (left : Nat) : Prop :=
  ∃ lao', RAt w' sb K lao' list chl left ∧ (∀ k, blockOf lao' k → blockOf lao k ∨ w.heap.size ≤ k) ∧ Chg (RFoot sb K lao) w w'

theorem Went.behind {w w1 w' : World} {sb : Nat} {K : RK} {lao lao1 : Option Addr} {list : List (Wt Nat)} {chl : List (Nat × Nat)} {left : Nat} (ha : ∀ k, blockOf lao1 k → blockOf lao k ∨ w.heap.size ≤ k) (hc : Chg (RFoot sb K lao) w w1) (h : Went w1 w' sb K lao1 list chl left) : Went w w' sb K lao list chl left := by
  obtain ⟨lao', h1, h2, h3⟩ := h
  refine ⟨lao', h1, fun k hk => (h2 k hk).elim (ha k) (fun h => Or.inr (Nat.le_trans hc.size h)), hc.trans h3 ?_⟩
  rintro k (h | h | h)
  · exact Or.inl (Or.inl h)
  · exact (ha k h).imp (fun h => Or.inr (Or.inl h)) id
  · exact Or.inl (Or.inr (Or.inr h))

/-- How a try of the program ends, by the pure search. -/
def EndsAs (w : World) (sb : Nat) (K : RK) (lao : Option Addr) (list : List (Wt Nat)) (chl : List (Nat × Nat)) (r : Res Nat) (e : Ending) (w' : World) : Prop :=
  match r with
  | none => e = .returned (.int .i64 10) ∧ ∃ list' chl', Went w w' sb K lao list' chl' 0
  | some (left', none) => e = .returned (.int .i64 9) ∧ Went w w' sb K lao list chl left'
  | some (left', some chl') => e = .returned (.int .i64 0) ∧ ∃ list', Went w w' sb K lao list' chl' left'

section
variable {w w1 w' : World} {sb : Nat} {K : RK} {lao lao1 : Option Addr} {list : List (Wt Nat)} {chl : List (Nat × Nat)} {r r' : Res Nat} {e : Ending}

theorem EndsAs.ret (h : EndsAs w sb K lao list chl r e w') : ∃ E : Int, e = .returned (.int .i64 E) := by
  match r, h with
  | none, h => exact ⟨10, h.1⟩
  | some (_, none), h => exact ⟨9, h.1⟩
  | some (_, some _), h => exact ⟨0, h.1⟩

theorem EndsAs.mono (h : EndsAs w sb K lao list chl r e w') (hr : r = r') : EndsAs w sb K lao list chl r' e w' := hr ▸ h

theorem EndsAs.behind (ha : ∀ k, blockOf lao1 k → blockOf lao k ∨ w.heap.size ≤ k) (hc : Chg (RFoot sb K lao) w w1) (h : EndsAs w1 sb K lao1 list chl r e w') : EndsAs w sb K lao list chl r e w' := by
  match r, h with
  | none, ⟨h1, l', c', h2⟩ => exact ⟨h1, l', c', h2.behind ha hc⟩
  | some (_, none), ⟨h1, h2⟩ => exact ⟨h1, h2.behind ha hc⟩
  | some (_, some _), ⟨h1, l', h2⟩ => exact ⟨h1, l', h2.behind ha hc⟩

theorem EndsAs.after (h : EndsAs w1 sb K lao list chl r e w') (hb : Below w.heap.size w w1) : EndsAs w sb K lao list chl r e w' := h.behind (fun _ h => Or.inl h) (Chg.ofBelow hb)

end

/-- The room that the search keeps to. -/
structure RunOk (K : RK) (k : Nat) (list : List (Wt Nat)) (chl : List (Nat × Nat)) (left : Nat) : Prop where
  ofr : OfrOk K.E
  lst : ∀ x ∈ list, x.n < K.E.length
  len : list.length + 6 * k ≤ 100000
  free : freeN K.E.length chl ≤ k
  left : left ≤ 1000000
  pos : ∀ i, (∀ p ∈ chl, p.1 = i → 1 ≤ p.2 ∧ p.2 ≤ 9)

theorem picked_le {chl : List (Nat × Nat)} (h : ∀ i, (∀ p ∈ chl, p.1 = i → 1 ≤ p.2 ∧ p.2 ≤ 9)) (i : Nat) : picked chl i ≤ 9 := by
  induction chl with
  | nil => simp [picked]
  | cons q t ih =>
    unfold picked
    split
    · rename_i e
      exact (h i q (by simp) e).2
    · exact ih (fun j p hp => h j p (by simp [hp]))

set_option maxHeartbeats 1600000 in
set_option maxRecDepth 100000 in
theorem goOn_of (sb : Nat) (K : RK) (k : Nat) (lao : Option Addr) (list : List (Wt Nat)) (chl : List (Nat × Nat)) (left start : Nat)
    (HT : ∀ (x : Wt Nat) (next : Nat), next ≤ list.length → x.n < K.E.length → picked chl x.n = 0 → skip chl (list.drop start) = some (some (x, list.drop next)) → ∀ (w : World), RAt w sb K lao list chl left →
      Calls Tryz.prog 122 #[.pointer (some ⟨sb, 0, none⟩), .agg #[.int .i64 x.n, .int .i64 x.lo, .int .i64 x.hi], .int .i64 next] w fun e w' => EndsAs w sb K lao list chl (solve (candN K.E) k (list.drop start) chl left) e w')
    (w : World) (hr : RAt w sb K lao list chl left) (hok : RunOk K k list chl left) (hs : start ≤ list.length) :
    Calls Tryz.prog 115 #[.pointer (some ⟨sb, 0, none⟩), .int .i64 start] w fun e w' => EndsAs w sb K lao list chl (solve (candN K.E) k (list.drop start) chl left) e w' := by
  have HT' := hide HT
  have HOK := hide hok
  have hpk := picked_le hok.pos
  obtain ⟨lcap, hat⟩ := hr
  have hll := hat.ll
  have hsl := hat.lt
  have HAT := hide hat
  clear HT hok hat
  go_enter Tryz.func115, Tryz.ntmps115
  go_wp2_with fail
  go_loopw [5, 6, 7] (fun v _ _ wr => ∃ i : Nat, start ≤ i ∧ i ≤ list.length ∧ v = .int .i64 i ∧ skip chl (list.drop start) = skip chl (list.drop i) ∧ Below w.heap.size w wr) (fun v _ _ _ => list.length - (intOf v).toNat)
  case atStart => exact ⟨start, Nat.le_refl _, hs, rfl, rfl, Below.refl _ _⟩
  case round =>
    obtain ⟨i, h1, h2, rfl, hsk, hb⟩ := hrel
    have hat := HAT.out.below hb
    have c0 := hat.head.c0
    by_cases hlt : i < list.length
    · obtain ⟨g, hg, hglt, hgs, d0, d1, d2⟩ := hat.link i hlt
      have hxn : list[i].n < K.E.length := HOK.out.lst _ (List.getElem_mem hlt)
      obtain ⟨g2, hg2, hg2lt, _, _, dch, _⟩ := hat.ent list[i].n (by show _ < (chEnts K.E chl).length; rw [chEnts_length]; exact hxn)
      have c2 := hat.head.c2
      have hnl := hat.nl
      have hchx : ((chEnts K.E chl)[list[i].n]'(by rw [chEnts_length]; exact hxn)).ch = picked chl list[i].n := by rw [chEnts_get K.E chl _ hxn]
      have hdrop : list.drop i = list[i] :: list.drop (i + 1) := List.drop_eq_getElem_cons hlt
      rw [hdrop] at hsk
      simp only at hg hg2 c0 c2 d0 d1 d2 dch hnl
      rw [hchx] at dch
      rw [hg] at c0
      rw [hg2] at c2
      rw [chEnts_length] at c2 hnl
      have hpl := hpk list[i].n
      have HSK := hide hsk
      have hslr := hat.lt
      have HATr := hide hat
      have HB1 := hide (show Below w.heap.size w (wr.alloc (.cells #[.int .i64 list[i].n, .int .i64 list[i].lo, .int .i64 list[i].hi] 188)) from hb.alloc hb.size _)
      have HA1 := hide (show RAt (wr.alloc (.cells #[.int .i64 list[i].n, .int .i64 list[i].lo, .int .i64 list[i].hi] 188)) sb K lao list chl left from ⟨lcap, hat.below ((Below.refl _ _).alloc (Nat.le_refl _) _)⟩)
      clear hsk hdrop hchx hat
      generalize list[i] = x at *
      by_cases hp0 : picked chl x.n = 0
      · rw [hp0] at dch
        have HC := hide (fun W (h : RAt W sb K lao list chl left) => HT'.out x (i + 1) (by omega) hxn hp0 (HSK.out.trans (skip_at hp0)) W h)
        clear HSK hp0 HT'
        go_wp2_with fail
        go_region
        all_goals
          go_wp2_with fail
          refine (HC.out _ ?_).mono ?_
          · exact HA1.out.same rfl
          rintro e w2 hend
          obtain ⟨E, rfl⟩ := hend.ret
          have HF := hide (hend.after (w := w) ⟨HB1.out.os, HB1.out.tape, HB1.out.output, HB1.out.size, HB1.out.block⟩)
          clear hend
          go_wp2_with fail
          go_ret
          exact HF.out
      · have hpz : ((picked chl x.n : Int) == 0) = false := by
          rw [beq_eq_false_iff_ne]
          omega
        have HH := hide (lkHas_any x (picked chl x.n))
        cases hhas : x.has (picked chl x.n) with
        | true =>
          rw [hhas] at HH
          have HSK2 := hide (HSK.out.trans (skip_cons hp0 hhas))
          clear HSK HT' hp0 hhas
          generalize picked chl x.n = pv at *
          go_wp2_with fail
          go_region
          all_goals
            go_wp2_with fail
            refine (HH.out _).mono ?_
            rintro e w2 ⟨rfl, hb2⟩
            have HB2 := hide (show Below w.heap.size w w2 from HB1.out.trans (Below.mono ⟨hb2.os, hb2.tape, hb2.output, hb2.size, hb2.block⟩ HB1.out.size))
            clear hb2
            go_wp2_with fail
            go_roundw
            case rel => exact ⟨i + 1, by omega, by omega, by go_num, HSK2.out, HB2.out⟩
            case measure => simp [intOf] <;> omega
        | false =>
          rw [hhas] at HH
          have HF := hide (solve_bad (cand := candN K.E) (k := k) (left := left) (HSK.out.trans (skip_bad hp0 hhas)))
          clear HSK HT' hp0 hhas
          generalize picked chl x.n = pv at *
          go_wp2_with fail
          go_region
          all_goals
            go_wp2_with fail
            refine (HH.out _).mono ?_
            rintro e w2 ⟨rfl, hb2⟩
            have HB2 := hide (show Below w.heap.size w w2 from HB1.out.trans (Below.mono ⟨hb2.os, hb2.tape, hb2.output, hb2.size, hb2.block⟩ HB1.out.size))
            have HA2 := hide (show RAt w2 sb K lao list chl left from HA1.out.below ⟨hb2.os, hb2.tape, hb2.output, hb2.size, hb2.block⟩)
            clear hb2
            go_wp2_with fail
            go_ret
            rw [HF.out]
            exact ⟨rfl, lao, HA2.out, fun _ h => Or.inl h, Chg.ofBelow HB2.out⟩
    · obtain rfl : i = list.length := by omega
      have HF := hide (solve_done (cand := candN K.E) (k := k) (left := left) (hsk.trans (by rw [List.drop_length]; rfl)))
      go_wp2_with fail
      go_ret
      rw [HF.out]
      exact ⟨rfl, list, lao, ⟨lcap, hat⟩, fun _ h => Or.inl h, Chg.ofBelow hb⟩

end Go.Proofs.YtgcldedkempjhabGreatDoor
