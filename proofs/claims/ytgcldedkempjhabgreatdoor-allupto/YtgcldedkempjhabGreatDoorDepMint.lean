/-
  depot.Depot: Mint, Revoke.
-/
import Derived.Test.YtgcldedkempjhabGreatDoorDepFound
import Derived.Test.YtgcldedkempjhabGreatDoorJrnLine
namespace Go.Proofs.YtgcldedkempjhabGreatDoor
open Go.RowKit

/-- The first of a list that is so, changed. -/
def updF {α : Type} (p : α → Bool) (f : α → α) : List α → List α
  | [] => []
  | x :: t => if p x = true then f x :: t else x :: updF p f t

theorem updF_set {α : Type} (p : α → Bool) (f : α → α) (l : List α) (i : Nat) (hi : i < l.length) (h1 : p l[i] = true) (h2 : ∀ j, (hj : j < l.length) → j < i → p l[j] = false) : updF p f l = l.set i (f l[i]) := by
  induction l generalizing i with
  | nil => simp at hi
  | cons x l ih =>
    cases i with
    | zero =>
      have h1' : p x = true := h1
      rw [updF, if_pos h1']
      rfl
    | succ i =>
      have h0 : p x = false := h2 0 (by simp) (by omega)
      rw [updF, if_neg (by rw [h0]; decide), ih i (by simpa using hi) (by simpa using h1) (fun j hj hlt => h2 (j + 1) (Nat.succ_lt_succ hj) (by omega))]
      rfl

theorem updF_length {α : Type} (p : α → Bool) (f : α → α) (l : List α) : (updF p f l).length = l.length := by
  induction l with
  | nil => rfl
  | cons x l ih =>
    unfold updF
    split
    · rfl
    · simp [ih]

def mintP (m : Int) (hs : List PHse) (of : ByteArray) (role fresh till : Int) : Int :=
  if m != 0 then m else match hseF hs of with
  | none => 7
  | some h => mintT h.toks role fresh till

def mintS (P : PDep) (of : ByteArray) (id : Int) (t : Tok) : PDep := P.upd of fun h => { h with toks := h.toks ++ [t], log := h.log ++ mintLine id t.num t.role t.till }

theorem mintT_room {ts : List Tok} {role fresh till : Int} (h : mintT ts role fresh till = 0) : ts.length < 8 := by
  unfold mintT at h
  split at h
  · cases h
  · split at h
    · cases h
    · split at h
      · cases h
      · omega

theorem lens_of {P : PDep} (h : Lens P) {nm : ByteArray} {x : PHse} (hx : hseF P.hs nm = some x) : x.toks.length ≤ 8 ∧ x.eds.length ≤ 12 ∧ x.grs.length ≤ 6 ∧ wordF x.name = true ∧ x.log.length ≤ 120 * (x.lines + P.yanks) ∧ ∀ e ∈ x.eds, WsOk e.wants := by
  have := List.mem_of_find?_eq_some hx
  exact ⟨h.t x this, h.e x this, h.g x this, h.w x this, h.l x this, h.q x this⟩

theorem FirstH.set {hs : List Hse} {nm : ByteArray} {i : Nat} (h : FirstH hs nm i) (hi : i < hs.length) {x : Hse} (hn : x.name = hs[i].name) : FirstH (hs.set i x) nm i := by
  obtain ⟨_, h1, h2⟩ := h
  refine ⟨by simpa using hi, by rw [List.getElem_set_self, hn]; exact h1, fun j hj hlt => ?_⟩
  rw [List.getElem_set_ne (by omega)]
  exact h2 j (by simpa using hj) hlt

/-- A house's log, behind a change of the house; and a line behind it. -/
theorem DepTo.logged {w w1 : World} {db : Nat} {D D1 : DepD} {i : Nat} (hi : i < D.hs.length) {nm : ByteArray} (hf : FirstH D.hs nm i) {g : Nat} (hg : D.ho = some ⟨g, 0, none⟩) {x : Hse} (hn : x.name = D.hs[i].name) (h1 : x.log = D.hs[i].log) (h2 : x.lao = D.hs[i].lao) (h3 : x.lcap = D.hs[i].lcap)
    (hto : DepTo w w1 db D D1) (e1 : D1.hs = D.hs.set i x) (e2 : D1.ho = D.ho) :
    JAt w1 (db + 1) g (i * 5 + 4) D.hs[i].lao D.hs[i].lcap D.hs[i].log ∧ ¬ blockOf D.hs[i].lao g ∧ db + 1 ≤ w1.heap.size ∧ db < g ∧
      ∀ w2 news, JPush w1 w2 (db + 1) g (i * 5 + 4) D.hs[i].lao D.hs[i].log news → Lens (D1.pure.upd nm fun h => { h with log := h.log ++ news }) → DepStep w w2 db D (D1.pure.upd nm fun h => { h with log := h.log ++ news }) := by
  have hi1 : i < D1.hs.length := by rw [e1]; simpa using hi
  have hx : D1.hs[i] = x := by simp only [e1, List.getElem_set_self]
  have hg1 : D1.ho = some ⟨g, 0, none⟩ := e2.trans hg
  obtain ⟨g2, hg2, hglt, hdg, _, _, _, _, hj, hnb⟩ := hto.dep.house i hi1
  rw [hg1] at hg2
  injection hg2 with hg2
  injection hg2 with hg2
  subst hg2
  have hnb' := hnb .log
  rw [hx] at hj hnb'
  simp only [Hse.row] at hnb'
  rw [h1, h2, h3] at hj
  rw [h2] at hnb'
  refine ⟨hj, hnb', by omega, hdg, fun w2 news hp hl => ?_⟩
  have hf1 : FirstH D1.hs nm i := by rw [e1]; exact hf.set hi hn
  refine hto.trans (DepTo.pushLog hto.dep hi1 hf1 hg1 news ?_ hl)
  rw [hx, h1, h2]
  exact hp

/-- A call has changed one house, not its log. -/
def HseTo (w w1 : World) (db : Nat) (D : DepD) (i : Nat) (hi : i < D.hs.length) (P1 : PDep) : Prop :=
  ∃ D1 x, DepTo w w1 db D D1 ∧ D1.hs = D.hs.set i x ∧ D1.ho = D.ho ∧ x.name = D.hs[i].name ∧ x.log = D.hs[i].log ∧ x.lao = D.hs[i].lao ∧ x.lcap = D.hs[i].lcap ∧ D1.pure = P1

theorem HseTo.logged {w w1 : World} {db : Nat} {D : DepD} {i : Nat} {hi : i < D.hs.length} {P1 : PDep} (h : HseTo w w1 db D i hi P1) {nm : ByteArray} (hf : FirstH D.hs nm i) {g : Nat} (hg : D.ho = some ⟨g, 0, none⟩) :
    JAt w1 (db + 1) g (i * 5 + 4) D.hs[i].lao D.hs[i].lcap D.hs[i].log ∧ ¬ blockOf D.hs[i].lao g ∧ db + 1 ≤ w1.heap.size ∧ tabB < g ∧ TabOk w1 ∧ tabB < db + 1 ∧
      ∀ w2 news, JPush w1 w2 (db + 1) g (i * 5 + 4) D.hs[i].lao D.hs[i].log news → Lens (P1.upd nm fun h => { h with log := h.log ++ news }) → DepStep w w2 db D (P1.upd nm fun h => { h with log := h.log ++ news }) := by
  obtain ⟨D1, x, hto, e1, e2, hn, h1, h2, h3, rfl⟩ := h
  obtain ⟨k1, k2, k3, k4, k5⟩ := hto.logged hi hf hg hn h1 h2 h3 e1 e2
  have := hto.dep.tlt
  exact ⟨k1, k2, k3, by omega, hto.dep.tab, by omega, k5⟩

theorem line_room {x y : PHse} {n : Nat} {news : List UInt8} (h : x.log.length ≤ 120 * (x.lines + n)) (hn : news.length ≤ 120) (hy : y.log = x.log ++ news) (hl : y.lines = x.lines + 1) : y.log.length ≤ 120 * (y.lines + n) := by
  rw [hy, hl, List.length_append]
  omega


theorem mintT_role {ts : List Tok} {role fresh till : Int} (h : mintT ts role fresh till = 0) : 1 ≤ role ∧ role ≤ 3 := by
  unfold mintT at h
  split at h
  · cases h
  · omega

theorem log_room {w : World} {db : Nat} {D : DepD} (h : DepAt w db D) (i : Nat) (hi : i < D.hs.length) : D.hs[i].log.length ≤ 30000000000000 := by
  have hm : D.hs[i].pure ∈ D.pure.hs := List.mem_map_of_mem (List.getElem_mem hi)
  have h1 := h.lens.l _ hm
  have h2 := h.lens.t _ hm
  have h3 := h.lens.e _ hm
  have h4 := h.lens.g _ hm
  have h5 := h.lens.y
  have h6 := List.length_filter_le (fun t : Tok => t.gone) D.hs[i].pure.toks
  unfold PHse.lines at h1
  have e : D.hs[i].pure.log = D.hs[i].log := rfl
  rw [e] at h1
  omega

theorem mint_to {w w1 : World} {db : Nat} {D : DepD} (hr : DepAt w db D) {i : Nat} (hi : i < D.hs.length) {of : ByteArray} (hf : FirstH D.hs of i) {g : Nat} (hg : D.ho = some ⟨g, 0, none⟩) (h3 : hseF D.pure.hs of = some D.hs[i].pure) {t : Tok}
    (hp : RingPush w w1 (db + 1) g (i * 5 + 1) D.hs[i].ao D.hs[i].toks t) (hroom : D.hs[i].toks.length < 8) : HseTo w w1 db D i hi (D.pure.upd of fun h => { h with toks := h.toks ++ [t] }) := by
  obtain ⟨g', cap', w5, q1, q2, q3, hw⟩ := hp
  obtain ⟨k1, k2⟩ := DepTo.pushHouse (w' := w1) (f := .ring) (x := { D.hs[i] with toks := D.hs[i].toks ++ [t], ao := some ⟨g', 0, none⟩, cap := cap' }) hr (Below.refl _ _) hi hf hg (F := fun h => { h with toks := h.toks ++ [t] }) rfl (by
      intro f' hne
      match f', hne with
      | none, hne => exact absurd rfl hne
      | some (some false), _ => rfl
      | some (some true), _ => rfl
      | some none, _ => rfl) rfl (by simpa [RowOk, Hse.row, toksCells] using q1) q2 (by
      rintro k ⟨a, e, rfl⟩
      injection e with e
      subst e
      exact q3) (fun e he => Or.inl he) (by
      refine hr.lens.upd of _ fun x hx => ?_
      rw [h3] at hx
      injection hx with hx
      subst hx
      obtain ⟨l1, l2, l3, l4, l5, l6⟩ := lens_of hr.lens h3
      refine ⟨?_, l2, l3, l4, ?_, l6⟩
      · simp [Hse.pure]
        omega
      · refine Nat.le_trans l5 ?_
        simp only [PHse.lines, List.length_append, List.filter_append]
        omega) (by simpa [Hse.row, Fam.idx] using hw)
  exact ⟨_, _, k1, rfl, rfl, rfl, rfl, rfl, rfl, k2⟩

theorem mint_lens {D : DepD} (h : Lens D.pure) {of : ByteArray} {i : Nat} {hi : i < D.hs.length} (h3 : hseF D.pure.hs of = some D.hs[i].pure) {id fresh role till : Int} (hroom : D.hs[i].toks.length < 8) (hl : (mintLine id fresh role till).length ≤ 120) :
    Lens (mintS D.pure of id ⟨fresh, role, till, false⟩) := by
  refine h.upd of _ fun x hx => ?_
  rw [h3] at hx
  injection hx with hx
  subst hx
  obtain ⟨l1, l2, l3, l4, l5, l6⟩ := lens_of h h3
  refine ⟨?_, l2, l3, l4, line_room l5 hl rfl ?_, l6⟩
  · simp [Hse.pure]
    omega
  · simp [PHse.lines, List.filter_append]
    omega

set_option maxHeartbeats 800000 in
set_option maxRecDepth 100000 in
theorem mint_any (db : Nat) (D : DepD) (house : ByteArray) (id : Int) (of : ByteArray) (role fresh till : Int) (w : World) (hr : DepAt w db D) (hid : I64 id) (hfr : I64 fresh) (hti : I64 till) (E : Int)
    (hE : E = mintP (manageF (heldF D.pure house id) (house.toList == of.toList)) D.pure.hs of role fresh till) :
    Calls Tryz.prog 20 #[.pointer (some ⟨db, 0, none⟩), .string house, .int .i64 id, .string of, .int .i64 role, .int .i64 fresh, .int .i64 till] w fun e w' =>
      e = .returned (.int .i64 E) ∧ DepStep w w' db D (stepP E D.pure (mintS D.pure of id ⟨fresh, role, till, false⟩)) := by
  have Hm := hide (mayManage_any db D house id of w hr)
  have HE := hide hE
  clear hE
  generalize manageF (heldF D.pure house id) (house.toList == of.toList) = m at *
  rcases hse_cases D of with ⟨i, hi, h1, h3⟩ | ⟨h1, h3⟩
  · obtain ⟨g, hg, _⟩ := hr.house i hi
    have Hf := hide (fun W h => depFind_some db D of W h i hi h1 g hg)
    have H3 := hide h3
    have HF := hide h1
    clear h1 h3
    go_enter Tryz.func20, Tryz.ntmps20
    go_wp2_with fail
    refine Hm.out.mono ?_
    rintro e w1 ⟨rfl, hb⟩
    have hr1 := hr.below hb
    have htl := hr1.tlen i hi
    obtain ⟨g2, hg2, hglt, hdg, d0, hring, _, _, _, hnb⟩ := hr1.house i hi
    rw [hg] at hg2
    injection hg2 with hg2
    injection hg2 with hg2
    subst hg2
    go_wp2_with fail
    · go_ret
      exact DepStep.err hr hb (by rw [HE.out]; simp [mintP, *]) (by simpa using ‹(m != 0) = true›)
    · have HE2 := hide (show E = mintT D.hs[i].toks role fresh till by rw [HE.out, mintP, H3.out]; simp [*, Hse.pure])
      refine (Hf.out _ hr1).mono ?_
      rintro e w3 ⟨rfl, hh⟩
      subst hh
      go_wp2_with fail
      refine (ringMint_any (db + 1) g (i * 5 + 1) D.hs[i].ao D.hs[i].cap D.hs[i].toks role fresh till _ hring (by omega) (hnb .ring) (by omega) E HE2.out).mono ?_
      rintro e w4 ⟨rfl, hst⟩
      rcases hst with ⟨he, rfl⟩ | ⟨he, g', cap', w5, q1, q2, q3, hw4⟩
      · have t1 : (E != 0) = true := bne_iff_ne.2 he
        go_wp2_with fail
        go_ret
        refine ⟨rfl, DepStep.behind hb ?_⟩
        have := DepStep.ofBelow hr1 (Below.refl w4.heap.size w4)
        unfold stepP
        rw [if_neg he]
        exact this
      · have hrole := mintT_role (HE2.out ▸ he)
        have hroom := mintT_room (HE2.out ▸ he)
        subst he
        have hto := mint_to hr1 hi HF.out hg H3.out ⟨g', cap', w5, q1, q2, q3, hw4⟩ hroom
        obtain ⟨hj, hnl, hbs, htg, htab, htb, hfin⟩ := hto.logged HF.out hg
        have HFIN := hide hfin
        have hll := log_room hr1 i hi
        have HL := hide (mint_lens (D := D) (id := id) hr1.lens H3.out hroom (mintLine_le hid hfr (i64_small hrole) hti))
        clear hto hfin q1 q2 q3 hw4
        go_wp2_with fail
        refine (jMint_any (db + 1) g (i * 5 + 4) D.hs[i].lao D.hs[i].lcap D.hs[i].log id fresh role till _ hj hnl hbs htab htb htg (by omega) hid hfr (i64_small hrole) hti).mono ?_
        rintro e w6 ⟨rfl, hp⟩
        go_wp2_with fail
        go_ret
        refine ⟨rfl, DepStep.behind hb (DepStep.ok rfl ?_)⟩
        have := HFIN.out _ _ hp (by
          rw [upd_twice]
          · exact HL.out
          · exact fun _ => rfl)
        rw [upd_twice] at this
        · exact this
        · exact fun _ => rfl
  · have Hf := hide (fun W h => depFind_none db D of W h h1)
    have H3 := hide h3
    clear h1 h3
    go_enter Tryz.func20, Tryz.ntmps20
    go_wp2_with fail
    refine Hm.out.mono ?_
    rintro e w1 ⟨rfl, hb⟩
    have hr1 := hr.below hb
    go_wp2_with fail
    · go_ret
      exact DepStep.err hr hb (by rw [HE.out]; simp [mintP, *]) (by simpa using ‹(m != 0) = true›)
    · refine (Hf.out _ hr1).mono ?_
      rintro e w3 ⟨rfl, hh⟩
      subst hh
      go_wp2_with fail
      go_ret
      exact DepStep.err hr hb (by rw [HE.out, mintP, H3.out]; simp [*]) (by decide)

def revokeP (m : Int) (hs : List PHse) (of : ByteArray) (old : Int) : Int :=
  if m != 0 then m else match hseF hs of with
  | none => 7
  | some h => revokeT h.toks old

def revTok (ts : List Tok) (old : Int) : List Tok := updF (fun t => t.num == old) (fun t => { t with gone := true }) ts

def revokeS (P : PDep) (of : ByteArray) (id old : Int) : PDep := P.upd of fun h => { h with toks := revTok h.toks old, log := h.log ++ revokeLine id old }

theorem rev_more (ts : List Tok) (old : Int) : (ts.filter fun t => t.gone).length ≤ ((revTok ts old).filter fun t => t.gone).length := by
  unfold revTok
  induction ts with
  | nil => simp [updF]
  | cons x ts ih =>
    unfold updF
    split
    · cases hx : x.gone <;> simp [hx]
    · cases hx : x.gone <;> simp [hx] <;> omega

theorem gone_rev (ts : List Tok) (old : Int) (j : Nat) (hj : j < ts.length) (q2 : ts[j].num = old) (q3 : ts[j].gone = false) (q4 : ∀ k, (hk : k < ts.length) → k < j → ts[k].num ≠ old) :
    ((revTok ts old).filter fun t => t.gone).length = (ts.filter fun t => t.gone).length + 1 := by
  unfold revTok
  induction ts generalizing j with
  | nil => simp at hj
  | cons x ts ih =>
    cases j with
    | zero =>
      have h1 : (x.num == old) = true := by simpa using q2
      have h2 : x.gone = false := q3
      rw [updF, if_pos h1]
      simp [h2]
    | succ j =>
      have h1 : (x.num == old) = false := beq_eq_false_iff_ne.2 (q4 0 (by simp) (by omega))
      rw [updF, if_neg (by rw [h1]; decide)]
      have := ih j (by simpa using hj) (by simpa using q2) (by simpa using q3) (fun k hk hlt => q4 (k + 1) (Nat.succ_lt_succ hk) (by omega))
      cases hx : x.gone <;> simp [hx, this]

theorem revoke_to {w w1 : World} {db : Nat} {D : DepD} (hr : DepAt w db D) {i : Nat} (hi : i < D.hs.length) {of : ByteArray} (hf : FirstH D.hs of i) (h3 : hseF D.pure.hs of = some D.hs[i].pure) {old : Int}
    (hown : w.ownsRow (db + 1) 134 4 (.slice D.hs[i].ao D.hs[i].toks.length D.hs[i].cap) D.hs[i].toks.length (toksCells D.hs[i].toks))
    (j : Nat) (hj : j < D.hs[i].toks.length) (g' : Nat) (q1 : D.hs[i].ao = some ⟨g', 0, none⟩) (q2 : D.hs[i].toks[j].num = old) (q4 : ∀ k, (hk : k < D.hs[i].toks.length) → k < j → D.hs[i].toks[k].num ≠ old)
    (hw : w1 = w.setCell ⟨g', j * 4 + 3, none⟩ (.bool true)) : HseTo w w1 db D i hi (D.pure.upd of fun h => { h with toks := revTok h.toks old }) := by
  have hrev : revTok D.hs[i].toks old = D.hs[i].toks.set j { D.hs[i].toks[j] with gone := true } :=
    updF_set _ _ _ j hj (by simpa using q2) (fun k hk hlt => by simpa using q4 k hk hlt)
  subst hw
  obtain ⟨k1, k2⟩ := DepTo.setRow (w' := w.setCell ⟨g', j * 4 + 3, none⟩ (.bool true)) (f := .ring) (x := { D.hs[i] with toks := D.hs[i].toks.set j { D.hs[i].toks[j] with gone := true } }) hr hi hf (F := fun h => { h with toks := revTok h.toks old })
    (by simp only [Hse.pure]; rw [hrev]) (by
      intro f' hne
      match f', hne with
      | none, hne => exact absurd rfl hne
      | some (some false), _ => rfl
      | some (some true), _ => rfl
      | some none, _ => rfl) (by simp [Hse.cells]) (by
      have ho := hown
      rw [q1] at ho
      have := ownsRow_set ho (j * 4 + 3) (.bool true)
      rw [← toksCells_revoke _ _ hj] at this
      simpa [RowOk, Hse.row, q1] using this) ((Chg.refl _ _).setCell (Or.inl ⟨_, q1, rfl⟩) _) rfl (fun e he => ⟨e, he, rfl, rfl, rfl⟩) (by
      refine hr.lens.upd of _ fun x hx => ?_
      rw [h3] at hx
      injection hx with hx
      subst hx
      obtain ⟨l1, l2, l3, l4, l5, l6⟩ := lens_of hr.lens h3
      refine ⟨by simpa [revTok, updF_length] using l1, l2, l3, l4, ?_, l6⟩
      refine Nat.le_trans l5 ?_
      have hg := rev_more D.hs[i].toks old
      simp only [PHse.lines, Hse.pure, revTok, updF_length] at hg ⊢
      omega)
  exact ⟨_, _, k1, rfl, rfl, rfl, rfl, rfl, rfl, k2⟩

theorem revoke_lens {D : DepD} (h : Lens D.pure) {of : ByteArray} {i : Nat} {hi : i < D.hs.length} (h3 : hseF D.pure.hs of = some D.hs[i].pure) {id old : Int} (hg : ((revTok D.hs[i].toks old).filter fun t => t.gone).length = (D.hs[i].toks.filter fun t => t.gone).length + 1) (hl : (revokeLine id old).length ≤ 120) :
    Lens (revokeS D.pure of id old) := by
  refine h.upd of _ fun x hx => ?_
  rw [h3] at hx
  injection hx with hx
  subst hx
  obtain ⟨l1, l2, l3, l4, l5, l6⟩ := lens_of h h3
  refine ⟨by simpa [revTok, updF_length] using l1, l2, l3, l4, line_room l5 hl rfl ?_, l6⟩
  simp only [PHse.lines, Hse.pure] at hg ⊢
  rw [hg]
  simp only [revTok, updF_length]
  omega

set_option maxHeartbeats 800000 in
set_option maxRecDepth 100000 in
theorem revoke_any (db : Nat) (D : DepD) (house : ByteArray) (id : Int) (of : ByteArray) (old : Int) (w : World) (hr : DepAt w db D) (hid : I64 id) (hold : I64 old) (E : Int)
    (hE : E = revokeP (manageF (heldF D.pure house id) (house.toList == of.toList)) D.pure.hs of old) :
    Calls Tryz.prog 22 #[.pointer (some ⟨db, 0, none⟩), .string house, .int .i64 id, .string of, .int .i64 old] w fun e w' =>
      e = .returned (.int .i64 E) ∧ DepStep w w' db D (stepP E D.pure (revokeS D.pure of id old)) := by
  have Hm := hide (mayManage_any db D house id of w hr)
  have HE := hide hE
  clear hE
  generalize manageF (heldF D.pure house id) (house.toList == of.toList) = m at *
  rcases hse_cases D of with ⟨i, hi, h1, h3⟩ | ⟨h1, h3⟩
  · obtain ⟨g, hg, _⟩ := hr.house i hi
    have Hf := hide (fun W h => depFind_some db D of W h i hi h1 g hg)
    have H3 := hide h3
    have HF := hide h1
    clear h1 h3
    go_enter Tryz.func22, Tryz.ntmps22
    go_wp2_with fail
    refine Hm.out.mono ?_
    rintro e w1 ⟨rfl, hb⟩
    have hr1 := hr.below hb
    have htl := hr1.tlen i hi
    obtain ⟨g2, hg2, hglt, hdg, d0, hring, _, _, _, hnb⟩ := hr1.house i hi
    rw [hg] at hg2
    injection hg2 with hg2
    injection hg2 with hg2
    subst hg2
    go_wp2_with fail
    · go_ret
      exact DepStep.err hr hb (by rw [HE.out]; simp [revokeP, *]) (by simpa using ‹(m != 0) = true›)
    · have HE2 := hide (show E = revokeT D.hs[i].toks old by rw [HE.out, revokeP, H3.out]; simp [*, Hse.pure])
      refine (Hf.out _ hr1).mono ?_
      rintro e w3 ⟨rfl, hh⟩
      subst hh
      go_wp2_with fail
      refine (ringRevoke_any (db + 1) g (i * 5 + 1) D.hs[i].ao D.hs[i].cap D.hs[i].toks old _ hring (by omega) E HE2.out).mono ?_
      rintro e w4 ⟨rfl, hst⟩
      rcases hst with ⟨he, rfl⟩ | ⟨he, j, hj, g', q1, q2, q3, q4, hw4⟩
      · have t1 : (E != 0) = true := bne_iff_ne.2 he
        go_wp2_with fail
        go_ret
        refine ⟨rfl, DepStep.behind hb ?_⟩
        have := DepStep.ofBelow hr1 (Below.refl w4.heap.size w4)
        unfold stepP
        rw [if_neg he]
        exact this
      · have hgone := gone_rev D.hs[i].toks old j hj q2 q3 q4
        subst he
        have hto := revoke_to hr1 hi HF.out H3.out hring.own j hj g' q1 q2 q4 hw4
        obtain ⟨hjj, hnl, hbs, htg, htab, htb, hfin⟩ := hto.logged HF.out hg
        have HFIN := hide hfin
        have hll := log_room hr1 i hi
        have HL := hide (revoke_lens (D := D) (id := id) hr1.lens H3.out hgone (revokeLine_le hid hold))
        clear hto hfin q1 q2 q3 q4 hw4 hgone
        go_wp2_with fail
        refine (jRevoke_any (db + 1) g (i * 5 + 4) D.hs[i].lao D.hs[i].lcap D.hs[i].log id old _ hjj hnl hbs htab htb htg (by omega) hid hold).mono ?_
        rintro e w6 ⟨rfl, hp⟩
        go_wp2_with fail
        go_ret
        refine ⟨rfl, DepStep.behind hb (DepStep.ok rfl ?_)⟩
        have := HFIN.out _ _ hp (by
          rw [upd_twice]
          · exact HL.out
          · exact fun _ => rfl)
        rw [upd_twice] at this
        · exact this
        · exact fun _ => rfl
  · have Hf := hide (fun W h => depFind_none db D of W h h1)
    have H3 := hide h3
    clear h1 h3
    go_enter Tryz.func22, Tryz.ntmps22
    go_wp2_with fail
    refine Hm.out.mono ?_
    rintro e w1 ⟨rfl, hb⟩
    have hr1 := hr.below hb
    go_wp2_with fail
    · go_ret
      exact DepStep.err hr hb (by rw [HE.out]; simp [revokeP, *]) (by simpa using ‹(m != 0) = true›)
    · refine (Hf.out _ hr1).mono ?_
      rintro e w3 ⟨rfl, hh⟩
      subst hh
      go_wp2_with fail
      go_ret
      exact DepStep.err hr hb (by rw [HE.out, revokeP, H3.out]; simp [*]) (by decide)

end Go.Proofs.YtgcldedkempjhabGreatDoor
