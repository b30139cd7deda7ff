/-
  What a call leaves of the program's depot.
-/
import Derived.Test.YtjgegpiodcaodaaGreatDoorDep
namespace Go.Proofs.YtjgegpiodcaodaaGreatDoor
open Go.RowKit

/-- What a call leaves: a depot that holds P', in blocks that were its own or are new; and it has written nowhere else. -/
def DepStep (w w' : World) (db : Nat) (D : DepD) (P' : PDep) : Prop :=
  ∃ D', DepAt w' db D' ∧ D'.pure = P' ∧ Chg (DepFoot db D) w w' ∧ ∀ k, DepFoot db D' k → DepFoot db D k ∨ w.heap.size ≤ k

section
variable {w w0 w1 w' : World} {db : Nat} {D : DepD} {P' : PDep}

theorem DepStep.ofBelow (hr : DepAt w db D) (hb : Below w.heap.size w w') : DepStep w w' db D D.pure :=
  ⟨D, hr.below hb, rfl, Chg.ofBelow hb, fun _ h => Or.inl h⟩

theorem DepStep.behind (hb : Below w.heap.size w w1) (h : DepStep w1 w' db D P') : DepStep w w' db D P' := by
  obtain ⟨D', h1, h0, h2, h3⟩ := h
  exact ⟨D', h1, h0, (Chg.ofBelow hb).trans h2 (fun _ h => Or.inl h), fun k hk => (h3 k hk).elim Or.inl (fun h => Or.inr (Nat.le_trans hb.size h))⟩

/-- The first house of a name, changed. -/
def updH : List PHse → ByteArray → (PHse → PHse) → List PHse
  | [], _, _ => []
  | h :: t, nm, f => if (h.name.toList == nm.toList) = true then f h :: t else h :: updH t nm f

theorem updH_set (hs : List Hse) (nm : ByteArray) (i : Nat) (hi : i < hs.length) (hf : FirstH hs nm i) (x : Hse) (f : PHse → PHse) (hx : x.pure = f hs[i].pure) : (hs.set i x).map Hse.pure = updH (hs.map Hse.pure) nm f := by
  induction hs generalizing i with
  | nil => simp at hi
  | cons y hs ih =>
    obtain ⟨_, h1, h2⟩ := hf
    cases i with
    | zero =>
      have h1' : (y.pure.name.toList == nm.toList) = true := h1
      have hx' : x.pure = f y.pure := hx
      rw [List.set_cons_zero, List.map_cons, List.map_cons, updH, if_pos h1', hx']
    | succ i =>
      have h0 : (y.pure.name.toList == nm.toList) = false := h2 0 (by simp) (by omega)
      have hi' : i < hs.length := by simpa using hi
      have := ih i hi' ⟨hi', by simpa using h1, fun j hj hlt => h2 (j + 1) (Nat.succ_lt_succ hj) (by omega)⟩ (by simpa using hx)
      rw [List.set_cons_succ, List.map_cons, List.map_cons, updH, if_neg (by rw [h0]; decide), this]

def PDep.upd (P : PDep) (nm : ByteArray) (f : PHse → PHse) : PDep := { P with hs := updH P.hs nm f }

theorem upd_pure {i : Nat} (hi : i < D.hs.length) {nm : ByteArray} (hf : FirstH D.hs nm i) (x : Hse) (f : PHse → PHse) (hx : x.pure = f D.hs[i].pure) : ({ D with hs := D.hs.set i x } : DepD).pure = D.pure.upd nm f := by
  unfold DepD.pure PDep.upd
  simp only
  rw [updH_set D.hs nm i hi hf x f hx]

/-- Rooms, of one house changed. -/
theorem Lens.upd {P : PDep} (h : Lens P) (nm : ByteArray) (f : PHse → PHse) (hf : ∀ x, hseF P.hs nm = some x → (f x).toks.length ≤ 8 ∧ (f x).eds.length ≤ 12 ∧ (f x).grs.length ≤ 6 ∧ wordF (f x).name = true) : Lens (P.upd nm f) := by
  have key : ∀ hs : List PHse, (∀ x, hseF hs nm = some x → (f x).toks.length ≤ 8 ∧ (f x).eds.length ≤ 12 ∧ (f x).grs.length ≤ 6 ∧ wordF (f x).name = true) → (updH hs nm f).length = hs.length ∧ ∀ x ∈ updH hs nm f, x ∈ hs ∨ (x.toks.length ≤ 8 ∧ x.eds.length ≤ 12 ∧ x.grs.length ≤ 6 ∧ wordF x.name = true) := by
    intro hs
    induction hs with
    | nil => intro _; exact ⟨rfl, fun x hx => by simp [updH] at hx⟩
    | cons y hs ih =>
      intro hf
      unfold updH
      cases hy : (y.name.toList == nm.toList) with
      | true =>
        refine ⟨by simp, fun x hx => ?_⟩
        simp at hx
        rcases hx with rfl | hx
        · exact Or.inr (hf y (by simp only [hseF, List.find?_cons, hy]))
        · exact Or.inl (by simp [hx])
      | false =>
        obtain ⟨h1, h2⟩ := ih (fun x hx => hf x (by unfold hseF at hx ⊢; rw [List.find?_cons, hy]; exact hx))
        refine ⟨by simp [h1], fun x hx => ?_⟩
        simp at hx
        rcases hx with rfl | hx
        · exact Or.inl (by simp)
        · exact (h2 x hx).imp (fun h => by simp [h]) id
  obtain ⟨h1, h2⟩ := key P.hs hf
  exact ⟨by show (updH P.hs nm f).length ≤ 6; rw [h1]; exact h.h, fun x hx => (h2 x hx).elim (h.t x) (fun h => h.1), fun x hx => (h2 x hx).elim (h.e x) (fun h => h.2.1), fun x hx => (h2 x hx).elim (h.g x) (fun h => h.2.2.1), h.p, fun x hx => (h2 x hx).elim (h.w x) (fun h => h.2.2.2)⟩

def Fam.idx : Fam → Nat
  | none => 1
  | some false => 2
  | some true => 3

theorem Fam.idx_lt (f : Fam) : Fam.idx f < 4 := by
  match f with
  | none => decide
  | some false => decide
  | some true => decide

/-- One of a house's rows has grown: its header is written. -/
theorem DepStep.pushHouse (hr : DepAt w db D) (hb : Below w.heap.size w w0) {i : Nat} (hi : i < D.hs.length) {nm : ByteArray} (hf : FirstH D.hs nm i) {g : Nat} (hg : D.ho = some ⟨g, 0, none⟩) (f : Fam) (x : Hse) (F : PHse → PHse) (hx : x.pure = F D.hs[i].pure)
    (hother : ∀ f', f' ≠ f → x.row f' = D.hs[i].row f') (hcells : x.cells = D.hs[i].cells.set (Fam.idx f) (.slice (x.row f).ao (x.row f).len (x.row f).cap))
    (hown : RowOk w1 (db + 1) (x.row f)) (hchg : Chg (blockOf (D.hs[i].row f).ao) w0 w1) (hao : ∀ k, blockOf (x.row f).ao k → blockOf (D.hs[i].row f).ao k ∨ w0.heap.size ≤ k)
    (hw : ∀ e ∈ x.eds, e ∈ D.hs[i].eds ∨ (WantOk w0 (db + 1) e ∧ ∀ k, blockOf e.wao k → w.heap.size ≤ k))
    (hl : Lens (D.pure.upd nm F)) (hw' : w' = w1.setCell ⟨g, i * 4 + (Fam.idx f), none⟩ (.slice (x.row f).ao (x.row f).len (x.row f).cap)) : DepStep w w' db D (D.pure.upd nm F) := by
  have hr0 := hr.below hb
  have hq := D.row_at hi f
  have hpure := upd_pure hi hf x F hx
  have hrow := D.row_set_at hi x f
  have hoth := D.row_set_ne hi x f hother
  have hrlt : ∀ k, blockOf (D.hs[i].row f).ao k → k < w.heap.size := fun k hk => (blockOf_lt (hr.rows.row _ _ hq) hk).2
  have hwant : ∀ e, ({ D with hs := D.hs.set i x } : DepD).hasEd e → WantOk w1 (db + 1) e := by
    intro e he
    rcases hasEd_set hi x he with h | h
    · exact hr0.want_chg hq hchg h
    · rcases hw e h with h | ⟨h1, h2⟩
      · exact hr0.want_chg hq hchg (hasEd_old hi h)
      · exact ownsRow_keep h1 (fun k hk => hchg.block k (blockOf_lt h1 hk).2 (fun hk' => by have := hrlt k hk'; have := h2 k hk; omega))
  have hrows := hr0.rows_upd hq hrow hoth hchg hown hao hwant
  have hhead := hr0.head_chg hq hchg
  have hgd := hhead.heap hg
  subst hw'
  refine ⟨{ D with hs := D.hs.set i x }, ⟨hhead.setHouse hi hg x (Fam.idx f) _ (Fam.idx_lt f) hcells, hrows.set (Or.inr hgd.2) _, by rw [hpure]; exact hl⟩, hpure, ?_, ?_⟩
  · refine Chg.setCell ?_ (Or.inl (Or.inr (Or.inl ⟨_, hg, rfl⟩))) _
    exact (Chg.ofBelow hb).trans hchg (fun k hk => Or.inl (Or.inr (Or.inr (Or.inl ⟨_, _, hq, hk⟩))))
  · intro k hk
    rcases hk with rfl | hk | ⟨q, r, hqr, hk⟩ | ⟨e, he, hk⟩
    · exact Or.inl (Or.inl rfl)
    · exact Or.inl (Or.inr (Or.inl hk))
    · by_cases e : q = .of f i
      · subst e
        rw [hrow] at hqr
        injection hqr with hqr
        subst hqr
        exact (hao k hk).elim (fun h => Or.inl (Or.inr (Or.inr (Or.inl ⟨_, _, hq, h⟩)))) (fun h => Or.inr (Nat.le_trans hb.size h))
      · rw [hoth q e] at hqr
        exact Or.inl (Or.inr (Or.inr (Or.inl ⟨q, r, hqr, hk⟩)))
    · rcases hasEd_set hi x he with h | h
      · exact Or.inl (Or.inr (Or.inr (Or.inr ⟨e, h, hk⟩)))
      · rcases hw e h with h | ⟨_, h2⟩
        · exact Or.inl (Or.inr (Or.inr (Or.inr ⟨e, hasEd_old hi h, hk⟩)))
        · exact Or.inr (h2 k hk)

/-- A cell of one of a house's rows was written. -/
theorem DepStep.setRow (hr : DepAt w db D) {i : Nat} (hi : i < D.hs.length) {nm : ByteArray} (hf : FirstH D.hs nm i) (f : Fam) (x : Hse) (F : PHse → PHse) (hx : x.pure = F D.hs[i].pure)
    (hother : ∀ f', f' ≠ f → x.row f' = D.hs[i].row f') (hcells : x.cells = D.hs[i].cells) (hown : RowOk w' (db + 1) (x.row f)) (hchg : Chg (blockOf (D.hs[i].row f).ao) w w') (hao : (x.row f).ao = (D.hs[i].row f).ao)
    (hw : ∀ e ∈ x.eds, ∃ e' ∈ D.hs[i].eds, e.wao = e'.wao ∧ e.wcap = e'.wcap ∧ e.wants = e'.wants) (hl : Lens (D.pure.upd nm F)) : DepStep w w' db D (D.pure.upd nm F) := by
  have hq := D.row_at hi f
  have hpure := upd_pure hi hf x F hx
  have hrow := D.row_set_at hi x f
  have hoth := D.row_set_ne hi x f hother
  have hwant : ∀ e, ({ D with hs := D.hs.set i x } : DepD).hasEd e → WantOk w' (db + 1) e := by
    intro e he
    rcases hasEd_set hi x he with h | h
    · exact hr.want_chg hq hchg h
    · obtain ⟨e', he', q1, q2, q3⟩ := hw e h
      have := hr.want_chg hq hchg (hasEd_old hi he')
      unfold WantOk at this ⊢
      rw [q1, q2, q3]
      exact this
  have hrows := hr.rows_upd hq hrow hoth hchg hown (fun k hk => Or.inl (hao ▸ hk)) hwant
  have hhead := hr.head_chg hq hchg
  have hhead' : DepHead w' db { D with hs := D.hs.set i x } := by
    refine ⟨hhead.c0, hhead.c1, ?_, hhead.c3, hhead.f, ?_⟩
    · simp only [List.length_set]; exact hhead.c2
    · simp only [List.length_set]
      have := flat_same Hse.cells D.hs i x hi hcells
      unfold hsesCells
      rw [this]
      exact hhead.own
  refine ⟨{ D with hs := D.hs.set i x }, ⟨hhead', hrows, by rw [hpure]; exact hl⟩, hpure, hchg.mono (fun k hk => Or.inr (Or.inr (Or.inl ⟨_, _, hq, hk⟩))), ?_⟩
  intro k hk
  rcases hk with rfl | hk | ⟨q, r, hqr, hk⟩ | ⟨e, he, hk⟩
  · exact Or.inl (Or.inl rfl)
  · exact Or.inl (Or.inr (Or.inl hk))
  · by_cases e : q = .of f i
    · subst e
      rw [hrow] at hqr
      injection hqr with hqr
      subst hqr
      exact Or.inl (Or.inr (Or.inr (Or.inl ⟨_, _, hq, hao ▸ hk⟩)))
    · rw [hoth q e] at hqr
      exact Or.inl (Or.inr (Or.inr (Or.inl ⟨q, r, hqr, hk⟩)))
  · rcases hasEd_set hi x he with h | h
    · exact Or.inl (Or.inr (Or.inr (Or.inr ⟨e, h, hk⟩)))
    · obtain ⟨e', he', q1, _⟩ := hw e h
      exact Or.inl (Or.inr (Or.inr (Or.inr ⟨e', hasEd_old hi he', q1 ▸ hk⟩)))

/-- The public has a version more. -/
theorem DepStep.pushPub (hr : DepAt w db D) (hb : Below w.heap.size w w0) (po : Option Addr) (pcap : Nat) (pub : List Ed)
    (hown : w1.ownsRow (db + 1) 133 4 (.slice po pub.length pcap) pub.length (edsCells pub)) (hchg : Chg (blockOf D.po) w0 w1) (hao : ∀ k, blockOf po k → blockOf D.po k ∨ w0.heap.size ≤ k)
    (hw : ∀ e ∈ pub, e ∈ D.pub ∨ (WantOk w0 (db + 1) e ∧ ∀ k, blockOf e.wao k → w.heap.size ≤ k))
    (hl : pub.length ≤ 24) (hw' : w' = w1.setCell ⟨db, 3, none⟩ (.slice po pub.length pcap)) : DepStep w w' db D { D.pure with pub := pub.map Ed.pure } := by
  have hr0 := hr.below hb
  have hq : D.row .pub = some D.pubRow := rfl
  have hoth : ∀ q, q ≠ .pub → ({ D with po := po, pcap := pcap, pub := pub } : DepD).row q = D.row q := by
    intro q hne
    match q, hne with
    | none, hne => exact absurd rfl hne
    | some (f, i), _ => rfl
  have hrlt : ∀ k, blockOf D.po k → k < w.heap.size := fun k hk => (blockOf_lt (hr.rows.row _ _ hq) hk).2
  have hhas : ∀ e, ({ D with po := po, pcap := pcap, pub := pub } : DepD).hasEd e → D.hasEd e ∨ e ∈ pub := by
    intro e he
    rcases he with he | he
    · exact Or.inr he
    · exact Or.inl (Or.inr he)
  have hwant : ∀ e, ({ D with po := po, pcap := pcap, pub := pub } : DepD).hasEd e → WantOk w1 (db + 1) e := by
    intro e he
    rcases hhas e he with h | h
    · exact hr0.want_chg hq hchg h
    · rcases hw e h with h | ⟨h1, h2⟩
      · exact hr0.want_chg hq hchg (Or.inl h)
      · exact ownsRow_keep h1 (fun k hk => hchg.block k (blockOf_lt h1 hk).2 (fun hk' => by have := hrlt k hk'; have := h2 k hk; omega))
  have hrows := hr0.rows_upd (D' := { D with po := po, pcap := pcap, pub := pub }) (r' := ⟨133, 4, po, pcap, pub.length, edsCells pub⟩) hq rfl hoth hchg hown hao hwant
  have hhead := hr0.head_chg hq hchg
  have hlens : Lens ({ D with po := po, pcap := pcap, pub := pub } : DepD).pure := ⟨hr.lens.h, hr.lens.t, hr.lens.e, hr.lens.g, by simpa [DepD.pure] using hl, hr.lens.w⟩
  subst hw'
  refine ⟨{ D with po := po, pcap := pcap, pub := pub }, ⟨hhead.setPub po pcap pub, hrows.set (Or.inl rfl) _, hlens⟩, rfl, ?_, ?_⟩
  · refine Chg.setCell ?_ (Or.inl (Or.inl rfl)) _
    exact (Chg.ofBelow hb).trans hchg (fun k hk => Or.inl (Or.inr (Or.inr (Or.inl ⟨_, _, hq, hk⟩))))
  · intro k hk
    rcases hk with rfl | hk | ⟨q, r, hqr, hk⟩ | ⟨e, he, hk⟩
    · exact Or.inl (Or.inl rfl)
    · exact Or.inl (Or.inr (Or.inl hk))
    · by_cases e : q = .pub
      · subst e
        injection hqr with hqr
        subst hqr
        exact (hao k hk).elim (fun h => Or.inl (Or.inr (Or.inr (Or.inl ⟨_, _, hq, h⟩)))) (fun h => Or.inr (Nat.le_trans hb.size h))
      · rw [hoth q e] at hqr
        exact Or.inl (Or.inr (Or.inr (Or.inl ⟨q, r, hqr, hk⟩)))
    · rcases hhas e he with h | h
      · exact Or.inl (Or.inr (Or.inr (Or.inr ⟨e, h, hk⟩)))
      · rcases hw e h with h | ⟨_, h2⟩
        · exact Or.inl (Or.inr (Or.inr (Or.inr ⟨e, Or.inl h, hk⟩)))
        · exact Or.inr (h2 k hk)

/-- A house more, with nothing in it. -/
theorem DepStep.pushHse (hr : DepAt w db D) (hb : Below w.heap.size w w0) (nm : ByteArray) (hnm : wordF nm = true) (g' cap' : Nat) (h6 : D.hs.length < 6) (hchg : Chg (blockOf D.ho) w0 w1)
    (hown : w1.ownsRow (db + 1) 89 4 (.slice (some ⟨g', 0, none⟩) (D.hs.length + 1) cap') (D.hs.length + 1) (hsesCells D.hs ++ [.string nm, .slice none 0 0, .slice none 0 0, .slice none 0 0]))
    (hao : blockOf D.ho g' ∨ w0.heap.size ≤ g') (hw' : w' = w1.setCell ⟨db, 2, none⟩ (.slice (some ⟨g', 0, none⟩) (D.hs.length + 1) cap')) :
    DepStep w w' db D { D.pure with hs := D.pure.hs ++ [⟨nm, [], [], []⟩] } := by
  have hr0 := hr.below hb
  have far : ∀ {e : TypeId} {s n c m : Nat} {ao : Option Addr} {xs : List Value}, w0.ownsRow (db + 1) e s (.slice ao n c) m xs → e ≠ 89 → ∀ k, blockOf ao k → w1.heap[k]? = w0.heap[k]? := by
    intro e s n c m ao xs ho hne k hk
    exact hchg.block k (blockOf_lt ho hk).2 (fun hk' => blocks_apart ho hr0.head.own hne hk hk')
  have hrows1 : DepRows w1 db D := hr0.rows.keep (fun q r hq k hk => far (hr0.rows.row q r hq) (row_ty hq).1 k hk) (fun e he k hk => far (hr0.rows.want e he) (by decide) k hk)
  have hdb : w1.heap[db]? = w0.heap[db]? := hchg.block db hr0.lt (fun hk => by have := (blockOf_lt hr0.head.own hk).1; omega)
  have hc2 := (World.cell?_of_block (a := ⟨db, 2, none⟩) hdb).trans hr0.head.c2
  let x : Hse := ⟨nm, [], none, 0, [], none, 0, [], none, 0⟩
  let D' : DepD := { D with ho := some ⟨g', 0, none⟩, hcap := cap', hs := D.hs ++ [x] }
  have hrow : ∀ q r, D'.row q = some r → D.row q = some r ∨ (r.ao = none ∧ r.len = 0 ∧ r.cap = 0 ∧ r.cells = []) := by
    intro q r hq
    match q, hq with
    | none, hq => exact Or.inl hq
    | some (f, i), hq =>
      by_cases hlt : i < D.hs.length
      · refine Or.inl ?_
        simp only [DepD.row, D', List.getElem?_append_left hlt] at hq ⊢
        exact hq
      · refine Or.inr ?_
        simp only [DepD.row, D'] at hq
        rw [List.getElem?_append_right (by omega)] at hq
        by_cases h0 : i - D.hs.length = 0
        · rw [h0] at hq
          injection hq with hq
          subst hq
          match f with
          | none => exact ⟨rfl, rfl, rfl, rfl⟩
          | some false => exact ⟨rfl, rfl, rfl, rfl⟩
          | some true => exact ⟨rfl, rfl, rfl, rfl⟩
        · rw [List.getElem?_eq_none (by simp; omega)] at hq
          cases hq
  have hhas : ∀ e, D'.hasEd e → D.hasEd e := by
    intro e he
    rcases he with he | ⟨h, hm, he⟩
    · exact Or.inl he
    · rcases List.mem_append.1 hm with hm | hm
      · exact Or.inr ⟨h, hm, he⟩
      · simp at hm
        subst hm
        cases he
  have hnone : ∀ {k : Nat}, ¬ blockOf none k := fun ⟨a, e, _⟩ => by cases e
  have hrows2 : DepRows w1 db D' := by
    refine ⟨?_, ?_, fun e he => hrows1.want e (hhas e he)⟩
    · intro q r hq
      rcases hrow q r hq with h | ⟨h1, h2, h3, h4⟩
      · exact hrows1.row q r h
      · unfold RowOk
        rw [h1, h2, h3, h4]
        exact World.ownsRow_nil _ _ _ _
    · intro q q' r r' h1 h2 hne k k1 k2
      rcases hrow q r h1 with e1 | ⟨e1, _⟩
      · rcases hrow q' r' h2 with e2 | ⟨e2, _⟩
        · exact hrows1.sep q q' r r' e1 e2 hne k k1 k2
        · rw [e2] at k2; exact hnone k2
      · rw [e1] at k1; exact hnone k1
  have hlens : Lens D'.pure := by
    have h := hr.lens
    have e : D'.pure.hs = D.pure.hs ++ [x.pure] := by simp [D', DepD.pure]
    refine ⟨?_, ?_, ?_, ?_, h.p, ?_⟩
    · rw [e]; simp [DepD.pure]; omega
    · intro y hy; rw [e] at hy; rcases List.mem_append.1 hy with hy | hy; exact h.t y hy; simp at hy; subst hy; simp [x, Hse.pure]
    · intro y hy; rw [e] at hy; rcases List.mem_append.1 hy with hy | hy; exact h.e y hy; simp at hy; subst hy; simp [x, Hse.pure]
    · intro y hy; rw [e] at hy; rcases List.mem_append.1 hy with hy | hy; exact h.g y hy; simp at hy; subst hy; simp [x, Hse.pure]
    · intro y hy; rw [e] at hy; rcases List.mem_append.1 hy with hy | hy; exact h.w y hy; simp at hy; subst hy; simpa [x, Hse.pure] using hnm
  have hhead : DepHead w' db D' := by
    subst hw'
    refine ⟨?_, ?_, ?_, ?_, ?_, ?_⟩
    · rw [cell_setCell_ne (by omega)]; exact (World.cell?_of_block (a := ⟨db, 0, none⟩) hdb).trans hr0.head.c0
    · rw [cell_setCell_ne (by omega)]; exact (World.cell?_of_block (a := ⟨db, 1, none⟩) hdb).trans hr0.head.c1
    · rw [cell_setCell_same hc2]; simp [D']
    · rw [cell_setCell_ne (by omega)]; exact (World.cell?_of_block (a := ⟨db, 3, none⟩) hdb).trans hr0.head.c3
    · intro j; rw [frozen_setCell]; exact (World.frozen?_of_block (a := ⟨db, j, none⟩) hdb).trans (hr0.head.f j)
    · have hd : hsesCells (D.hs ++ [x]) = hsesCells D.hs ++ [.string nm, .slice none 0 0, .slice none 0 0, .slice none 0 0] := by simp [hsesCells, Hse.cells, x]
      show World.ownsRow _ _ _ _ (.slice (some ⟨g', 0, none⟩) (D.hs ++ [x]).length cap') (D.hs ++ [x]).length (hsesCells (D.hs ++ [x]))
      rw [hd, List.length_append, List.length_singleton]
      exact ownsRow_setCell_below hown (Nat.lt_succ_self db) _
  refine ⟨D', ⟨hhead, ?_, hlens⟩, by simp [D', DepD.pure, x, Hse.pure], ?_, ?_⟩
  · subst hw'; exact hrows2.set (Or.inl rfl) _
  · subst hw'
    refine Chg.setCell ?_ (Or.inl (Or.inl rfl)) _
    exact (Chg.ofBelow hb).trans hchg (fun k hk => Or.inl (Or.inr (Or.inl hk)))
  · intro k hk
    rcases hk with rfl | ⟨a, e, rfl⟩ | ⟨q, r, hqr, hk⟩ | ⟨e, he, hk⟩
    · exact Or.inl (Or.inl rfl)
    · injection e with e
      subst e
      exact hao.elim (fun h => Or.inl (Or.inr (Or.inl h))) (fun h => Or.inr (Nat.le_trans hb.size h))
    · rcases hrow q r hqr with h | ⟨h, _⟩
      · exact Or.inl (Or.inr (Or.inr (Or.inl ⟨q, r, h, hk⟩)))
      · rw [h] at hk; exact absurd hk hnone
    · exact Or.inl (Or.inr (Or.inr (Or.inr ⟨e, hhas e he, hk⟩)))

end

end Go.Proofs.YtjgegpiodcaodaaGreatDoor
