/-
  What a call leaves of the program's depot.
-/
import Derived.Test.YtgcldedkempjhabGreatDoorDep
namespace Go.Proofs.YtgcldedkempjhabGreatDoor
open Go.RowKit

/-- What a call leaves: a depot that holds P', in blocks that were its own or are new; and it has written nowhere else. -/
def DepStep (w w' : World) (db : Nat) (D : DepD) (P' : PDep) : Prop :=
  ∃ D', DepAt w' db D' ∧ D'.pure = P' ∧ Chg (DepFoot db D) w w' ∧ ∀ k, DepFoot db D' k → DepFoot db D k ∨ w.heap.size ≤ k

section
variable {w w0 w1 w' : World} {db : Nat} {D : DepD} {P' : PDep}

/-- The same, with where it lies behind the call. -/
structure DepTo (w w' : World) (db : Nat) (D D' : DepD) : Prop where
  dep : DepAt w' db D'
  chg : Chg (DepFoot db D) w w'
  foot : ∀ k, DepFoot db D' k → DepFoot db D k ∨ w.heap.size ≤ k

theorem TabOk.chg {S : Nat → Prop} (h : TabOk w) (hc : Chg S w w') (hS : ∀ k, S k → tabB < k) : TabOk w' :=
  h.keep (hc.block _ h.lt (fun hs => absurd (hS _ hs) (Nat.lt_irrefl _)))

theorem DepTo.mk' {D' : DepD} (hr : DepAt w db D) (hh : DepHead w' db D') (hrows : DepRows w' db D') (hl : Lens D'.pure) (hc : Chg (DepFoot db D) w w') (hf : ∀ k, DepFoot db D' k → DepFoot db D k ∨ w.heap.size ≤ k) : DepTo w w' db D D' :=
  ⟨⟨hh, hrows, hl, hr.tab.chg hc (fun _ hk => Nat.lt_of_lt_of_le hr.tlt (hr.foot hk).1), hr.tlt⟩, hc, hf⟩

theorem DepTo.step {D' : DepD} (h : DepTo w w' db D D') (hp : D'.pure = P') : DepStep w w' db D P' := ⟨D', h.dep, hp, h.chg, h.foot⟩

theorem DepTo.trans {D1 : DepD} (h : DepTo w w1 db D D1) (k : DepStep w1 w' db D1 P') : DepStep w w' db D P' := by
  obtain ⟨D2, k1, k2, k3, k4⟩ := k
  exact ⟨D2, k1, k2, h.chg.trans k3 h.foot, fun j hj => (k4 j hj).elim (h.foot j) (fun hge => Or.inr (Nat.le_trans h.chg.size hge))⟩

theorem DepTo.behind {D1 : DepD} (hb : Below w.heap.size w w1) (h : DepTo w1 w' db D D1) : DepTo w w' db D D1 :=
  ⟨h.dep, (Chg.ofBelow hb).trans h.chg (fun _ h => Or.inl h), fun k hk => (h.foot k hk).elim Or.inl (fun h => Or.inr (Nat.le_trans hb.size h))⟩

theorem DepStep.ofBelow (hr : DepAt w db D) (hb : Below w.heap.size w w') : DepStep w w' db D D.pure :=
  ⟨D, hr.below hb, rfl, Chg.ofBelow hb, fun _ h => Or.inl h⟩

theorem DepStep.behind (hb : Below w.heap.size w w1) (h : DepStep w1 w' db D P') : DepStep w w' db D P' := by
  obtain ⟨D', h1, h0, h2, h3⟩ := h
  exact ⟨D', h1, h0, (Chg.ofBelow hb).trans h2 (fun _ h => Or.inl h), fun k hk => (h3 k hk).elim Or.inl (fun h => Or.inr (Nat.le_trans hb.size h))⟩

/-- The first house of a name, changed. -/
def updH : List PHse → ByteArray → (PHse → PHse) → List PHse
  | [], _, _ => []
  | h :: t, nm, f => if (h.name.toList == nm.toList) = true then f h :: t else h :: updH t nm f

theorem updH_set (hs : List Hse) (nm : ByteArray) (i : Nat) (hi : i < hs.length) (hf : FirstH hs nm i) (x : Hse) (f : PHse → PHse) (hx : x.pure = f hs[i].pure) : (hs.set i x).map Hse.pure = updH (hs.map Hse.pure) nm f := by
  induction hs generalizing i with
  | nil => simp at hi
  | cons y hs ih =>
    obtain ⟨_, h1, h2⟩ := hf
    cases i with
    | zero =>
      have h1' : (y.pure.name.toList == nm.toList) = true := h1
      have hx' : x.pure = f y.pure := hx
      rw [List.set_cons_zero, List.map_cons, List.map_cons, updH, if_pos h1', hx']
    | succ i =>
      have h0 : (y.pure.name.toList == nm.toList) = false := h2 0 (by simp) (by omega)
      have hi' : i < hs.length := by simpa using hi
      have := ih i hi' ⟨hi', by simpa using h1, fun j hj hlt => h2 (j + 1) (Nat.succ_lt_succ hj) (by omega)⟩ (by simpa using hx)
      rw [List.set_cons_succ, List.map_cons, List.map_cons, updH, if_neg (by rw [h0]; decide), this]

def PDep.upd (P : PDep) (nm : ByteArray) (f : PHse → PHse) : PDep := { P with hs := updH P.hs nm f }

theorem upd_pure {i : Nat} (hi : i < D.hs.length) {nm : ByteArray} (hf : FirstH D.hs nm i) (x : Hse) (f : PHse → PHse) (hx : x.pure = f D.hs[i].pure) : ({ D with hs := D.hs.set i x } : DepD).pure = D.pure.upd nm f := by
  unfold DepD.pure PDep.upd
  simp only
  rw [updH_set D.hs nm i hi hf x f hx]

/-- Rooms, of one house changed. -/
theorem Lens.upd {P : PDep} (h : Lens P) (nm : ByteArray) (f : PHse → PHse) (hf : ∀ x, hseF P.hs nm = some x → (f x).toks.length ≤ 8 ∧ (f x).eds.length ≤ 12 ∧ (f x).grs.length ≤ 6 ∧ wordF (f x).name = true ∧ (f x).log.length ≤ 120 * ((f x).lines + P.yanks) ∧ ∀ e ∈ (f x).eds, WsOk e.wants) : Lens (P.upd nm f) := by
  have key : ∀ hs : List PHse, (∀ x, hseF hs nm = some x → (f x).toks.length ≤ 8 ∧ (f x).eds.length ≤ 12 ∧ (f x).grs.length ≤ 6 ∧ wordF (f x).name = true ∧ (f x).log.length ≤ 120 * ((f x).lines + P.yanks) ∧ ∀ e ∈ (f x).eds, WsOk e.wants) → (updH hs nm f).length = hs.length ∧ ∀ x ∈ updH hs nm f, x ∈ hs ∨ (x.toks.length ≤ 8 ∧ x.eds.length ≤ 12 ∧ x.grs.length ≤ 6 ∧ wordF x.name = true ∧ x.log.length ≤ 120 * (x.lines + P.yanks) ∧ ∀ e ∈ x.eds, WsOk e.wants) := by
    intro hs
    induction hs with
    | nil => intro _; exact ⟨rfl, fun x hx => by simp [updH] at hx⟩
    | cons y hs ih =>
      intro hf
      unfold updH
      cases hy : (y.name.toList == nm.toList) with
      | true =>
        refine ⟨by simp, fun x hx => ?_⟩
        simp at hx
        rcases hx with rfl | hx
        · exact Or.inr (hf y (by simp only [hseF, List.find?_cons, hy]))
        · exact Or.inl (by simp [hx])
      | false =>
        obtain ⟨h1, h2⟩ := ih (fun x hx => hf x (by unfold hseF at hx ⊢; rw [List.find?_cons, hy]; exact hx))
        refine ⟨by simp [h1], fun x hx => ?_⟩
        simp at hx
        rcases hx with rfl | hx
        · exact Or.inl (by simp)
        · exact (h2 x hx).imp (fun h => by simp [h]) id
  obtain ⟨h1, h2⟩ := key P.hs hf
  exact ⟨by show (updH P.hs nm f).length ≤ 6; rw [h1]; exact h.h, fun x hx => (h2 x hx).elim (h.t x) (fun h => h.1), fun x hx => (h2 x hx).elim (h.e x) (fun h => h.2.1), fun x hx => (h2 x hx).elim (h.g x) (fun h => h.2.2.1), h.p, fun x hx => (h2 x hx).elim (h.w x) (fun h => h.2.2.2.1), fun x hx => (h2 x hx).elim (h.l x) (fun h => h.2.2.2.2.1), h.y, fun x hx => (h2 x hx).elim (h.q x) (fun h => h.2.2.2.2.2), h.r⟩

def Fam.idx : Fam → Nat
  | none => 1
  | some (some false) => 2
  | some (some true) => 3
  | some none => 4

theorem Fam.idx_lt (f : Fam) : Fam.idx f < 5 := by
  match f with
  | none => decide
  | some (some false) => decide
  | some (some true) => decide
  | some none => decide

/-- One of a house's rows has grown: its header is written. -/
theorem DepTo.pushHouse (hr : DepAt w db D) (hb : Below w.heap.size w w0) {i : Nat} (hi : i < D.hs.length) {nm : ByteArray} (hf : FirstH D.hs nm i) {g : Nat} (hg : D.ho = some ⟨g, 0, none⟩) (f : Fam) (x : Hse) (F : PHse → PHse) (hx : x.pure = F D.hs[i].pure)
    (hother : ∀ f', f' ≠ f → x.row f' = D.hs[i].row f') (hcells : x.cells = D.hs[i].cells.set (Fam.idx f) (.slice (x.row f).ao (x.row f).len (x.row f).cap))
    (hown : RowOk w1 (db + 1) (x.row f)) (hchg : Chg (blockOf (D.hs[i].row f).ao) w0 w1) (hao : ∀ k, blockOf (x.row f).ao k → blockOf (D.hs[i].row f).ao k ∨ w0.heap.size ≤ k)
    (hw : ∀ e ∈ x.eds, e ∈ D.hs[i].eds ∨ (WantOk w0 (db + 1) e ∧ ∀ k, blockOf e.wao k → w.heap.size ≤ k))
    (hl : Lens (D.pure.upd nm F)) (hw' : w' = w1.setCell ⟨g, i * 5 + (Fam.idx f), none⟩ (.slice (x.row f).ao (x.row f).len (x.row f).cap)) : DepTo w w' db D { D with hs := D.hs.set i x } ∧ ({ D with hs := D.hs.set i x } : DepD).pure = D.pure.upd nm F := by
  have hr0 := hr.below hb
  have hq := D.row_at hi f
  have hpure := upd_pure hi hf x F hx
  have hrow := D.row_set_at hi x f
  have hoth := D.row_set_ne hi x f hother
  have hrlt : ∀ k, blockOf (D.hs[i].row f).ao k → k < w.heap.size := fun k hk => (blockOf_lt (hr.rows.row _ _ hq) hk).2
  have hwant : ∀ e, ({ D with hs := D.hs.set i x } : DepD).hasEd e → WantOk w1 (db + 1) e := by
    intro e he
    rcases hasEd_set hi x he with h | h
    · exact hr0.want_chg hq hchg h
    · rcases hw e h with h | ⟨h1, h2⟩
      · exact hr0.want_chg hq hchg (hasEd_old hi h)
      · exact ownsRow_keep h1 (fun k hk => hchg.block k (blockOf_lt h1 hk).2 (fun hk' => by have := hrlt k hk'; have := h2 k hk; omega))
  have hrows := hr0.rows_upd hq hrow hoth hchg hown hao hwant
  have hhead := hr0.head_chg hq hchg
  have hgd := hhead.heap hg
  subst hw'
  refine ⟨DepTo.mk' hr (hhead.setHouse hi hg x (Fam.idx f) _ (Fam.idx_lt f) hcells) (hrows.set (Or.inr hgd.2) _) (by rw [hpure]; exact hl) ?_ ?_, hpure⟩
  · refine Chg.setCell ?_ (Or.inl (Or.inr (Or.inl ⟨_, hg, rfl⟩))) _
    exact (Chg.ofBelow hb).trans hchg (fun k hk => Or.inl (Or.inr (Or.inr (Or.inl ⟨_, _, hq, hk⟩))))
  · intro k hk
    rcases hk with rfl | hk | ⟨q, r, hqr, hk⟩ | ⟨e, he, hk⟩
    · exact Or.inl (Or.inl rfl)
    · exact Or.inl (Or.inr (Or.inl hk))
    · by_cases e : q = .of f i
      · subst e
        rw [hrow] at hqr
        injection hqr with hqr
        subst hqr
        exact (hao k hk).elim (fun h => Or.inl (Or.inr (Or.inr (Or.inl ⟨_, _, hq, h⟩)))) (fun h => Or.inr (Nat.le_trans hb.size h))
      · rw [hoth q e] at hqr
        exact Or.inl (Or.inr (Or.inr (Or.inl ⟨q, r, hqr, hk⟩)))
    · rcases hasEd_set hi x he with h | h
      · exact Or.inl (Or.inr (Or.inr (Or.inr ⟨e, h, hk⟩)))
      · rcases hw e h with h | ⟨_, h2⟩
        · exact Or.inl (Or.inr (Or.inr (Or.inr ⟨e, hasEd_old hi h, hk⟩)))
        · exact Or.inr (h2 k hk)

/-- A cell of one of a house's rows was written. -/
theorem DepTo.setRow (hr : DepAt w db D) {i : Nat} (hi : i < D.hs.length) {nm : ByteArray} (hf : FirstH D.hs nm i) (f : Fam) (x : Hse) (F : PHse → PHse) (hx : x.pure = F D.hs[i].pure)
    (hother : ∀ f', f' ≠ f → x.row f' = D.hs[i].row f') (hcells : x.cells = D.hs[i].cells) (hown : RowOk w' (db + 1) (x.row f)) (hchg : Chg (blockOf (D.hs[i].row f).ao) w w') (hao : (x.row f).ao = (D.hs[i].row f).ao)
    (hw : ∀ e ∈ x.eds, ∃ e' ∈ D.hs[i].eds, e.wao = e'.wao ∧ e.wcap = e'.wcap ∧ e.wants = e'.wants) (hl : Lens (D.pure.upd nm F)) : DepTo w w' db D { D with hs := D.hs.set i x } ∧ ({ D with hs := D.hs.set i x } : DepD).pure = D.pure.upd nm F := by
  have hq := D.row_at hi f
  have hpure := upd_pure hi hf x F hx
  have hrow := D.row_set_at hi x f
  have hoth := D.row_set_ne hi x f hother
  have hwant : ∀ e, ({ D with hs := D.hs.set i x } : DepD).hasEd e → WantOk w' (db + 1) e := by
    intro e he
    rcases hasEd_set hi x he with h | h
    · exact hr.want_chg hq hchg h
    · obtain ⟨e', he', q1, q2, q3⟩ := hw e h
      have := hr.want_chg hq hchg (hasEd_old hi he')
      unfold WantOk at this ⊢
      rw [q1, q2, q3]
      exact this
  have hrows := hr.rows_upd hq hrow hoth hchg hown (fun k hk => Or.inl (hao ▸ hk)) hwant
  have hhead := hr.head_chg hq hchg
  have hhead' : DepHead w' db { D with hs := D.hs.set i x } := by
    refine ⟨hhead.c0, hhead.c1, ?_, hhead.c3, hhead.f, ?_⟩
    · simp only [List.length_set]; exact hhead.c2
    · simp only [List.length_set]
      have := flat_same Hse.cells D.hs i x hi hcells
      unfold hsesCells
      rw [this]
      exact hhead.own
  refine ⟨DepTo.mk' hr hhead' hrows (by rw [hpure]; exact hl) (hchg.mono (fun k hk => Or.inr (Or.inr (Or.inl ⟨_, _, hq, hk⟩)))) ?_, hpure⟩
  intro k hk
  rcases hk with rfl | hk | ⟨q, r, hqr, hk⟩ | ⟨e, he, hk⟩
  · exact Or.inl (Or.inl rfl)
  · exact Or.inl (Or.inr (Or.inl hk))
  · by_cases e : q = .of f i
    · subst e
      rw [hrow] at hqr
      injection hqr with hqr
      subst hqr
      exact Or.inl (Or.inr (Or.inr (Or.inl ⟨_, _, hq, hao ▸ hk⟩)))
    · rw [hoth q e] at hqr
      exact Or.inl (Or.inr (Or.inr (Or.inl ⟨q, r, hqr, hk⟩)))
  · rcases hasEd_set hi x he with h | h
    · exact Or.inl (Or.inr (Or.inr (Or.inr ⟨e, h, hk⟩)))
    · obtain ⟨e', he', q1, _⟩ := hw e h
      exact Or.inl (Or.inr (Or.inr (Or.inr ⟨e', hasEd_old hi he', q1 ▸ hk⟩)))

/-- The public has a version more. -/
theorem DepStep.pushPub (hr : DepAt w db D) (hb : Below w.heap.size w w0) (po : Option Addr) (pcap : Nat) (pub : List Ed)
    (hown : w1.ownsRow (db + 1) 143 4 (.slice po pub.length pcap) pub.length (edsCells pub)) (hchg : Chg (blockOf D.po) w0 w1) (hao : ∀ k, blockOf po k → blockOf D.po k ∨ w0.heap.size ≤ k)
    (hw : ∀ e ∈ pub, e ∈ D.pub ∨ (WantOk w0 (db + 1) e ∧ ∀ k, blockOf e.wao k → w.heap.size ≤ k))
    (hl : pub.length ≤ 24) (hq6 : ∀ e ∈ pub, WsOk e.wants) (hw' : w' = w1.setCell ⟨db, 3, none⟩ (.slice po pub.length pcap)) : DepStep w w' db D { D.pure with pub := pub.map Ed.pure } := by
  have hr0 := hr.below hb
  have hq : D.row .pub = some D.pubRow := rfl
  have hoth : ∀ q, q ≠ .pub → ({ D with po := po, pcap := pcap, pub := pub } : DepD).row q = D.row q := by
    intro q hne
    match q, hne with
    | none, hne => exact absurd rfl hne
    | some (f, i), _ => rfl
  have hrlt : ∀ k, blockOf D.po k → k < w.heap.size := fun k hk => (blockOf_lt (hr.rows.row _ _ hq) hk).2
  have hhas : ∀ e, ({ D with po := po, pcap := pcap, pub := pub } : DepD).hasEd e → D.hasEd e ∨ e ∈ pub := by
    intro e he
    rcases he with he | he
    · exact Or.inr he
    · exact Or.inl (Or.inr he)
  have hwant : ∀ e, ({ D with po := po, pcap := pcap, pub := pub } : DepD).hasEd e → WantOk w1 (db + 1) e := by
    intro e he
    rcases hhas e he with h | h
    · exact hr0.want_chg hq hchg h
    · rcases hw e h with h | ⟨h1, h2⟩
      · exact hr0.want_chg hq hchg (Or.inl h)
      · exact ownsRow_keep h1 (fun k hk => hchg.block k (blockOf_lt h1 hk).2 (fun hk' => by have := hrlt k hk'; have := h2 k hk; omega))
  have hrows := hr0.rows_upd (D' := { D with po := po, pcap := pcap, pub := pub }) (r' := ⟨143, 4, po, pcap, pub.length, edsCells pub⟩) hq rfl hoth hchg hown hao hwant
  have hhead := hr0.head_chg hq hchg
  have hlens : Lens ({ D with po := po, pcap := pcap, pub := pub } : DepD).pure := ⟨hr.lens.h, hr.lens.t, hr.lens.e, hr.lens.g, by simpa [DepD.pure] using hl, hr.lens.w, hr.lens.l, hr.lens.y, hr.lens.q, fun e he => by
    obtain ⟨x, hx, rfl⟩ := List.mem_map.1 he
    exact hq6 x hx⟩
  subst hw'
  refine (DepTo.mk' (D' := { D with po := po, pcap := pcap, pub := pub }) hr (hhead.setPub po pcap pub) (hrows.set (Or.inl rfl) _) hlens ?_ ?_).step rfl
  · refine Chg.setCell ?_ (Or.inl (Or.inl rfl)) _
    exact (Chg.ofBelow hb).trans hchg (fun k hk => Or.inl (Or.inr (Or.inr (Or.inl ⟨_, _, hq, hk⟩))))
  · intro k hk
    rcases hk with rfl | hk | ⟨q, r, hqr, hk⟩ | ⟨e, he, hk⟩
    · exact Or.inl (Or.inl rfl)
    · exact Or.inl (Or.inr (Or.inl hk))
    · by_cases e : q = .pub
      · subst e
        injection hqr with hqr
        subst hqr
        exact (hao k hk).elim (fun h => Or.inl (Or.inr (Or.inr (Or.inl ⟨_, _, hq, h⟩)))) (fun h => Or.inr (Nat.le_trans hb.size h))
      · rw [hoth q e] at hqr
        exact Or.inl (Or.inr (Or.inr (Or.inl ⟨q, r, hqr, hk⟩)))
    · rcases hhas e he with h | h
      · exact Or.inl (Or.inr (Or.inr (Or.inr ⟨e, h, hk⟩)))
      · rcases hw e h with h | ⟨_, h2⟩
        · exact Or.inl (Or.inr (Or.inr (Or.inr ⟨e, Or.inl h, hk⟩)))
        · exact Or.inr (h2 k hk)

/-- A house more, with nothing in it. -/
theorem DepStep.pushHse (hr : DepAt w db D) (hb : Below w.heap.size w w0) (nm : ByteArray) (hnm : wordF nm = true) (g' cap' : Nat) (h6 : D.hs.length < 6) (hchg : Chg (blockOf D.ho) w0 w1)
    (hown : w1.ownsRow (db + 1) 91 5 (.slice (some ⟨g', 0, none⟩) (D.hs.length + 1) cap') (D.hs.length + 1) (hsesCells D.hs ++ [.string nm, .slice none 0 0, .slice none 0 0, .slice none 0 0, .slice none 0 0]))
    (hao : blockOf D.ho g' ∨ w0.heap.size ≤ g') (hw' : w' = w1.setCell ⟨db, 2, none⟩ (.slice (some ⟨g', 0, none⟩) (D.hs.length + 1) cap')) :
    DepStep w w' db D { D.pure with hs := D.pure.hs ++ [⟨nm, [], [], [], []⟩] } := by
  have hr0 := hr.below hb
  have far : ∀ {e : TypeId} {s n c m : Nat} {ao : Option Addr} {xs : List Value}, w0.ownsRow (db + 1) e s (.slice ao n c) m xs → e ≠ 91 → ∀ k, blockOf ao k → w1.heap[k]? = w0.heap[k]? := by
    intro e s n c m ao xs ho hne k hk
    exact hchg.block k (blockOf_lt ho hk).2 (fun hk' => blocks_apart ho hr0.head.own hne hk hk')
  have hrows1 : DepRows w1 db D := hr0.rows.keep (fun q r hq k hk => far (hr0.rows.row q r hq) (row_ty hq).1 k hk) (fun e he k hk => far (hr0.rows.want e he) (by decide) k hk)
  have hdb : w1.heap[db]? = w0.heap[db]? := hchg.block db hr0.lt (fun hk => by have := (blockOf_lt hr0.head.own hk).1; omega)
  have hc2 := (World.cell?_of_block (a := ⟨db, 2, none⟩) hdb).trans hr0.head.c2
  let x : Hse := ⟨nm, [], none, 0, [], none, 0, [], none, 0, [], none, 0⟩
  let D' : DepD := { D with ho := some ⟨g', 0, none⟩, hcap := cap', hs := D.hs ++ [x] }
  have hrow : ∀ q r, D'.row q = some r → D.row q = some r ∨ (r.ao = none ∧ r.len = 0 ∧ r.cap = 0 ∧ r.cells = []) := by
    intro q r hq
    match q, hq with
    | none, hq => exact Or.inl hq
    | some (f, i), hq =>
      by_cases hlt : i < D.hs.length
      · refine Or.inl ?_
        simp only [DepD.row, D', List.getElem?_append_left hlt] at hq ⊢
        exact hq
      · refine Or.inr ?_
        simp only [DepD.row, D'] at hq
        rw [List.getElem?_append_right (by omega)] at hq
        by_cases h0 : i - D.hs.length = 0
        · rw [h0] at hq
          injection hq with hq
          subst hq
          match f with
          | none => exact ⟨rfl, rfl, rfl, rfl⟩
          | some (some false) => exact ⟨rfl, rfl, rfl, rfl⟩
          | some (some true) => exact ⟨rfl, rfl, rfl, rfl⟩
          | some none => exact ⟨rfl, rfl, rfl, rfl⟩
        · rw [List.getElem?_eq_none (by simp; omega)] at hq
          cases hq
  have hhas : ∀ e, D'.hasEd e → D.hasEd e := by
    intro e he
    rcases he with he | ⟨h, hm, he⟩
    · exact Or.inl he
    · rcases List.mem_append.1 hm with hm | hm
      · exact Or.inr ⟨h, hm, he⟩
      · simp at hm
        subst hm
        cases he
  have hnone : ∀ {k : Nat}, ¬ blockOf none k := fun ⟨a, e, _⟩ => by cases e
  have hrows2 : DepRows w1 db D' := by
    refine ⟨?_, ?_, fun e he => hrows1.want e (hhas e he)⟩
    · intro q r hq
      rcases hrow q r hq with h | ⟨h1, h2, h3, h4⟩
      · exact hrows1.row q r h
      · unfold RowOk
        rw [h1, h2, h3, h4]
        exact World.ownsRow_nil _ _ _ _
    · intro q q' r r' h1 h2 hne k k1 k2
      rcases hrow q r h1 with e1 | ⟨e1, _⟩
      · rcases hrow q' r' h2 with e2 | ⟨e2, _⟩
        · exact hrows1.sep q q' r r' e1 e2 hne k k1 k2
        · rw [e2] at k2; exact hnone k2
      · rw [e1] at k1; exact hnone k1
  have hlens : Lens D'.pure := by
    have h := hr.lens
    have e : D'.pure.hs = D.pure.hs ++ [x.pure] := by simp [D', DepD.pure]
    refine ⟨?_, ?_, ?_, ?_, h.p, ?_, ?_, h.y, ?_, h.r⟩
    · rw [e]; simp [DepD.pure]; omega
    · intro y hy; rw [e] at hy; rcases List.mem_append.1 hy with hy | hy; exact h.t y hy; simp at hy; subst hy; simp [x, Hse.pure]
    · intro y hy; rw [e] at hy; rcases List.mem_append.1 hy with hy | hy; exact h.e y hy; simp at hy; subst hy; simp [x, Hse.pure]
    · intro y hy; rw [e] at hy; rcases List.mem_append.1 hy with hy | hy; exact h.g y hy; simp at hy; subst hy; simp [x, Hse.pure]
    · intro y hy; rw [e] at hy; rcases List.mem_append.1 hy with hy | hy; exact h.w y hy; simp at hy; subst hy; simpa [x, Hse.pure] using hnm
    · intro y hy; rw [e] at hy; rcases List.mem_append.1 hy with hy | hy; exact h.l y hy; simp at hy; subst hy; simp [x, Hse.pure]
    · intro y hy; rw [e] at hy; rcases List.mem_append.1 hy with hy | hy; exact h.q y hy; simp at hy; subst hy; simp [x, Hse.pure]
  have hhead : DepHead w' db D' := by
    subst hw'
    refine ⟨?_, ?_, ?_, ?_, ?_, ?_⟩
    · rw [cell_setCell_ne (by omega)]; exact (World.cell?_of_block (a := ⟨db, 0, none⟩) hdb).trans hr0.head.c0
    · rw [cell_setCell_ne (by omega)]; exact (World.cell?_of_block (a := ⟨db, 1, none⟩) hdb).trans hr0.head.c1
    · rw [cell_setCell_same hc2]; simp [D']
    · rw [cell_setCell_ne (by omega)]; exact (World.cell?_of_block (a := ⟨db, 3, none⟩) hdb).trans hr0.head.c3
    · intro j; rw [frozen_setCell]; exact (World.frozen?_of_block (a := ⟨db, j, none⟩) hdb).trans (hr0.head.f j)
    · have hd : hsesCells (D.hs ++ [x]) = hsesCells D.hs ++ [.string nm, .slice none 0 0, .slice none 0 0, .slice none 0 0, .slice none 0 0] := by simp [hsesCells, Hse.cells, x]
      show World.ownsRow _ _ _ _ (.slice (some ⟨g', 0, none⟩) (D.hs ++ [x]).length cap') (D.hs ++ [x]).length (hsesCells (D.hs ++ [x]))
      rw [hd, List.length_append, List.length_singleton]
      exact ownsRow_setCell_below hown (Nat.lt_succ_self db) _
  refine (DepTo.mk' (D' := D') hr hhead ?_ hlens ?_ ?_).step (by simp [D', DepD.pure, x, Hse.pure])
  · subst hw'; exact hrows2.set (Or.inl rfl) _
  · subst hw'
    refine Chg.setCell ?_ (Or.inl (Or.inl rfl)) _
    exact (Chg.ofBelow hb).trans hchg (fun k hk => Or.inl (Or.inr (Or.inl hk)))
  · intro k hk
    rcases hk with rfl | ⟨a, e, rfl⟩ | ⟨q, r, hqr, hk⟩ | ⟨e, he, hk⟩
    · exact Or.inl (Or.inl rfl)
    · injection e with e
      subst e
      exact hao.elim (fun h => Or.inl (Or.inr (Or.inl h))) (fun h => Or.inr (Nat.le_trans hb.size h))
    · rcases hrow q r hqr with h | ⟨h, _⟩
      · exact Or.inl (Or.inr (Or.inr (Or.inl ⟨q, r, h, hk⟩)))
      · rw [h] at hk; exact absurd hk hnone
    · exact Or.inl (Or.inr (Or.inr (Or.inr ⟨e, hhas e he, hk⟩)))

/-- Bytes were laid behind a house's log. -/
theorem DepTo.pushLog (hr : DepAt w db D) {i : Nat} (hi : i < D.hs.length) {nm : ByteArray} (hf : FirstH D.hs nm i) {g : Nat} (hg : D.ho = some ⟨g, 0, none⟩) (news : List UInt8)
    (hp : JPush w w' (db + 1) g (i * 5 + 4) D.hs[i].lao D.hs[i].log news) (hl : Lens (D.pure.upd nm fun h => { h with log := h.log ++ news })) :
    DepStep w w' db D (D.pure.upd nm fun h => { h with log := h.log ++ news }) := by
  obtain ⟨ao', cap', hj, hc, hao⟩ := hp
  have hq := D.row_at hi .log
  let x : Hse := { D.hs[i] with log := D.hs[i].log ++ news, lao := ao', lcap := cap' }
  have hpure := upd_pure hi hf x (fun h => { h with log := h.log ++ news }) rfl
  have hrow := D.row_set_at hi x .log
  have hother : ∀ f', f' ≠ Fam.log → x.row f' = D.hs[i].row f' := by
    intro f' hne
    match f', hne with
    | none, _ => rfl
    | some (some false), _ => rfl
    | some (some true), _ => rfl
    | some none, hne => exact absurd rfl hne
  have hoth := D.row_set_ne hi x .log hother
  have hgd := hr.head.heap hg
  have hrow0 : ∀ k, blockOf D.hs[i].lao k → db < k ∧ k < w.heap.size ∧ k ≠ g := fun k hk => by
    have h1 := blockOf_lt (hr.rows.row _ _ hq) hk
    refine ⟨h1.1, h1.2, fun e => ?_⟩
    exact (hr.row_apart hq hk).2.1 ⟨_, hg, by rw [e]⟩
  have hsz : (w.setCell ⟨g, i * 5 + 4, none⟩ (.slice ao' (D.hs[i].log ++ news).length cap')).heap.size = w.heap.size := by simp [World.setCell]
  have hrows0 := hr.rows.set (a := ⟨g, i * 5 + 4, none⟩) (Or.inr hgd.2) (.slice ao' (D.hs[i].log ++ news).length cap')
  have hwant : ∀ e, ({ D with hs := D.hs.set i x } : DepD).hasEd e → WantOk w' (db + 1) e := by
    intro e he
    have he' : D.hasEd e := (hasEd_set hi x he).elim id (fun h => hasEd_old hi h)
    exact ownsRow_keep (hrows0.want e he') (fun k hk => hc.block k (blockOf_lt (hrows0.want e he') hk).2 (fun hb => (hr.row_apart hq hb).2.2 e he' hk))
  have hrows := hrows0.upd hq hrow hoth hc (show RowOk w' (db + 1) (x.row .log) from hj.own) (fun k hk => by rw [hsz]; exact hao k hk) hwant
  have hhead0 := hr.head.setHouse hi hg x 4 (.slice ao' (D.hs[i].log ++ news).length cap') (by decide) rfl
  have hhead := hhead0.keep (hc.block db (by rw [hsz]; exact hr.lt) (fun hk => by have := hrow0 db hk; omega))
    (fun k hk => hc.block k (by rw [hsz]; exact (blockOf_lt hr.head.own hk).2) (fun hb => (hr.row_apart hq hb).2.1 hk))
  have hchg : Chg (DepFoot db D) w w' := ((Chg.refl _ w).setCell (p := ⟨g, i * 5 + 4, none⟩) (Or.inl (Or.inr (Or.inl ⟨_, hg, rfl⟩))) _).trans hc (fun k hk => Or.inl (Or.inr (Or.inr (Or.inl ⟨_, _, hq, hk⟩))))
  refine (DepTo.mk' (D' := { D with hs := D.hs.set i x }) hr hhead hrows (by rw [hpure]; exact hl) hchg ?_).step hpure
  intro k hk
  rcases hk with rfl | hk | ⟨q, r, hqr, hk⟩ | ⟨e, he, hk⟩
  · exact Or.inl (Or.inl rfl)
  · exact Or.inl (Or.inr (Or.inl hk))
  · by_cases e : q = .of .log i
    · subst e
      rw [hrow] at hqr
      injection hqr with hqr
      subst hqr
      exact (hao k hk).elim (fun h => Or.inl (Or.inr (Or.inr (Or.inl ⟨_, _, hq, h⟩)))) Or.inr
    · rw [hoth q e] at hqr
      exact Or.inl (Or.inr (Or.inr (Or.inl ⟨q, r, hqr, hk⟩)))
  · exact Or.inl (Or.inr (Or.inr (Or.inr ⟨e, (hasEd_set hi x he).elim id (fun h => hasEd_old hi h), hk⟩)))

/-- One more that was taken back or let count again. -/
theorem DepTo.yanked (hr : DepAt w db D) (hy : D.yanks < 200000000000) : DepTo w w db D { D with yanks := D.yanks + 1 } := by
  refine DepTo.mk' hr ⟨hr.head.c0, hr.head.c1, hr.head.c2, hr.head.c3, hr.head.f, hr.head.own⟩ ⟨hr.rows.row, hr.rows.sep, hr.rows.want⟩ ?_ (Chg.refl _ _) (fun k hk => Or.inl hk)
  refine ⟨hr.lens.h, hr.lens.t, hr.lens.e, hr.lens.g, hr.lens.p, hr.lens.w, fun x hx => ?_, hy, hr.lens.q, hr.lens.r⟩
  have := hr.lens.l x hx
  show x.log.length ≤ 120 * (x.lines + (D.yanks + 1))
  have e : D.pure.yanks = D.yanks := rfl
  omega

/-- One house changed twice. -/
theorem updH_twice (hs : List PHse) (nm : ByteArray) (f h : PHse → PHse) (hf : ∀ x, (f x).name = x.name) : updH (updH hs nm f) nm h = updH hs nm (fun x => h (f x)) := by
  induction hs with
  | nil => rfl
  | cons y hs ih =>
    unfold updH
    cases hy : (y.name.toList == nm.toList) with
    | true => simp only [if_true, updH, hf, hy]
    | false => simp only [updH, hy, ih, Bool.false_eq_true, if_false]

theorem upd_twice (P : PDep) (nm : ByteArray) (f h : PHse → PHse) (hf : ∀ x, (f x).name = x.name) : (P.upd nm f).upd nm h = P.upd nm (fun x => h (f x)) := by
  unfold PDep.upd
  simp only [updH_twice P.hs nm f h hf]

end

end Go.Proofs.YtgcldedkempjhabGreatDoor
