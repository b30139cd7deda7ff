/-
  depot.Depot in memory: its cells, the houses' row, each house's four rows, the public's, and the rows of wants.
-/
import Derived.Test.YtgcldedkempjhabGreatDoorRing
import Derived.Test.YtgcldedkempjhabGreatDoorShelf
import Derived.Test.YtgcldedkempjhabGreatDoorGrants
import Derived.Test.YtgcldedkempjhabGreatDoorJrnMem
namespace Go.Proofs.YtgcldedkempjhabGreatDoor
open Go.RowKit

structure PEd where
  label : ByteArray
  ver : Int
  wants : List WantD
  off : Bool

structure PHse where
  name : ByteArray
  toks : List Tok
  eds : List PEd
  grs : List Grt
  log : List UInt8

/-- What a depot holds, without where it lies; and how often a version was taken back or let count again (which no answer tells). -/
structure PDep where
  root : Int
  clock : Int
  hs : List PHse
  pub : List PEd
  yanks : Nat

structure Hse where
  name : ByteArray
  toks : List Tok
  ao : Option Addr
  cap : Nat
  eds : List Ed
  eao : Option Addr
  ecap : Nat
  grs : List Grt
  gao : Option Addr
  gcap : Nat
  log : List UInt8
  lao : Option Addr
  lcap : Nat

structure DepD where
  root : Int
  clock : Int
  ho : Option Addr
  hcap : Nat
  hs : List Hse
  po : Option Addr
  pcap : Nat
  pub : List Ed
  yanks : Nat

def Ed.pure (e : Ed) : PEd := ⟨e.label, e.ver, e.wants, e.off⟩
def Hse.pure (h : Hse) : PHse := ⟨h.name, h.toks, h.eds.map Ed.pure, h.grs, h.log⟩
def DepD.pure (D : DepD) : PDep := ⟨D.root, D.clock, D.hs.map Hse.pure, D.pub.map Ed.pure, D.yanks⟩

structure RowD where
  ty : Nat
  size : Nat
  ao : Option Addr
  cap : Nat
  len : Nat
  cells : List Value

/-- Which of a house's four rows: its tokens, its versions, its grants, its log. -/
abbrev Fam := Option (Option Bool)
abbrev Fam.ring : Fam := none
abbrev Fam.shelf : Fam := some (some false)
abbrev Fam.book : Fam := some (some true)
abbrev Fam.log : Fam := some none

/-- Which row: the public's, or one of a house's. -/
abbrev Key := Option (Fam × Nat)
abbrev Key.pub : Key := none
abbrev Key.of (f : Fam) (i : Nat) : Key := some (f, i)

def Hse.row (h : Hse) : Fam → RowD
  | none => ⟨134, 4, h.ao, h.cap, h.toks.length, toksCells h.toks⟩
  | some (some false) => ⟨143, 4, h.eao, h.ecap, h.eds.length, edsCells h.eds⟩
  | some (some true) => ⟨149, 2, h.gao, h.gcap, h.grs.length, grtsCells h.grs⟩
  | some none => ⟨5, 1, h.lao, h.lcap, h.log.length, bCells h.log⟩

def DepD.pubRow (D : DepD) : RowD := ⟨143, 4, D.po, D.pcap, D.pub.length, edsCells D.pub⟩

def DepD.row (D : DepD) : Key → Option RowD
  | none => some D.pubRow
  | some (f, i) => D.hs[i]?.map fun h => h.row f

def Hse.cells (h : Hse) : List Value := [.string h.name, .slice h.ao h.toks.length h.cap, .slice h.eao h.eds.length h.ecap, .slice h.gao h.grs.length h.gcap, .slice h.lao h.log.length h.lcap]

theorem Hse.cells_length (h : Hse) : h.cells.length = 5 := rfl

def hsesCells (hs : List Hse) : List Value := hs.flatMap Hse.cells

def DepD.hasEd (D : DepD) (e : Ed) : Prop := e ∈ D.pub ∨ ∃ h ∈ D.hs, e ∈ h.eds

def RowOk (w : World) (base : Nat) (r : RowD) : Prop := w.ownsRow base r.ty r.size (.slice r.ao r.len r.cap) r.len r.cells

def WantOk (w : World) (base : Nat) (e : Ed) : Prop := w.ownsRow base 172 3 (.slice e.wao e.wants.length e.wcap) e.wants.length (wantsCells e.wants)

/-- As many lines as a log can have, but for those of versions taken back. -/
def PHse.lines (x : PHse) : Nat := x.toks.length + (x.toks.filter fun t => t.gone).length + x.eds.length + x.grs.length

/-- Wants as a text of them gives: not many, their names short. -/
def WsOk (ws : List WantD) : Prop := ws.length ≤ 6 ∧ ∀ x ∈ ws, x.name.size ≤ 9

/-- The rooms that the document sets; and how long a log can be. -/
structure Lens (P : PDep) : Prop where
  h : P.hs.length ≤ 6
  t : ∀ x ∈ P.hs, x.toks.length ≤ 8
  e : ∀ x ∈ P.hs, x.eds.length ≤ 12
  g : ∀ x ∈ P.hs, x.grs.length ≤ 6
  p : P.pub.length ≤ 24
  w : ∀ x ∈ P.hs, wordF x.name = true
  l : ∀ x ∈ P.hs, x.log.length ≤ 120 * (x.lines + P.yanks)
  y : P.yanks ≤ 200000000000
  q : ∀ x ∈ P.hs, ∀ e ∈ x.eds, WsOk e.wants
  r : ∀ e ∈ P.pub, WsOk e.wants

structure DepHead (w : World) (db : Nat) (D : DepD) : Prop where
  c0 : w.cell? ⟨db, 0, none⟩ = some (.int .i64 D.root)
  c1 : w.cell? ⟨db, 1, none⟩ = some (.int .i64 D.clock)
  c2 : w.cell? ⟨db, 2, none⟩ = some (.slice D.ho D.hs.length D.hcap)
  c3 : w.cell? ⟨db, 3, none⟩ = some (.slice D.po D.pub.length D.pcap)
  f : ∀ j, w.frozen? ⟨db, j, none⟩ = false
  own : w.ownsRow (db + 1) 91 5 (.slice D.ho D.hs.length D.hcap) D.hs.length (hsesCells D.hs)

structure DepRows (w : World) (db : Nat) (D : DepD) : Prop where
  row : ∀ q r, D.row q = some r → RowOk w (db + 1) r
  sep : ∀ q q' r r', D.row q = some r → D.row q' = some r' → q ≠ q' → ∀ k, blockOf r.ao k → ¬ blockOf r'.ao k
  want : ∀ e, D.hasEd e → WantOk w (db + 1) e

structure DepAt (w : World) (db : Nat) (D : DepD) : Prop where
  head : DepHead w db D
  rows : DepRows w db D
  lens : Lens D.pure
  tab : TabOk w
  tlt : tabB < db

def DepFoot (db : Nat) (D : DepD) (k : Nat) : Prop := k = db ∨ blockOf D.ho k ∨ (∃ q r, D.row q = some r ∧ blockOf r.ao k) ∨ ∃ e, D.hasEd e ∧ blockOf e.wao k

theorem row_ty {D : DepD} {q : Key} {r : RowD} (h : D.row q = some r) : r.ty ≠ 91 ∧ r.ty ≠ 172 := by
  match q, h with
  | none, h =>
    injection h with h
    subst h
    exact ⟨by simp [DepD.pubRow], by simp [DepD.pubRow]⟩
  | some (f, i), h =>
    simp only [DepD.row] at h
    cases hh : D.hs[i]? with
    | none => rw [hh] at h; cases h
    | some x =>
      rw [hh] at h
      injection h with h
      subst h
      match f with
      | none => exact ⟨by simp [Hse.row], by simp [Hse.row]⟩
      | some (some false) => exact ⟨by simp [Hse.row], by simp [Hse.row]⟩
      | some (some true) => exact ⟨by simp [Hse.row], by simp [Hse.row]⟩
      | some none => exact ⟨by simp [Hse.row], by simp [Hse.row]⟩

section
variable {w w' : World} {db : Nat} {D : DepD}

theorem DepHead.lt (h : DepHead w db D) : db < w.heap.size := World.block_lt_of_cell? w _ h.c0
theorem DepAt.lt (h : DepAt w db D) : db < w.heap.size := h.head.lt

theorem DepAt.foot (h : DepAt w db D) {k : Nat} (hk : DepFoot db D k) : db ≤ k ∧ k < w.heap.size := by
  rcases hk with rfl | hk | ⟨q, r, hq, hk⟩ | ⟨e, he, hk⟩
  · exact ⟨Nat.le_refl _, h.lt⟩
  · have := blockOf_lt h.head.own hk; omega
  · have := blockOf_lt (h.rows.row q r hq) hk; omega
  · have := blockOf_lt (h.rows.want e he) hk; omega

theorem DepHead.keep (h : DepHead w db D) (h0 : w'.heap[db]? = w.heap[db]?) (hk : ∀ k, blockOf D.ho k → w'.heap[k]? = w.heap[k]?) : DepHead w' db D :=
  ⟨(World.cell?_of_block h0).trans h.c0, (World.cell?_of_block h0).trans h.c1, (World.cell?_of_block h0).trans h.c2, (World.cell?_of_block h0).trans h.c3, fun j => (World.frozen?_of_block h0).trans (h.f j), ownsRow_keep h.own hk⟩

theorem DepRows.keep (h : DepRows w db D) (h1 : ∀ q r, D.row q = some r → ∀ k, blockOf r.ao k → w'.heap[k]? = w.heap[k]?) (h2 : ∀ e, D.hasEd e → ∀ k, blockOf e.wao k → w'.heap[k]? = w.heap[k]?) : DepRows w' db D :=
  ⟨fun q r hq => ownsRow_keep (h.row q r hq) (h1 q r hq), h.sep, fun e he => ownsRow_keep (h.want e he) (h2 e he)⟩

theorem DepAt.keep (h : DepAt w db D) (hk : ∀ k, DepFoot db D k → w'.heap[k]? = w.heap[k]?) (ht : w'.heap[tabB]? = w.heap[tabB]?) : DepAt w' db D :=
  ⟨h.head.keep (hk db (Or.inl rfl)) (fun k b => hk k (Or.inr (Or.inl b))),
    h.rows.keep (fun q r hq k b => hk k (Or.inr (Or.inr (Or.inl ⟨q, r, hq, b⟩)))) (fun e he k b => hk k (Or.inr (Or.inr (Or.inr ⟨e, he, b⟩)))), h.lens, h.tab.keep ht, h.tlt⟩

theorem DepAt.below (h : DepAt w db D) (hb : Below w.heap.size w w') : DepAt w' db D :=
  h.keep (fun k hk => hb.block k (h.foot hk).2) (hb.block _ h.tab.lt)

theorem DepAt.same (h : DepAt w db D) (hh : w'.heap = w.heap) : DepAt w' db D := h.keep (fun k _ => by rw [hh]) (by rw [hh])

/-- A row lies apart from the depot's own block, from the houses' row, from the rows of wants. -/
theorem DepAt.row_apart (h : DepAt w db D) {q : Key} {r : RowD} (hq : D.row q = some r) {k : Nat} (hk : blockOf r.ao k) : k ≠ db ∧ ¬ blockOf D.ho k ∧ ∀ e, D.hasEd e → ¬ blockOf e.wao k := by
  obtain ⟨t1, t2⟩ := row_ty hq
  have hr := h.rows.row q r hq
  refine ⟨?_, blocks_apart hr h.head.own t1 hk, fun e he => blocks_apart hr (h.rows.want e he) t2 hk⟩
  have := (blockOf_lt hr hk).1
  omega

theorem DepAt.head_chg (h : DepAt w db D) {q : Key} {r : RowD} (hq : D.row q = some r) (hchg : Chg (blockOf r.ao) w w') : DepHead w' db D :=
  h.head.keep (hchg.block db h.lt (fun hb => (h.row_apart hq hb).1 rfl)) (fun k hk => hchg.block k (blockOf_lt h.head.own hk).2 (fun hb => (h.row_apart hq hb).2.1 hk))

theorem DepAt.want_chg (h : DepAt w db D) {q : Key} {r : RowD} (hq : D.row q = some r) (hchg : Chg (blockOf r.ao) w w') {e : Ed} (he : D.hasEd e) : WantOk w' (db + 1) e :=
  ownsRow_keep (h.rows.want e he) (fun k hk => hchg.block k (blockOf_lt (h.rows.want e he) hk).2 (fun hb => (h.row_apart hq hb).2.2 e he hk))

/-- One row has changed; the others, and what they hold, are as they were. -/
theorem DepRows.upd (h : DepRows w db D) {D' : DepD} {q : Key} {r r' : RowD} (hq : D.row q = some r) (hq' : D'.row q = some r') (hoth : ∀ q', q' ≠ q → D'.row q' = D.row q') (hchg : Chg (blockOf r.ao) w w')
    (hown : RowOk w' (db + 1) r') (hao : ∀ k, blockOf r'.ao k → blockOf r.ao k ∨ w.heap.size ≤ k) (hw : ∀ e, D'.hasEd e → WantOk w' (db + 1) e) : DepRows w' db D' := by
  refine ⟨?_, ?_, hw⟩
  · intro q1 r1 h1
    by_cases e : q1 = q
    · subst e
      rw [hq'] at h1
      injection h1 with h1
      subst h1
      exact hown
    · rw [hoth q1 e] at h1
      exact ownsRow_keep (h.row q1 r1 h1) (fun k hk => hchg.block k (blockOf_lt (h.row q1 r1 h1) hk).2 (fun hb => h.sep q1 q r1 r h1 hq e k hk hb))
  · have key : ∀ q1 r1, q1 ≠ q → D'.row q1 = some r1 → ∀ k, blockOf r'.ao k → ¬ blockOf r1.ao k := by
      intro q1 r1 hne h1 k hk hk1
      rw [hoth q1 hne] at h1
      rcases hao k hk with hb | hb
      · exact h.sep q1 q r1 r h1 hq hne k hk1 hb
      · have := (blockOf_lt (h.row q1 r1 h1) hk1).2; omega
    intro q1 q2 r1 r2 h1 h2 hne k k1 k2
    by_cases e1 : q1 = q
    · subst e1
      rw [hq'] at h1
      injection h1 with h1
      subst h1
      exact key q2 r2 (fun e => hne e.symm) h2 k k1 k2
    · by_cases e2 : q2 = q
      · subst e2
        rw [hq'] at h2
        injection h2 with h2
        subst h2
        exact key q1 r1 e1 h1 k k2 k1
      · rw [hoth q1 e1] at h1
        rw [hoth q2 e2] at h2
        exact h.sep q1 q2 r1 r2 h1 h2 hne k k1 k2

theorem DepAt.rows_upd (h : DepAt w db D) {D' : DepD} {q : Key} {r r' : RowD} (hq : D.row q = some r) (hq' : D'.row q = some r') (hoth : ∀ q', q' ≠ q → D'.row q' = D.row q') (hchg : Chg (blockOf r.ao) w w')
    (hown : RowOk w' (db + 1) r') (hao : ∀ k, blockOf r'.ao k → blockOf r.ao k ∨ w.heap.size ≤ k) (hw : ∀ e, D'.hasEd e → WantOk w' (db + 1) e) : DepRows w' db D' :=
  h.rows.upd hq hq' hoth hchg hown hao hw

/-- A write into the depot's own block or the houses' row leaves the rows. -/
theorem DepRows.set (h : DepRows w db D) {a : Addr} (ha : a.block = db ∨ ∃ cur, w.heap[a.block]? = some (.cells cur 91 (0, 0))) (u : Value) : DepRows (w.setCell a u) db D := by
  have far : ∀ {e : TypeId} {s n c m : Nat} {ao : Option Addr} {xs : List Value}, w.ownsRow (db + 1) e s (.slice ao n c) m xs → e ≠ 91 → ∀ k, blockOf ao k → (w.setCell a u).heap[k]? = w.heap[k]? := by
    intro e s n c m ao xs ho hne k hk
    refine Below.heap_setCell _ _ _ _ ?_
    intro e1
    rcases ha with hb | ⟨cur, hc⟩
    · have := (blockOf_lt ho hk).1; omega
    · obtain ⟨c2, hc2⟩ := blockOf_heap ho hk
      rw [← e1, hc2] at hc
      injection hc with hc
      injection hc with _ hc _
      exact hne hc
  exact h.keep (fun q r hq k hk => far (h.row q r hq) (row_ty hq).1 k hk) (fun e he k hk => far (h.want e he) (by decide) k hk)

theorem DepHead.heap (h : DepHead w db D) {g : Nat} (hg : D.ho = some ⟨g, 0, none⟩) : db < g ∧ ∃ cur, w.heap[g]? = some (.cells cur 91 (0, 0)) := by
  have hb : blockOf D.ho g := ⟨_, hg, rfl⟩
  exact ⟨(blockOf_lt h.own hb).1, blockOf_heap h.own hb⟩

/-- The header of the public's row. -/
theorem DepHead.setPub (h : DepHead w db D) (po : Option Addr) (pcap : Nat) (pub : List Ed) : DepHead (w.setCell ⟨db, 3, none⟩ (.slice po pub.length pcap)) db { D with po := po, pcap := pcap, pub := pub } := by
  refine ⟨?_, ?_, ?_, ?_, ?_, ?_⟩
  · rw [cell_setCell_ne (by omega)]; exact h.c0
  · rw [cell_setCell_ne (by omega)]; exact h.c1
  · rw [cell_setCell_ne (by omega)]; exact h.c2
  · rw [cell_setCell_same h.c3]
  · intro j; rw [frozen_setCell]; exact h.f j
  · exact ownsRow_setCell_below h.own (Nat.lt_succ_self db) _

/-- The header of one of a house's rows. -/
theorem DepHead.setHouse (h : DepHead w db D) {i : Nat} (hi : i < D.hs.length) {g : Nat} (hg : D.ho = some ⟨g, 0, none⟩) (x : Hse) (j : Nat) (u : Value) (hj : j < 5) (hx : x.cells = (D.hs[i].cells).set j u) :
    DepHead (w.setCell ⟨g, i * 5 + j, none⟩ u) db { D with hs := D.hs.set i x } := by
  have hgd := (h.heap hg).1
  refine ⟨?_, ?_, ?_, ?_, ?_, ?_⟩
  · rw [cell_setCell_ne (by omega)]; exact h.c0
  · rw [cell_setCell_ne (by omega)]; exact h.c1
  · rw [cell_setCell_ne (by omega)]; simp only [List.length_set]; exact h.c2
  · rw [cell_setCell_ne (by omega)]; exact h.c3
  · intro j; rw [frozen_setCell]; exact h.f j
  · simp only [List.length_set]
    have := flat_set Hse.cells 5 Hse.cells_length D.hs i j x u hi hj hx
    unfold hsesCells
    rw [this]
    have ho := h.own
    rw [hg] at ho ⊢
    exact ownsRow_set ho _ _

theorem DepD.row_at (D : DepD) {i : Nat} (hi : i < D.hs.length) (f : Fam) : D.row (.of f i) = some (D.hs[i].row f) := by
  simp [DepD.row, hi]

theorem DepD.row_set_at (D : DepD) {i : Nat} (hi : i < D.hs.length) (x : Hse) (f : Fam) : ({ D with hs := D.hs.set i x } : DepD).row (.of f i) = some (x.row f) := by
  simp [DepD.row, hi]

theorem DepD.row_set_ne (D : DepD) {i : Nat} (hi : i < D.hs.length) (x : Hse) (f : Fam) (hx : ∀ f', f' ≠ f → x.row f' = D.hs[i].row f') (q : Key) (hq : q ≠ .of f i) : ({ D with hs := D.hs.set i x } : DepD).row q = D.row q := by
  match q, hq with
  | none, _ => rfl
  | some (f', j), hq =>
    by_cases hij : i = j
    · subst hij
      have hff : f' ≠ f := fun e => hq (by rw [e])
      rw [D.row_set_at hi, D.row_at hi, hx f' hff]
    · simp [DepD.row, List.getElem?_set_ne hij]

theorem hasEd_set {i : Nat} (_hi : i < D.hs.length) (x : Hse) {e : Ed} (he : ({ D with hs := D.hs.set i x } : DepD).hasEd e) : D.hasEd e ∨ e ∈ x.eds := by
  rcases he with he | ⟨h, hm, he⟩
  · exact Or.inl (Or.inl he)
  · rcases List.mem_or_eq_of_mem_set hm with hm | rfl
    · exact Or.inl (Or.inr ⟨h, hm, he⟩)
    · exact Or.inr he

theorem hasEd_old {i : Nat} (hi : i < D.hs.length) {e : Ed} (he : e ∈ D.hs[i].eds) : D.hasEd e := Or.inr ⟨D.hs[i], List.getElem_mem _, he⟩

end

end Go.Proofs.YtgcldedkempjhabGreatDoor
