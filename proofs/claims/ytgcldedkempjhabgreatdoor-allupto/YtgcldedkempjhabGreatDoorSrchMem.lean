/-
  search.Search in memory: its list of links, the names with what is offered and chosen of each.
-/
import Derived.Test.YtgcldedkempjhabGreatDoorBaseRow
import Derived.Test.YtgcldedkempjhabGreatDoorRows
namespace Go.Proofs.YtgcldedkempjhabGreatDoor
section

/-- A want of a name. -/
structure Wt (α : Type) where
  n : α
  lo : Int
  hi : Int

def Wt.has {α : Type} (w : Wt α) (v : Int) : Bool := decide (w.lo ≤ v) && decide (v ≤ w.hi)

/-- How a search ends: none: the steps are used up; else how many are left, and what is chosen (none: it failed). -/
abbrev Res (α : Type) := Option (Nat × Option (List (α × Nat)))

section
variable {α : Type}

/-- The candidates of a want, each with the rest of the list. -/
def tries (f : List (Wt α) → List (α × Nat) → Nat → Res α) (cand : Nat → Option (List (Wt α))) (rest : List (Wt α)) (ch : List (α × Nat)) (w : Wt α) : Nat → Nat → Res α
  | 0, left => some (left, none)
  | v + 1, left =>
    match (if w.has ((v + 1 : Nat) : Int) then cand (v + 1) else none) with
    | none => tries f cand rest ch w v left
    | some l =>
      match left with
      | 0 => none
      | left + 1 =>
        match f (rest ++ l) ((w.n, v + 1) :: ch) left with
        | some (left', none) => tries f cand rest ch w v left'
        | r => r

variable {f : List (Wt α) → List (α × Nat) → Nat → Res α} {cand : Nat → Option (List (Wt α))} {rest : List (Wt α)} {ch : List (α × Nat)} {w : Wt α} {v : Nat} {l : List (Wt α)}

theorem tries_skip {left : Nat} (h : (if w.has ((v + 1 : Nat) : Int) then cand (v + 1) else none) = none) : tries f cand rest ch w (v + 1) left = tries f cand rest ch w v left := by
  rw [tries, h]

theorem tries_broke (h : (if w.has ((v + 1 : Nat) : Int) then cand (v + 1) else none) = some l) : tries f cand rest ch w (v + 1) 0 = none := by
  rw [tries, h]

theorem tries_failed {left left' : Nat} (h : (if w.has ((v + 1 : Nat) : Int) then cand (v + 1) else none) = some l)
    (h2 : f (rest ++ l) ((w.n, v + 1) :: ch) left = some (left', none)) : tries f cand rest ch w (v + 1) (left + 1) = tries f cand rest ch w v left' := by
  rw [tries, h]
  simp only [h2]

theorem tries_else {left : Nat} {r : Res α} (h : (if w.has ((v + 1 : Nat) : Int) then cand (v + 1) else none) = some l)
    (h2 : f (rest ++ l) ((w.n, v + 1) :: ch) left = r) (h3 : ∀ x, r ≠ some (x, none)) : tries f cand rest ch w (v + 1) (left + 1) = r := by
  subst h2
  rw [tries, h]
  dsimp only
  split
  · rename_i x hx
    exact absurd hx (h3 x)
  · rfl

theorem tries_left (f : List (Wt α) → List (α × Nat) → Nat → Res α) (hf : ∀ t c l l' o, f t c l = some (l', o) → l' ≤ l) (cd : Nat → Option (List (Wt α))) (rest : List (Wt α)) (ch : List (α × Nat)) (w : Wt α) (v : Nat) : ∀ (left left' : Nat) (o : Option (List (α × Nat))), tries f cd rest ch w v left = some (left', o) → left' ≤ left := by
  induction v with
  | zero =>
    intro left left' o h
    simp only [tries, Option.some.injEq, Prod.mk.injEq] at h
    omega
  | succ v ih =>
    intro left left' o h
    unfold tries at h
    split at h
    · exact ih left left' o h
    · split at h
      · cases h
      · rename_i l0 _ left0
        split at h
        · rename_i l2 h2
          exact Nat.le_trans (ih l2 left' o h) (Nat.le_trans (hf _ _ _ _ _ h2) (Nat.le_succ _))
        · exact Nat.le_trans (hf _ _ _ _ _ h) (Nat.le_succ _)

end

section
variable {α : Type} [DecidableEq α]

/-- The version of a name that is chosen; 0: none. -/
def picked (ch : List (α × Nat)) (n : α) : Nat :=
  match ch with
  | [] => 0
  | p :: t => if p.1 = n then p.2 else picked t n

/-- Where a list of wants stops: none: it fails; else it is gone through, or it stops at a want whose name is not chosen. -/
def skip (ch : List (α × Nat)) : List (Wt α) → Option (Option (Wt α × List (Wt α)))
  | [] => some none
  | w :: t => if picked ch w.n = 0 then some (some (w, t)) else if w.has (picked ch w.n) then skip ch t else none

/-- The search: k: how many names may still be chosen. -/
def solve (cand : α → Nat → Option (List (Wt α))) : Nat → List (Wt α) → List (α × Nat) → Nat → Res α
  | 0, todo, ch, left =>
    match skip ch todo with
    | none => some (left, none)
    | some none => some (left, some ch)
    | some (some _) => some (left, none)
  | k + 1, todo, ch, left =>
    match skip ch todo with
    | none => some (left, none)
    | some none => some (left, some ch)
    | some (some (w, rest)) => tries (solve cand k) (cand w.n) rest ch w 9 left

variable {cand : α → Nat → Option (List (Wt α))} {k : Nat} {todo rest : List (Wt α)} {ch : List (α × Nat)} {left : Nat} {w : Wt α} {t : List (Wt α)}

theorem solve_done (h : skip ch todo = some none) : solve cand k todo ch left = some (left, some ch) := by
  cases k <;> simp [solve, h]

theorem solve_bad (h : skip ch todo = none) : solve cand k todo ch left = some (left, none) := by
  cases k <;> simp [solve, h]

theorem solve_at (h : skip ch todo = some (some (w, rest))) : solve cand (k + 1) todo ch left = tries (solve cand k) (cand w.n) rest ch w 9 left := by
  simp [solve, h]

theorem skip_nil : skip ch ([] : List (Wt α)) = some none := rfl

theorem skip_cons (h0 : picked ch w.n ≠ 0) (h1 : w.has (picked ch w.n) = true) : skip ch (w :: t) = skip ch t := by
  simp [skip, h0, h1]

theorem skip_at (h0 : picked ch w.n = 0) : skip ch (w :: t) = some (some (w, t)) := by
  simp [skip, h0]

theorem skip_bad (h0 : picked ch w.n ≠ 0) (h1 : w.has (picked ch w.n) = false) : skip ch (w :: t) = none := by
  simp [skip, h0, h1]

theorem solve_left (cand : α → Nat → Option (List (Wt α))) (k : Nat) : ∀ (todo : List (Wt α)) (ch : List (α × Nat)) (left left' : Nat) (o : Option (List (α × Nat))), solve cand k todo ch left = some (left', o) → left' ≤ left := by
  induction k with
  | zero =>
    intro todo ch left left' o h
    unfold solve at h
    split at h <;> simp only [Option.some.injEq, Prod.mk.injEq] at h <;> omega
  | succ k ih =>
    intro todo ch left left' o h
    unfold solve at h
    split at h
    · simp only [Option.some.injEq, Prod.mk.injEq] at h; omega
    · simp only [Option.some.injEq, Prod.mk.injEq] at h; omega
    · exact tries_left _ ih _ _ _ _ _ _ _ _ h

end

end

section
open Go.RowKit

def lkCells (x : Wt Nat) : List Value := [.int .i64 x.n, .int .i64 x.lo, .int .i64 x.hi]

def lksCells (l : List (Wt Nat)) : List Value := l.flatMap lkCells

theorem lkCells_length (x : Wt Nat) : (lkCells x).length = 3 := rfl

/-- What is offered of a version: nothing, or what it wants. -/
structure Ofr where
  ao : Option Addr
  cap : Nat
  ws : Option (List (Wt Nat))

def Ofr.list (o : Ofr) : List (Wt Nat) := o.ws.getD []

def Ofr.cells (o : Ofr) : List Value := [.bool o.ws.isSome, .slice o.ao o.list.length o.cap]

abbrev noOfr : Ofr := ⟨none, 0, none⟩

/-- A name: what is offered of its versions, which is chosen. -/
structure Ent where
  name : ByteArray
  ofr : Nat → Ofr
  ch : Nat

def Ent.cells (x : Ent) : List Value :=
  [.string x.name, .bool (x.ofr 0).ws.isSome, .slice (x.ofr 0).ao (x.ofr 0).list.length (x.ofr 0).cap, .bool (x.ofr 1).ws.isSome, .slice (x.ofr 1).ao (x.ofr 1).list.length (x.ofr 1).cap,
    .bool (x.ofr 2).ws.isSome, .slice (x.ofr 2).ao (x.ofr 2).list.length (x.ofr 2).cap, .bool (x.ofr 3).ws.isSome, .slice (x.ofr 3).ao (x.ofr 3).list.length (x.ofr 3).cap,
    .bool (x.ofr 4).ws.isSome, .slice (x.ofr 4).ao (x.ofr 4).list.length (x.ofr 4).cap, .bool (x.ofr 5).ws.isSome, .slice (x.ofr 5).ao (x.ofr 5).list.length (x.ofr 5).cap,
    .bool (x.ofr 6).ws.isSome, .slice (x.ofr 6).ao (x.ofr 6).list.length (x.ofr 6).cap, .bool (x.ofr 7).ws.isSome, .slice (x.ofr 7).ao (x.ofr 7).list.length (x.ofr 7).cap,
    .bool (x.ofr 8).ws.isSome, .slice (x.ofr 8).ao (x.ofr 8).list.length (x.ofr 8).cap, .bool (x.ofr 9).ws.isSome, .slice (x.ofr 9).ao (x.ofr 9).list.length (x.ofr 9).cap,
    .int .i64 x.ch]

theorem Ent.cells_length (x : Ent) : x.cells.length = 22 := rfl

theorem Ent.one (x : Ent) : ∀ u ∈ x.cells, u.oneCell' = true := by
  have h : (x.cells.all fun u => u.oneCell') = true := rfl
  exact List.all_eq_true.1 h

theorem Ent.cell_ofr (x : Ent) (v : Nat) (hv : v < 10) : x.cells[1 + v * 2]? = some (.bool (x.ofr v).ws.isSome) ∧ x.cells[1 + v * 2 + 1]? = some (.slice (x.ofr v).ao (x.ofr v).list.length (x.ofr v).cap) := by
  have h : v = 0 ∨ v = 1 ∨ v = 2 ∨ v = 3 ∨ v = 4 ∨ v = 5 ∨ v = 6 ∨ v = 7 ∨ v = 8 ∨ v = 9 := by omega
  rcases h with rfl | rfl | rfl | rfl | rfl | rfl | rfl | rfl | rfl | rfl <;> exact ⟨rfl, rfl⟩

def Ent.offer (x : Ent) (v : Nat) (o : Ofr) : Ent := { x with ofr := fun u => if u = v then o else x.ofr u }

theorem Ent.cells_offer (x : Ent) (v : Nat) (hv : v < 10) (o : Ofr) : (x.offer v o).cells = ((x.cells).set (1 + v * 2) (.bool o.ws.isSome)).set (1 + v * 2 + 1) (.slice o.ao o.list.length o.cap) := by
  have h : v = 0 ∨ v = 1 ∨ v = 2 ∨ v = 3 ∨ v = 4 ∨ v = 5 ∨ v = 6 ∨ v = 7 ∨ v = 8 ∨ v = 9 := by omega
  rcases h with rfl | rfl | rfl | rfl | rfl | rfl | rfl | rfl | rfl | rfl <;> rfl

def entsCells (es : List Ent) : List Value := es.flatMap Ent.cells

structure SD where
  list : List (Wt Nat)
  lao : Option Addr
  lcap : Nat
  asked : Nat
  ents : List Ent
  nao : Option Addr
  ncap : Nat
  told : Nat
  left : Int

abbrev LinkRow (w : World) (base : Nat) (ao : Option Addr) (cap : Nat) (l : List (Wt Nat)) : Prop := w.ownsRow base 188 3 (.slice ao l.length cap) l.length (lksCells l)

structure SHead (w : World) (sb : Nat) (S : SD) : Prop where
  c0 : w.cell? ⟨sb, 0, none⟩ = some (.slice S.lao S.list.length S.lcap)
  c1 : w.cell? ⟨sb, 1, none⟩ = some (.int .i64 S.asked)
  c2 : w.cell? ⟨sb, 2, none⟩ = some (.slice S.nao S.ents.length S.ncap)
  c3 : w.cell? ⟨sb, 3, none⟩ = some (.int .i64 S.told)
  c4 : w.cell? ⟨sb, 4, none⟩ = some (.int .i64 S.left)
  f : ∀ j, w.frozen? ⟨sb, j, none⟩ = false

structure SAt (w : World) (sb : Nat) (S : SD) : Prop where
  head : SHead w sb S
  lown : LinkRow w (sb + 1) S.lao S.lcap S.list
  nown : w.ownsRow (sb + 1) 193 22 (.slice S.nao S.ents.length S.ncap) S.ents.length (entsCells S.ents)
  wown : ∀ e ∈ S.ents, ∀ v, LinkRow w (sb + 1) (e.ofr v).ao (e.ofr v).cap (e.ofr v).list
  sep : ∀ e ∈ S.ents, ∀ v k, blockOf (e.ofr v).ao k → ¬ blockOf S.lao k
  ll : S.list.length ≤ 100000
  nl : S.ents.length ≤ 10000

section
variable {w w' : World} {sb : Nat} {S : SD}

theorem SAt.lt (h : SAt w sb S) : sb < w.heap.size := World.block_lt_of_cell? w _ h.head.c0

theorem SHead.keep (h : SHead w sb S) (h0 : w'.heap[sb]? = w.heap[sb]?) : SHead w' sb S :=
  ⟨(World.cell?_of_block h0).trans h.c0, (World.cell?_of_block h0).trans h.c1, (World.cell?_of_block h0).trans h.c2, (World.cell?_of_block h0).trans h.c3, (World.cell?_of_block h0).trans h.c4, fun j => (World.frozen?_of_block h0).trans (h.f j)⟩

theorem SAt.below (h : SAt w sb S) (hb : Below w.heap.size w w') : SAt w' sb S :=
  ⟨h.head.keep (hb.block _ h.lt), ownsRow_keep' h.lown hb, ownsRow_keep' h.nown hb, fun e he v => ownsRow_keep' (h.wown e he v) hb, h.sep, h.ll, h.nl⟩

theorem SAt.same (h : SAt w sb S) (hh : w'.heap = w.heap) : SAt w' sb S :=
  ⟨h.head.keep (by rw [hh]), ownsRow_keep h.lown (fun _ _ => by rw [hh]), ownsRow_keep h.nown (fun _ _ => by rw [hh]), fun e he v => ownsRow_keep (h.wown e he v) (fun _ _ => by rw [hh]), h.sep, h.ll, h.nl⟩

def SFoot (sb : Nat) (S : SD) (k : Nat) : Prop := k = sb ∨ blockOf S.lao k ∨ blockOf S.nao k ∨ ∃ e ∈ S.ents, ∃ v, blockOf (e.ofr v).ao k

theorem SAt.foot (h : SAt w sb S) {k : Nat} (hk : SFoot sb S k) : sb ≤ k ∧ k < w.heap.size := by
  rcases hk with rfl | hk | hk | ⟨e, he, v, hk⟩
  · exact ⟨Nat.le_refl _, h.lt⟩
  · have := blockOf_lt h.lown hk; omega
  · have := blockOf_lt h.nown hk; omega
  · have := blockOf_lt (h.wown e he v) hk; omega

theorem SAt.keep (h : SAt w sb S) (hk : ∀ k, SFoot sb S k → w'.heap[k]? = w.heap[k]?) : SAt w' sb S :=
  ⟨h.head.keep (hk sb (Or.inl rfl)), ownsRow_keep h.lown (fun k b => hk k (Or.inr (Or.inl b))), ownsRow_keep h.nown (fun k b => hk k (Or.inr (Or.inr (Or.inl b)))),
    fun e he v => ownsRow_keep (h.wown e he v) (fun k b => hk k (Or.inr (Or.inr (Or.inr ⟨e, he, v, b⟩)))), h.sep, h.ll, h.nl⟩

/-- A link of the list, in memory. -/
theorem SAt.link (h : SAt w sb S) (k : Nat) (hk : k < S.list.length) :
    ∃ g, S.lao = some ⟨g, 0, none⟩ ∧ g < w.heap.size ∧ sb < g ∧ w.cell? ⟨g, k * 3, none⟩ = some (.int .i64 S.list[k].n) ∧ w.cell? ⟨g, k * 3 + 1, none⟩ = some (.int .i64 S.list[k].lo) ∧ w.cell? ⟨g, k * 3 + 2, none⟩ = some (.int .i64 S.list[k].hi) := by
  obtain ⟨g, hg, hlt, hb, hc, _⟩ := row_cell lkCells_length h.lown k hk
  exact ⟨g, hg, hlt, hb, hc 0 _ rfl, hc 1 _ rfl, hc 2 _ rfl⟩

/-- A name, in memory. -/
theorem SAt.ent (h : SAt w sb S) (i : Nat) (hi : i < S.ents.length) :
    ∃ g, S.nao = some ⟨g, 0, none⟩ ∧ g < w.heap.size ∧ sb < g ∧ w.cell? ⟨g, i * 22, none⟩ = some (.string S.ents[i].name) ∧ w.cell? ⟨g, i * 22 + 21, none⟩ = some (.int .i64 S.ents[i].ch) ∧
      (∀ v, v < 10 → w.cell? ⟨g, i * 22 + 1 + v * 2, none⟩ = some (.bool (S.ents[i].ofr v).ws.isSome) ∧ w.cell? ⟨g, i * 22 + 1 + v * 2 + 1, none⟩ = some (.slice (S.ents[i].ofr v).ao (S.ents[i].ofr v).list.length (S.ents[i].ofr v).cap)) ∧ ∀ j, w.frozen? ⟨g, j, none⟩ = false := by
  obtain ⟨g, hg, hlt, hb, hc, hf⟩ := row_cell Ent.cells_length h.nown i hi
  refine ⟨g, hg, hlt, hb, hc 0 _ rfl, hc 21 _ rfl, fun v hv => ?_, hf⟩
  obtain ⟨e1, e2⟩ := S.ents[i].cell_ofr v hv
  have h1 := hc _ _ e1
  have h2 := hc _ _ e2
  rw [← Nat.add_assoc] at h1
  rw [← Nat.add_assoc, ← Nat.add_assoc] at h2
  exact ⟨h1, h2⟩

end

/-- The names of a search. -/
def SD.names (S : SD) : List ByteArray := S.ents.map fun e => e.name

/-- A search with more names. -/
def Grown (S S' : SD) (ns : List ByteArray) : Prop := ∃ new nao ncap, S' = { S with ents := S.ents ++ new, nao := nao, ncap := ncap } ∧ (∀ e ∈ new, ∃ nm, e = ⟨nm, fun _ => noOfr, 0⟩) ∧ S'.names = ns

/-- What a call leaves of a search that has at most more names. -/
def SMore (w w' : World) (sb : Nat) (S : SD) (ns : List ByteArray) : Prop :=
  ∃ S', SAt w' sb S' ∧ Grown S S' ns ∧ Chg (fun k => k = sb ∨ blockOf S.nao k) w w' ∧ ∀ k, blockOf S'.nao k → blockOf S.nao k ∨ w.heap.size ≤ k

/-- The place of a name, which becomes known if it was not. -/
def placeN (ns : List ByteArray) (nm : ByteArray) : Nat × List ByteArray :=
  match ns.findIdx? (fun x => x.toList == nm.toList) with
  | some i => (i, ns)
  | none => (ns.length, ns ++ [nm])

theorem nm_cases (es : List Ent) (nm : ByteArray) :
    (∃ i, ∃ hi : i < es.length, (es[i].name.toList == nm.toList) = true ∧ (∀ j, (hj : j < es.length) → j < i → (es[j].name.toList == nm.toList) = false)) ∨ (∀ j, (hj : j < es.length) → (es[j].name.toList == nm.toList) = false) := by
  rcases find_cases (fun h : Ent => h.name.toList == nm.toList) es with ⟨i, hi, h1, h2, _⟩ | ⟨h1, _⟩
  · exact Or.inl ⟨i, hi, h1, h2⟩
  · exact Or.inr h1

set_option maxHeartbeats 400000 in
theorem place_some (sb : Nat) (S : SD) (nm : ByteArray) (w : World) (hr : SAt w sb S) (i : Nat) (hi : i < S.ents.length) (hm : (S.ents[i].name.toList == nm.toList) = true) (hno : ∀ j, (hj : j < S.ents.length) → j < i → (S.ents[j].name.toList == nm.toList) = false) :
    Calls Tryz.prog 119 #[.pointer (some ⟨sb, 0, none⟩), .string nm] w fun e w' => e = .returned (.int .i64 i) ∧ w' = w := by
  have c := hr.head.c2
  have hlen := hr.nl
  have HM := hide hm
  have HN := hide hno
  clear hm hno
  go_enter Tryz.func119, Tryz.ntmps119
  go_wp2
  go_loop [5] (fun x => ∃ k : Nat, k ≤ i ∧ x = .int .i64 k) (fun x => S.ents.length - (intOf x).toNat)
  case atStart => exact ⟨0, Nat.zero_le _, rfl⟩
  case round =>
    obtain ⟨k, hk, rfl⟩ := hrel
    obtain ⟨g, hg, _, _, d0, _⟩ := hr.ent k (by omega)
    rw [hg] at c
    by_cases hlt : k < i
    · have h1 := HN.out k (by omega) hlt
      go_wp2
      go_round
      case rel => exact ⟨k + 1, by omega, by go_num⟩
      case measure => simp [intOf] <;> omega
    · obtain rfl : k = i := by omega
      have h1 := HM.out
      go_wp2
      go_ret
      exact ⟨rfl, rfl⟩

abbrev newEnt (nm : ByteArray) : Ent := ⟨nm, fun _ => noOfr, 0⟩

theorem Tryz.infoEnt : (Tryz.prog.info? 193).map (fun i => (i.zero, i.size, i.bytes)) = some (some (.agg (newEnt ⟨#[]⟩).cells.toArray), 22, 344) := by kernel_rfl

section
variable {w w1 w' : World} {sb : Nat} {S : SD}

/-- A name more. -/
theorem SAt.more (h : SAt w sb S) (nm : ByteArray) (g' cap' : Nat) (hl : S.ents.length < 10000) (hchg : Chg (blockOf S.nao) w w1)
    (hown : w1.ownsRow (sb + 1) 193 22 (.slice (some ⟨g', 0, none⟩) (S.ents.length + 1) cap') (S.ents.length + 1) (entsCells S.ents ++ (newEnt nm).cells))
    (hw : w' = w1.setCell ⟨sb, 2, none⟩ (.slice (some ⟨g', 0, none⟩) (S.ents.length + 1) cap')) :
    SAt w' sb { S with ents := S.ents ++ [newEnt nm], nao := some ⟨g', 0, none⟩, ncap := cap' } ∧ Chg (fun k => k = sb ∨ blockOf S.nao k) w w' := by
  have hsb : ¬ blockOf S.nao sb := fun hk => by have := (blockOf_lt h.nown hk).1; omega
  have hb0 : w1.heap[sb]? = w.heap[sb]? := hchg.block sb h.lt hsb
  have h2 := (World.cell?_of_block (a := ⟨sb, 2, none⟩) hb0).trans h.head.c2
  have far : ∀ {ao : Option Addr} {cap : Nat} {l : List (Wt Nat)}, LinkRow w (sb + 1) ao cap l → LinkRow w' (sb + 1) ao cap l := by
    intro ao cap l ho
    have h1 : LinkRow w1 (sb + 1) ao cap l := ownsRow_keep ho (fun k hk => hchg.block k (blockOf_lt ho hk).2 (fun hk' => blocks_apart ho h.nown (by decide) hk hk'))
    rw [hw]
    exact ownsRow_setCell_below h1 (Nat.lt_succ_self sb) _
  refine ⟨⟨⟨?_, ?_, ?_, ?_, ?_, ?_⟩, far h.lown, ?_, ?_, ?_, h.ll, by simp; omega⟩, ?_⟩
  · rw [hw, cell_setCell_ne (by omega)]; exact (World.cell?_of_block (a := ⟨sb, 0, none⟩) hb0).trans h.head.c0
  · rw [hw, cell_setCell_ne (by omega)]; exact (World.cell?_of_block (a := ⟨sb, 1, none⟩) hb0).trans h.head.c1
  · rw [hw, cell_setCell_same h2]; simp
  · rw [hw, cell_setCell_ne (by omega)]; exact (World.cell?_of_block (a := ⟨sb, 3, none⟩) hb0).trans h.head.c3
  · rw [hw, cell_setCell_ne (by omega)]; exact (World.cell?_of_block (a := ⟨sb, 4, none⟩) hb0).trans h.head.c4
  · intro j; rw [hw, frozen_setCell]; exact (World.frozen?_of_block (a := ⟨sb, j, none⟩) hb0).trans (h.head.f j)
  · rw [hw]
    have e : entsCells (S.ents ++ [newEnt nm]) = entsCells S.ents ++ (newEnt nm).cells := by simp [entsCells]
    simp only [List.length_append, List.length_singleton]
    rw [e]
    exact ownsRow_setCell_below hown (Nat.lt_succ_self sb) _
  · intro e he v
    rcases List.mem_append.1 he with he | he
    · exact far (h.wown e he v)
    · simp at he
      subst he
      exact World.ownsRow_nil _ _ _ _
  · intro e he v k hk
    rcases List.mem_append.1 he with he | he
    · exact h.sep e he v k hk
    · simp at he
      subst he
      obtain ⟨a, ha, _⟩ := hk
      cases ha
  · rw [hw]
    exact Chg.setCell (S := fun k => k = sb ∨ blockOf S.nao k) (hchg.mono (fun _ h => Or.inr h)) (p := ⟨sb, 2, none⟩) (Or.inl (Or.inl rfl)) _

end

set_option maxHeartbeats 800000 in
set_option maxRecDepth 100000 in
theorem place_none (sb : Nat) (S : SD) (nm : ByteArray) (w : World) (hr : SAt w sb S) (hl : S.ents.length < 10000) (hno : ∀ j, (hj : j < S.ents.length) → (S.ents[j].name.toList == nm.toList) = false) :
    Calls Tryz.prog 119 #[.pointer (some ⟨sb, 0, none⟩), .string nm] w fun e w' => e = .returned (.int .i64 S.ents.length) ∧
      SMore w w' sb S (S.names ++ [nm]) := by
  have c := hr.head.c2
  have hf := hr.head.f 2
  have hlt := hr.lt
  have hown := hr.nown
  have HR := hide hr
  have HN := hide hno
  clear hno
  obtain ⟨i0, ti, hz0, hz1, hz2⟩ := info_parts Tryz.infoEnt
  go_enter Tryz.func119, Tryz.ntmps119
  go_wp2_with fail
  go_loop [5] (fun x => ∃ k : Nat, k ≤ S.ents.length ∧ x = .int .i64 k) (fun x => S.ents.length - (intOf x).toNat)
  case atStart => exact ⟨0, Nat.zero_le _, rfl⟩
  case round =>
    obtain ⟨k, hk, rfl⟩ := hrel
    by_cases hlt2 : k < S.ents.length
    · obtain ⟨g, hg, _, _, d0, _⟩ := hr.ent k hlt2
      rw [hg] at c
      have h1 := HN.out k hlt2
      go_wp2_with fail
      go_round
      case rel => exact ⟨k + 1, by omega, by go_num⟩
      case measure => simp [intOf] <;> omega
    · obtain rfl : k = S.ents.length := by omega
      go_wp2_with (at_builtin; refine wpList_append_own2 _ rfl (.tmp 30) (.tmp 33) 176 rfl (sb + 1) 193 i0 (.agg (newEnt ⟨#[]⟩).cells.toArray) 22 344 Tryz.underlying176 ti hz0 hz1 hz2 rfl (by decide) (.slice S.nao S.ents.length S.ncap) S.ents.length (entsCells S.ents) rfl (hown.alloc _) ⟨w.heap.size, 0, none⟩ 1 1 (newEnt nm).cells rfl rfl (news_at (t := 193) (fr := (0, 0)) (heap_alloc_new w _)) ?_ (by unfold maxLen; omega) (by omega) (by simp; omega) (by omega) ?_)
      · exact Ent.one _
      · intro g' cap' w1 hown' hgrow hnew
        have hchg : Chg (blockOf S.nao) w w1 := Chg.ofGrown hgrow rfl rfl rfl (by simp) (fun k hk => Below.heap_alloc _ _ _ hk) (fun k hk => Or.inl (row_of hk))
        have HA := hide (show blockOf S.nao g' ∨ w.heap.size ≤ g' from hnew.elim (fun h => Or.inl (row_of h)) (fun h => Or.inr (by simpa using Nat.le_trans (Nat.le_add_right _ 1) (by simpa using h))))
        have hk : w1.heap[sb]? = w.heap[sb]? := hchg.block sb hlt (fun hk => by have := (blockOf_lt hown hk).1; omega)
        have k2 := (World.cell?_of_block (a := ⟨sb, 2, none⟩) hk).trans c
        have kf := (World.frozen?_of_block (a := ⟨sb, 2, none⟩) hk).trans hf
        have HF := hide (HR.out.more nm g' cap' hl hchg hown' rfl)
        have k3 : (w1.setCell ⟨sb, 2, none⟩ (.slice (some ⟨g', 0, none⟩) (S.ents.length + 1) cap')).cell? ⟨sb, 2, none⟩ = some (.slice (some ⟨g', 0, none⟩) (S.ents.length + 1) cap') := cell_setCell_same k2
        clear hnew hgrow hk hown' hchg
        go_wp2_with fail
        go_ret
        refine ⟨?_, _, HF.out.1, ⟨_, _, _, rfl, ?_, ?_⟩, HF.out.2, ?_⟩
        · exact ret_int (by omega)
        · intro e he
          simp at he
          exact ⟨nm, he⟩
        · simp [SD.names]
        · rintro k ⟨a, e, rfl⟩
          injection e with e
          subst e
          exact HA.out

theorem SMore.same {w : World} {sb : Nat} {S : SD} (h : SAt w sb S) : SMore w w sb S S.names :=
  ⟨S, h, ⟨[], S.nao, S.ncap, by simp, (fun _ h => by cases h), rfl⟩, Chg.refl _ _, fun _ h => Or.inl h⟩

theorem place_any (sb : Nat) (S : SD) (nm : ByteArray) (w : World) (hr : SAt w sb S) (hl : S.ents.length < 10000) :
    Calls Tryz.prog 119 #[.pointer (some ⟨sb, 0, none⟩), .string nm] w fun e w' => e = .returned (.int .i64 (placeN S.names nm).1) ∧ SMore w w' sb S (placeN S.names nm).2 := by
  rcases nm_cases S.ents nm with ⟨i, hi, h1, h2⟩ | h1
  · have hp : placeN S.names nm = (i, S.names) := by
      unfold placeN SD.names
      rw [List.findIdx?_map]
      have : S.ents.findIdx? ((fun x : ByteArray => x.toList == nm.toList) ∘ fun e => e.name) = some i := by
        rw [List.findIdx?_eq_some_iff_getElem]
        exact ⟨hi, h1, fun j hj => by have := h2 j (by omega) hj; simp [this]⟩
      rw [this]
    rw [hp]
    refine (place_some sb S nm w hr i hi h1 h2).mono ?_
    rintro e w' ⟨rfl, rfl⟩
    exact ⟨rfl, SMore.same hr⟩
  · have hp : placeN S.names nm = (S.ents.length, S.names ++ [nm]) := by
      unfold placeN SD.names
      rw [List.findIdx?_map]
      have : S.ents.findIdx? ((fun x : ByteArray => x.toList == nm.toList) ∘ fun e => e.name) = none := by
        rw [List.findIdx?_eq_none_iff]
        intro x hx
        obtain ⟨j, hj, rfl⟩ := List.getElem_of_mem hx
        exact h1 j hj
      rw [this]
      simp
    rw [hp]
    exact place_none sb S nm w hr hl h1

end

end Go.Proofs.YtgcldedkempjhabGreatDoor
