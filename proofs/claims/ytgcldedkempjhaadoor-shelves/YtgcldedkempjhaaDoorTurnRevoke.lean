/-
  depotkeep: the book's revokes.
-/
import Derived.Test.YtgcldedkempjhaaDoorTurn
namespace Go.Proofs.YtgcldedkempjhaaDoor
open Go.RowKit

theorem flat_setB {α : Type} (f : α → List Value) (m : Nat) (hf : ∀ x, (f x).length = m) (l : List α) (k j : Nat) (hk : k < l.length) (hj : j < m) (y : α) (v : Value) (h : f y = (f l[k]).set j v) : (l.set k y).flatMap f = (l.flatMap f).set (k * m + j) v := by
  induction l generalizing k with
  | nil => simp at hk
  | cons x l ih =>
    cases k with
    | zero =>
      rw [List.set_cons_zero, List.flatMap_cons, List.flatMap_cons, List.set_append_left _ _ (by rw [hf]; omega)]
      have h' : f y = (f x).set j v := h
      rw [h']
      simp
    | succ k =>
      rw [List.set_cons_succ, List.flatMap_cons, List.flatMap_cons, List.set_append_right _ _ (by rw [hf, Nat.succ_mul]; omega), hf, ih k (by simpa using hk) (by simpa using h)]
      rw [show (k + 1) * m + j - m = k * m + j from by rw [Nat.succ_mul]; omega]

theorem KBookAt.goneAt {w : World} {bb : Nat} {now : Int} {ao : Option Addr} {cap : Nat} {bs : List Bk} (h : KBookAt w bb now ao cap bs) (i : Nat) (hi : i < bs.length) {g : Nat} (hg : ao = some ⟨g, 0, none⟩) :
    KBookAt (w.setCell ⟨g, i * 5 + 4, none⟩ (.bool true)) bb now ao cap (bs.set i { bs[i] with gone := true }) := by
  have hgb : bb + 1 ≤ g := by subst hg; exact (h.own.lt g rfl).1
  refine ⟨?_, ?_, ?_, ?_, ?_, by simpa using h.len⟩
  · rw [cell_setCell_ne (by omega), List.length_set]; exact h.c0
  · rw [cell_setCell_ne (by omega)]; exact h.c1
  · rw [frozen_setCell]; exact h.f0
  · rw [frozen_setCell]; exact h.f1
  · have hd : bksCells (bs.set i { bs[i] with gone := true }) = (bksCells bs).set (i * 5 + 4) (.bool true) := flat_setB Bk.cells 5 (fun _ => rfl) bs i 4 hi (by omega) _ _ rfl
    rw [hd, List.length_set]
    have ho := h.own
    subst hg
    exact ownsRow_set ho _ _

def brevokeE (r : Int) (same there gone : Bool) : Int := if r == 0 then 3 else if r != 4 && (r != 3 || !same) then 4 else if !there then 7 else if gone then 7 else 0

def goneB (o : Option Bk) : Bool :=
  match o with
  | none => false
  | some b => b.gone

def BRevokeR (E : Int) (x : TurnD) (bs bs' : List Bk) : Prop :=
  (E ≠ 0 ∧ bs' = bs) ∨ (E = 0 ∧ ∃ i, ∃ hi : i < bs.length, bookP x.of x.a bs[i] = true ∧ (∀ j, (hj : j < bs.length) → j < i → bookP x.of x.a bs[j] = false) ∧ bs[i].gone = false ∧ bs' = bs.set i { bs[i] with gone := true })

section
variable {r : Int} {same there gone : Bool}
theorem br3 (h : (r == 0) = true) : brevokeE r same there gone = 3 := by simp [brevokeE, h]
theorem br4 (h0 : (r == 0) = false) (h4 : ¬ r = 4) (h : ¬ r = 3 ∨ same = false) : brevokeE r same there gone = 4 := by
  have : (r != 4 && (r != 3 || !same)) = true := by
    rcases h with h | h
    · simp [h4, h]
    · simp [h4, h]
  simp [brevokeE, h0, this]
theorem brP (h0 : (r == 0) = false) (hp : r = 4 ∨ (r = 3 ∧ same = true)) : brevokeE r same there gone = if !there then 7 else if gone then 7 else 0 := by
  have : (r != 4 && (r != 3 || !same)) = false := by
    rcases hp with h | ⟨h, h'⟩
    · simp [h]
    · simp [h, h']
  simp only [brevokeE, h0, this]
  simp
end

theorem book_gone {w : World} {bb : Nat} {now : Int} {ao : Option Addr} {cap : Nat} {bs : List Bk} {x : TurnD} (h : KBookAt w bb now ao cap bs) (i : Nat) (hi : i < bs.length) {g : Nat} (hg : ao = some ⟨g, 0, none⟩)
    (q1 : bookP x.of x.a bs[i] = true) (q2 : ∀ j, (hj : j < bs.length) → j < i → bookP x.of x.a bs[j] = false) (hgn : bs[i].gone = false) {E : Int} (hE : E = 0) :
    BookStep w (w.setCell ⟨g, i * 5 + 4, none⟩ (.bool true)) bb now ao (BRevokeR E x bs) :=
  ⟨ao, cap, _, h.goneAt i hi hg, Or.inr ⟨hE, i, hi, q1, q2, hgn, rfl⟩, (Chg.refl _ _).setCell (p := ⟨g, i * 5 + 4, none⟩) (Or.inl (Or.inr ⟨⟨g, 0, none⟩, hg, rfl⟩)) _, fun _ h => Or.inl h⟩

set_option maxHeartbeats 1600000 in
set_option maxRecDepth 100000 in
theorem brevokes_any (bb : Nat) (now : Int) (ao : Option Addr) (cap : Nat) (bs : List Bk) (x : TurnD) (house : ByteArray) (id : Int) (w : World) (hr : KBookAt w bb now ao cap bs) (h1 : -9223372036854775808 ≤ x.who) (h2 : x.who ≤ 9223372036854775807)
    (e1 : house = showsH x.who) (e2 : id = showsI x.who x.id) (E : Int) (hE : E = brevokeE (bookRole now bs house id) (house.toList == x.of.toList) (bookF bs x.of x.a).isSome (goneB (bookF bs x.of x.a))) :
    Calls Tryd.prog 44 #[.pointer (some ⟨bb, 0, none⟩), .agg (turnV x)] w fun e w' => e = .returned (.int .i64 E) ∧ BookStep w w' bb now ao (BRevokeR E x bs) := by
  have HRE := hide (show ∀ E, E ≠ 0 → BRevokeR E x bs bs from fun E h => Or.inl ⟨h, rfl⟩)
  have Hs := hide (fun W => shows_any x house id W h1 h2 e1 e2)
  have Hr := hide (fun W h => bookRole_any bb now ao cap bs house id W h)
  have hbl := hr.len
  have HE := hide hE
  have hb0 : Below w.heap.size w (w.alloc (.cells (turnV x) 32)) := (Below.refl _ _).alloc (Nat.le_refl _) _
  clear hE e1 e2
  generalize bookRole now bs house id = r at *
  rcases find_cases (bookP x.of x.a) bs with ⟨i, hi, q1, q2, q3⟩ | ⟨q1, q3⟩
  · have Hf := hide (fun W h => bookFind_some bb now ao cap bs x.of x.a W h i hi q1 q2)
    have HQ := hide (And.intro q1 q2)
    have HE2 := hide (show E = brevokeE r (house.toList == x.of.toList) true bs[i].gone by rw [HE.out]; simp [bookF, q3, goneB])
    have hneg : decide ((i : Int) < 0) = false := by simp
    clear q1 q2 q3
    cases hgn : bs[i].gone with
    | true =>
      rw [hgn] at HE2
      go_enter Tryd.func44, Tryd.ntmps44
      go_wp2_with fail
      refine (Hs.out _).mono ?_
      rintro e w1 ⟨rfl, hb1⟩
      have hbx := below_call hb0 hb1
      have hr1 := hr.below hbx
      have o3 : w1.cell? ⟨w.heap.size, 3, none⟩ = some (.string x.of) := new_cell (c := (turnV x).toList) hb1 3
      have o6 : w1.cell? ⟨w.heap.size, 6, none⟩ = some (.int .i64 x.a) := new_cell (c := (turnV x).toList) hb1 6
      have hlt1 := new_lt hb1
      clear hb1
      go_wp2_with fail
      refine (Hr.out _ hr1).mono ?_
      rintro e w2 ⟨rfl, hb2⟩
      have q3 := (hb2.cell (p := ⟨w.heap.size, 3, none⟩) hlt1).trans o3
      have q6 := (hb2.cell (p := ⟨w.heap.size, 6, none⟩) hlt1).trans o6
      have hby := below_call hbx hb2
      have hr2 := hr.below hby
      clear o3 o6 hb2 hlt1
      go_wp2_with fail
      refine (Hf.out _ hr2).mono ?_
      rintro e w3 ⟨rfl, h⟩
      subst h
      have c0 := hr2.c0
      obtain ⟨g, hgo, hg, hbg, hx⟩ := hr2.entry i hi
      have d4 := hx.d4
      have f4 := hx.f4
      subst hgo
      rw [hgn] at d4
      go_wp2_with fail
      all_goals first
        | (go_ret; exact BookStep.err hr hby (by rw [HE2.out]; exact br3 ‹_›) (by decide) HRE.out)
        | (go_ret; exact BookStep.err hr hby (by rw [HE2.out]; exact br4 ‹_› ‹¬ r = 4› (by first | exact Or.inl ‹¬ r = 3› | exact Or.inr (by simpa using ‹(!house.toList == x.of.toList) = true›))) (by decide) HRE.out)
        | (go_ret; exact BookStep.err hr hby (by rw [HE2.out, brP ‹_› (by first | exact Or.inl ‹r = 4› | exact Or.inr ⟨‹r = 3›, by simpa using ‹(!house.toList == x.of.toList) = false›⟩)]; rfl) (by decide) HRE.out)
    | false =>
      rw [hgn] at HE2
      go_enter Tryd.func44, Tryd.ntmps44
      go_wp2_with fail
      refine (Hs.out _).mono ?_
      rintro e w1 ⟨rfl, hb1⟩
      have hbx := below_call hb0 hb1
      have hr1 := hr.below hbx
      have o3 : w1.cell? ⟨w.heap.size, 3, none⟩ = some (.string x.of) := new_cell (c := (turnV x).toList) hb1 3
      have o6 : w1.cell? ⟨w.heap.size, 6, none⟩ = some (.int .i64 x.a) := new_cell (c := (turnV x).toList) hb1 6
      have hlt1 := new_lt hb1
      clear hb1
      go_wp2_with fail
      refine (Hr.out _ hr1).mono ?_
      rintro e w2 ⟨rfl, hb2⟩
      have q3 := (hb2.cell (p := ⟨w.heap.size, 3, none⟩) hlt1).trans o3
      have q6 := (hb2.cell (p := ⟨w.heap.size, 6, none⟩) hlt1).trans o6
      have hby := below_call hbx hb2
      have hr2 := hr.below hby
      clear o3 o6 hb2 hlt1
      go_wp2_with fail
      refine (Hf.out _ hr2).mono ?_
      rintro e w3 ⟨rfl, h⟩
      subst h
      have c0 := hr2.c0
      obtain ⟨g, hgo, hg, hbg, hx⟩ := hr2.entry i hi
      have d4 := hx.d4
      have f4 := hx.f4
      subst hgo
      rw [hgn] at d4
      go_wp2_with fail
      all_goals first
        | (go_ret; exact BookStep.err hr hby (by rw [HE2.out]; exact br3 ‹_›) (by decide) HRE.out)
        | (go_ret; exact BookStep.err hr hby (by rw [HE2.out]; exact br4 ‹_› ‹¬ r = 4› (by first | exact Or.inl ‹¬ r = 3› | exact Or.inr (by simpa using ‹(!house.toList == x.of.toList) = true›))) (by decide) HRE.out)
        | (have H0 := hide (show E = 0 by rw [HE2.out, brP ‹_› (by first | exact Or.inl ‹r = 4› | exact Or.inr ⟨‹r = 3›, by simpa using ‹(!house.toList == x.of.toList) = false›⟩)]; rfl); go_ret; rw [H0.out]; exact ⟨rfl, BookStep.behind hby (book_gone hr2 i hi rfl HQ.out.1 HQ.out.2 hgn rfl)⟩)
  · have Hf := hide (fun W h => bookFind_none bb now ao cap bs x.of x.a W h q1)
    have HE2 := hide (show E = brevokeE r (house.toList == x.of.toList) false false by rw [HE.out]; simp [bookF, q3, goneB])
    clear q1 q3
    go_enter Tryd.func44, Tryd.ntmps44
    go_wp2_with fail
    refine (Hs.out _).mono ?_
    rintro e w1 ⟨rfl, hb1⟩
    have hbx := below_call hb0 hb1
    have hr1 := hr.below hbx
    have o3 : w1.cell? ⟨w.heap.size, 3, none⟩ = some (.string x.of) := new_cell (c := (turnV x).toList) hb1 3
    have o6 : w1.cell? ⟨w.heap.size, 6, none⟩ = some (.int .i64 x.a) := new_cell (c := (turnV x).toList) hb1 6
    have hlt1 := new_lt hb1
    clear hb1
    go_wp2_with fail
    refine (Hr.out _ hr1).mono ?_
    rintro e w2 ⟨rfl, hb2⟩
    have q3 := (hb2.cell (p := ⟨w.heap.size, 3, none⟩) hlt1).trans o3
    have q6 := (hb2.cell (p := ⟨w.heap.size, 6, none⟩) hlt1).trans o6
    have hby := below_call hbx hb2
    have hr2 := hr.below hby
    clear o3 o6 hb2 hlt1
    go_wp2_with fail
    refine (Hf.out _ hr2).mono ?_
    rintro e w3 ⟨rfl, h⟩
    subst h
    go_wp2_with fail
    all_goals first
      | (go_ret; exact BookStep.err hr hby (by rw [HE2.out]; exact br3 ‹_›) (by decide) HRE.out)
      | (go_ret; exact BookStep.err hr hby (by rw [HE2.out]; exact br4 ‹_› ‹¬ r = 4› (by first | exact Or.inl ‹¬ r = 3› | exact Or.inr (by simpa using ‹(!house.toList == x.of.toList) = true›))) (by decide) HRE.out)
      | (go_ret; exact BookStep.err hr hby (by rw [HE2.out, brP ‹_› (by first | exact Or.inl ‹r = 4› | exact Or.inr ⟨‹r = 3›, by simpa using ‹(!house.toList == x.of.toList) = false›⟩)]; rfl) (by decide) HRE.out)

end Go.Proofs.YtgcldedkempjhaaDoor
