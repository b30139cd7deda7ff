/-
  depotkeep: a turn in memory.
-/
import Derived.Test.YtgcldedkempjhaaDoorCall
namespace Go.Proofs.YtgcldedkempjhaaDoor
section
open Go.RowKit

theorem held_root {P : PDep} (h : P.root = 77) : heldF P ⟨#[]⟩ 77 = 4 := by
  simp [heldF, h]

theorem words_hg : wordF kH = true ∧ wordF kG = true := by constructor <;> decide

theorem kHG : (kH.toList == kG.toList) = false ∧ (kG.toList == kH.toList) = false ∧ (kH.toList == kH.toList) = true ∧ (kG.toList == kG.toList) = true := by
  refine ⟨?_, ?_, beq_self_eq_true _, beq_self_eq_true _⟩ <;> simp

theorem hseF_one (h : PHse) (nm : ByteArray) : hseF [h] nm = if (h.name.toList == nm.toList) = true then some h else none := by
  unfold hseF
  rw [List.find?_cons, List.find?_nil]
  cases (h.name.toList == nm.toList) <;> rfl

theorem hseF_two (h g : PHse) (nm : ByteArray) : hseF [h, g] nm = if (h.name.toList == nm.toList) = true then some h else if (g.name.toList == nm.toList) = true then some g else none := by
  unfold hseF
  rw [List.find?_cons, List.find?_cons, List.find?_nil]
  cases (h.name.toList == nm.toList) <;> cases (g.name.toList == nm.toList) <;> rfl

abbrev tok0 : Tok := ⟨1, 3, 1099511627776, false⟩

/-- What a depot with two houses holds. -/
abbrev log0 : List UInt8 := mintLine 77 1 3 1099511627776

abbrev P0 : PDep := ⟨77, 0, [⟨kH, [tok0], [], [], log0⟩, ⟨kG, [tok0], [], [], log0⟩], [], 0⟩

/-- A depot with two houses. -/
def Opened (w w' : World) (db : Nat) : Prop := ∃ D, DepAt w' db D ∧ D.pure = P0 ∧ Below w.heap.size w w' ∧ ∀ k, DepFoot db D k → w.heap.size ≤ k

set_option maxHeartbeats 1600000 in
set_option maxRecDepth 100000 in
theorem opened_any (w : World) (htab : TabOk w) : Calls Tryd.prog 10 #[] w fun e w' => e = .returned (.pointer (some ⟨w.heap.size, 0, none⟩)) ∧ Opened w w' w.heap.size := by
  obtain ⟨k1, k2, k3, k4⟩ := kHG
  have KK := hide (And.intro k1 (And.intro k2 (And.intro k3 k4)))
  clear k1 k2 k3 k4
  go_enter Tryd.func10, Tryd.ntmps10
  go_wp2_with fail
  refine (new_yes 77 _ (by decide) htab).mono ?_
  rintro e w1 ⟨rfl, hD1, hB1⟩
  go_wp2_with fail
  refine (found_any w.heap.size (freshD 77) ⟨#[]⟩ 77 kH _ hD1 0 (by rw [held_root rfl, words_hg.1]; rfl)).mono ?_
  rintro e w2 ⟨rfl, D2, hD2, hP2, hC2, hF2⟩
  have HP2 := hide (show D2.pure = ⟨77, 0, [⟨kH, [], [], [], []⟩], [], 0⟩ from hP2)
  clear hP2
  go_wp2_with fail
  refine (found_any w.heap.size D2 ⟨#[]⟩ 77 kG _ hD2 0 (by rw [held_root (by rw [HP2.out]), words_hg.2, HP2.out, hseF_one, KK.out.1]; rfl)).mono ?_
  rintro e w3 ⟨rfl, D3, hD3, hP3, hC3, hF3⟩
  have HP3 := hide (show D3.pure = ⟨77, 0, [⟨kH, [], [], [], []⟩, ⟨kG, [], [], [], []⟩], [], 0⟩ by rw [hP3, HP2.out]; rfl)
  clear hP3
  go_wp2_with fail
  refine (mint_any w.heap.size D3 ⟨#[]⟩ 77 kH 3 1 1099511627776 _ hD3 ⟨by decide, by decide⟩ ⟨by decide, by decide⟩ ⟨by decide, by decide⟩ 0 (by
    rw [held_root (by rw [HP3.out]), HP3.out]
    show 0 = mintP 0 [⟨kH, [], [], [], []⟩, ⟨kG, [], [], [], []⟩] kH 3 1 1099511627776
    unfold mintP
    rw [hseF_two, KK.out.2.2.1]
    simp [mintT, tokF])).mono ?_
  rintro e w4 ⟨rfl, D4, hD4, hP4, hC4, hF4⟩
  have HP4 := hide (show D4.pure = ⟨77, 0, [⟨kH, [tok0], [], [], log0⟩, ⟨kG, [], [], [], []⟩], [], 0⟩ by
    rw [hP4, HP3.out]
    show PDep.upd _ _ _ = _
    simp only [PDep.upd, updH, KK.out.2.2.1, if_true]
    rfl)
  clear hP4
  go_wp2_with fail
  refine (mint_any w.heap.size D4 ⟨#[]⟩ 77 kG 3 1 1099511627776 _ hD4 ⟨by decide, by decide⟩ ⟨by decide, by decide⟩ ⟨by decide, by decide⟩ 0 (by
    rw [held_root (by rw [HP4.out]), HP4.out]
    show 0 = mintP 0 [⟨kH, [tok0], [], [], log0⟩, ⟨kG, [], [], [], []⟩] kG 3 1 1099511627776
    unfold mintP
    rw [hseF_two, KK.out.1, KK.out.2.2.2]
    simp [mintT, tokF])).mono ?_
  rintro e w5 ⟨rfl, D5, hD5, hP5, hC5, hF5⟩
  have HP5 := hide (show D5.pure = P0 by
    rw [hP5, HP4.out]
    show PDep.upd _ _ _ = _
    simp only [PDep.upd, updH, KK.out.1, KK.out.2.2.2, if_true, Bool.false_eq_true, if_false]
    rfl)
  clear hP5
  have s1 := hB1.size
  have s2 := hC2.size
  have s3 := hC3.size
  have s4 := hC4.size
  have b2 : Below w.heap.size w1 w2 := hC2.below s1 (fun k hk => (hD1.foot hk).1)
  have b3 : Below w.heap.size w2 w3 := hC3.below (by omega) (fun k hk => (hD2.foot hk).1)
  have b4 : Below w.heap.size w3 w4 := hC4.below (by omega) (fun k hk => (hD3.foot hk).1)
  have b5 : Below w.heap.size w4 w5 := hC5.below (by omega) (fun k hk => (hD4.foot hk).1)
  have HB := hide ((((hB1.trans b2).trans b3).trans b4).trans b5)
  have HD := hide hD5
  clear hC2 hC3 hC4 hC5 hF2 hF3 hF4 hF5 hD1 hD2 hD3 hD4 hD5 hB1 b2 b3 b4 b5 s1 s2 s3 s4
  go_wp2_with fail
  go_ret
  exact ⟨rfl, D5, HD.out, HP5.out, HB.out, fun k hk => (HD.out.foot hk).1⟩

/-- A turn that the law lets by: what the program answers, what the book asks, and that the tie holds behind. -/
theorem shows_empty (who id : Int) : (showsH who).toList.isEmpty = true → showsI who id = 77 := by
  unfold showsH showsI
  intro h
  cases h1 : (pickF who == 1) with
  | true => rw [h1] at h; simp at h
  | false =>
    cases h2 : (pickF who == 2) with
    | true => rw [h1, h2] at h; simp at h
    | false => simp

theorem stepP_clock {E : Int} {P Q : PDep} (h : Q.clock = P.clock) : (stepP E P Q).clock = P.clock := by unfold stepP; split <;> simp [h]
theorem stepP_root {E : Int} {P Q : PDep} (h : Q.root = P.root) : (stepP E P Q).root = P.root := by unfold stepP; split <;> simp [h]
theorem stepP_no {E : Int} {P Q : PDep} (h : E ≠ 0) : stepP E P Q = P := if_neg h
theorem stepP_yes {E : Int} {P Q : PDep} (h : E = 0) : stepP E P Q = Q := if_pos h

end

section
open Go.RowKit

structure TurnAt (w : World) (g o : Nat) (x : TurnD) : Prop where
  d0 : w.cell? ⟨g, o, none⟩ = some (.int .i64 x.who)
  d1 : w.cell? ⟨g, o + 1, none⟩ = some (.int .i64 x.kind)
  d2 : w.cell? ⟨g, o + 2, none⟩ = some (.int .i64 x.id)
  d3 : w.cell? ⟨g, o + 3, none⟩ = some (.string x.of)
  d4 : w.cell? ⟨g, o + 4, none⟩ = some (.string x.s)
  d5 : w.cell? ⟨g, o + 5, none⟩ = some (.string x.t)
  d6 : w.cell? ⟨g, o + 6, none⟩ = some (.int .i64 x.a)
  d7 : w.cell? ⟨g, o + 7, none⟩ = some (.int .i64 x.b)
  d8 : w.cell? ⟨g, o + 8, none⟩ = some (.int .i64 x.c)

theorem TurnAt.below {w w' : World} {B g o : Nat} {x : TurnD} (h : TurnAt w g o x) (hb : Below B w w') (hg : g < B) : TurnAt w' g o x :=
  ⟨(hb.cell (p := ⟨g, _, none⟩) hg).trans h.d0, (hb.cell (p := ⟨g, _, none⟩) hg).trans h.d1, (hb.cell (p := ⟨g, _, none⟩) hg).trans h.d2, (hb.cell (p := ⟨g, _, none⟩) hg).trans h.d3,
    (hb.cell (p := ⟨g, _, none⟩) hg).trans h.d4, (hb.cell (p := ⟨g, _, none⟩) hg).trans h.d5, (hb.cell (p := ⟨g, _, none⟩) hg).trans h.d6, (hb.cell (p := ⟨g, _, none⟩) hg).trans h.d7, (hb.cell (p := ⟨g, _, none⟩) hg).trans h.d8⟩

theorem box_kept {W w1 : World} {db : Nat} {D : DepD} {P' : PDep} {o : Obj} (hr : DepAt W db D) (hst : DepStep (W.alloc o) w1 db D P') : w1.heap[W.heap.size]? = some o := by
  rw [hst.above hr (Nat.le_refl _) (by simp), heap_alloc_new]

theorem below_one (w : World) (o : Obj) : Below w.heap.size w (w.alloc o) := (Below.refl _ _).alloc (Nat.le_refl _) _

end

end Go.Proofs.YtgcldedkempjhaaDoor
