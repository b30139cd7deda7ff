/-
  depot.Depot: Found.
-/
import Derived.Test.YtgcldedkempjhabGreatDoorDepUpd
namespace Go.Proofs.YtgcldedkempjhabGreatDoor
section
open Go.RowKit

abbrev freshD (root : Int) : DepD := ⟨root, 0, none, 0, [], none, 0, [], 0⟩

theorem DepAt.fresh (w : World) (root : Int) (ht : TabOk w) : DepAt (w.alloc (.cells #[.int .i64 root, .int .i64 0, .slice none 0 0, .slice none 0 0] 44)) w.heap.size (freshD root) := by
  have h := heap_alloc_new w (.cells #[.int .i64 root, .int .i64 0, .slice none 0 0, .slice none 0 0] 44)
  have hnone : ∀ {k : Nat}, ¬ blockOf none k := fun ⟨a, e, _⟩ => by cases e
  have hrow : ∀ q r, (freshD root).row q = some r → r = ⟨143, 4, none, 0, 0, []⟩ := by
    intro q r hq
    match q, hq with
    | none, hq => injection hq with hq; exact hq.symm
    | some (f, i), hq => simp [DepD.row] at hq
  refine ⟨⟨(cell_of_heap h 0).trans rfl, (cell_of_heap h 1).trans rfl, (cell_of_heap h 2).trans rfl, (cell_of_heap h 3).trans rfl, fun j => frozen_of_heap h j, World.ownsRow_nil _ _ _ _⟩, ⟨?_, ?_, ?_⟩, ⟨by simp [DepD.pure], by simp [DepD.pure], by simp [DepD.pure], by simp [DepD.pure], by simp [DepD.pure], by simp [DepD.pure], by simp [DepD.pure], by simp [DepD.pure], by simp [DepD.pure], by simp [DepD.pure]⟩, ht.below ((Below.refl _ _).alloc (Nat.le_refl _) _), ht.lt⟩
  · intro q r hq
    rw [hrow q r hq]
    exact World.ownsRow_nil _ _ _ _
  · intro q q' r r' h1 _ _ k k1
    rw [hrow q r h1] at k1
    exact absurd k1 hnone
  · intro e he
    rcases he with he | ⟨x, hx, _⟩
    · cases he
    · cases hx

set_option maxHeartbeats 400000 in
theorem new_no (root : Int) (w : World) (h : root < 1) :
    Calls Tryz.prog 5 #[.int .i64 root] w fun e w' => e = .returned (.tuple #[.pointer none, .int .i64 1]) ∧ w' = w := by
  go_enter Tryz.func5, Tryz.ntmps5
  go_wp2
  go_ret2
  exact ⟨rfl, rfl⟩

set_option maxHeartbeats 400000 in
theorem new_yes (root : Int) (w : World) (h : 1 ≤ root) (ht : TabOk w) :
    Calls Tryz.prog 5 #[.int .i64 root] w fun e w' => e = .returned (.tuple #[.pointer (some ⟨w.heap.size, 0, none⟩), .int .i64 0]) ∧ DepAt w' w.heap.size (freshD root) ∧ Below w.heap.size w w' := by
  go_enter Tryz.func5, Tryz.ntmps5
  go_wp2
  go_ret2
  exact ⟨rfl, DepAt.fresh w root ht, (Below.refl _ _).alloc (Nat.le_refl _) _⟩

set_option maxHeartbeats 400000 in
theorem clock_any (db : Nat) (D : DepD) (w : World) (hr : DepAt w db D) :
    Calls Tryz.prog 14 #[.pointer (some ⟨db, 0, none⟩)] w fun e w' => e = .returned (.int .i64 D.pure.clock) ∧ w' = w := by
  have c1 := hr.head.c1
  go_enter Tryz.func14, Tryz.ntmps14
  go_wp2
  go_ret
  exact ⟨rfl, rfl⟩

theorem DepStep.tick {w : World} {db : Nat} {D : DepD} (h : DepAt w db D) (t : Int) : DepStep w (w.setCell ⟨db, 1, none⟩ (.int .i64 t)) db D { D.pure with clock := t } := by
  refine (DepTo.mk' (D' := { D with clock := t }) h ⟨?_, ?_, ?_, ?_, ?_, ?_⟩ ?_ ⟨h.lens.h, h.lens.t, h.lens.e, h.lens.g, h.lens.p, h.lens.w, h.lens.l, h.lens.y, h.lens.q, h.lens.r⟩ ((Chg.refl _ _).setCell (Or.inl (Or.inl rfl)) _) (fun k hk => Or.inl hk)).step rfl
  · rw [cell_setCell_ne (by omega)]; exact h.head.c0
  · rw [cell_setCell_same h.head.c1]
  · rw [cell_setCell_ne (by omega)]; exact h.head.c2
  · rw [cell_setCell_ne (by omega)]; exact h.head.c3
  · intro j; rw [frozen_setCell]; exact h.head.f j
  · exact ownsRow_setCell_below h.head.own (Nat.lt_succ_self db) _
  · have := h.rows.set (a := ⟨db, 1, none⟩) (Or.inl rfl) (.int .i64 t)
    exact ⟨this.row, this.sep, this.want⟩

set_option maxHeartbeats 400000 in
theorem tick_no (db : Nat) (n : Int) (w : World) (h : n < 0) :
    Calls Tryz.prog 12 #[.pointer (some ⟨db, 0, none⟩), .int .i64 n] w fun e w' => e = .returned (.int .i64 1) ∧ w' = w := by
  go_enter Tryz.func12, Tryz.ntmps12
  go_wp2
  go_ret
  exact ⟨rfl, rfl⟩

set_option maxHeartbeats 400000 in
theorem tick_yes (db : Nat) (D : DepD) (n : Int) (w : World) (hr : DepAt w db D) (h : 0 ≤ n) (hn : n ≤ 9223372036854775807) (ht0 : 0 ≤ D.clock) (ht : D.clock ≤ 1099511627776) :
    Calls Tryz.prog 12 #[.pointer (some ⟨db, 0, none⟩), .int .i64 n] w fun e w' => e = .returned (.int .i64 0) ∧
      DepStep w w' db D { D.pure with clock := tickF D.clock n } := by
  have c1 := hr.head.c1
  have f1 := hr.head.f 1
  have HU := hide (show ∀ (W : World) (t : Int), t = tickF D.clock n → W.setCell ⟨db, 1, none⟩ (.int .i64 t) = W.setCell ⟨db, 1, none⟩ (.int .i64 (tickF D.clock n)) from fun W t h => by rw [h])
  go_enter Tryz.func12, Tryz.ntmps12
  go_wp2
  all_goals
    go_ret
    rw [HU.out _ _ (by unfold tickF; split <;> omega)]
    exact ⟨rfl, DepStep.tick hr _⟩

set_option maxHeartbeats 400000 in
theorem may_any (db : Nat) (D : DepD) (house : ByteArray) (id : Int) (w : World) (hr : DepAt w db D) :
    Calls Tryz.prog 16 #[.pointer (some ⟨db, 0, none⟩), .string house, .int .i64 id] w fun e w' =>
      e = .returned (.tuple #[.int .i64 (mayF (heldF D.pure house id)).1, .int .i64 (mayF (heldF D.pure house id)).2]) ∧ Below w.heap.size w w' := by
  have Hc := hide (held_any db D house id w hr)
  generalize heldF D.pure house id = r at *
  cases h0 : (r == 0) with
  | true =>
    have hf : mayF r = (0, 3) := by simp [mayF, h0]
    rw [hf]
    clear hf
    go_enter Tryz.func16, Tryz.ntmps16
    go_wp2_with fail
    refine Hc.out.mono ?_
    rintro e w1 ⟨rfl, hb⟩
    go_wp2_with fail
    go_ret2
    exact ⟨rfl, hb⟩
  | false =>
    have hf : mayF r = (r, 0) := by simp [mayF, h0]
    rw [hf]
    clear hf
    go_enter Tryz.func16, Tryz.ntmps16
    go_wp2_with fail
    refine Hc.out.mono ?_
    rintro e w1 ⟨rfl, hb⟩
    go_wp2_with fail
    go_ret2
    exact ⟨rfl, hb⟩

end

section
open Go.RowKit

theorem Tryz.infoHse : (Tryz.prog.info? 91).map (fun i => (i.zero, i.size, i.bytes)) = some (some (.agg #[.string ⟨#[]⟩, .slice none 0 0, .slice none 0 0, .slice none 0 0, .slice none 0 0]), 5, 112) := by kernel_rfl

def foundP (r : Int) (b1 b2 : Bool) (n : Nat) : Int :=
  if r == 0 then 3 else if r != 4 then 4 else if !b1 then 2 else if b2 then 5 else if 6 ≤ n then 6 else 0

/-- With an error all is as it was. -/
def stepP (E : Int) (P Q : PDep) : PDep := if E = 0 then Q else P

theorem DepStep.err {w w' : World} {db : Nat} {D : DepD} {E F : Int} {Q : PDep} (hr : DepAt w db D) (hb : Below w.heap.size w w') (hE : E = F) (hF : F ≠ 0) :
    Ending.returned (.int .i64 F) = .returned (.int .i64 E) ∧ DepStep w w' db D (stepP E D.pure Q) := by
  subst hE
  refine ⟨rfl, ?_⟩
  unfold stepP
  rw [if_neg hF]
  exact DepStep.ofBelow hr hb

theorem DepStep.ok {w w' : World} {db : Nat} {D : DepD} {E : Int} {Q P : PDep} (h0 : E = 0) (h : DepStep w w' db D Q) : DepStep w w' db D (stepP E P Q) := by
  subst h0
  unfold stepP
  rw [if_pos rfl]
  exact h

def foundS (P : PDep) (name : ByteArray) : PDep := { P with hs := P.hs ++ [⟨name, [], [], [], []⟩] }

set_option maxHeartbeats 800000 in
set_option maxRecDepth 100000 in
theorem found_any (db : Nat) (D : DepD) (house : ByteArray) (id : Int) (name : ByteArray) (w : World) (hr : DepAt w db D) (E : Int)
    (hE : E = foundP (heldF D.pure house id) (wordF name) (hseF D.pure.hs name).isSome D.pure.hs.length) :
    Calls Tryz.prog 18 #[.pointer (some ⟨db, 0, none⟩), .string house, .int .i64 id, .string name] w fun e w' =>
      e = .returned (.int .i64 E) ∧ DepStep w w' db D (stepP E D.pure (foundS D.pure name)) := by
  have Hheld := hide (held_any db D house id w hr)
  have Hword := hide (isWord_any name)
  have HE := hide (show E = foundP (heldF D.pure house id) (wordF name) (hseF D.pure.hs name).isSome D.hs.length by rw [hE]; simp [DepD.pure])
  clear hE
  generalize heldF D.pure house id = r at *
  rcases hse_cases D name with ⟨i, hi, h1, h3⟩ | ⟨h1, h3⟩
  · obtain ⟨g, hg, _⟩ := hr.house i hi
    have Hf := hide (fun W h => depFind_some db D name W h i hi h1 g hg)
    rw [h3] at HE
    clear h1 h3
    generalize wordF name = b1 at *
    go_enter Tryz.func18, Tryz.ntmps18
    go_wp2_with fail
    refine Hheld.out.mono ?_
    rintro e w1 ⟨rfl, hb⟩
    have hr1 := hr.below hb
    go_wp2_with fail
    · go_ret
      exact DepStep.err hr hb (by rw [HE.out]; simp [foundP, *]) (by decide)
    · go_ret
      exact DepStep.err hr hb (by rw [HE.out]; simp [foundP, *]) (by decide)
    · refine (Hword.out _).mono ?_
      rintro e w2 ⟨rfl, hh⟩
      subst hh
      go_wp2_with fail
      · go_ret
        exact DepStep.err hr hb (by rw [HE.out]; simp [foundP, *]) (by decide)
      · refine (Hf.out _ hr1).mono ?_
        rintro e w3 ⟨rfl, hh⟩
        subst hh
        go_wp2_with fail
        go_ret
        exact DepStep.err hr hb (by rw [HE.out]; simp [foundP, *]) (by decide)
  · have Hf := hide (fun W h => depFind_none db D name W h h1)
    rw [h3] at HE
    clear h1 h3
    generalize hB : wordF name = b1 at *
    have HB := hide hB
    clear hB
    go_enter Tryz.func18, Tryz.ntmps18
    go_wp2_with fail
    refine Hheld.out.mono ?_
    rintro e w1 ⟨rfl, hb⟩
    have hr1 := hr.below hb
    have c2 := hr1.head.c2
    go_wp2_with fail
    · go_ret
      exact DepStep.err hr hb (by rw [HE.out]; simp [foundP, *]) (by decide)
    · go_ret
      exact DepStep.err hr hb (by rw [HE.out]; simp [foundP, *]) (by decide)
    · refine (Hword.out _).mono ?_
      rintro e w2 ⟨rfl, hh⟩
      subst hh
      go_wp2_with fail
      · go_ret
        exact DepStep.err hr hb (by rw [HE.out]; simp [foundP, *]) (by decide)
      · refine (Hf.out _ hr1).mono ?_
        rintro e w3 ⟨rfl, hh⟩
        subst hh
        by_cases h6 : 6 ≤ D.hs.length
        · go_wp2_with fail
          go_ret
          exact DepStep.err hr hb (by rw [HE.out]; simp [foundP, *]) (by decide)
        · have H0 := hide (show E = 0 by rw [HE.out]; simp [foundP, *])
          have HB2 := hide (show wordF name = true by rw [HB.out]; simp_all)
          obtain ⟨wb, cp, k1, k2, hbw, hszb⟩ := copied name w3
          have hrb := hr1.below hbw
          have hbb := below_call hb hbw
          have cb2 := hrb.head.c2
          have fb2 := hrb.head.f 2
          have hdb := hrb.lt
          have hown := hrb.head.own
          obtain ⟨i0, ti, hz0, hz1, hz2⟩ := info_parts Tryz.infoHse
          go_wp2_with fail
          have B1 := hide (show D.hs.length + 1 ≤ maxLen by unfold maxLen; omega)
          have B2 := hide (show (D.hs.length + 1) * 112 ≤ 140737488355328 by omega)
          clear k1 k2 c2
          go_region_law (refine step_append_own rfl (.tmp 40) (.tmp 42) 39 rfl (db + 1) 91 i0 (.agg #[.string ⟨#[]⟩, .slice none 0 0, .slice none 0 0, .slice none 0 0, .slice none 0 0]) 5 112 Tryz.underlying39 ti hz0 hz1 hz2 rfl (by decide) (.slice D.ho D.hs.length D.hcap) D.hs.length (hsesCells D.hs) ?_ ?_ ⟨wb.heap.size + 1, 0, none⟩ 1 1 [.string name, .slice none 0 0, .slice none 0 0, .slice none 0 0, .slice none 0 0] ?_ rfl ?_ ?_ B1.out B2.out ?_ (Nat.succ_pos _) ?_; simp [Act.eval]; exact (hown.alloc _).alloc _; simp [Act.eval]; exact news_at (t := 91) (fr := (0, 0)) (heap2_new wb _ _); simp [Value.oneCell']; exact Nat.le_trans (show db + 1 ≤ wb.heap.size + 2 by omega) (Nat.le_of_eq (size2 wb _ _).symm); intro g' cap' w' hown' hgrow hnew; have hchg : Chg (blockOf D.ho) wb w' := Chg.ofGrown hgrow rfl rfl rfl (Nat.le_trans (Nat.le_add_right _ 2) (Nat.le_of_eq (size2 wb _ _).symm)) (fun k hk => heap2_old wb _ _ k hk) (fun k hk => Or.inl (row_of hk)); have hk : w'.heap[db]? = wb.heap[db]? := hchg.block db hdb (fun hb => by have := (blockOf_lt hown hb).1; omega); have k2 := (World.cell?_of_block (a := ⟨db, 2, none⟩) hk).trans cb2; have kf := (World.frozen?_of_block (a := ⟨db, 2, none⟩) hk).trans fb2)
          all_goals
            have hfoot := hide (show blockOf D.ho g' ∨ wb.heap.size ≤ g' from hnew.elim (fun h => Or.inl (row_of h)) (fun h => Or.inr (Nat.le_trans (Nat.le_trans (Nat.le_add_right _ 2) (Nat.le_of_eq (size2 wb _ _).symm)) h)))
            clear hnew hgrow
            go_wp2_with fail
            go_ret
            refine ⟨ret_int H0.out.symm, DepStep.ok H0.out ?_⟩
            exact DepStep.pushHse hr hbb name HB2.out g' cap' (by omega) hchg hown' hfoot.out rfl

end

end Go.Proofs.YtgcldedkempjhabGreatDoor
