/-
  depot.Depot: Found.
-/
import Derived.Test.YtdddbinlkljbcaaDepCalls
import Derived.Lib.ConvBytes
import Derived.Laws.IdiomStrings
namespace Go.Proofs.Ytdddbinlkljbcaa
open Go.RowKit

theorem Try.infoHse : (Try.prog.info? 82).map (fun i => (i.zero, i.size, i.bytes)) = some (some (.agg #[.string ⟨#[]⟩, .slice none 0 0]), 2, 40) := by kernel_rfl

def foundP (r : Int) (b1 b2 : Bool) (n : Nat) : Int :=
  if r == 0 then 3 else if r != 4 then 4 else if !b1 then 2 else if b2 then 5 else if 6 ≤ n then 6 else 0

/-- Found's change of the houses. -/
def FoundR (E : Int) (name : ByteArray) (hs hs' : List Hse) : Prop :=
  (E ≠ 0 ∧ hs' = hs) ∨ (E = 0 ∧ ∃ h, h.name.toList = name.toList ∧ h.toks = [] ∧ hs' = hs ++ [h])

theorem DepStep.err {w w' : World} {db : Nat} {root clock : Int} {ho : Option Addr} {hcap : Nat} {hs : List Hse} {E F : Int} {R : Int → List Hse → List Hse → Prop} (hr : DepAt w db root clock ho hcap hs) (hb : Below w.heap.size w w') (hE : E = F) (hF : F ≠ 0)
    (hR : ∀ E, E ≠ 0 → R E hs hs) :
    Ending.returned (.int .i64 F) = .returned (.int .i64 E) ∧ DepStep w w' db root clock ho hs (R E hs) := by
  subst hE
  exact ⟨rfl, DepStep.ofBelow hr hb (hR _ hF)⟩

theorem types_apart {w : World} {db : Nat} {root clock : Int} {ho : Option Addr} {hcap : Nat} {hs : List Hse} (h : DepAt w db root clock ho hcap hs) (i : Nat) (hi : i < hs.length) {k : Nat} (h1 : blockOf hs[i].ao k) : ¬ blockOf ho k := by
  intro h2
  obtain ⟨c1, e1⟩ := blockOf_heap (h.ring i hi) h1
  obtain ⟨c2, e2⟩ := blockOf_heap h.own h2
  rw [e1] at e2
  injection e2 with e
  injection e with _ e _
  exact absurd e (by decide)

theorem DepAt.push {w w' : World} {db : Nat} {root clock : Int} {ho : Option Addr} {hcap : Nat} {hs : List Hse} {name : ByteArray} {g' cap' : Nat} (h : DepAt w db root clock ho hcap hs) (h6 : hs.length < 6)
    (hchg : Chg (blockOf ho) w w') (hown : w'.ownsRow (db + 1) 82 2 (.slice (some ⟨g', 0, none⟩) (hs.length + 1) cap') (hs.length + 1) (hsesCells hs ++ [.string name, .slice none 0 0])) :
    DepAt (w'.setCell ⟨db, 2, none⟩ (.slice (some ⟨g', 0, none⟩) (hs.length + 1) cap')) db root clock (some ⟨g', 0, none⟩) cap' (hs ++ [⟨name, [], none, 0⟩]) := by
  have hk : w'.heap[db]? = w.heap[db]? := hchg.block db h.lt (fun hb => by have := (blockOf_lt h.own hb).1; omega)
  have e2 := (World.cell?_of_block (a := ⟨db, 2, none⟩) hk).trans h.c2
  refine ⟨?_, ?_, ?_, ?_, ?_, ?_, ?_, ?_, ?_, ?_⟩
  · rw [cell_setCell_ne (by omega)]; exact (World.cell?_of_block (a := ⟨db, 0, none⟩) hk).trans h.c0
  · rw [cell_setCell_ne (by omega)]; exact (World.cell?_of_block (a := ⟨db, 1, none⟩) hk).trans h.c1
  · rw [cell_setCell_same e2]; simp
  · rw [frozen_setCell]; exact (World.frozen?_of_block (a := ⟨db, 1, none⟩) hk).trans h.f1
  · rw [frozen_setCell]; exact (World.frozen?_of_block (a := ⟨db, 2, none⟩) hk).trans h.f2
  · have hd : hsesCells (hs ++ [⟨name, [], none, 0⟩]) = hsesCells hs ++ [.string name, .slice none 0 0] := by simp [hsesCells, Hse.cells]
    rw [hd, List.length_append, List.length_singleton]
    exact ownsRow_setCell_below hown (Nat.lt_succ_self db) _
  · intro i hi
    by_cases hlt : i < hs.length
    · rw [List.getElem_append_left hlt]
      refine ownsRow_setCell_below ?_ (Nat.lt_succ_self db) _
      exact ownsRow_keep (h.ring i hlt) (fun k hb => hchg.block k (blockOf_lt (h.ring i hlt) hb).2 (types_apart h i hlt hb))
    · have hi' : i = hs.length := by simp at hi; omega
      subst hi'
      rw [List.getElem_append_right (Nat.le_refl _)]
      simp only [Nat.sub_self, List.getElem_cons_zero]
      exact World.ownsRow_nil _ _ _ _
  · intro i j hi hj hne k hb hb'
    by_cases hlt : i < hs.length
    · rw [List.getElem_append_left hlt] at hb
      by_cases hltj : j < hs.length
      · rw [List.getElem_append_left hltj] at hb'
        exact h.sep i j hlt hltj hne k hb hb'
      · have hj' : j = hs.length := by simp at hj; omega
        subst hj'
        rw [List.getElem_append_right (Nat.le_refl _)] at hb'
        obtain ⟨a, e, _⟩ := hb'
        simp at e
    · have hi' : i = hs.length := by simp at hi; omega
      subst hi'
      rw [List.getElem_append_right (Nat.le_refl _)] at hb
      obtain ⟨a, e, _⟩ := hb
      simp at e
  · simp; omega
  · intro i hi
    by_cases hlt : i < hs.length
    · rw [List.getElem_append_left hlt]; exact h.tlen i hlt
    · have hi' : i = hs.length := by simp at hi; omega
      subst hi'
      rw [List.getElem_append_right (Nat.le_refl _)]
      simp

theorem copied (name : ByteArray) (w : World) : ∃ wb cp, (convert 9 77 (.string name)).run Try.prog w = .ok (.slice (some ⟨w.heap.size, 0, none⟩) name.size cp) wb ∧
    (convert 77 9 (.slice (some ⟨w.heap.size, 0, none⟩) name.size cp)).run Try.prog wb = .ok (.string name) wb ∧ Below w.heap.size w wb ∧ w.heap.size < wb.heap.size := by
  have h1 := Lib.run_convert_string_bytes (P := Try.prog) w 9 77 5 name Try.underlying9 Try.underlying77 Try.underlying5
  refine ⟨_, _, h1, ?_, ⟨?_, ?_, ?_, ?_, ?_⟩, ?_⟩
  · have h2 := run_convert_bytes_back (P := Try.prog) (Lib.bytesWorld w 5 name) 77 9 5 ⟨w.heap.size, 0, none⟩ (grownCap w name.size 0 5) name.data.toList Try.underlying77 Try.underlying5 Try.underlying9 ?_
    · exact h2
    · intro j hj
      have hadd : (⟨w.heap.size, 0, none⟩ : Addr).add j = ⟨w.heap.size, j, none⟩ := by unfold Addr.add; split <;> simp_all
      rw [hadd, Lib.bytesWorld_cell w 5 name j (by simpa using hj), List.getD_eq_getElem?_getD, List.getElem?_eq_getElem hj]
      rfl
  · rfl
  · rfl
  · rfl
  · rw [Lib.bytesWorld_size]; omega
  · intro k hk; exact Lib.bytesWorld_at_old w _ name k hk
  · rw [Lib.bytesWorld_size]; omega

theorem found_foot {db : Nat} {ho : Option Addr} {hs : List Hse} {h : Hse} (hao : h.ao = none) {g' N : Nat} (hg : blockOf ho g' ∨ N ≤ g') :
    ∀ k, DepFoot db (some ⟨g', 0, none⟩) (hs ++ [h]) k → DepFoot db ho hs k ∨ N ≤ k := by
  intro k hk
  rcases hk with rfl | ⟨a, e, rfl⟩ | ⟨i, hi, hb⟩
  · exact Or.inl (Or.inl rfl)
  · injection e with e
    subst e
    exact hg.elim (fun h => Or.inl (Or.inr (Or.inl h))) Or.inr
  · by_cases hlt : i < hs.length
    · rw [List.getElem_append_left hlt] at hb
      exact Or.inl (Or.inr (Or.inr ⟨i, hlt, hb⟩))
    · have hi' : i = hs.length := by simp at hi; omega
      subst hi'
      rw [List.getElem_append_right (Nat.le_refl _)] at hb
      obtain ⟨a, e, _⟩ := hb
      simp [hao] at e

set_option maxHeartbeats 800000 in
set_option maxRecDepth 100000 in
theorem found_any (db : Nat) (root clock : Int) (ho : Option Addr) (hcap : Nat) (hs : List Hse) (house : ByteArray) (id : Int) (name : ByteArray) (w : World) (hr : DepAt w db root clock ho hcap hs) (E : Int)
    (hE : E = foundP (heldF root clock hs house id) (wordF name) (hseF hs name).isSome hs.length) :
    Calls Try.prog 13 #[.pointer (some ⟨db, 0, none⟩), .string house, .int .i64 id, .string name] w fun e w' =>
      e = .returned (.int .i64 E) ∧ DepStep w w' db root clock ho hs (FoundR E name hs) := by
  have HRE := hide (show ∀ E, E ≠ 0 → FoundR E name hs hs from fun E h => Or.inl ⟨h, rfl⟩)
  have Hheld := hide (held_any db root clock ho hcap hs house id w hr)
  have Hword := hide (isWord_any name)
  have HE := hide hE
  clear hE
  generalize heldF root clock hs house id = r at *
  rcases hse_cases hs name with ⟨i, hi, h1, h2, h3⟩ | ⟨h1, h3⟩
  · have Hf := hide (fun W h => depFind_some db root clock ho hcap hs name W h i hi h1 h2)
    rw [h3] at HE
    clear h1 h2 h3
    generalize wordF name = b1 at *
    go_enter Try.func13, Try.ntmps13
    go_wp2_with fail
    refine Hheld.out.mono ?_
    rintro e w1 ⟨rfl, hb⟩
    have hr1 := hr.below hb
    go_wp2_with fail
    · go_ret
      exact DepStep.err (R := fun E => FoundR E name) hr hb (by rw [HE.out]; simp [foundP, *]) (by decide) HRE.out
    · go_ret
      exact DepStep.err (R := fun E => FoundR E name) hr hb (by rw [HE.out]; simp [foundP, *]) (by decide) HRE.out
    · refine (Hword.out _).mono ?_
      rintro e w2 ⟨rfl, hh⟩
      subst hh
      go_wp2_with fail
      · go_ret
        exact DepStep.err (R := fun E => FoundR E name) hr hb (by rw [HE.out]; simp [foundP, *]) (by decide) HRE.out
      · refine (Hf.out _ hr1).mono ?_
        rintro e w3 ⟨rfl, hh⟩
        subst hh
        go_wp2_with fail
        go_ret
        exact DepStep.err (R := fun E => FoundR E name) hr hb (by rw [HE.out]; simp [foundP, *]) (by decide) HRE.out
  · have Hf := hide (fun W h => depFind_none db root clock ho hcap hs name W h h1)
    rw [h3] at HE
    clear h1 h3
    generalize wordF name = b1 at *
    go_enter Try.func13, Try.ntmps13
    go_wp2_with fail
    refine Hheld.out.mono ?_
    rintro e w1 ⟨rfl, hb⟩
    have hr1 := hr.below hb
    have c2 := hr1.c2
    go_wp2_with fail
    · go_ret
      exact DepStep.err (R := fun E => FoundR E name) hr hb (by rw [HE.out]; simp [foundP, *]) (by decide) HRE.out
    · go_ret
      exact DepStep.err (R := fun E => FoundR E name) hr hb (by rw [HE.out]; simp [foundP, *]) (by decide) HRE.out
    · refine (Hword.out _).mono ?_
      rintro e w2 ⟨rfl, hh⟩
      subst hh
      go_wp2_with fail
      · go_ret
        exact DepStep.err (R := fun E => FoundR E name) hr hb (by rw [HE.out]; simp [foundP, *]) (by decide) HRE.out
      · refine (Hf.out _ hr1).mono ?_
        rintro e w3 ⟨rfl, hh⟩
        subst hh
        by_cases h6 : 6 ≤ hs.length
        · go_wp2_with fail
          go_ret
          exact DepStep.err (R := fun E => FoundR E name) hr hb (by rw [HE.out]; simp [foundP, *]) (by decide) HRE.out
        · have H0 := hide (show E = 0 by rw [HE.out]; simp [foundP, *])
          obtain ⟨wb, cp, k1, k2, hbw, hszb⟩ := copied name w3
          have hrb := hr1.below hbw
          have hbb := below_call hb hbw
          have cb2 := hrb.c2
          have fb2 := hrb.f2
          have hdb := hrb.lt
          have hown := hrb.own
          obtain ⟨i0, ti, hz0, hz1, hz2⟩ := info_parts Try.infoHse
          go_wp2_with fail
          have B1 := hide (show hs.length + 1 ≤ maxLen by unfold maxLen; omega)
          have B2 := hide (show (hs.length + 1) * 40 ≤ 140737488355328 by omega)
          clear k1 k2 c2
          go_region_law (refine step_append_own rfl (.tmp 40) (.tmp 42) 69 rfl (db + 1) 82 i0 (.agg #[.string ⟨#[]⟩, .slice none 0 0]) 2 40 Try.underlying69 ti hz0 hz1 hz2 rfl (by decide) (.slice ho hs.length hcap) hs.length (hsesCells hs) ?_ ?_ ⟨wb.heap.size + 1, 0, none⟩ 1 1 [.string name, .slice none 0 0] ?_ rfl ?_ ?_ B1.out B2.out ?_ (Nat.succ_pos _) ?_; simp [Act.eval]; exact (hown.alloc _).alloc _; simp [Act.eval]; exact news_at (t := 82) (fr := (0, 0)) (heap2_new wb _ _); simp [Value.oneCell']; exact Nat.le_trans (show db + 1 ≤ wb.heap.size + 2 by omega) (Nat.le_of_eq (size2 wb _ _).symm); intro g' cap' w' hown' hgrow hnew; have hchg : Chg (blockOf ho) wb w' := Chg.ofGrown hgrow rfl rfl rfl (Nat.le_trans (Nat.le_add_right _ 2) (Nat.le_of_eq (size2 wb _ _).symm)) (fun k hk => heap2_old wb _ _ k hk) (fun k hk => Or.inl (row_of hk)); have hk : w'.heap[db]? = wb.heap[db]? := hchg.block db hdb (fun hb => by have := (blockOf_lt hown hb).1; omega); have k2 := (World.cell?_of_block (a := ⟨db, 2, none⟩) hk).trans cb2; have kf := (World.frozen?_of_block (a := ⟨db, 2, none⟩) hk).trans fb2)
          all_goals
            have hfoot := hide (show blockOf ho g' ∨ wb.heap.size ≤ g' from hnew.elim (fun h => Or.inl (row_of h)) (fun h => Or.inr (Nat.le_trans (Nat.le_trans (Nat.le_add_right _ 2) (Nat.le_of_eq (size2 wb _ _).symm)) h)))
            clear hnew hgrow
            go_wp2_with fail
            go_ret
            rw [H0.out]
            refine ⟨rfl, DepStep.behind hbb ⟨some ⟨g', 0, none⟩, cap', hs ++ [⟨name, [], none, 0⟩], hrb.push (by omega) hchg hown', Or.inr ⟨rfl, ⟨name, [], none, 0⟩, rfl, rfl, rfl⟩, ?_, found_foot rfl hfoot.out⟩⟩
            exact (hchg.mono (S' := DepFoot db ho hs) (fun _ h => Or.inr (Or.inl h))).setCell (Or.inl (Or.inl rfl)) _

end Go.Proofs.Ytdddbinlkljbcaa
