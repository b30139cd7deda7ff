/-
  depotkeep: the book's mints.
-/
import Derived.Test.YtgcldedkempjhaaDoorTurn
namespace Go.Proofs.YtgcldedkempjhaaDoor
open Go.RowKit

set_option maxHeartbeats 4000000 in
set_option maxRecDepth 100000 in
theorem bmints_any (bb : Nat) (now : Int) (ao : Option Addr) (cap : Nat) (bs : List Bk) (x : TurnD) (house : ByteArray) (id : Int) (w : World) (hr : KBookAt w bb now ao cap bs) (hl16 : bs.length < 1000) (h1 : -9223372036854775808 ≤ x.who) (h2 : x.who ≤ 9223372036854775807)
    (e1 : house = showsH x.who) (e2 : id = showsI x.who x.id) (E : Int) (hE : E = bmintE (bookRole now bs house id) (house.toList == x.of.toList) (isHG x.of) x.a x.b x.c (bookF bs x.of x.b).isSome (countF bs x.of)) :
    Calls Tryd.prog 43 #[.pointer (some ⟨bb, 0, none⟩), .agg (turnV x)] w fun e w' => e = .returned (.int .i64 E) ∧ BookStep w w' bb now ao (BMintR E x bs) := by
  have HRE := hide (show ∀ E, E ≠ 0 → BMintR E x bs bs from fun E h => Or.inl ⟨h, rfl⟩)
  have Hs := hide (fun W => shows_any x house id W h1 h2 e1 e2)
  have Hr := hide (fun W h => bookRole_any bb now ao cap bs house id W h)
  have Hn := hide (fun W h => bookCount_any bb now ao cap bs x.of W h)
  have hcl := countF_le bs x.of
  have hbl := hr.len
  have HE := hide hE
  have hb0 : Below w.heap.size w (w.alloc (.cells (turnV x) 32)) := (Below.refl _ _).alloc (Nat.le_refl _) _
  obtain ⟨old, oi, hold, hoi, Hf⟩ : ∃ (old : Bool) (oi : Int), (bookF bs x.of x.b).isSome = old ∧ ((old = true ∧ 0 ≤ oi) ∨ (old = false ∧ oi = -1)) ∧ Hid (∀ W, KBookAt W bb now ao cap bs →
      Calls Tryd.prog 76 #[.pointer (some ⟨bb, 0, none⟩), .string x.of, .int .i64 x.b] W fun e w' => e = .returned (.int .i64 oi) ∧ w' = W) := by
    rcases find_cases (bookP x.of x.b) bs with ⟨i, hi, q1, q2, q3⟩ | ⟨q1, q3⟩
    · exact ⟨true, i, by simp [bookF, q3], Or.inl ⟨rfl, by omega⟩, fun W h => bookFind_some bb now ao cap bs x.of x.b W h i hi q1 q2⟩
    · exact ⟨false, -1, by simp [bookF, q3], Or.inr ⟨rfl, rfl⟩, fun W h => bookFind_none bb now ao cap bs x.of x.b W h q1⟩
  rw [hold] at HE
  clear hE e1 e2 hold
  have HO := hide hoi
  clear hoi
  generalize bookRole now bs house id = r at *
  generalize countF bs x.of = n at *
  go_enter Tryd.func43, Tryd.ntmps43
  go_wp2_with fail
  refine (Hs.out _).mono ?_
  rintro e w1 ⟨rfl, hb1⟩
  have hbx := below_call hb0 hb1
  have hr1 := hr.below hbx
  have o3 : w1.cell? ⟨w.heap.size, 3, none⟩ = some (.string x.of) := new_cell (c := (turnV x).toList) hb1 3
  have o6 : w1.cell? ⟨w.heap.size, 6, none⟩ = some (.int .i64 x.a) := new_cell (c := (turnV x).toList) hb1 6
  have o7 : w1.cell? ⟨w.heap.size, 7, none⟩ = some (.int .i64 x.b) := new_cell (c := (turnV x).toList) hb1 7
  have o8 : w1.cell? ⟨w.heap.size, 8, none⟩ = some (.int .i64 x.c) := new_cell (c := (turnV x).toList) hb1 8
  have hlt1 := new_lt hb1
  clear hb1
  go_wp2_with fail
  refine (Hr.out _ hr1).mono ?_
  rintro e w2 ⟨rfl, hb2⟩
  have q3 := (hb2.cell (p := ⟨w.heap.size, 3, none⟩) hlt1).trans o3
  have q6 := (hb2.cell (p := ⟨w.heap.size, 6, none⟩) hlt1).trans o6
  have q7 := (hb2.cell (p := ⟨w.heap.size, 7, none⟩) hlt1).trans o7
  have q8 := (hb2.cell (p := ⟨w.heap.size, 8, none⟩) hlt1).trans o8
  have hby := below_call hbx hb2
  have hr2 := hr.below hby
  have hlt2 : w.heap.size < w2.heap.size := Nat.lt_of_lt_of_le hlt1 hb2.size
  clear o3 o6 o7 o8 hb2 hlt1
  go_wp2_with fail
  refine (Hf.out _ hr2).mono ?_
  rintro e w3 ⟨rfl, h⟩
  subst h
  go_wp2_with fail
  refine (Hn.out _ hr2).mono ?_
  rintro e w4 ⟨rfl, h⟩
  subst h
  go_wp2_with fail
  all_goals first
    | (go_ret; exact BookStep.err hr hby (by rw [HE.out]; exact bm3 ‹_›) (by decide) HRE.out)
    | (go_ret; exact BookStep.err hr hby (by rw [HE.out]; exact bm4 ‹_› ‹¬ r = 4› (by first | exact Or.inl ‹¬ r = 3› | exact Or.inr (by simpa using ‹(!house.toList == x.of.toList) = true›))) (by decide) HRE.out)
    | (go_ret; exact BookStep.err hr hby (by rw [HE.out]; exact bm7 ‹_› (by first | exact Or.inl ‹r = 4› | exact Or.inr ⟨‹r = 3›, by simpa using ‹(!house.toList == x.of.toList) = false›⟩) (hg0 ‹_›)) (by decide) HRE.out)
    | (go_ret; exact BookStep.err hr hby (by rw [HE.out]; exact bm1 ‹_› (by first | exact Or.inl ‹r = 4› | exact Or.inr ⟨‹r = 3›, by simpa using ‹(!house.toList == x.of.toList) = false›⟩) (by first | exact hg1 ‹_› | exact hg2 ‹_›) (by omega)) (by decide) HRE.out)
    | (go_ret; exact BookStep.err hr hby (by rw [HE.out]; exact bm5 ‹_› (by first | exact Or.inl ‹r = 4› | exact Or.inr ⟨‹r = 3›, by simpa using ‹(!house.toList == x.of.toList) = false›⟩) (by first | exact hg1 ‹_› | exact hg2 ‹_›) (by omega) (by have := HO.out; omega)) (by decide) HRE.out)
    | (go_ret; exact BookStep.err hr hby (by rw [HE.out]; exact bm5 ‹_› (by first | exact Or.inl ‹r = 4› | exact Or.inr ⟨‹r = 3›, by simpa using ‹(!house.toList == x.of.toList) = false›⟩) (by first | exact hg1 ‹_› | exact hg2 ‹_›) (by omega) (HO.out.elim (fun h => h.1) (fun h => absurd h.2 (by omega)))) (by decide) HRE.out)
    | (go_ret; exact BookStep.err hr hby (by rw [HE.out]; exact bm6 ‹_› (by first | exact Or.inl ‹r = 4› | exact Or.inr ⟨‹r = 3›, by simpa using ‹(!house.toList == x.of.toList) = false›⟩) (by first | exact hg1 ‹_› | exact hg2 ‹_›) (by omega) (HO.out.elim (fun h => absurd h.2 (by omega)) (fun h => h.1)) (by omega)) (by decide) HRE.out)
    | skip
  all_goals
    have H0 := hide (show E = 0 by rw [HE.out]; exact bm0 ‹_› (by first | exact Or.inl ‹r = 4› | exact Or.inr ⟨‹r = 3›, by simpa using ‹(!house.toList == x.of.toList) = false›⟩) (by first | exact hg1 ‹_› | exact hg2 ‹_›) (by omega) (HO.out.elim (fun h => absurd h.2 (by omega)) (fun h => h.1)) (by omega))
    have B1 := hide (show bs.length + 1 ≤ maxLen by unfold maxLen; omega)
    have B2 := hide (show (bs.length + 1) * 48 ≤ 140737488355328 by omega)
  all_goals
    have c0 := hr2.c0
    have f0 := hr2.f0
    have hbb := hr2.lt
    have hown := hr2.own
    have HNB := hide (show ¬ blockOf ao bb from fun hb => by obtain ⟨a, e, eb⟩ := hb; subst e; have := (hown.lt a.block rfl).1; omega)
    obtain ⟨i0, ti, hz0, hz1, hz2⟩ := info_parts Tryd.infoBk
    refine wp_region_held_drew (S := fun w' => w'.cell? ⟨w.heap.size, 3, none⟩ = some (.string x.of) ∧ w'.cell? ⟨w.heap.size, 6, none⟩ = some (.int .i64 x.a) ∧ w'.cell? ⟨w.heap.size, 7, none⟩ = some (.int .i64 x.b) ∧ w'.cell? ⟨w.heap.size, 8, none⟩ = some (.int .i64 x.c)) (by kernel_rfl) ?_ (fun hHeld => ?_)
    · go_keep
    refine wpAnyH_take (i := 0) (v := ?_) rfl (by kernel_rfl) (by kernel_rfl) (by kernel_rfl) (fun _ _ _ h => h) (Or.inl ⟨by rfl, ?_⟩) (by assumption) ?_
    rotate_left
    · intro W hSW
      try dsimp only at hSW
      go_simp
      try with_reducible rfl
    simp only [Act.put, List.getElem_toArray, List.getElem_cons_zero, List.setIfInBounds_toArray, List.set_cons_zero, List.set_cons_succ]
    refine wpAnyH_take (i := 1) (v := ?_) rfl (by kernel_rfl) (by kernel_rfl) (by kernel_rfl) (fun _ _ _ h => h) (Or.inl ⟨by rfl, ?_⟩) (by assumption) ?_
    rotate_left
    · intro W hSW
      try dsimp only at hSW
      go_simp
      try with_reducible rfl
    simp only [Act.put, List.getElem_toArray, List.getElem_cons_zero, List.getElem_cons_succ, List.setIfInBounds_toArray, List.set_cons_zero, List.set_cons_succ]
    refine wpAnyH_take (i := 2) (v := ?_) rfl (by kernel_rfl) (by kernel_rfl) (by kernel_rfl) (fun _ _ _ h => h) (Or.inl ⟨by rfl, ?_⟩) (by assumption) ?_
    rotate_left
    · intro W hSW
      try dsimp only at hSW
      go_simp
      try with_reducible rfl
    simp only [Act.put, List.getElem_toArray, List.getElem_cons_zero, List.getElem_cons_succ, List.setIfInBounds_toArray, List.set_cons_zero, List.set_cons_succ]
    refine wpAnyH_take (i := 3) (v := ?_) rfl (by kernel_rfl) (by kernel_rfl) (by kernel_rfl) (fun _ _ _ h => h) (Or.inl ⟨by rfl, ?_⟩) (by assumption) ?_
    rotate_left
    · intro W hSW
      try dsimp only at hSW
      go_simp
      try with_reducible rfl
    simp only [Act.put, List.getElem_toArray, List.getElem_cons_zero, List.getElem_cons_succ, List.setIfInBounds_toArray, List.set_cons_zero, List.set_cons_succ]
    refine wpAnyH_take (i := 5) (v := ?_) rfl (by kernel_rfl) (by kernel_rfl) (by kernel_rfl) (fun _ _ _ h => h) (Or.inl ⟨by rfl, ?_⟩) (by assumption) ?_
    rotate_left
    · intro W hSW
      try dsimp only at hSW
      go_simp
      try with_reducible rfl
    simp only [Act.put, List.getElem_toArray, List.getElem_cons_zero, List.getElem_cons_succ, List.setIfInBounds_toArray, List.set_cons_zero, List.set_cons_succ]
    refine wpAnyH_take (i := 6) (v := ?_) rfl (by kernel_rfl) (by kernel_rfl) (by kernel_rfl) (fun _ _ _ h => h) (Or.inl ⟨by rfl, ?_⟩) (by assumption) ?_
    rotate_left
    · intro W hSW
      try dsimp only at hSW
      go_simp
      try with_reducible rfl
    simp only [Act.put, List.getElem_toArray, List.getElem_cons_zero, List.getElem_cons_succ, List.setIfInBounds_toArray, List.set_cons_zero, List.set_cons_succ]
    refine wpAnyH_take (i := 7) (v := ?_) rfl (by kernel_rfl) (by kernel_rfl) (by kernel_rfl) (fun _ _ _ h => h) (Or.inl ⟨by rfl, ?_⟩) (by assumption) ?_
    rotate_left
    · intro W hSW
      try dsimp only at hSW
      go_simp
      try with_reducible rfl
    simp only [Act.put, List.getElem_toArray, List.getElem_cons_zero, List.getElem_cons_succ, List.setIfInBounds_toArray, List.set_cons_zero, List.set_cons_succ]
    refine wpAnyH_take (i := 8) (v := ?_) rfl (by kernel_rfl) (by kernel_rfl) (by kernel_rfl) (fun _ _ _ h => h) (Or.inl ⟨by rfl, ?_⟩) (by assumption) ?_
    rotate_left
    · intro W hSW
      try dsimp only at hSW
      go_simp
      try with_reducible rfl
    simp only [Act.put, List.getElem_toArray, List.getElem_cons_zero, List.getElem_cons_succ, List.setIfInBounds_toArray, List.set_cons_zero, List.set_cons_succ]
    refine wpAnyH_take (i := 9) (v := ?_) rfl (by kernel_rfl) (by kernel_rfl) (by kernel_rfl) (fun _ _ _ h => h) (Or.inl ⟨by rfl, ?_⟩) (by assumption) ?_
    rotate_left
    · intro W hSW
      try dsimp only at hSW
      go_simp
      try with_reducible rfl
    simp only [Act.put, List.getElem_toArray, List.getElem_cons_zero, List.getElem_cons_succ, List.setIfInBounds_toArray, List.set_cons_zero, List.set_cons_succ]
    refine wpAnyH_take (i := 10) (v := ?_) rfl (by kernel_rfl) (by kernel_rfl) (by kernel_rfl) (fun _ _ _ h => h) (Or.inl ⟨by rfl, ?_⟩) (by assumption) ?_
    rotate_left
    · intro W hSW
      try dsimp only at hSW
      go_simp
      try with_reducible rfl
    simp only [Act.put, List.getElem_toArray, List.getElem_cons_zero, List.getElem_cons_succ, List.setIfInBounds_toArray, List.set_cons_zero, List.set_cons_succ]
    refine wpAnyH_take (i := 11) (v := ?_) rfl (by kernel_rfl) (by kernel_rfl) (by kernel_rfl) (fun _ _ _ h => h) (Or.inl ⟨by rfl, ?_⟩) (by assumption) ?_
    rotate_left
    · intro W hSW
      try dsimp only at hSW
      go_simp
      try with_reducible rfl
    simp only [Act.put, List.getElem_toArray, List.getElem_cons_zero, List.getElem_cons_succ, List.setIfInBounds_toArray, List.set_cons_zero, List.set_cons_succ]
    refine wpAnyH_take (i := 12) (v := ?_) rfl (by kernel_rfl) (by kernel_rfl) (by kernel_rfl) (fun _ _ _ h => h) (Or.inl ⟨by rfl, ?_⟩) (by assumption) ?_
    rotate_left
    · intro W hSW
      try dsimp only at hSW
      go_simp
      try with_reducible rfl
    simp only [Act.put, List.getElem_toArray, List.getElem_cons_zero, List.getElem_cons_succ, List.setIfInBounds_toArray, List.set_cons_zero, List.set_cons_succ]
    refine wpAnyH_take (i := 13) (v := ?_) rfl (by kernel_rfl) (by kernel_rfl) (by kernel_rfl) (fun _ _ _ h => h) (Or.inl ⟨by rfl, ?_⟩) (by assumption) ?_
    rotate_left
    · intro W hSW
      try dsimp only at hSW
      go_simp
      try with_reducible rfl
    simp only [Act.put, List.getElem_toArray, List.getElem_cons_zero, List.getElem_cons_succ, List.setIfInBounds_toArray, List.set_cons_zero, List.set_cons_succ]
    have hne : w.heap.size ≠ bb := by have := hr.lt; omega
    have HNX := hide (show ¬ blockOf ao w.heap.size from fun hb => by obtain ⟨a, e, eb⟩ := hb; subst e; have := (hr.own.lt a.block rfl).2; omega)
    refine wpAnyH_ready (rs := [4, 14]) (by kernel_rfl) (by simp) ?_
    refine AllReadyH.cons rfl (fun K hK => ?_) (AllReadyH.cons rfl (fun K hK => ?_) AllReadyH.nil)
    · go_simp
      refine hK.out _ _ hHeld (fun hHeld2 => ?_)
      clear hK K
      try simp only [Act.put, List.getElem_toArray, List.getElem_cons_zero, List.getElem_cons_succ, List.setIfInBounds_toArray, List.set_cons_zero, List.set_cons_succ]
      refine wpAnyH_ready (rs := [14]) (by kernel_rfl) (by simp) ?_
      refine AllReadyH.cons rfl (fun K hK => ?_) AllReadyH.nil
      go_simp
      refine hK.out _ _ (by go_keep) (fun hHeld3 => ?_)
      clear hK K
      try simp only [Act.put, List.getElem_toArray, List.getElem_cons_zero, List.getElem_cons_succ, List.setIfInBounds_toArray, List.set_cons_zero, List.set_cons_succ]
      refine wpAnyH_ready (rs := [15]) (by kernel_rfl) (by simp) ?_
      refine AllReadyH.cons rfl (fun K hK => ?_) AllReadyH.nil
      refine step_append_own rfl (.tmp 83) (.tmp 93) 26 rfl (bb + 1) 30 i0 (.agg #[.string ⟨#[]⟩, .int .i64 0, .int .i64 0, .int .i64 0, .bool false]) 5 48 Tryd.underlying26 ti hz0 hz1 hz2 rfl (by decide) (.slice ao bs.length cap) bs.length (bksCells bs) ?_ ?_ ⟨w4.heap.size, 0, none⟩ 1 1 [.string x.of, .int .i64 x.b, .int .i64 x.a, .int .i64 x.c, .bool false] ?_ rfl ?_ ?_ B1.out B2.out ?_ (Nat.succ_pos _) ?_
      · simp [Act.eval]
      · exact hown.alloc _
      · simp [Act.eval]
      · exact news_at (t := 30) (fr := (0, 0)) (heap_alloc_new w4 _)
      · simp [Value.oneCell']
      · exact Nat.le_trans hbb (by simp)
      intro g' cap' w' hown' hgrow hnew
      have hchg : Chg (blockOf ao) w4 w' := Chg.ofGrown hgrow rfl rfl rfl (by simp) (fun k hk => Below.heap_alloc _ _ _ hk) (fun k hk => Or.inl (row_of hk))
      have hk : w'.heap[bb]? = w4.heap[bb]? := hchg.block bb hbb (fun hb => HNB.out hb)
      have k2 := (World.cell?_of_block (a := ⟨bb, 0, none⟩) hk).trans c0
      have kf := (World.frozen?_of_block (a := ⟨bb, 0, none⟩) hk).trans f0
      have HNW := hide (show blockOf ao g' ∨ w4.heap.size ≤ g' from hnew.elim (fun h => Or.inl (row_of h)) (fun h => Or.inr (Nat.le_trans (by simp) h)))
      have hbk2 : w'.heap[w.heap.size]? = w4.heap[w.heap.size]? := hchg.block w.heap.size hlt2 HNX.out
      have u3 := (World.cell?_of_block (a := ⟨w.heap.size, 3, none⟩) hbk2).trans q3
      have u6 := (World.cell?_of_block (a := ⟨w.heap.size, 6, none⟩) hbk2).trans q6
      have u7 := (World.cell?_of_block (a := ⟨w.heap.size, 7, none⟩) hbk2).trans q7
      have u8 := (World.cell?_of_block (a := ⟨w.heap.size, 8, none⟩) hbk2).trans q8
      clear hnew hgrow hk hbk2
      refine hK.out _ _ ⟨u3, u6, u7, u8⟩ (fun hHeld4 => ?_)
      clear hK K
      try simp only [Act.put, List.getElem_toArray, List.getElem_cons_zero, List.getElem_cons_succ, List.setIfInBounds_toArray, List.set_cons_zero, List.set_cons_succ]
      refine wpAnyH_take (i := 16) (v := ?_) rfl (by kernel_rfl) (by kernel_rfl) (by kernel_rfl) (fun _ _ _ h => h) (Or.inl ⟨by rfl, ?_⟩) hHeld4 ?_
      rotate_left
      · intro W hSW
        try dsimp only at hSW
        go_simp
        try with_reducible rfl
      try simp only [Act.put, List.getElem_toArray, List.getElem_cons_zero, List.getElem_cons_succ, List.setIfInBounds_toArray, List.set_cons_zero, List.set_cons_succ]
      refine wpAnyH_take (i := 17) (v := ?_) rfl (by kernel_rfl) (by kernel_rfl) (by kernel_rfl) (fun _ _ _ h => h) (Or.inl ⟨by rfl, ?_⟩) hHeld4 ?_
      rotate_left
      · intro W hSW
        try dsimp only at hSW
        go_simp
        try with_reducible rfl
      try simp only [Act.put, List.getElem_toArray, List.getElem_cons_zero, List.getElem_cons_succ, List.setIfInBounds_toArray, List.set_cons_zero, List.set_cons_succ]
      refine wpAnyH_ready (rs := [18]) (by kernel_rfl) (by simp) ?_
      refine AllReadyH.cons rfl (fun K hK => ?_) AllReadyH.nil
      go_simp
      refine hK.out _ _ ⟨?_, ?_, ?_, ?_⟩ (fun hHeld5 => ?_)
      · exact (cell_setCell_ne (Or.inl hne)).trans u3
      · exact (cell_setCell_ne (Or.inl hne)).trans u6
      · exact (cell_setCell_ne (Or.inl hne)).trans u7
      · exact (cell_setCell_ne (Or.inl hne)).trans u8
      clear hK K
      try simp only [Act.put, List.getElem_toArray, List.getElem_cons_zero, List.getElem_cons_succ, List.setIfInBounds_toArray, List.set_cons_zero, List.set_cons_succ]
      refine wpAnyH_done (by kernel_rfl) ?_ _
      go_wp2_with fail
      go_ret
      rw [H0.out]
      exact ⟨rfl, BookStep.behind hby (book_push hr2 hchg hown' HNW.out rfl)⟩
    · go_simp
      refine hK.out _ _ (by go_keep) (fun hHeld2 => ?_)
      clear hK K
      try simp only [Act.put, List.getElem_toArray, List.getElem_cons_zero, List.getElem_cons_succ, List.setIfInBounds_toArray, List.set_cons_zero, List.set_cons_succ]
      refine wpAnyH_ready (rs := [4]) (by kernel_rfl) (by simp) ?_
      refine AllReadyH.cons rfl (fun K hK => ?_) AllReadyH.nil
      go_simp
      refine hK.out _ _ hHeld2 (fun hHeld3 => ?_)
      clear hK K
      try simp only [Act.put, List.getElem_toArray, List.getElem_cons_zero, List.getElem_cons_succ, List.setIfInBounds_toArray, List.set_cons_zero, List.set_cons_succ]
      refine wpAnyH_ready (rs := [15]) (by kernel_rfl) (by simp) ?_
      refine AllReadyH.cons rfl (fun K hK => ?_) AllReadyH.nil
      refine step_append_own rfl (.tmp 83) (.tmp 93) 26 rfl (bb + 1) 30 i0 (.agg #[.string ⟨#[]⟩, .int .i64 0, .int .i64 0, .int .i64 0, .bool false]) 5 48 Tryd.underlying26 ti hz0 hz1 hz2 rfl (by decide) (.slice ao bs.length cap) bs.length (bksCells bs) ?_ ?_ ⟨w4.heap.size, 0, none⟩ 1 1 [.string x.of, .int .i64 x.b, .int .i64 x.a, .int .i64 x.c, .bool false] ?_ rfl ?_ ?_ B1.out B2.out ?_ (Nat.succ_pos _) ?_
      · simp [Act.eval]
      · exact hown.alloc _
      · simp [Act.eval]
      · exact news_at (t := 30) (fr := (0, 0)) (heap_alloc_new w4 _)
      · simp [Value.oneCell']
      · exact Nat.le_trans hbb (by simp)
      intro g' cap' w' hown' hgrow hnew
      have hchg : Chg (blockOf ao) w4 w' := Chg.ofGrown hgrow rfl rfl rfl (by simp) (fun k hk => Below.heap_alloc _ _ _ hk) (fun k hk => Or.inl (row_of hk))
      have hk : w'.heap[bb]? = w4.heap[bb]? := hchg.block bb hbb (fun hb => HNB.out hb)
      have k2 := (World.cell?_of_block (a := ⟨bb, 0, none⟩) hk).trans c0
      have kf := (World.frozen?_of_block (a := ⟨bb, 0, none⟩) hk).trans f0
      have HNW := hide (show blockOf ao g' ∨ w4.heap.size ≤ g' from hnew.elim (fun h => Or.inl (row_of h)) (fun h => Or.inr (Nat.le_trans (by simp) h)))
      have hbk2 : w'.heap[w.heap.size]? = w4.heap[w.heap.size]? := hchg.block w.heap.size hlt2 HNX.out
      have u3 := (World.cell?_of_block (a := ⟨w.heap.size, 3, none⟩) hbk2).trans q3
      have u6 := (World.cell?_of_block (a := ⟨w.heap.size, 6, none⟩) hbk2).trans q6
      have u7 := (World.cell?_of_block (a := ⟨w.heap.size, 7, none⟩) hbk2).trans q7
      have u8 := (World.cell?_of_block (a := ⟨w.heap.size, 8, none⟩) hbk2).trans q8
      clear hnew hgrow hk hbk2
      refine hK.out _ _ ⟨u3, u6, u7, u8⟩ (fun hHeld4 => ?_)
      clear hK K
      try simp only [Act.put, List.getElem_toArray, List.getElem_cons_zero, List.getElem_cons_succ, List.setIfInBounds_toArray, List.set_cons_zero, List.set_cons_succ]
      refine wpAnyH_take (i := 16) (v := ?_) rfl (by kernel_rfl) (by kernel_rfl) (by kernel_rfl) (fun _ _ _ h => h) (Or.inl ⟨by rfl, ?_⟩) hHeld4 ?_
      rotate_left
      · intro W hSW
        try dsimp only at hSW
        go_simp
        try with_reducible rfl
      try simp only [Act.put, List.getElem_toArray, List.getElem_cons_zero, List.getElem_cons_succ, List.setIfInBounds_toArray, List.set_cons_zero, List.set_cons_succ]
      refine wpAnyH_take (i := 17) (v := ?_) rfl (by kernel_rfl) (by kernel_rfl) (by kernel_rfl) (fun _ _ _ h => h) (Or.inl ⟨by rfl, ?_⟩) hHeld4 ?_
      rotate_left
      · intro W hSW
        try dsimp only at hSW
        go_simp
        try with_reducible rfl
      try simp only [Act.put, List.getElem_toArray, List.getElem_cons_zero, List.getElem_cons_succ, List.setIfInBounds_toArray, List.set_cons_zero, List.set_cons_succ]
      refine wpAnyH_ready (rs := [18]) (by kernel_rfl) (by simp) ?_
      refine AllReadyH.cons rfl (fun K hK => ?_) AllReadyH.nil
      go_simp
      refine hK.out _ _ ⟨?_, ?_, ?_, ?_⟩ (fun hHeld5 => ?_)
      · exact (cell_setCell_ne (Or.inl hne)).trans u3
      · exact (cell_setCell_ne (Or.inl hne)).trans u6
      · exact (cell_setCell_ne (Or.inl hne)).trans u7
      · exact (cell_setCell_ne (Or.inl hne)).trans u8
      clear hK K
      try simp only [Act.put, List.getElem_toArray, List.getElem_cons_zero, List.getElem_cons_succ, List.setIfInBounds_toArray, List.set_cons_zero, List.set_cons_succ]
      refine wpAnyH_done (by kernel_rfl) ?_ _
      go_wp2_with fail
      go_ret
      rw [H0.out]
      exact ⟨rfl, BookStep.behind hby (book_push hr2 hchg hown' HNW.out rfl)⟩

end Go.Proofs.YtgcldedkempjhaaDoor
