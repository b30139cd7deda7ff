/-
  depotref: one deed more.
-/
import Derived.Test.YtgcldedkempjhaaGreatDoorRows
import Derived.Test.YtgcldedkempjhaaGreatDoorRefBase
namespace Go.Proofs.YtgcldedkempjhaaGreatDoor
open Go.RowKit

theorem Tryz.infoDeed : (Tryz.prog.info? 93).map (fun i => (i.zero, i.size, i.bytes)) = some (some (.agg noDeed.cells.toArray), 9, 112) := by kernel_rfl

theorem ref_row {w : World} {rb : Nat} {root time : Int} {ao : Option Addr} {cap : Nat} {ds : List Deed} (hr : RefAt w rb root time ao cap ds) {n c k : Nat} (h : Value.ownBlock (.slice ao n c) = some k) : RefFoot rb ao k ∧ k ≠ rb := by
  cases ao with
  | none => cases h
  | some a =>
    have := (hr.own.lt a.block rfl).1
    have e : a.block = k := by injection h
    exact ⟨Or.inr ⟨a, rfl, e⟩, by omega⟩

theorem done_foot {w : World} {rb : Nat} {root time : Int} {ao : Option Addr} {cap : Nat} {ds : List Deed} (hr : RefAt w rb root time ao cap ds) {n c g' N : Nat} (h : Value.ownBlock (.slice ao n c) = some g' ∨ N ≤ g') :
    ∀ k, RefFoot rb (some ⟨g', 0, none⟩) k → RefFoot rb ao k ∨ N ≤ k := by
  intro k hk
  rcases hk with rfl | ⟨a, e, rfl⟩
  · exact Or.inl (Or.inl rfl)
  · injection e with e
    subst e
    exact h.elim (fun h => Or.inl (ref_row hr h).1) Or.inr

set_option maxHeartbeats 400000 in
theorem done_any (rb : Nat) (root time : Int) (ao : Option Addr) (cap : Nat) (ds : List Deed) (x : Deed) (w : World)
    (hr : RefAt w rb root time ao cap ds) (hlen : ds.length ≤ 1000000000000) :
    Calls Tryz.prog 50 #[.pointer (some ⟨rb, 0, none⟩), .agg x.cells.toArray] w fun e w' =>
      e = .returned (.int .i64 0) ∧ ∃ ao' cap', RefAt w' rb root time ao' cap' (ds ++ [x]) ∧ Chg (RefFoot rb ao) w w' ∧ ∀ k, RefFoot rb ao' k → RefFoot rb ao k ∨ w.heap.size ≤ k := by
  have c2 := hr.c2
  have hrb := hr.lt
  have f2 := hr.f2
  have hown := hr.own
  simp only [Deed.cells]
  obtain ⟨i0, hi, hz0, hz1, hz2⟩ := info_parts Tryz.infoDeed
  go_enter Tryz.func50, Tryz.ntmps50
  go_wp2
  have B1 := hide (show ds.length + 1 ≤ maxLen by unfold maxLen; omega)
  have B2 := hide (show (ds.length + 1) * 112 ≤ 140737488355328 by omega)
  go_region_law (refine step_append_own rfl (.tmp 9) (.tmp 11) 45 rfl (rb + 1) 93 i0 (.agg noDeed.cells.toArray) 9 112 Tryz.underlying45 hi hz0 hz1 hz2 rfl (by decide) (.slice ao ds.length cap) ds.length (deedsCells ds) ?_ ?_ ⟨w.heap.size + 1, 0, none⟩ 1 1 x.cells ?_ rfl ?_ ?_ B1.out B2.out ?_ (Nat.succ_pos _) ?_; simp [Act.eval]; exact (hown.alloc _).alloc _; simp [Act.eval]; exact news_at (t := 93) (fr := (0, 0)) (heap2_new w _ _); simp [Deed.cells, Value.oneCell']; exact Nat.le_trans (show rb + 1 ≤ w.heap.size + 2 by omega) (Nat.le_of_eq (size2 w _ _).symm); intro g' cap' w' hown' hgrow hnew; have hchg : Chg (fun k => RefFoot rb ao k ∧ k ≠ rb) w w' := Chg.ofGrown hgrow rfl rfl rfl (Nat.le_trans (Nat.le_add_right _ 2) (Nat.le_of_eq (size2 w _ _).symm)) (fun k hk => heap2_old w _ _ k hk) (fun k hk => Or.inl (ref_row hr hk)); have hk : w'.heap[rb]? = w.heap[rb]? := hchg.block rb hrb (fun h => h.2 rfl); have k2 := (World.cell?_of_block (a := ⟨rb, 2, none⟩) hk).trans c2; have kf := (World.frozen?_of_block (a := ⟨rb, 2, none⟩) hk).trans f2)
  all_goals
    have hfoot := hide (done_foot hr (N := w.heap.size) (hnew.elim Or.inl (fun h => Or.inr <| Nat.le_trans (Nat.le_trans (Nat.le_add_right _ 2) (Nat.le_of_eq (size2 w _ _).symm)) h)))
    clear hnew hgrow
    go_wp2
    go_ret
    exact ⟨rfl, some ⟨g', 0, none⟩, cap', hr.push hk hown', (hchg.mono (fun _ h => h.1)).setCell (Or.inl (Or.inl rfl)) _, hfoot.out⟩

end Go.Proofs.YtgcldedkempjhaaGreatDoor
