/-
  grants.Book: the grants of one house, in memory; Has, Add.
-/
import Derived.Test.YtgcldedkempjhabGreatDoorBaseRow
import Derived.Test.YtgcldedkempjhabGreatDoorWntB
import Derived.Deep.RegionWith
namespace Go.Proofs.YtgcldedkempjhabGreatDoor
open Go.RowKit

structure Grt where
  pack : ByteArray
  to : ByteArray

def Grt.cells (x : Grt) : List Value := [.string x.pack, .string x.to]

def grtsCells (l : List Grt) : List Value := l.flatMap Grt.cells

theorem Grt.cells_length (x : Grt) : x.cells.length = 2 := rfl

structure BookAt (w : World) (base b o : Nat) (ao : Option Addr) (cap : Nat) (gs : List Grt) : Prop where
  c : w.cell? ⟨b, o, none⟩ = some (.slice ao gs.length cap)
  f : w.frozen? ⟨b, o, none⟩ = false
  own : w.ownsRow base 149 2 (.slice ao gs.length cap) gs.length (grtsCells gs)

theorem BookAt.grt {w : World} {base b o : Nat} {ao : Option Addr} {cap : Nat} {gs : List Grt} (h : BookAt w base b o ao cap gs) (k : Nat) (hk : k < gs.length) :
    ∃ g, ao = some ⟨g, 0, none⟩ ∧ g < w.heap.size ∧ w.cell? ⟨g, k * 2, none⟩ = some (.string gs[k].pack) ∧ w.cell? ⟨g, k * 2 + 1, none⟩ = some (.string gs[k].to) := by
  obtain ⟨g, hg, hlt, _, hc, _⟩ := row_cell Grt.cells_length h.own k hk
  exact ⟨g, hg, hlt, hc 0 _ rfl, hc 1 _ rfl⟩

theorem BookAt.lt {w : World} {base b o : Nat} {ao : Option Addr} {cap : Nat} {gs : List Grt} (h : BookAt w base b o ao cap gs) : b < w.heap.size := World.block_lt_of_cell? w _ h.c

theorem BookAt.below {w w' : World} {base b o : Nat} {ao : Option Addr} {cap : Nat} {gs : List Grt} (h : BookAt w base b o ao cap gs) (hb : Below w.heap.size w w') : BookAt w' base b o ao cap gs :=
  ⟨(hb.cell (p := ⟨b, o, none⟩) h.lt).trans h.c, (World.frozen?_of_block (a := ⟨b, o, none⟩) (hb.block b h.lt)).trans h.f, ownsRow_keep' h.own hb⟩

def grtP (pack to : ByteArray) (x : Grt) : Bool := x.pack.toList == pack.toList && x.to.toList == to.toList

def grtF (gs : List Grt) (pack to : ByteArray) : Bool := gs.any (grtP pack to)

set_option maxHeartbeats 400000 in
theorem bookHas_any (base b o : Nat) (ao : Option Addr) (cap : Nat) (gs : List Grt) (pack to : ByteArray) (w : World) (hr : BookAt w base b o ao cap gs) (hlen : gs.length ≤ 1000) :
    Calls Tryz.prog 95 #[.pointer (some ⟨b, o, none⟩), .string pack, .string to] w fun e w' => e = .returned (.bool (grtF gs pack to)) ∧ w' = w := by
  have c := hr.c
  go_enter Tryz.func95, Tryz.ntmps95
  go_wp2
  go_loop [7] (fun x => ∃ k : Nat, k ≤ gs.length ∧ x = .int .i64 k ∧ ∀ j, (hj : j < gs.length) → j < k → grtP pack to gs[j] = false) (fun x => gs.length - (intOf x).toNat)
  case atStart => exact ⟨0, Nat.zero_le _, rfl, fun j _ h => by omega⟩
  case round =>
    obtain ⟨k, hk, rfl, hno⟩ := hrel
    have HN := hide hno
    clear hno
    by_cases hlt : k < gs.length
    · obtain ⟨g, rfl, hg, d0, d1⟩ := hr.grt k (by omega)
      cases ht : grtP pack to gs[k] with
      | true =>
        have HF := hide (show grtF gs pack to = true by unfold grtF; rw [List.any_eq_true]; exact ⟨gs[k], List.getElem_mem _, ht⟩)
        unfold grtP at ht
        rw [Bool.and_eq_true] at ht
        obtain ⟨t1, t2⟩ := ht
        go_wp2
        go_ret
        exact ⟨ret_bool HF.out.symm, rfl⟩
      | false =>
        have HT := hide ht
        clear ht
        go_wp2
        all_goals first
          | (exfalso; have := HT.out; simp [grtP, *] at this; done)
          | (go_round
             case rel =>
               refine ⟨k + 1, by omega, by go_num, fun j hj hlt' => ?_⟩
               by_cases hjk : j = k
               · subst hjk; exact HT.out
               · exact HN.out j hj (by omega)
             case measure => simp [intOf] <;> omega)
    · have HF := hide (show grtF gs pack to = false by
        unfold grtF
        rw [List.any_eq_false]
        intro x hx
        obtain ⟨j, hj, rfl⟩ := List.mem_iff_getElem.1 hx
        rw [HN.out j hj (by omega)]; decide)
      go_wp2
      go_ret
      exact ⟨ret_bool HF.out.symm, rfl⟩

theorem Tryz.infoGrt : (Tryz.prog.info? 149).map (fun i => (i.zero, i.size, i.bytes)) = some (some (.agg #[.string ⟨#[]⟩, .string ⟨#[]⟩]), 2, 32) := by kernel_rfl

def addF (gs : List Grt) (pack to : ByteArray) : Int := if grtF gs pack to then 5 else if 6 ≤ gs.length then 6 else 0

def BookPush (w w' : World) (base b o : Nat) (ao : Option Addr) (gs : List Grt) (pack to : ByteArray) : Prop :=
  ∃ w0, Below w.heap.size w w0 ∧ RowPush 149 2 w0 w' base b o ao gs.length (grtsCells gs) (Grt.mk pack to).cells

set_option maxHeartbeats 1600000 in
set_option maxRecDepth 100000 in
theorem bookAdd_any (base b o : Nat) (ao : Option Addr) (cap : Nat) (gs : List Grt) (pack to : ByteArray) (w : World) (hr : BookAt w base b o ao cap gs) (hlen : gs.length ≤ 1000)
    (hab : ¬ blockOf ao b) (hbase : base ≤ w.heap.size) (E : Int) (hE : E = addF gs pack to) :
    Calls Tryz.prog 66 #[.pointer (some ⟨b, o, none⟩), .string pack, .string to] w fun e w' => e = .returned (.int .i64 E) ∧
      ((E ≠ 0 ∧ w' = w) ∨ (E = 0 ∧ BookPush w w' base b o ao gs pack to)) := by
  have c := hr.c
  have Hc := hide (bookHas_any base b o ao cap gs pack to w hr hlen)
  cases hg : grtF gs pack to with
  | true =>
    have H5 := hide (show E = 5 by rw [hE, addF, hg]; rfl)
    have HG := hide hg
    clear hE hg
    go_enter Tryz.func66, Tryz.ntmps66
    go_wp2_with fail
    refine Hc.out.mono ?_
    rintro e w1 ⟨rfl, h⟩
    subst h
    rw [HG.out]
    go_wp2_with fail
    go_ret
    rw [H5.out]
    exact ⟨rfl, Or.inl ⟨by decide, rfl⟩⟩
  | false =>
    by_cases h6 : 6 ≤ gs.length
    · have H6 := hide (show E = 6 by rw [hE, addF, hg, if_neg (by decide), if_pos h6])
      have HG := hide hg
      clear hE hg
      go_enter Tryz.func66, Tryz.ntmps66
      go_wp2_with fail
      refine Hc.out.mono ?_
      rintro e w1 ⟨rfl, h⟩
      subst h
      rw [HG.out]
      go_wp2_with fail
      go_ret
      rw [H6.out]
      exact ⟨rfl, Or.inl ⟨by decide, rfl⟩⟩
    · have H0 := hide (show E = 0 by rw [hE, addF, hg, if_neg (by decide), if_neg h6])
      have HG := hide hg
      clear hE hg
      obtain ⟨i0, ti, hz0, hz1, hz2⟩ := info_parts Tryz.infoGrt
      go_enter Tryz.func66, Tryz.ntmps66
      go_wp2_with fail
      refine Hc.out.mono ?_
      rintro e w1 ⟨rfl, h⟩
      subst h
      rw [HG.out]
      clear Hc
      obtain ⟨wa, cp, k1, k2, hba, hsza⟩ := copied pack w1
      obtain ⟨wb, cp', k3, k4, hbw, hszb⟩ := copied to wa
      have hrb := (hr.below hba).below hbw
      have hbb := below_call hba hbw
      have cb := hrb.c
      have fb := hrb.f
      have hbl := hrb.lt
      have hown := hrb.own
      go_wp2_with fail
      have B1 := hide (show gs.length + 1 ≤ maxLen by unfold maxLen; omega)
      have B2 := hide (show (gs.length + 1) * 32 ≤ 140737488355328 by omega)
      have B3 := hide (show base ≤ wb.heap.size from Nat.le_trans hbase hbb.size)
      clear k1 k2 k3 k4 c
      go_region_law (refine step_append_own rfl (.tmp 29) (.tmp 31) 85 rfl base 149 i0 (.agg #[.string ⟨#[]⟩, .string ⟨#[]⟩]) 2 32 Tryz.underlying85 ti hz0 hz1 hz2 rfl (by decide) (.slice ao gs.length cap) gs.length (grtsCells gs) ?_ ?_ ⟨wb.heap.size + 1, 0, none⟩ 1 1 [.string pack, .string to] ?_ rfl ?_ ?_ B1.out B2.out ?_ (Nat.succ_pos _) ?_; simp [Act.eval]; exact (hown.alloc _).alloc _; simp [Act.eval]; exact news_at (t := 149) (fr := (0, 0)) (heap2_new wb _ _); simp [Value.oneCell']; exact Nat.le_trans (Nat.le_trans B3.out (Nat.le_add_right _ 2)) (Nat.le_of_eq (size2 wb _ _).symm); intro g' cap' w' hown' hgrow hnew; have hchg : Chg (blockOf ao) wb w' := Chg.ofGrown hgrow rfl rfl rfl (Nat.le_trans (Nat.le_add_right _ 2) (Nat.le_of_eq (size2 wb _ _).symm)) (fun k hk => heap2_old wb _ _ k hk) (fun k hk => Or.inl (row_of hk)); have hk : w'.heap[b]? = wb.heap[b]? := hchg.block b hbl hab; have k2 := (World.cell?_of_block (a := ⟨b, o, none⟩) hk).trans cb; have kf := (World.frozen?_of_block (a := ⟨b, o, none⟩) hk).trans fb)
      all_goals
        have hfoot := hide (show blockOf ao g' ∨ wb.heap.size ≤ g' from hnew.elim (fun h => Or.inl (row_of h)) (fun h => Or.inr (Nat.le_trans (Nat.le_trans (Nat.le_add_right _ 2) (Nat.le_of_eq (size2 wb _ _).symm)) h)))
        clear hnew hgrow
        go_wp2_with fail
        go_ret
        rw [H0.out]
        exact ⟨rfl, Or.inr ⟨rfl, wb, hbb, g', cap', w', hown', hchg, hfoot.out, rfl⟩⟩

end Go.Proofs.YtgcldedkempjhabGreatDoor
