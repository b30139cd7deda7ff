/-
  shelf.Shelf: Lay.
-/
import Derived.Test.YtgcldedkempjhaaDoorShelf
import Derived.Deep.RegionWith
namespace Go.Proofs.YtgcldedkempjhaaDoor
open Go.RowKit

theorem Tryd.infoEd : (Tryd.prog.info? 133).map (fun i => (i.zero, i.size, i.bytes)) = some (some (.agg #[.string ⟨#[]⟩, .int .i64 0, .slice none 0 0, .bool false]), 4, 56) := by kernel_rfl

def layF (es : List Ed) (label : ByteArray) (v : Int) (text : ByteArray) (room : Int) : Int :=
  if v < 1 ∨ 9 < v then 1 else if (wantsF text).isSome = false then 8 else if (edF es label v).isSome then 5 else if room ≤ es.length then 6 else 0

/-- A shelf with one version more. -/
def LayPush (w w' : World) (base b o : Nat) (ao : Option Addr) (es : List Ed) (label : ByteArray) (v : Int) (text : ByteArray) : Prop :=
  ∃ w0 e ws, Below w.heap.size w w0 ∧ wantsF text = some ws ∧ e = Ed.mk label v e.wao e.wcap ws false ∧ w0.ownsRow w.heap.size 164 3 (.slice e.wao ws.length e.wcap) ws.length (wantsCells ws) ∧
    RowPush 133 4 w0 w' base b o ao es.length (edsCells es) e.cells

set_option maxHeartbeats 1600000 in
set_option maxRecDepth 100000 in
theorem shelfLay_any (base b o : Nat) (ao : Option Addr) (cap : Nat) (es : List Ed) (label : ByteArray) (v : Int) (text : ByteArray) (room : Int) (w : World) (hr : ShelfAt w base b o ao cap es) (hlen : es.length ≤ 1000)
    (hab : ¬ blockOf ao b) (hbase : base ≤ w.heap.size) (hs : text.size ≤ 4611686018427387000) (E : Int) (hE : E = layF es label v text room) :
    Calls Tryd.prog 61 #[.pointer (some ⟨b, o, none⟩), .string label, .int .i64 v, .string text, .int .i64 room] w fun e w' => e = .returned (.int .i64 E) ∧
      ((E ≠ 0 ∧ Below w.heap.size w w') ∨ (E = 0 ∧ LayPush w w' base b o ao es label v text)) := by
  by_cases hv : v < 1 ∨ 9 < v
  · have H1 := hide (show E = 1 by rw [hE, layF, if_pos hv])
    have HV := hide hv
    clear hE hv
    go_enter Tryd.func61, Tryd.ntmps61
    go_wp2_with fail
    all_goals first | (go_ret; rw [H1.out]; exact ⟨rfl, Or.inl ⟨by decide, Below.refl _ _⟩⟩) | (exfalso; have := HV.out; omega)
  · have hv1 : 1 ≤ v := by omega
    have hv2 : v ≤ 9 := by omega
    have HP := hide (parse_any text w hs)
    have HE := hide (show E = if (wantsF text).isSome = false then 8 else if (edF es label v).isSome then 5 else if room ≤ es.length then 6 else 0 by rw [hE, layF, if_neg hv])
    clear hE hv
    cases hw : wantsF text with
    | none =>
      have H8 := hide (show E = 8 by rw [HE.out, hw]; rfl)
      have HW := hide hw
      clear HE hw
      go_enter Tryd.func61, Tryd.ntmps61
      go_wp2_with fail
      refine HP.out.mono ?_
      rintro e w1 ⟨⟨wao, n, wcap, rfl, _⟩, hb⟩
      rw [HW.out]
      simp only [Option.isSome_none]
      go_wp2_with fail
      go_ret
      rw [H8.out]
      exact ⟨rfl, Or.inl ⟨by decide, hb⟩⟩
    | some ws =>
      have HE2 := hide (show E = if (edF es label v).isSome then 5 else if room ≤ es.length then 6 else 0 by rw [HE.out, hw]; rfl)
      have HW := hide hw
      clear HE hw
      rcases find_cases (edP label v) es with ⟨i, hi, h1, h2, h3⟩ | ⟨h1, h3⟩
      · have Hc := hide (fun W h => shelfFind_some base b o ao cap es label v W h hlen i hi h1 h2)
        have H5 := hide (show E = 5 by rw [HE2.out, edF, h3]; rfl)
        clear h1 h2 h3 HE2
        go_enter Tryd.func61, Tryd.ntmps61
        go_wp2_with fail
        refine HP.out.mono ?_
        rintro e w1 ⟨⟨wao, n, wcap, rfl, _⟩, hb⟩
        rw [HW.out]
        simp only [Option.isSome_some]
        have hr1 := hr.below hb
        go_wp2_with fail
        refine (Hc.out _ hr1).mono ?_
        rintro e w2 ⟨rfl, h⟩
        subst h
        go_wp2_with fail
        go_ret
        rw [H5.out]
        exact ⟨rfl, Or.inl ⟨by decide, hb⟩⟩
      · have Hc := hide (fun W h => shelfFind_none base b o ao cap es label v W h hlen h1)
        have HE3 := hide (show E = if room ≤ es.length then 6 else 0 by rw [HE2.out, edF, h3]; rfl)
        clear h1 h3 HE2
        by_cases hroom : room ≤ es.length
        · have H6 := hide (show E = 6 by rw [HE3.out, if_pos hroom])
          clear HE3
          go_enter Tryd.func61, Tryd.ntmps61
          go_wp2_with fail
          refine HP.out.mono ?_
          rintro e w1 ⟨⟨wao, n, wcap, rfl, _⟩, hb⟩
          rw [HW.out]
          simp only [Option.isSome_some]
          have hr1 := hr.below hb
          have c := hr1.c
          go_wp2_with fail
          refine (Hc.out _ hr1).mono ?_
          rintro e w2 ⟨rfl, h⟩
          subst h
          go_wp2_with fail
          go_ret
          rw [H6.out]
          exact ⟨rfl, Or.inl ⟨by decide, hb⟩⟩
        · have H0 := hide (show E = 0 by rw [HE3.out, if_neg hroom])
          clear HE3
          obtain ⟨i0, ti, hz0, hz1, hz2⟩ := info_parts Tryd.infoEd
          go_enter Tryd.func61, Tryd.ntmps61
          go_wp2_with fail
          refine HP.out.mono ?_
          rintro e w1 ⟨⟨wao, n, wcap, rfl, hws⟩, hb⟩
          obtain ⟨rfl, hwo⟩ := hws ws HW.out
          clear hws
          rw [HW.out]
          simp only [Option.isSome_some]
          have hr1 := hr.below hb
          have c := hr1.c
          go_wp2_with fail
          refine (Hc.out _ hr1).mono ?_
          rintro e w2 ⟨rfl, h⟩
          subst h
          clear Hc HP
          obtain ⟨wb, cp, k1, k2, hbw, hszb⟩ := copied label w2
          have hrb := hr1.below hbw
          have hbb := below_call hb hbw
          have cb := hrb.c
          have fb := hrb.f
          have hbl := hrb.lt
          have hown := hrb.own
          have hwo' := ownsRow_keep' hwo hbw
          go_wp2_with fail
          have B1 := hide (show es.length + 1 ≤ maxLen by unfold maxLen; omega)
          have B2 := hide (show (es.length + 1) * 56 ≤ 140737488355328 by omega)
          have B3 := hide (show base ≤ wb.heap.size from Nat.le_trans hbase hbb.size)
          clear k1 k2 c
          go_region_law (refine step_append_own rfl (.tmp 49) (.tmp 51) 97 rfl base 133 i0 (.agg #[.string ⟨#[]⟩, .int .i64 0, .slice none 0 0, .bool false]) 4 56 Tryd.underlying97 ti hz0 hz1 hz2 rfl (by decide) (.slice ao es.length cap) es.length (edsCells es) ?_ ?_ ⟨wb.heap.size + 1, 0, none⟩ 1 1 [.string label, .int .i64 v, .slice wao ws.length wcap, .bool false] ?_ rfl ?_ ?_ B1.out B2.out ?_ (Nat.succ_pos _) ?_; simp [Act.eval]; exact (hown.alloc _).alloc _; simp [Act.eval]; exact news_at (t := 133) (fr := (0, 0)) (heap2_new wb _ _); simp [Value.oneCell']; exact Nat.le_trans (Nat.le_trans B3.out (Nat.le_add_right _ 2)) (Nat.le_of_eq (size2 wb _ _).symm); intro g' cap' w' hown' hgrow hnew; have hchg : Chg (blockOf ao) wb w' := Chg.ofGrown hgrow rfl rfl rfl (Nat.le_trans (Nat.le_add_right _ 2) (Nat.le_of_eq (size2 wb _ _).symm)) (fun k hk => heap2_old wb _ _ k hk) (fun k hk => Or.inl (row_of hk)); have hk : w'.heap[b]? = wb.heap[b]? := hchg.block b hbl hab; have k2 := (World.cell?_of_block (a := ⟨b, o, none⟩) hk).trans cb; have kf := (World.frozen?_of_block (a := ⟨b, o, none⟩) hk).trans fb)
          all_goals
            have hfoot := hide (show blockOf ao g' ∨ wb.heap.size ≤ g' from hnew.elim (fun h => Or.inl (row_of h)) (fun h => Or.inr (Nat.le_trans (Nat.le_trans (Nat.le_add_right _ 2) (Nat.le_of_eq (size2 wb _ _).symm)) h)))
            clear hnew hgrow
            go_wp2_with fail
            go_ret
            rw [H0.out]
            exact ⟨rfl, Or.inr ⟨rfl, wb, ⟨label, v, wao, wcap, ws, false⟩, ws, hbb, HW.out, rfl, hwo', g', cap', w', hown', hchg, hfoot.out, rfl⟩⟩

end Go.Proofs.YtgcldedkempjhaaDoor
