/-
  shelf.Shelf: Lay.
-/
import Derived.Test.YtgcldedkempjhabGreatDoorWntB
import Derived.Deep.RegionWith
namespace Go.Proofs.YtgcldedkempjhabGreatDoor
section
open Go.RowKit

structure Ed where
  label : ByteArray
  ver : Int
  wao : Option Addr
  wcap : Nat
  wants : List WantD
  off : Bool

def Ed.cells (x : Ed) : List Value := [.string x.label, .int .i64 x.ver, .slice x.wao x.wants.length x.wcap, .bool x.off]

def edsCells (l : List Ed) : List Value := l.flatMap Ed.cells

theorem Ed.cells_length (x : Ed) : x.cells.length = 4 := rfl

/-- A shelf whose header lies in the cell b, o. -/
structure ShelfAt (w : World) (base b o : Nat) (ao : Option Addr) (cap : Nat) (es : List Ed) : Prop where
  c : w.cell? ⟨b, o, none⟩ = some (.slice ao es.length cap)
  f : w.frozen? ⟨b, o, none⟩ = false
  own : w.ownsRow base 143 4 (.slice ao es.length cap) es.length (edsCells es)

structure EdAt (w : World) (g o : Nat) (x : Ed) : Prop where
  d0 : w.cell? ⟨g, o, none⟩ = some (.string x.label)
  d1 : w.cell? ⟨g, o + 1, none⟩ = some (.int .i64 x.ver)
  d2 : w.cell? ⟨g, o + 2, none⟩ = some (.slice x.wao x.wants.length x.wcap)
  d3 : w.cell? ⟨g, o + 3, none⟩ = some (.bool x.off)
  f3 : w.frozen? ⟨g, o + 3, none⟩ = false

theorem ShelfAt.ed {w : World} {base b o : Nat} {ao : Option Addr} {cap : Nat} {es : List Ed} (h : ShelfAt w base b o ao cap es) (k : Nat) (hk : k < es.length) :
    ∃ g, ao = some ⟨g, 0, none⟩ ∧ g < w.heap.size ∧ EdAt w g (k * 4) es[k] := by
  obtain ⟨g, hg, hlt, _, hc, hf⟩ := row_cell Ed.cells_length h.own k hk
  exact ⟨g, hg, hlt, hc 0 _ rfl, hc 1 _ rfl, hc 2 _ rfl, hc 3 _ rfl, hf _⟩

theorem ShelfAt.lt {w : World} {base b o : Nat} {ao : Option Addr} {cap : Nat} {es : List Ed} (h : ShelfAt w base b o ao cap es) : b < w.heap.size := World.block_lt_of_cell? w _ h.c

theorem ShelfAt.below {w w' : World} {base b o : Nat} {ao : Option Addr} {cap : Nat} {es : List Ed} (h : ShelfAt w base b o ao cap es) (hb : Below w.heap.size w w') : ShelfAt w' base b o ao cap es :=
  ⟨(hb.cell (p := ⟨b, o, none⟩) h.lt).trans h.c, (World.frozen?_of_block (a := ⟨b, o, none⟩) (hb.block b h.lt)).trans h.f, ownsRow_keep' h.own hb⟩

def edP (label : ByteArray) (v : Int) (e : Ed) : Bool := e.ver == v && e.label.toList == label.toList

def edF (es : List Ed) (label : ByteArray) (v : Int) : Option Ed := es.find? (edP label v)

set_option maxHeartbeats 400000 in
theorem shelfFind_some (base b o : Nat) (ao : Option Addr) (cap : Nat) (es : List Ed) (label : ByteArray) (v : Int) (w : World) (hr : ShelfAt w base b o ao cap es) (hlen : es.length ≤ 1000)
    (i : Nat) (hi : i < es.length) (hm : edP label v es[i] = true) (hno : ∀ j, (hj : j < es.length) → j < i → edP label v es[j] = false) :
    Calls Tryz.prog 92 #[.pointer (some ⟨b, o, none⟩), .string label, .int .i64 v] w fun e w' => e = .returned (.int .i64 i) ∧ w' = w := by
  have c := hr.c
  have HM := hide hm
  have HN := hide hno
  clear hm hno
  go_enter Tryz.func92, Tryz.ntmps92
  go_wp2
  go_loop [7] (fun x => ∃ k : Nat, k ≤ i ∧ x = .int .i64 k) (fun x => es.length - (intOf x).toNat)
  case atStart => exact ⟨0, Nat.zero_le _, rfl⟩
  case round =>
    obtain ⟨k, hk, rfl⟩ := hrel
    obtain ⟨g, rfl, hg, hx⟩ := hr.ed k (by omega)
    obtain ⟨d0, d1, d2, d3, f3⟩ := hx
    by_cases hlt : k < i
    · have H1 := hide (HN.out k (by omega) hlt)
      go_wp2
      all_goals first
        | (exfalso; have := H1.out; simp [edP, *] at this; done)
        | (go_round
           case rel => exact ⟨k + 1, by omega, by go_num⟩
           case measure => simp [intOf] <;> omega)
    · obtain rfl : k = i := by omega
      have t := HM.out
      unfold edP at t
      rw [Bool.and_eq_true] at t
      obtain ⟨t1, t2⟩ := t
      go_wp2
      go_ret
      exact ⟨rfl, rfl⟩

set_option maxHeartbeats 400000 in
theorem shelfFind_none (base b o : Nat) (ao : Option Addr) (cap : Nat) (es : List Ed) (label : ByteArray) (v : Int) (w : World) (hr : ShelfAt w base b o ao cap es) (hlen : es.length ≤ 1000)
    (hno : ∀ j, (hj : j < es.length) → edP label v es[j] = false) :
    Calls Tryz.prog 92 #[.pointer (some ⟨b, o, none⟩), .string label, .int .i64 v] w fun e w' => e = .returned (.int .i64 (-1)) ∧ w' = w := by
  have c := hr.c
  have HN := hide hno
  clear hno
  go_enter Tryz.func92, Tryz.ntmps92
  go_wp2
  go_loop [7] (fun x => ∃ k : Nat, k ≤ es.length ∧ x = .int .i64 k) (fun x => es.length - (intOf x).toNat)
  case atStart => exact ⟨0, Nat.zero_le _, rfl⟩
  case round =>
    obtain ⟨k, hk, rfl⟩ := hrel
    by_cases hlt : k < es.length
    · obtain ⟨g, rfl, hg, hx⟩ := hr.ed k (by omega)
      obtain ⟨d0, d1, d2, d3, f3⟩ := hx
      have H1 := hide (HN.out k (by omega))
      go_wp2
      all_goals first
        | (exfalso; have := H1.out; simp [edP, *] at this; done)
        | (go_round
           case rel => exact ⟨k + 1, by omega, by go_num⟩
           case measure => simp [intOf] <;> omega)
    · go_wp2
      go_ret
      exact ⟨rfl, rfl⟩

def hasE (es : List Ed) (label : ByteArray) : Bool := es.any fun e => e.label.toList == label.toList

set_option maxHeartbeats 400000 in
theorem shelfHas_any (base b o : Nat) (ao : Option Addr) (cap : Nat) (es : List Ed) (label : ByteArray) (w : World) (hr : ShelfAt w base b o ao cap es) (hlen : es.length ≤ 1000) :
    Calls Tryz.prog 65 #[.pointer (some ⟨b, o, none⟩), .string label] w fun e w' => e = .returned (.bool (hasE es label)) ∧ w' = w := by
  have c := hr.c
  go_enter Tryz.func65, Tryz.ntmps65
  go_wp2
  go_loop [5] (fun x => ∃ k : Nat, k ≤ es.length ∧ x = .int .i64 k ∧ ∀ j, (hj : j < es.length) → j < k → (es[j].label.toList == label.toList) = false) (fun x => es.length - (intOf x).toNat)
  case atStart => exact ⟨0, Nat.zero_le _, rfl, fun j _ h => by omega⟩
  case round =>
    obtain ⟨k, hk, rfl, hno⟩ := hrel
    have HN := hide hno
    clear hno
    by_cases hlt : k < es.length
    · obtain ⟨g, rfl, hg, hx⟩ := hr.ed k (by omega)
      obtain ⟨d0, d1, d2, d3, f3⟩ := hx
      cases ht : (es[k].label.toList == label.toList) with
      | true =>
        have HF := hide (show hasE es label = true by unfold hasE; rw [List.any_eq_true]; exact ⟨es[k], List.getElem_mem _, ht⟩)
        go_wp2
        go_ret
        exact ⟨ret_bool HF.out.symm, rfl⟩
      | false =>
        have HT := hide ht
        go_wp2
        go_round
        case rel =>
          refine ⟨k + 1, by omega, by go_num, fun j hj hlt' => ?_⟩
          by_cases hjk : j = k
          · subst hjk; exact HT.out
          · exact HN.out j hj (by omega)
        case measure => simp [intOf] <;> omega
    · have HF := hide (show hasE es label = false by
        unfold hasE
        rw [List.any_eq_false]
        intro x hx
        obtain ⟨j, hj, rfl⟩ := List.mem_iff_getElem.1 hx
        rw [HN.out j hj (by omega)]; decide)
      go_wp2
      go_ret
      exact ⟨ret_bool HF.out.symm, rfl⟩

/-- A shelf of which one version was taken back, or let count again. -/
def ShelfSet (w w' : World) (ao : Option Addr) (es : List Ed) (label : ByteArray) (v : Int) (off : Bool) : Prop :=
  ∃ i, ∃ hi : i < es.length, ∃ g, ao = some ⟨g, 0, none⟩ ∧ edP label v es[i] = true ∧ (∀ j, (hj : j < es.length) → j < i → edP label v es[j] = false) ∧ w' = w.setCell ⟨g, i * 4 + 3, none⟩ (.bool off)

set_option maxHeartbeats 400000 in
theorem shelfYank_any (base b o : Nat) (ao : Option Addr) (cap : Nat) (es : List Ed) (label : ByteArray) (v : Int) (off : Bool) (w : World) (hr : ShelfAt w base b o ao cap es) (hlen : es.length ≤ 1000) (E : Int)
    (hE : E = if (edF es label v).isSome then 0 else 7) :
    Calls Tryz.prog 62 #[.pointer (some ⟨b, o, none⟩), .string label, .int .i64 v, .bool off] w fun e w' => e = .returned (.int .i64 E) ∧
      ((E ≠ 0 ∧ w' = w) ∨ (E = 0 ∧ ShelfSet w w' ao es label v off)) := by
  have c := hr.c
  rcases find_cases (edP label v) es with ⟨i, hi, h1, h2, h3⟩ | ⟨h1, h3⟩
  · obtain ⟨g, rfl, hg, hx⟩ := hr.ed i hi
    obtain ⟨d0, d1, d2, d3, f3⟩ := hx
    have Hc := hide (shelfFind_some base b o _ cap es label v w hr hlen i hi h1 h2)
    have HP := hide (And.intro h1 h2)
    have H0 := hide (show E = 0 by rw [hE, edF, h3]; rfl)
    clear h1 h2 h3 hE
    go_enter Tryz.func62, Tryz.ntmps62
    go_wp2_with fail
    refine Hc.out.mono ?_
    rintro e w1 ⟨rfl, h⟩
    subst h
    go_wp2_with fail
    go_ret
    rw [H0.out]
    exact ⟨rfl, Or.inr ⟨rfl, i, hi, g, rfl, HP.out.1, HP.out.2, rfl⟩⟩
  · have Hc := hide (shelfFind_none base b o ao cap es label v w hr hlen h1)
    have H7 := hide (show E = 7 by rw [hE, edF, h3]; rfl)
    clear h1 h3 hE
    go_enter Tryz.func62, Tryz.ntmps62
    go_wp2_with fail
    refine Hc.out.mono ?_
    rintro e w1 ⟨rfl, h⟩
    subst h
    go_wp2_with fail
    go_ret
    rw [H7.out]
    exact ⟨rfl, Or.inl ⟨by decide, rfl⟩⟩

end

section
open Go.RowKit

theorem Tryz.infoEd : (Tryz.prog.info? 143).map (fun i => (i.zero, i.size, i.bytes)) = some (some (.agg #[.string ⟨#[]⟩, .int .i64 0, .slice none 0 0, .bool false]), 4, 56) := by kernel_rfl

def layF (es : List Ed) (label : ByteArray) (v : Int) (text : ByteArray) (room : Int) : Int :=
  if v < 1 ∨ 9 < v then 1 else if (wantsF text).isSome = false then 8 else if (edF es label v).isSome then 5 else if room ≤ es.length then 6 else 0

/-- A shelf with one version more. -/
def LayPush (w w' : World) (base b o : Nat) (ao : Option Addr) (es : List Ed) (label : ByteArray) (v : Int) (text : ByteArray) : Prop :=
  ∃ w0 e ws, Below w.heap.size w w0 ∧ wantsF text = some ws ∧ e = Ed.mk label v e.wao e.wcap ws false ∧ w0.ownsRow w.heap.size 172 3 (.slice e.wao ws.length e.wcap) ws.length (wantsCells ws) ∧
    RowPush 143 4 w0 w' base b o ao es.length (edsCells es) e.cells

set_option maxHeartbeats 1600000 in
set_option maxRecDepth 100000 in
theorem shelfLay_any (base b o : Nat) (ao : Option Addr) (cap : Nat) (es : List Ed) (label : ByteArray) (v : Int) (text : ByteArray) (room : Int) (w : World) (hr : ShelfAt w base b o ao cap es) (hlen : es.length ≤ 1000)
    (hab : ¬ blockOf ao b) (hbase : base ≤ w.heap.size) (hs : text.size ≤ 4611686018427387000) (E : Int) (hE : E = layF es label v text room) :
    Calls Tryz.prog 56 #[.pointer (some ⟨b, o, none⟩), .string label, .int .i64 v, .string text, .int .i64 room] w fun e w' => e = .returned (.int .i64 E) ∧
      ((E ≠ 0 ∧ Below w.heap.size w w') ∨ (E = 0 ∧ LayPush w w' base b o ao es label v text)) := by
  by_cases hv : v < 1 ∨ 9 < v
  · have H1 := hide (show E = 1 by rw [hE, layF, if_pos hv])
    have HV := hide hv
    clear hE hv
    go_enter Tryz.func56, Tryz.ntmps56
    go_wp2_with fail
    all_goals first | (go_ret; rw [H1.out]; exact ⟨rfl, Or.inl ⟨by decide, Below.refl _ _⟩⟩) | (exfalso; have := HV.out; omega)
  · have hv1 : 1 ≤ v := by omega
    have hv2 : v ≤ 9 := by omega
    have HP := hide (parse_any text w hs)
    have HE := hide (show E = if (wantsF text).isSome = false then 8 else if (edF es label v).isSome then 5 else if room ≤ es.length then 6 else 0 by rw [hE, layF, if_neg hv])
    clear hE hv
    cases hw : wantsF text with
    | none =>
      have H8 := hide (show E = 8 by rw [HE.out, hw]; rfl)
      have HW := hide hw
      clear HE hw
      go_enter Tryz.func56, Tryz.ntmps56
      go_wp2_with fail
      refine HP.out.mono ?_
      rintro e w1 ⟨⟨wao, n, wcap, rfl, _⟩, hb⟩
      rw [HW.out]
      simp only [Option.isSome_none]
      go_wp2_with fail
      go_ret
      rw [H8.out]
      exact ⟨rfl, Or.inl ⟨by decide, hb⟩⟩
    | some ws =>
      have HE2 := hide (show E = if (edF es label v).isSome then 5 else if room ≤ es.length then 6 else 0 by rw [HE.out, hw]; rfl)
      have HW := hide hw
      clear HE hw
      rcases find_cases (edP label v) es with ⟨i, hi, h1, h2, h3⟩ | ⟨h1, h3⟩
      · have Hc := hide (fun W h => shelfFind_some base b o ao cap es label v W h hlen i hi h1 h2)
        have H5 := hide (show E = 5 by rw [HE2.out, edF, h3]; rfl)
        clear h1 h2 h3 HE2
        go_enter Tryz.func56, Tryz.ntmps56
        go_wp2_with fail
        refine HP.out.mono ?_
        rintro e w1 ⟨⟨wao, n, wcap, rfl, _⟩, hb⟩
        rw [HW.out]
        simp only [Option.isSome_some]
        have hr1 := hr.below hb
        go_wp2_with fail
        refine (Hc.out _ hr1).mono ?_
        rintro e w2 ⟨rfl, h⟩
        subst h
        go_wp2_with fail
        go_ret
        rw [H5.out]
        exact ⟨rfl, Or.inl ⟨by decide, hb⟩⟩
      · have Hc := hide (fun W h => shelfFind_none base b o ao cap es label v W h hlen h1)
        have HE3 := hide (show E = if room ≤ es.length then 6 else 0 by rw [HE2.out, edF, h3]; rfl)
        clear h1 h3 HE2
        by_cases hroom : room ≤ es.length
        · have H6 := hide (show E = 6 by rw [HE3.out, if_pos hroom])
          clear HE3
          go_enter Tryz.func56, Tryz.ntmps56
          go_wp2_with fail
          refine HP.out.mono ?_
          rintro e w1 ⟨⟨wao, n, wcap, rfl, _⟩, hb⟩
          rw [HW.out]
          simp only [Option.isSome_some]
          have hr1 := hr.below hb
          have c := hr1.c
          go_wp2_with fail
          refine (Hc.out _ hr1).mono ?_
          rintro e w2 ⟨rfl, h⟩
          subst h
          go_wp2_with fail
          go_ret
          rw [H6.out]
          exact ⟨rfl, Or.inl ⟨by decide, hb⟩⟩
        · have H0 := hide (show E = 0 by rw [HE3.out, if_neg hroom])
          clear HE3
          obtain ⟨i0, ti, hz0, hz1, hz2⟩ := info_parts Tryz.infoEd
          go_enter Tryz.func56, Tryz.ntmps56
          go_wp2_with fail
          refine HP.out.mono ?_
          rintro e w1 ⟨⟨wao, n, wcap, rfl, hws⟩, hb⟩
          obtain ⟨rfl, hwo⟩ := hws ws HW.out
          clear hws
          rw [HW.out]
          simp only [Option.isSome_some]
          have hr1 := hr.below hb
          have c := hr1.c
          go_wp2_with fail
          refine (Hc.out _ hr1).mono ?_
          rintro e w2 ⟨rfl, h⟩
          subst h
          clear Hc HP
          obtain ⟨wb, cp, k1, k2, hbw, hszb⟩ := copied label w2
          have hrb := hr1.below hbw
          have hbb := below_call hb hbw
          have cb := hrb.c
          have fb := hrb.f
          have hbl := hrb.lt
          have hown := hrb.own
          have hwo' := ownsRow_keep' hwo hbw
          go_wp2_with fail
          have B1 := hide (show es.length + 1 ≤ maxLen by unfold maxLen; omega)
          have B2 := hide (show (es.length + 1) * 56 ≤ 140737488355328 by omega)
          have B3 := hide (show base ≤ wb.heap.size from Nat.le_trans hbase hbb.size)
          clear k1 k2 c
          go_region_law (refine step_append_own rfl (.tmp 49) (.tmp 51) 40 rfl base 143 i0 (.agg #[.string ⟨#[]⟩, .int .i64 0, .slice none 0 0, .bool false]) 4 56 Tryz.underlying40 ti hz0 hz1 hz2 rfl (by decide) (.slice ao es.length cap) es.length (edsCells es) ?_ ?_ ⟨wb.heap.size + 1, 0, none⟩ 1 1 [.string label, .int .i64 v, .slice wao ws.length wcap, .bool false] ?_ rfl ?_ ?_ B1.out B2.out ?_ (Nat.succ_pos _) ?_; simp [Act.eval]; exact (hown.alloc _).alloc _; simp [Act.eval]; exact news_at (t := 143) (fr := (0, 0)) (heap2_new wb _ _); simp [Value.oneCell']; exact Nat.le_trans (Nat.le_trans B3.out (Nat.le_add_right _ 2)) (Nat.le_of_eq (size2 wb _ _).symm); intro g' cap' w' hown' hgrow hnew; have hchg : Chg (blockOf ao) wb w' := Chg.ofGrown hgrow rfl rfl rfl (Nat.le_trans (Nat.le_add_right _ 2) (Nat.le_of_eq (size2 wb _ _).symm)) (fun k hk => heap2_old wb _ _ k hk) (fun k hk => Or.inl (row_of hk)); have hk : w'.heap[b]? = wb.heap[b]? := hchg.block b hbl hab; have k2 := (World.cell?_of_block (a := ⟨b, o, none⟩) hk).trans cb; have kf := (World.frozen?_of_block (a := ⟨b, o, none⟩) hk).trans fb)
          all_goals
            have hfoot := hide (show blockOf ao g' ∨ wb.heap.size ≤ g' from hnew.elim (fun h => Or.inl (row_of h)) (fun h => Or.inr (Nat.le_trans (Nat.le_trans (Nat.le_add_right _ 2) (Nat.le_of_eq (size2 wb _ _).symm)) h)))
            clear hnew hgrow
            go_wp2_with fail
            go_ret
            rw [H0.out]
            exact ⟨rfl, Or.inr ⟨rfl, wb, ⟨label, v, wao, wcap, ws, false⟩, ws, hbb, HW.out, rfl, hwo', g', cap', w', hown', hchg, hfoot.out, rfl⟩⟩

end

end Go.Proofs.YtgcldedkempjhabGreatDoor
