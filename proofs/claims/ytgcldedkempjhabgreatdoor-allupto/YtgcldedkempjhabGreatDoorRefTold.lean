/-
  depotref: told, Resolve.
-/
import Derived.Test.YtgcldedkempjhabGreatDoorRefSolve
import Derived.Test.YtgcldedkempjhabGreatDoorRefAsk
import Derived.OwnWalk
namespace Go.Proofs.YtgcldedkempjhabGreatDoor
open Go.RowKit

/-- Texts in a row of their own. -/
structure TRow (w : World) (B : Nat) (T : List ByteArray) : Prop where
  c : ∀ j u, T[j]? = some u → w.cell? ⟨B, j, none⟩ = some (.string u)
  f : ∀ j, w.frozen? ⟨B, j, none⟩ = false

theorem TRow.set {w : World} {B : Nat} {T : List ByteArray} (h : TRow w B T) {i : Nat} (hi : i < T.length) (v : ByteArray) : TRow (w.setCell ⟨B, i, none⟩ (.string v)) B (T.set i v) := by
  refine ⟨fun j u hu => ?_, fun j => by rw [frozen_setCell]; exact h.f j⟩
  rw [List.getElem?_set] at hu
  by_cases hij : i = j
  · subst hij
    rw [if_pos rfl, if_pos hi] at hu
    injection hu with hu
    subst hu
    exact cell_setCell_same (h.c i _ (List.getElem?_eq_getElem hi))
  · rw [if_neg hij] at hu
    rw [cell_setCell_ne (Or.inr (fun e => hij e.symm))]
    exact h.c j u hu

theorem TRow.keep {w w' : World} {B : Nat} {T : List ByteArray} (h : TRow w B T) (hk : w'.heap[B]? = w.heap[B]?) : TRow w' B T :=
  ⟨fun j u hu => (World.cell?_of_block hk).trans (h.c j u hu), fun j => (World.frozen?_of_block hk).trans (h.f j)⟩

theorem TRow.made {w : World} {base B n : Nat} (h : w.ownsRow base 9 1 (.slice (some ⟨B, 0, none⟩) n n) n (madeCells #[Value.string ⟨#[]⟩] n).toList) : TRow w B (List.replicate n ⟨#[]⟩) := by
  refine ⟨fun j u hu => ?_, fun j => ?_⟩
  · obtain ⟨hj, e⟩ := List.getElem?_eq_some_iff.1 hu
    rw [List.length_replicate] at hj
    rw [List.getElem_replicate] at e
    subst e
    have := h.cellAt j (by omega)
    rw [this]
    rw [toList_madeCells_one, List.getElem?_replicate, if_pos hj]
  · rcases h.2 with ⟨hv, _⟩ | ⟨g, cap, cur, hv, _, hg, _⟩
    · cases hv
    · injection hv with e1
      injection e1 with e1
      injection e1 with e1
      subst e1
      exact frozen_of_heap hg _

def pkOf (p : ByteArray × Nat) : Pk := ⟨p.1, p.2⟩

theorem chPks_at (l : List (ByteArray × Nat)) (k : Nat) (hk : k < l.length) : (chPks l)[k]? = some (pkOf l[k]) := by
  unfold chPks
  rw [List.getElem?_map, List.getElem?_eq_getElem hk]
  rfl

theorem laidT_succ (pc : Pk → ByteArray) (l : List (ByteArray × Nat)) (k : Nat) (hk : k < l.length) : laidT pc (chPks l) (k + 1) = (laidT pc (chPks l) k).set (lessN (chPks l) (pkOf l[k])) (pc (pkOf l[k])) := by
  conv => lhs; unfold laidT
  rw [chPks_at l k hk]
  rfl

/-- How many of the first names are less than a name. -/
def lessTo (l : List (ByteArray × Nat)) (p : Pk) (q : Nat) : Nat := ((chPks l).take q).countP fun z => pkLess z p

theorem lessTo_step (l : List (ByteArray × Nat)) (p : Pk) (q : Nat) (hq : q < l.length) : lessTo l p (q + 1) = lessTo l p q + if pkLess (pkOf l[q]) p = true then 1 else 0 := by
  have h1 : q < (chPks l).length := by unfold chPks; rw [List.length_map]; exact hq
  have h2 : (chPks l)[q] = pkOf l[q] := by
    have := chPks_at l q hq
    rw [List.getElem?_eq_getElem h1] at this
    injection this
  unfold lessTo
  rw [List.take_succ_eq_append_getElem h1, List.countP_append, h2]
  simp [List.countP_cons]

theorem lessTo_all (l : List (ByteArray × Nat)) (p : Pk) : lessTo l p l.length = lessN (chPks l) p := by
  unfold lessTo lessN
  rw [List.take_of_length_le (by unfold chPks; rw [List.length_map]; exact Nat.le_refl _)]

theorem lessTo_le (l : List (ByteArray × Nat)) (p : Pk) (q : Nat) : lessTo l p q ≤ q := by
  unfold lessTo
  exact Nat.le_trans List.countP_le_length (by rw [List.length_take]; omega)

theorem joinT_size (T : List ByteArray) (h : ∀ x ∈ T, x.size ≤ 40) (k : Nat) : (joinT (T.take k)).size ≤ 40 * k := by
  induction k with
  | zero => exact Nat.le_refl _
  | succ k ih =>
    by_cases hk : k < T.length
    · rw [joinT_take T k hk, ByteArray.size_append]
      have := h T[k] (List.getElem_mem hk)
      omega
    · rw [List.take_of_length_le (by omega)]
      rw [List.take_of_length_le (by omega)] at ih
      omega

theorem pieceR_size {ds : List Deed} {p : Pk} (h1 : p.name.size ≤ 9) (h2 : (whoR ds p.name).size ≤ 15) : (pieceR ds p).size ≤ 40 := by
  unfold pieceR
  simp only [ByteArray.size_append]
  have e1 : (⟨#[64]⟩ : ByteArray).size = 1 := rfl
  have e2 : (⟨#[35]⟩ : ByteArray).size = 1 := rfl
  have e3 : (⟨#[59]⟩ : ByteArray).size = 1 := rfl
  have e4 : (digitS p.ver).size = 1 := rfl
  omega

set_option maxHeartbeats 1600000 in
set_option maxRecDepth 100000 in
theorem told_any (ds : List Deed) (ao : Option Addr) (cap : Nat) (l : List (ByteArray × Nat)) (w : World) (hrow : CRow (pickCells ds) w ao l) (hl : l.length ≤ 10000000) (hnd : (l.map Prod.fst).Nodup) (hok : ∀ p ∈ l, p.1.size ≤ 9 ∧ p.2 ≤ 9 ∧ (whoR ds p.1).size ≤ 15) :
    Calls Tryz.prog 80 #[.slice ao l.length cap] w fun e w' => e = .returned (.string (joinT ((sortPk (chPks l)).map (pieceR ds)))) ∧ Below w.heap.size w w' := by
  have HR := hide hrow
  have HOK := hide hok
  have hndL : ((chPks l).map fun p => p.name).Nodup := by
    unfold chPks
    rw [List.map_map]
    exact hnd
  have hLl : (chPks l).length = l.length := by unfold chPks; rw [List.length_map]
  have HND := hide hndL
  have HLL := hide hLl
  obtain ⟨i0, ti, hz0, hz1, hz2⟩ := info_parts Tryz.infoStr
  have HB := hide (show i0.bytes * l.length ≤ 281474976710656 by rw [hz2]; omega)
  clear hrow hok hndL hnd hLl
  go_enter Tryz.func80, Tryz.ntmps80
  go_wp2_with (refine wpList_make_full _ rfl (.tmp 10) (.tmp 10) 144 rfl w.heap.size 9 i0 (.string ⟨#[]⟩) 1 Tryz.underlying144 ti hz0 hz1 .i64 .i64 _ _ l.length rfl rfl rfl rfl HB.out (by unfold maxLen; omega) (Nat.le_refl _) ?_)
  intro w1 hown1 hgrow1
  have hb1 : Below w.heap.size w w1 := (Below.refl _ _).grown hgrow1 (Nat.le_refl _) (fun k' hk' => by cases hk')
  have HT1 := hide (TRow.made hown1)
  have hlt1 : w.heap.size < w1.heap.size := (hown1.lt _ rfl).2
  clear hown1 hgrow1
  go_wp2_with fail
  go_loopw [4, 5, 6] (fun i _ _ wr => ∃ k : Nat, k ≤ l.length ∧ i = .int .i64 k ∧ TRow wr w.heap.size (laidT (pieceR ds) (chPks l) k) ∧ w.heap.size < wr.heap.size ∧ Below w.heap.size w wr) (fun i _ _ _ => l.length - (intOf i).toNat)
  case atStart => exact ⟨0, Nat.zero_le _, rfl, by unfold laidT; rw [HLL.out]; exact HT1.out, hlt1, hb1⟩
  case round =>
    obtain ⟨k, hk, rfl, hT, hlt2, hb⟩ := hrel
    by_cases hlt : k < l.length
    · have HT := hide hT
      obtain ⟨wo, rfl⟩ : ∃ wo : World, wo = wr := ⟨_, rfl⟩
      clear hT
      go_wp2_with fail
      go_loopw [5, 6] (fun n j wx => ∃ q : Nat, q ≤ l.length ∧ j = .int .i64 q ∧ n = .int .i64 (lessTo l (pkOf l[k]) q : Nat) ∧ Below wo.heap.size wo wx) (fun _ j _ => l.length - (intOf j).toNat)
      case atStart => exact ⟨0, Nat.zero_le _, rfl, rfl, Below.refl _ _⟩
      case round =>
        obtain ⟨q, hq, rfl, rfl, hbx⟩ := hrel
        have hle := lessTo_le l (pkOf l[k]) q
        by_cases hlq : q < l.length
        · obtain ⟨g, o, rfl, hg, hc⟩ := ((HR.out.below hb).below hbx) q hlq
          obtain ⟨g', o', e', _, hc'⟩ := ((HR.out.below hb).below hbx) k hlt
          injection e' with e'
          injection e' with e1 e2
          subst e1; subst e2
          have d0 : wr.cell? ⟨g, o + q * 3, none⟩ = some (.string l[q].1) := hc 0 _ rfl
          have d1 : wr.cell? ⟨g, o + k * 3, none⟩ = some (.string l[k].1) := hc' 0 _ rfl
          have HST := hide (lessTo_step l (pkOf l[k]) q hlq)
          have hpk : pkLess (pkOf l[q]) (pkOf l[k]) = Op.bytesLess l[q].1.toList l[k].1.toList := rfl
          rw [hpk] at HST
          clear hc hc' hpk
          generalize lessTo l (pkOf l[k]) q = N at *
          cases hbl : Op.bytesLess l[q].1.toList l[k].1.toList with
          | true =>
            rw [hbl, if_pos rfl] at HST
            go_wp2_with fail
            go_quiet (fail)
            go_wp2_with fail
            go_roundw
            case rel => exact ⟨q + 1, by omega, by go_num, by rw [HST.out]; go_num, below_drawn hbx _⟩
            case measure => simp [intOf] <;> omega
          | false =>
            rw [hbl, if_neg (by decide)] at HST
            go_wp2_with fail
            go_quiet (fail)
            go_wp2_with fail
            go_roundw
            case rel => exact ⟨q + 1, by omega, by go_num, by rw [HST.out]; go_num, below_drawn hbx _⟩
            case measure => simp [intOf] <;> omega
        · obtain rfl : q = l.length := by omega
          rw [lessTo_all]
          have hbw := below_call hb hbx
          have hltw : w.heap.size < wr.heap.size := Nat.lt_of_lt_of_le hlt2 hbx.size
          have hTw := HT.out.keep (hbx.block w.heap.size hlt2)
          have hml : pkOf l[k] ∈ chPks l := by
            unfold chPks
            exact List.mem_map_of_mem (f := fun p : ByteArray × Nat => (⟨p.1, p.2⟩ : Pk)) (List.getElem_mem hlt)
          have hnl := less_lt HND.out hml
          rw [HLL.out] at hnl
          have hTl : lessN (chPks l) (pkOf l[k]) < (laidT (pieceR ds) (chPks l) k).length := by rw [laidT_length, HLL.out]; exact hnl
          have cT := hTw.c _ _ (List.getElem?_eq_getElem hTl)
          have fT := hTw.f (lessN (chPks l) (pkOf l[k]))
          have HTN := hide (show TRow (wr.setCell ⟨w.heap.size, lessN (chPks l) (pkOf l[k]), none⟩ (.string (pieceR ds (pkOf l[k])))) w.heap.size (laidT (pieceR ds) (chPks l) (k + 1)) by
            rw [laidT_succ (pieceR ds) l k hlt]
            exact hTw.set hTl _)
          obtain ⟨g, o, rfl, hg, hc⟩ := (HR.out.below hbw) k hlt
          have hok := HOK.out l[k] (List.getElem_mem hlt)
          have d0 : wr.cell? ⟨g, o + k * 3, none⟩ = some (.string l[k].1) := hc 0 _ rfl
          have d1 : wr.cell? ⟨g, o + k * 3 + 1, none⟩ = some (.int .i64 l[k].2) := hc 1 _ rfl
          have d2 : wr.cell? ⟨g, o + k * 3 + 2, none⟩ = some (.string (whoR ds l[k].1)) := hc 2 _ rfl
          have HNUM := hide (fun W => rnumber_one l[k].2 (by omega) W)
          have hpc : pieceR ds (pkOf l[k]) = l[k].1 ++ ⟨#[64]⟩ ++ digitS l[k].2 ++ ⟨#[35]⟩ ++ whoR ds l[k].1 ++ ⟨#[59]⟩ := rfl
          rw [hpc] at HTN
          have hds : (digitS l[k].2).size = 1 := rfl
          have hne : g ≠ w.heap.size := by
            obtain ⟨g2, o2, e2, hg2, _⟩ := HR.out k hlt
            injection e2 with e2
            injection e2 with e2
            omega
          clear hc hTw hml hpc hb hbx hlt2
          generalize lessN (chPks l) (pkOf l[k]) = N at *
          generalize (laidT (pieceR ds) (chPks l) k)[N] = old at *
          generalize digitS l[k].2 = dg at *
          generalize whoR ds l[k].1 = wh at *
          generalize l[k].1 = nm at *
          generalize l[k].2 = vv at *
          have m1 : ¬ 9223372036854775807 < nm.size + 1 := by omega
          have m2 : ¬ 9223372036854775807 < nm.size + 1 + dg.size := by omega
          have m3 : ¬ 9223372036854775807 < nm.size + 1 + dg.size + 1 := by omega
          have m4 : ¬ 9223372036854775807 < nm.size + 1 + dg.size + 1 + wh.size := by omega
          have m5 : ¬ 9223372036854775807 < nm.size + 1 + dg.size + 1 + wh.size + 1 := by omega
          clear hds
          have e0 : ∀ v, (wr.setCell ⟨w.heap.size, N, none⟩ v).cell? ⟨g, o + k * 3, none⟩ = some (.string nm) := fun v => (cell_setCell_ne (Or.inl hne)).trans d0
          have e1 : ∀ v, (wr.setCell ⟨w.heap.size, N, none⟩ v).cell? ⟨g, o + k * 3 + 1, none⟩ = some (.int .i64 vv) := fun v => (cell_setCell_ne (Or.inl hne)).trans d1
          have e2 : ∀ v, (wr.setCell ⟨w.heap.size, N, none⟩ v).cell? ⟨g, o + k * 3 + 2, none⟩ = some (.string wh) := fun v => (cell_setCell_ne (Or.inl hne)).trans d2
          have hk0 : (0 : Int) ≤ (k : Int) := by omega
          have hkl : (k : Int) < (l.length : Int) := by omega
          have hN0 : (0 : Int) ≤ (N : Int) := by omega
          have hNl : (N : Int) < (l.length : Int) := by omega
          go_wp2_with fail
          go_region_held3 (fun W => W.cell? ⟨g, o + k * 3, none⟩ = some (.string nm) ∧ W.cell? ⟨g, o + k * 3 + 1, none⟩ = some (.int .i64 vv) ∧ W.cell? ⟨g, o + k * 3 + 2, none⟩ = some (.string wh)) (first | exact ⟨d0, d1, d2⟩ | exact ⟨e0 _, e1 _, e2 _⟩) (first
            | ((go_at_call 74; refine (HNUM.out _).mono ?_; rintro e w4 ⟨rfl, hw⟩; subst hw)))
          all_goals
            go_wp2_with fail
            go_roundw
            case rel => exact ⟨k + 1, by omega, by go_num, HTN.out.keep rfl, by simp [World.setCell]; exact hltw, below_drawn (hbw.setCell (Nat.le_refl _) _) _⟩
            case measure => simp [intOf] <;> omega
    · obtain rfl : k = l.length := by omega
      have hall := laidT_all (pieceR ds) HND.out
      rw [HLL.out] at hall
      rw [hall] at hT
      have HSZ := hide (show ∀ x ∈ (sortPk (chPks l)).map (pieceR ds), x.size ≤ 40 by
        intro x hx
        obtain ⟨p, hp, rfl⟩ := List.mem_map.1 hx
        have hp' := ((sortPk_is HND.out).2 p).1 hp
        unfold chPks at hp'
        obtain ⟨q, hq, rfl⟩ := List.mem_map.1 hp'
        obtain ⟨h1, _, h3⟩ := HOK.out q hq
        exact pieceR_size h1 h3)
      have hTl : ((sortPk (chPks l)).map (pieceR ds)).length = l.length := by rw [List.length_map, (sortPk_perm HND.out).length_eq, HLL.out]
      have HT := hide hT
      clear hall hT
      generalize hTT : (sortPk (chPks l)).map (pieceR ds) = T at *
      have HTT := hide hTT
      clear hTT
      have HTL := hide hTl
      clear hTl
      obtain ⟨wo, rfl⟩ : ∃ wo : World, wo = wr := ⟨_, rfl⟩
      go_wp2_with fail
      go_loopw [7, 8] (fun s i wx => ∃ q : Nat, q ≤ l.length ∧ i = .int .i64 q ∧ s = .string (joinT (T.take q)) ∧ Below wo.heap.size wo wx) (fun _ i _ => l.length - (intOf i).toNat)
      case atStart => exact ⟨0, Nat.zero_le _, rfl, rfl, Below.refl _ _⟩
      case round =>
        obtain ⟨q, hq, rfl, rfl, hbx⟩ := hrel
        have hsz := joinT_size T HSZ.out q
        have hbw := below_call hb hbx
        have hltw : w.heap.size < wr.heap.size := Nat.lt_of_lt_of_le hlt2 hbx.size
        by_cases hlq : q < l.length
        · have hqT : q < T.length := by rw [HTL.out]; exact hlq
          have hTw := HT.out.keep (hbx.block w.heap.size hlt2)
          have cT := hTw.c q _ (List.getElem?_eq_getElem hqT)
          have hx40 := HSZ.out T[q] (List.getElem_mem hqT)
          have HJ := hide (joinT_take T q hqT)
          clear hTw
          generalize joinT (T.take q) = J at *
          generalize T[q] = X at *
          have m1 : ¬ 9223372036854775807 < J.size + X.size := by omega
          go_wp2_with fail
          go_roundw
          case rel => exact ⟨q + 1, by omega, by go_num, by rw [HJ.out], hbx⟩
          case measure => simp [intOf] <;> omega
        · have HJ := hide (show joinT (T.take q) = joinT T by rw [List.take_of_length_le (by rw [HTL.out]; omega)])
          generalize joinT (T.take q) = J at *
          go_wp2_with fail
          go_ret
          exact ⟨by rw [HTT.out, ← HJ.out]; rfl, hbw⟩

section
variable {α : Type}

theorem tries_len {f : List (Wt α) → List (α × Nat) → Nat → Res α} {cd : Nat → Option (List (Wt α))} {rest : List (Wt α)} {ch : List (α × Nat)} {w : Wt α} {M : Nat} (hf : ∀ l v n n' r, f l ((w.n, v) :: ch) n = some (n', some r) → r.length ≤ M) (v : Nat) : ∀ left n' r, tries f cd rest ch w v left = some (n', some r) → r.length ≤ M := by
  induction v with
  | zero => intro left n' r h; cases h
  | succ v ih =>
    intro left n' r h
    cases hx : (if w.has ((v + 1 : Nat) : Int) then cd (v + 1) else none) with
    | none => rw [tries_skip hx] at h; exact ih left n' r h
    | some l =>
      cases left with
      | zero => rw [tries_broke hx] at h; cases h
      | succ left =>
        cases hr2 : f (rest ++ l) ((w.n, v + 1) :: ch) left with
        | none => rw [tries_else hx hr2 (fun x => by simp)] at h; cases h
        | some p =>
          obtain ⟨n, o⟩ := p
          cases o with
          | none => rw [tries_failed hx hr2] at h; exact ih n n' r h
          | some c =>
            rw [tries_else hx hr2 (fun x => by simp)] at h
            exact hf _ _ _ _ _ (hr2.trans h)

end

theorem solve_len {α : Type} [DecidableEq α] (cand : α → Nat → Option (List (Wt α))) (k : Nat) : ∀ (todo : List (Wt α)) (ch : List (α × Nat)) (left n' : Nat) (r : List (α × Nat)), solve cand k todo ch left = some (n', some r) → r.length ≤ ch.length + k := by
  induction k with
  | zero =>
    intro todo ch left n' r h
    unfold solve at h
    split at h
    · cases h
    · simp only [Option.some.injEq, Prod.mk.injEq] at h
      rw [← h.2]; exact Nat.le_refl _
    · cases h
  | succ k ih =>
    intro todo ch left n' r h
    cases hs : skip ch todo with
    | none => rw [solve_bad hs] at h; cases h
    | some o =>
      cases o with
      | none =>
        rw [solve_done hs] at h
        simp only [Option.some.injEq, Prod.mk.injEq] at h
        rw [← h.2]; omega
      | some p =>
        obtain ⟨w, rs⟩ := p
        rw [solve_at hs] at h
        refine tries_len (M := ch.length + (k + 1)) ?_ 9 left n' r h
        intro l v n m c hc
        have := ih l ((w.n, v) :: ch) n m c hc
        rw [List.length_cons] at this
        omega

theorem sort_rev {c : List (ByteArray × Nat)} (h : (c.map Prod.fst).Nodup) : sortPk (chPks c.reverse) = sortPk (chPks c) := by
  have h1 : ((chPks c).map fun p => p.name).Nodup := by unfold chPks; rw [List.map_map]; exact h
  have h2 : ((chPks c.reverse).map fun p => p.name).Nodup := by
    unfold chPks
    rw [List.map_map, List.map_reverse]
    exact List.pairwise_reverse.2 (h.imp fun hab => hab.symm)
  obtain ⟨a1, a2⟩ := sortPk_is h1
  obtain ⟨b1, b2⟩ := sortPk_is h2
  refine sorted_eq _ _ b1 a1 (fun x => ?_)
  rw [a2, b2]
  unfold chPks
  simp

set_option maxHeartbeats 1600000 in
set_option maxRecDepth 100000 in
theorem rResolve_any (rb : Nat) (root time : Int) (ao : Option Addr) (cap : Nat) (ds : List Deed) (house : ByteArray) (id : Int) (text : ByteArray) (budget : Int) (w : World)
    (hr : RefAt w rb root time ao cap ds) (hlen : ds.length ≤ 1000000000000) (hu : ∀ x ∈ ds, DeedWrit x) (hww : ∀ h p v x, relF ds h p v = some x → ∃ ws, wantsF x.wants = some ws) (hs : text.size ≤ 1000000000) (r1 : ByteArray) (r2 r3 : Int) (hE : (r1, r2, r3) = resolveE (roleF root time ds house id) ds house text budget) :
    Calls Tryz.prog 35 #[.pointer (some ⟨rb, 0, none⟩), .string house, .int .i64 id, .string text, .int .i64 budget] w fun e w' => e = .returned (.tuple #[.string r1, .int .i64 r2, .int .i64 r3]) ∧ Below w.heap.size w w' := by
  have Hr := hide (role_any rb root time ao cap ds house id w hr hlen)
  have HW := hide (fun W => wants_any text W hs)
  have HR := hide hr
  unfold resolveE at hE
  generalize roleF root time ds house id = r at *
  cases h0 : (r == 0) with
  | true =>
    rw [h0, if_pos rfl] at hE
    simp only [Prod.mk.injEq] at hE
    obtain ⟨rfl, rfl, rfl⟩ := hE
    clear hr hu hww
    go_enter Tryz.func35, Tryz.ntmps35
    go_wp2_with fail
    refine Hr.out.mono ?_
    rintro e w1 ⟨rfl, hb1⟩
    go_wp2_with fail
    refine (HW.out _).mono ?_
    rintro e w2 ⟨⟨wo, n, wc, rfl, _⟩, hb2⟩
    have hb3 := below_call hb1 hb2
    go_wp2_with fail
    go_ret3
    exact ⟨rfl, hb3⟩
  | false =>
    rw [h0, if_neg (by decide)] at hE
    cases hw : wantsF text with
    | none =>
      rw [hw] at hE
      simp only [Prod.mk.injEq] at hE
      obtain ⟨rfl, rfl, rfl⟩ := hE
      have HN := hide hw
      clear hr hu hww hw
      go_enter Tryz.func35, Tryz.ntmps35
      go_wp2_with fail
      refine Hr.out.mono ?_
      rintro e w1 ⟨rfl, hb1⟩
      go_wp2_with fail
      refine (HW.out _).mono ?_
      rintro e w2 ⟨⟨wo, n, wc, rfl, _⟩, hb2⟩
      rw [HN.out]
      simp only [Option.isSome_none]
      have hb3 := below_call hb1 hb2
      go_wp2_with fail
      go_ret3
      exact ⟨rfl, hb3⟩
    | some ask =>
      rw [hw] at hE
      simp only at hE
      have HN := hide hw
      have ha6 := wantsF_len hw
      have hgd := wantsF_wg hw
      by_cases hbud : budget < 0 ∨ 1000000 < budget
      · rw [if_pos hbud] at hE
        simp only [Prod.mk.injEq] at hE
        obtain ⟨rfl, rfl, rfl⟩ := hE
        clear hr hu hww hw
        by_cases hneg : budget < 0
        · clear hbud
          go_enter Tryz.func35, Tryz.ntmps35
          go_wp2_with fail
          refine Hr.out.mono ?_
          rintro e w1 ⟨rfl, hb1⟩
          go_wp2_with fail
          refine (HW.out _).mono ?_
          rintro e w2 ⟨⟨wo, n, wc, rfl, _⟩, hb2⟩
          rw [HN.out]
          simp only [Option.isSome_some]
          have hb3 := below_call hb1 hb2
          go_wp2_with fail
          go_ret3
          exact ⟨rfl, hb3⟩
        · have hbig : 1000000 < budget := hbud.resolve_left hneg
          clear hbud
          go_enter Tryz.func35, Tryz.ntmps35
          go_wp2_with fail
          refine Hr.out.mono ?_
          rintro e w1 ⟨rfl, hb1⟩
          go_wp2_with fail
          refine (HW.out _).mono ?_
          rintro e w2 ⟨⟨wo, n, wc, rfl, _⟩, hb2⟩
          rw [HN.out]
          simp only [Option.isSome_some]
          have hb3 := below_call hb1 hb2
          go_wp2_with fail
          go_ret3
          exact ⟨rfl, hb3⟩
      · rw [if_neg hbud] at hE
        obtain ⟨b, rfl⟩ : ∃ b : Nat, budget = b := ⟨budget.toNat, by omega⟩
        rw [Int.toNat_natCast] at hE
        have hb6 : b ≤ 1000000 := by omega
        have q1 : ¬ (b : Int) < 0 := by omega
        have q2 : ¬ (1000000 : Int) < b := by omega
        have HSV := hide (fun wo wc W h1 h2 h3 => rsolve_any rb root time ao cap ds house wo wc ask hlen hu hww ha6 1000001 ask [] b wo wc none 0 W h1 h2 h2 h3 (CRow.nil W none) hgd ⟨by simp, (fun p hp => by cases hp), fun p hp => by cases hp⟩ (by omega) (by omega) (by rw [List.length_nil]; omega))
        rw [List.length_nil] at HSV
        have HCK := hide (fun left c h => And.intro (solve_chOk (n' := left) (r := c) (candRW_good ds house ask) (good_wt hgd) h) (solve_len (candRW ds house ask) 1000001 (ask.map WantD.wt) [] b left c h))
        generalize solve (candRW ds house ask) 1000001 (ask.map WantD.wt) [] b = R at hE HSV HCK
        have HEE := hide hE
        clear hr hu hww hw hbud hE hgd
        go_enter Tryz.func35, Tryz.ntmps35
        go_wp2_with fail
        refine Hr.out.mono ?_
        rintro e w1 ⟨rfl, hb1⟩
        go_wp2_with fail
        refine (HW.out _).mono ?_
        rintro e w2 ⟨⟨wo, n, wc, rfl, hrow⟩, hb2⟩
        obtain ⟨rfl, hown⟩ := hrow _ HN.out
        rw [HN.out]
        simp only [Option.isSome_some]
        have hb3 := below_call hb1 hb2
        have HSC := hide (HSV.out wo wc w2 (HR.out.below hb3) (CRow.ofOwn dwantCells_length hown) (own_cap hown))
        clear hrow hown hb1 hb2 HSV
        go_wp2_with fail
        refine HSC.out.mono ?_
        rintro e w3 ⟨hend, hb4⟩
        have hb5 := below_call hb3 hb4
        clear HSC hb3 hb4
        rcases R with _ | ⟨left, _ | c⟩
        · have he : e = .returned (.tuple #[.int .i64 2, .slice none 0 0, .int .i64 (b : Int)]) := hend
          subst he
          have hE2 := HEE.out
          simp only [endE, Prod.mk.injEq] at hE2
          obtain ⟨rfl, rfl, rfl⟩ := hE2
          clear hend HCK HEE
          go_wp2_with fail
          go_ret3
          exact ⟨rfl, hb5⟩
        · have he : e = .returned (.tuple #[.int .i64 0, .slice none 0 0, .int .i64 ((b - left : Nat) : Int)]) := hend
          subst he
          have hE2 := HEE.out
          simp only [endE, Prod.mk.injEq] at hE2
          obtain ⟨rfl, rfl, rfl⟩ := hE2
          clear hend HCK HEE
          generalize hd : b - left = d at *
          have HD := hide hd
          clear hd
          go_wp2_with fail
          go_ret3
          exact ⟨by rw [HD.out]; rfl, hb5⟩
        · obtain ⟨ao5, cap5, rfl, hpk⟩ := hend
          have hE2 := HEE.out
          simp only [endE, Prod.mk.injEq] at hE2
          obtain ⟨rfl, rfl, rfl⟩ := hE2
          obtain ⟨hck, hcl⟩ := HCK.out left c rfl
          have HTO := hide (told_any ds ao5 cap5 c.reverse w3 hpk (by rw [List.length_reverse]; rw [List.length_nil] at hcl; omega) (by rw [List.map_reverse]; exact List.pairwise_reverse.2 (hck.nd.imp fun hab => hab.symm)) (fun p hp => by
            have hp' := List.mem_reverse.1 hp
            have hn9 := nameF_size (hck.a p hp')
            refine ⟨hn9, (hck.v p hp').2, ?_⟩
            have h1 := whoseE_size (ownerF ds p.1).1
            have h2 := ownerF_size ds p.1
            unfold whoR
            omega))
          rw [List.length_reverse, sort_rev hck.nd] at HTO
          clear hpk HCK HEE hck hcl
          generalize hd : b - left = d at *
          generalize c.length = cl at *
          generalize hJ : joinT ((sortPk (chPks c)).map (pieceR ds)) = J at *
          have HD := hide (And.intro hd hJ)
          clear hd hJ
          go_wp2_with fail
          refine HTO.out.mono ?_
          rintro e w4 ⟨rfl, hb6'⟩
          have hb7 := below_call hb5 hb6'
          go_wp2_with fail
          go_ret3
          exact ⟨by rw [HD.out.1, HD.out.2]; rfl, hb7⟩

theorem rel_wants {P : PDep} {ds : List Deed} (s : Sim P ds) : ∀ h p v x, relF ds h p v = some x → ∃ ws, wantsF x.wants = some ws := by
  intro h p v x hx
  have hk : some x.key = ((ds.filter (isD (relKind h) h)).map Deed.key).find? (keyP p v) := by rw [← rel_find, hx]; rfl
  have hm := List.mem_of_find?_eq_some hk.symm
  cases he : h.toList.isEmpty with
  | true =>
    have hn : h = noB := by
      apply key_inj
      have h1 : h.toList = [] := List.isEmpty_iff.1 he
      have h2 : noB.toList = [] := List.isEmpty_iff.1 noB_empty
      rw [h1, h2]
    subst hn
    rw [relKind_no, ← s.s10] at hm
    obtain ⟨e, _, hk2⟩ := List.mem_map.1 hm
    simp only [PEd.key, Deed.key, Prod.mk.injEq] at hk2
    exact ⟨_, hk2.2.2.symm⟩
  | false =>
    rw [relKind_house he, ← s.s7 h] at hm
    obtain ⟨e, _, hk2⟩ := List.mem_map.1 hm
    simp only [PEd.key, Deed.key, Prod.mk.injEq] at hk2
    exact ⟨_, hk2.2.2.symm⟩

end Go.Proofs.YtgcldedkempjhabGreatDoor
