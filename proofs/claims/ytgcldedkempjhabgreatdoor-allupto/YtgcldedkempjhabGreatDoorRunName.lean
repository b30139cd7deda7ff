/-
  A search that was offered all that a holder sees: what it tells, by the names.
-/
import Derived.Test.YtgcldedkempjhabGreatDoorDepTo
import Derived.Test.YtgcldedkempjhabGreatDoorSlvSort
namespace Go.Proofs.YtgcldedkempjhabGreatDoor
section
open Go.RowKit

/-- Whose the versions of a name are. -/
def whoseF (P : PDep) (nm : ByteArray) : ByteArray := match (placeF P nm).1 with
  | some h => h.name
  | none => pubWord

structure PlaceAs (db : Nat) (D : DepD) (nm : ByteArray) (oo : Option Addr) (sp : Addr) (l : ByteArray) : Prop where
  at_ : ∀ W, DepAt W db D → Calls Tryz.prog 96 #[.pointer (some ⟨db, 0, none⟩), .string nm] W fun e w' => e = .returned (.agg #[.pointer oo, .pointer (some sp), .string l]) ∧ Below W.heap.size W w'
  whose : ∀ W, DepAt W db D → Calls Tryz.prog 72 #[.agg #[.pointer oo, .pointer (some sp), .string l]] W fun e w' => e = .returned (.string (whoseF D.pure nm)) ∧ Below W.heap.size W w'

theorem place_all (db : Nat) (D : DepD) (nm : ByteArray) (w : World) (hr : DepAt w db D) (hs : nm.size ≤ 4611686018427387000) : ∃ oo sp l, PlaceAs db D nm oo sp l := by
  have houseCase : ∀ (a b : ByteArray) (i : Nat) (hi : i < D.hs.length), splitF nm = (a, b, true) → FirstH D.hs a i → hseF D.pure.hs a = some D.hs[i].pure → ∃ oo sp l, PlaceAs db D nm oo sp l := by
    intro a b i hi hsp hf h3
    obtain ⟨g, hg, _⟩ := hr.house i hi
    have hp : placeF D.pure nm = (some D.hs[i].pure, b) := by unfold placeF; rw [hsp]; simp only [if_true]; rw [h3]
    refine ⟨some ⟨g, i * 5, none⟩, ⟨g, i * 5 + 2, none⟩, b, fun W hW => placeOf_house db D nm a b W hW hs hsp i hi hf g hg, fun W hW => ?_⟩
    have e : whoseF D.pure nm = D.hs[i].name := by unfold whoseF; rw [hp]; rfl
    rw [e]
    exact whose_house db D i hi g hg _ b W hW
  have pubCase : placeF D.pure nm = (none, nm) → ((splitF nm).2.2 = false ∨ ∀ j, (hj : j < D.hs.length) → (D.hs[j].name.toList == (splitF nm).1.toList) = false) → ∃ oo sp l, PlaceAs db D nm oo sp l := by
    intro hp hno
    refine ⟨none, ⟨db, 3, none⟩, nm, fun W hW => placeOf_pub db D nm W hW hs hno, fun W hW => ?_⟩
    have e : whoseF D.pure nm = pubWord := by unfold whoseF; rw [hp]
    rw [e]
    exact whose_pub _ nm W
  cases hc : (splitF nm).2.2 with
  | false => exact pubCase (by unfold placeF; rw [hc]; rfl) (Or.inl hc)
  | true =>
    rcases hse_cases D (splitF nm).1 with ⟨i, hi, h1, h3⟩ | ⟨h1, h3⟩
    · exact houseCase (splitF nm).1 (splitF nm).2.1 i hi (by rw [← hc]) h1 h3
    · exact pubCase (by unfold placeF; rw [hc]; simp only [if_true]; rw [h3]) (Or.inr h1)

theorem whoseF_size {P : PDep} (h : Lens P) (nm : ByteArray) : (whoseF P nm).size ≤ 6 := by
  unfold whoseF
  split
  · rename_i x hx
    unfold placeF at hx
    split at hx
    · split at hx
      · rename_i y hy
        injection hx with hx
        subst hx
        have := say_len (h.w y (List.mem_of_find?_eq_some hy))
        omega
      · cases hx
    · cases hx
  · decide

def pieceP (P : PDep) (p : Pk) : ByteArray := p.name ++ ⟨#[64]⟩ ++ digitS p.ver ++ ⟨#[35]⟩ ++ whoseF P p.name ++ ⟨#[59]⟩

def writtenP (P : PDep) (l : List Pk) : ByteArray := l.foldl (fun t p => t ++ pieceP P p) ⟨#[]⟩

def PkOk (p : Pk) : Prop := p.name.size ≤ 9 ∧ p.ver ≤ 9

theorem writtenP_take (P : PDep) (l : List Pk) (k : Nat) (hk : k < l.length) : writtenP P (l.take (k + 1)) = writtenP P (l.take k) ++ pieceP P l[k] := by
  unfold writtenP
  rw [List.take_succ_eq_append_getElem hk, List.foldl_append]
  rfl

theorem pieceP_size {P : PDep} (h : Lens P) {p : Pk} (hp : PkOk p) : (pieceP P p).size ≤ 19 := by
  have h1 := whoseF_size h p.name
  have h2 := hp.1
  unfold pieceP
  simp only [ByteArray.size_append]
  have e1 : (⟨#[64]⟩ : ByteArray).size = 1 := rfl
  have e2 : (⟨#[35]⟩ : ByteArray).size = 1 := rfl
  have e3 : (⟨#[59]⟩ : ByteArray).size = 1 := rfl
  have e4 : (digitS p.ver).size = 1 := rfl
  omega

theorem writtenP_size {P : PDep} (h : Lens P) (l : List Pk) (hl : ∀ p ∈ l, PkOk p) (k : Nat) (hk : k ≤ l.length) : (writtenP P (l.take k)).size ≤ 19 * k := by
  induction k with
  | zero => exact Nat.le_refl _
  | succ k ih =>
    rw [writtenP_take P l k (by omega), ByteArray.size_append]
    have h1 := ih (by omega)
    have h2 := pieceP_size h (hl l[k] (List.getElem_mem _))
    omega

set_option maxHeartbeats 1600000 in
set_option maxRecDepth 100000 in
theorem written_any (db : Nat) (D : DepD) (ao : Option Addr) (cap base : Nat) (l : List Pk) (w : World) (hr : DepAt w db D) (hrow : w.ownsRow base 184 2 (.slice ao l.length cap) l.length (pksCells l)) (hl : ∀ p ∈ l, PkOk p) (hn : l.length ≤ 1000) :
    Calls Tryz.prog 103 #[.pointer (some ⟨db, 0, none⟩), .slice ao l.length cap] w fun e w' => e = .returned (.string (writtenP D.pure l)) ∧ Below w.heap.size w w' := by
  have HR := hide hr
  have HROW := hide hrow
  have HL := hide hl
  have HLen := hide hr.lens
  clear hr hrow hl
  go_enter Tryz.func103, Tryz.ntmps103
  go_wp2_with fail
  go_loopw [5, 6, 7, 8, 9] (fun t i _ _ _ wr => ∃ k : Nat, k ≤ l.length ∧ i = .int .i64 k ∧ t = .string (writtenP D.pure (l.take k)) ∧ Below w.heap.size w wr) (fun _ i _ _ _ _ => l.length - (intOf i).toNat)
  case atStart => exact ⟨0, Nat.zero_le _, rfl, rfl, Below.refl _ _⟩
  case round =>
    obtain ⟨k, hk, rfl, rfl, hb⟩ := hrel
    by_cases hlt : k < l.length
    · obtain ⟨g, hg, hglt, _, hc, _⟩ := row_cell Pk.cells_length (ownsRow_keep' HROW.out hb) k hlt
      subst hg
      have c0 : wr.cell? ⟨g, k * 2, none⟩ = some (.string l[k].name) := hc 0 _ rfl
      have c1 : wr.cell? ⟨g, k * 2 + 1, none⟩ = some (.int .i64 l[k].ver) := hc 1 _ rfl
      have hnx := writtenP_take D.pure l k hlt
      have hsz := writtenP_size HLen.out l HL.out k hk
      have hp := HL.out l[k] (List.getElem_mem hlt)
      have hws := whoseF_size HLen.out l[k].name
      obtain ⟨oo, sp, lb, hpl⟩ := place_all db D l[k].name wr (HR.out.below hb) (by have := hp.1; omega)
      have HP1 := hide hpl.at_
      have HP2 := hide hpl.whose
      have HNX := hide hnx
      unfold pieceP at HNX
      obtain ⟨hp1, hp2⟩ := hp
      have HIT := hide (fun V => itoa_one l[k].ver (by omega) V)
      have hds : (digitS l[k].ver).size = 1 := rfl
      generalize writtenP D.pure (l.take k) = T at *
      generalize whoseF D.pure l[k].name = W at *
      generalize digitS l[k].ver = dg at *
      generalize l[k].name = nm at *
      generalize l[k].ver = vr at *
      have HROW := hide trivial
      clear hnx hpl hc HL HLen
      rename_i hfr _
      clear hfr
      go_wp2_with fail
      refine (HP1.out wr (HR.out.below hb)).mono ?_
      rintro e w1 ⟨rfl, hb1⟩
      have hb2 : Below w.heap.size w (w1.alloc (.cells #[.pointer oo, .pointer (some sp), .string lb] 113)) := (below_call hb hb1).alloc (Nat.le_trans hb.size hb1.size) _
      have hb3 : Below wr.heap.size wr (w1.alloc (.cells #[.pointer oo, .pointer (some sp), .string lb] 113)) := hb1.alloc hb1.size _
      go_wp2_with fail
      refine (HP2.out _ (HR.out.below hb2)).mono ?_
      rintro e w2 ⟨rfl, hb4⟩
      have hb5 := below_call hb3 hb4
      have hb6 := below_call hb2 hb4
      have d0 := (hb5.cell (p := ⟨g, k * 2, none⟩) hglt).trans c0
      have d1 := (hb5.cell (p := ⟨g, k * 2 + 1, none⟩) hglt).trans c1
      have hglt2 : g < w2.heap.size := Nat.lt_of_lt_of_le hglt hb5.size
      clear c0 c1 hb1 hb2 hb3 hb4 hb5 HP1 HP2
      go_wp2_with fail
      refine (HIT.out w2).mono ?_
      rintro e w3 ⟨rfl, h⟩
      subst h
      clear HIT
      go_wp2_with fail
      go_roundw
      case rel => exact ⟨k + 1, hlt, by go_num, by rw [HNX.out], hb6⟩
      case measure => simp [intOf] <;> omega
    · obtain rfl : k = l.length := by omega
      rw [List.take_length]
      go_wp2_with fail
      go_ret
      exact ⟨rfl, hb⟩

end

section
open Go.RowKit

/-- What may be chosen of a name: the wants of that version. -/
def candW (P : PDep) (house : ByteArray) (ask : List WantD) (nm : ByteArray) (v : Nat) : Option (List (Wt ByteArray)) := if 1 ≤ v ∧ v < 10 then (candD P house ask nm v).map (List.map WantD.wt) else none

/-- What goes together, the steps, the error. -/
def runW (cand : ByteArray → Nat → Option (List (Wt ByteArray))) (ask : List WantD) (budget : Nat) : List Pk × Nat × Int :=
  match solve cand 600 (ask.map WantD.wt) [] budget with
  | none => ([], budget, 10)
  | some (left, none) => ([], budget - left, 9)
  | some (left, some chl) => (sortPk (chPks chl), budget - left, 0)

theorem mem_entPks {es : List Ent} {x : Pk} : x ∈ entPks es ↔ ∃ e ∈ es, e.ch ≠ 0 ∧ x = ⟨e.name, e.ch⟩ := by
  unfold entPks
  rw [List.mem_map]
  constructor
  · rintro ⟨e, he, rfl⟩
    obtain ⟨h1, h2⟩ := List.mem_filter.1 he
    exact ⟨e, h1, by simpa using h2, rfl⟩
  · rintro ⟨e, he, h, rfl⟩
    exact ⟨e, List.mem_filter.2 ⟨he, by simpa using h⟩, rfl⟩

theorem ents_name (S : SD) {i : Nat} (hi : i < S.ents.length) : S.names[i]? = some S.ents[i].name := by
  unfold SD.names
  rw [List.getElem?_map, List.getElem?_eq_getElem hi]
  rfl

theorem keys_nodup {ns : List ByteArray} (h : (keysOf ns).Nodup) : ns.Nodup := by
  unfold keysOf at h
  exact List.Pairwise.of_map (fun n : ByteArray => n.toList) (fun a b hab e => hab (congrArg _ e)) h

theorem chEnts_names (E : List Ent) (chl : List (Nat × Nat)) : (chEnts E chl).map (fun e => e.name) = E.map (fun e => e.name) := by
  apply List.ext_getElem
  · simp [chEnts]
  · intro i h1 h2
    simp [chEnts]

theorem entPks_nodup {es : List Ent} (h : (es.map fun e => e.name).Nodup) : ((entPks es).map fun p => p.name).Nodup := by
  unfold entPks
  rw [List.map_map]
  exact List.Nodup.sublist (List.Sublist.map _ List.filter_sublist) h

/-- What the search tells is told by the names alone. -/
theorem run_is {P : PDep} {house : ByteArray} {ask : List WantD} {S : SD} {U : List ByteArray} (h : OffInv S U ask (cdT P house ask S.names S.ents.length)) (hU : U.length ≤ 600) (budget : Nat) : runP S.ents S.list budget = runW (candW P house ask) ask budget := by
  have hn := h.ns.le
  rw [S.names_len] at hn
  have hnl := S.names_len
  have hgl : GoodW (fun i => i ∈ List.range S.ents.length) S.list := fun x hx => List.mem_range.2 (h.lst x hx)
  have hgk : GoodK (fun i => i ∈ List.range S.ents.length) (candN S.ents) := by
    intro i hi v l hl x hx
    have hi' := List.mem_range.1 hi
    rw [candN_at S.ents hi'] at hl
    exact List.mem_range.2 ((h.ok i hi' v l hl).2 x hx)
  have hdep := solve_depth (List.range S.ents.length) (candN S.ents) hgk S.ents.length 600 S.list [] budget (by omega) (by
    unfold freeA
    refine Nat.le_trans List.countP_le_length ?_
    simp) hgl
  have hgl2 : GoodW (fun i => i < S.names.length) S.list := h.lnk.lt
  have hgk2 : GoodK (fun i => i < S.names.length) (candN S.ents) := fun i hi v l hl x hx => by
    have hi' : i < S.ents.length := by rw [← hnl]; exact hi
    have := List.mem_range.1 (hgk i (List.mem_range.2 hi') v l hl x hx)
    omega
  have hren := solve_ren (A := fun i => i < S.names.length) (g := ix S.names) (fun i j hi hj => ix_inj h.ns.nd hi hj) (candN S.ents) (candW P house ask) (by
    intro i hi v
    have hi' : i < S.ents.length := by rw [← hnl]; exact hi
    rw [candN_at S.ents hi']
    have h1 := h.off i hi' v
    have hix : ix S.names i = S.ents[i].name := ix_of (ents_name S hi')
    have h2 : cdT P house ask S.names S.ents.length i v = if 1 ≤ v ∧ v < 10 then candD P house ask (ix S.names i) v else none := by
      unfold cdT
      by_cases hv : 1 ≤ v ∧ v < 10
      · rw [if_pos hv, if_pos ⟨hi', hv⟩, ents_name S hi', hix]; rfl
      · rw [if_neg hv, if_neg (fun hc => hv hc.2)]
    have h3 : candW P house ask (ix S.names i) v = (cdT P house ask S.names S.ents.length i v).map (List.map WantD.wt) := by
      rw [h2]
      unfold candW
      split <;> rfl
    rw [h3]
    obtain ⟨q1, q2⟩ := h1
    cases ho : (S.ents[i].ofr v).ws with
    | none =>
      rw [ho] at q1
      cases hc : cdT P house ask S.names S.ents.length i v with
      | none => rfl
      | some ws => rw [hc] at q1; cases q1
    | some l =>
      rw [ho] at q1
      cases hc : cdT P house ask S.names S.ents.length i v with
      | none => rw [hc] at q1; cases q1
      | some ws => exact congrArg some (q2 l ws ho hc).eq.symm) hgk2 600 S.list [] budget hgl2 (fun p hp => by cases hp)
  rw [h.lnk.eq, List.map_nil] at hren
  unfold runP runW
  rw [hdep, hren]
  cases hs : solve (candN S.ents) 600 S.list [] budget with
  | none => rfl
  | some p =>
    obtain ⟨left, o⟩ := p
    cases o with
    | none => rfl
    | some chl =>
      have hch := solve_chOk hgk2 hgl2 hs
      have hnd := keys_nodup h.ns.nd
      have hsame : picksP (chEnts S.ents chl) = sortPk (chPks (chl.map (renP (ix S.names)))) := by
        rw [picksP_sort]
        have hnd1 : ((entPks (chEnts S.ents chl)).map fun p => p.name).Nodup := entPks_nodup (by rw [chEnts_names]; exact hnd)
        have hnd2 : ((chPks (chl.map (renP (ix S.names)))).map fun p => p.name).Nodup := by
          unfold chPks
          rw [List.map_map, List.map_map]
          have := hch.nd
          have ha := hch.a
          clear hs hdep hren hnd1 hch
          induction chl with
          | nil => simp
          | cons p t ih =>
            obtain ⟨n1, n2⟩ := List.nodup_cons.1 this
            rw [List.map_cons, List.nodup_cons]
            refine ⟨fun hm => ?_, ih n2 (fun q hq => ha q (by simp [hq]))⟩
            obtain ⟨q, hq, e⟩ := List.mem_map.1 hm
            have := ix_inj h.ns.nd (ha q (by simp [hq])) (ha p (by simp)) e
            exact n1 (by rw [← this]; exact List.mem_map_of_mem (f := Prod.fst) hq)
        obtain ⟨a1, a2⟩ := sortPk_is hnd1
        obtain ⟨b1, b2⟩ := sortPk_is hnd2
        refine sorted_eq _ _ a1 b1 (fun x => ?_)
        rw [a2, b2, mem_entPks]
        unfold chPks
        rw [List.map_map, List.mem_map]
        constructor
        · rintro ⟨e, he, hc, rfl⟩
          obtain ⟨i, hi, rfl⟩ := List.getElem_of_mem he
          rw [chEnts_length] at hi
          rw [chEnts_get S.ents chl i hi] at hc ⊢
          exact ⟨(i, picked chl i), mem_picked hc, by simp only [Function.comp, renP]; rw [ix_of (ents_name S hi)]⟩
        · rintro ⟨p, hp, rfl⟩
          have hi : p.1 < S.ents.length := by have := hch.a p hp; omega
          have hpk := picked_mem hch.nd (show (p.1, p.2) ∈ chl from hp)
          refine ⟨(chEnts S.ents chl)[p.1]'(by rw [chEnts_length]; exact hi), List.getElem_mem _, ?_, ?_⟩
          · rw [chEnts_get S.ents chl p.1 hi]
            have := (hch.v p hp).1
            simp only
            omega
          · rw [chEnts_get S.ents chl p.1 hi]
            simp only [Function.comp, renP]
            rw [hpk, ix_of (ents_name S hi)]
      show (picksP (chEnts S.ents chl), budget - left, 0) = (sortPk (chPks (chl.map (renP (ix S.names)))), budget - left, 0)
      rw [hsame]

end

end Go.Proofs.YtgcldedkempjhabGreatDoor
