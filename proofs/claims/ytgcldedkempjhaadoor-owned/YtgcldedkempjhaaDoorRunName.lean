/-
  A search that was offered all that a holder sees: what it tells, by the names.
-/
import Derived.Test.YtgcldedkempjhaaDoorSlvSort
import Derived.Test.YtgcldedkempjhaaDoorDepTold
namespace Go.Proofs.YtgcldedkempjhaaDoor
open Go.RowKit

/-- What may be chosen of a name: the wants of that version. -/
def candW (P : PDep) (house : ByteArray) (ask : List WantD) (nm : ByteArray) (v : Nat) : Option (List (Wt ByteArray)) := if 1 ≤ v ∧ v < 10 then (candD P house ask nm v).map (List.map WantD.wt) else none

/-- What goes together, the steps, the error. -/
def runW (cand : ByteArray → Nat → Option (List (Wt ByteArray))) (ask : List WantD) (budget : Nat) : List Pk × Nat × Int :=
  match solve cand 600 (ask.map WantD.wt) [] budget with
  | none => ([], budget, 10)
  | some (left, none) => ([], budget - left, 9)
  | some (left, some chl) => (sortPk (chPks chl), budget - left, 0)

theorem mem_entPks {es : List Ent} {x : Pk} : x ∈ entPks es ↔ ∃ e ∈ es, e.ch ≠ 0 ∧ x = ⟨e.name, e.ch⟩ := by
  unfold entPks
  rw [List.mem_map]
  constructor
  · rintro ⟨e, he, rfl⟩
    obtain ⟨h1, h2⟩ := List.mem_filter.1 he
    exact ⟨e, h1, by simpa using h2, rfl⟩
  · rintro ⟨e, he, h, rfl⟩
    exact ⟨e, List.mem_filter.2 ⟨he, by simpa using h⟩, rfl⟩

theorem ents_name (S : SD) {i : Nat} (hi : i < S.ents.length) : S.names[i]? = some S.ents[i].name := by
  unfold SD.names
  rw [List.getElem?_map, List.getElem?_eq_getElem hi]
  rfl

theorem keys_nodup {ns : List ByteArray} (h : (keysOf ns).Nodup) : ns.Nodup := by
  unfold keysOf at h
  exact List.Pairwise.of_map (fun n : ByteArray => n.toList) (fun a b hab e => hab (congrArg _ e)) h

theorem chEnts_names (E : List Ent) (chl : List (Nat × Nat)) : (chEnts E chl).map (fun e => e.name) = E.map (fun e => e.name) := by
  apply List.ext_getElem
  · simp [chEnts]
  · intro i h1 h2
    simp [chEnts]

theorem entPks_nodup {es : List Ent} (h : (es.map fun e => e.name).Nodup) : ((entPks es).map fun p => p.name).Nodup := by
  unfold entPks
  rw [List.map_map]
  exact List.Nodup.sublist (List.Sublist.map _ List.filter_sublist) h

/-- What the search tells is told by the names alone. -/
theorem run_is {P : PDep} {house : ByteArray} {ask : List WantD} {S : SD} {U : List ByteArray} (h : OffInv S U ask (cdT P house ask S.names S.ents.length)) (hU : U.length ≤ 600) (budget : Nat) : runP S.ents S.list budget = runW (candW P house ask) ask budget := by
  have hn := h.ns.le
  rw [S.names_len] at hn
  have hnl := S.names_len
  have hgl : GoodW (fun i => i ∈ List.range S.ents.length) S.list := fun x hx => List.mem_range.2 (h.lst x hx)
  have hgk : GoodK (fun i => i ∈ List.range S.ents.length) (candN S.ents) := by
    intro i hi v l hl x hx
    have hi' := List.mem_range.1 hi
    rw [candN_at S.ents hi'] at hl
    exact List.mem_range.2 ((h.ok i hi' v l hl).2 x hx)
  have hdep := solve_depth (List.range S.ents.length) (candN S.ents) hgk S.ents.length 600 S.list [] budget (by omega) (by
    unfold freeA
    refine Nat.le_trans List.countP_le_length ?_
    simp) hgl
  have hgl2 : GoodW (fun i => i < S.names.length) S.list := h.lnk.lt
  have hgk2 : GoodK (fun i => i < S.names.length) (candN S.ents) := fun i hi v l hl x hx => by
    have hi' : i < S.ents.length := by rw [← hnl]; exact hi
    have := List.mem_range.1 (hgk i (List.mem_range.2 hi') v l hl x hx)
    omega
  have hren := solve_ren (A := fun i => i < S.names.length) (g := ix S.names) (fun i j hi hj => ix_inj h.ns.nd hi hj) (candN S.ents) (candW P house ask) (by
    intro i hi v
    have hi' : i < S.ents.length := by rw [← hnl]; exact hi
    rw [candN_at S.ents hi']
    have h1 := h.off i hi' v
    have hix : ix S.names i = S.ents[i].name := ix_of (ents_name S hi')
    have h2 : cdT P house ask S.names S.ents.length i v = if 1 ≤ v ∧ v < 10 then candD P house ask (ix S.names i) v else none := by
      unfold cdT
      by_cases hv : 1 ≤ v ∧ v < 10
      · rw [if_pos hv, if_pos ⟨hi', hv⟩, ents_name S hi', hix]; rfl
      · rw [if_neg hv, if_neg (fun hc => hv hc.2)]
    have h3 : candW P house ask (ix S.names i) v = (cdT P house ask S.names S.ents.length i v).map (List.map WantD.wt) := by
      rw [h2]
      unfold candW
      split <;> rfl
    rw [h3]
    obtain ⟨q1, q2⟩ := h1
    cases ho : (S.ents[i].ofr v).ws with
    | none =>
      rw [ho] at q1
      cases hc : cdT P house ask S.names S.ents.length i v with
      | none => rfl
      | some ws => rw [hc] at q1; cases q1
    | some l =>
      rw [ho] at q1
      cases hc : cdT P house ask S.names S.ents.length i v with
      | none => rw [hc] at q1; cases q1
      | some ws => exact congrArg some (q2 l ws ho hc).eq.symm) hgk2 600 S.list [] budget hgl2 (fun p hp => by cases hp)
  rw [h.lnk.eq, List.map_nil] at hren
  unfold runP runW
  rw [hdep, hren]
  cases hs : solve (candN S.ents) 600 S.list [] budget with
  | none => rfl
  | some p =>
    obtain ⟨left, o⟩ := p
    cases o with
    | none => rfl
    | some chl =>
      have hch := solve_chOk hgk2 hgl2 hs
      have hnd := keys_nodup h.ns.nd
      have hsame : picksP (chEnts S.ents chl) = sortPk (chPks (chl.map (renP (ix S.names)))) := by
        rw [picksP_sort]
        have hnd1 : ((entPks (chEnts S.ents chl)).map fun p => p.name).Nodup := entPks_nodup (by rw [chEnts_names]; exact hnd)
        have hnd2 : ((chPks (chl.map (renP (ix S.names)))).map fun p => p.name).Nodup := by
          unfold chPks
          rw [List.map_map, List.map_map]
          have := hch.nd
          have ha := hch.a
          clear hs hdep hren hnd1 hch
          induction chl with
          | nil => simp
          | cons p t ih =>
            obtain ⟨n1, n2⟩ := List.nodup_cons.1 this
            rw [List.map_cons, List.nodup_cons]
            refine ⟨fun hm => ?_, ih n2 (fun q hq => ha q (by simp [hq]))⟩
            obtain ⟨q, hq, e⟩ := List.mem_map.1 hm
            have := ix_inj h.ns.nd (ha q (by simp [hq])) (ha p (by simp)) e
            exact n1 (by rw [← this]; exact List.mem_map_of_mem (f := Prod.fst) hq)
        obtain ⟨a1, a2⟩ := sortPk_is hnd1
        obtain ⟨b1, b2⟩ := sortPk_is hnd2
        refine sorted_eq _ _ a1 b1 (fun x => ?_)
        rw [a2, b2, mem_entPks]
        unfold chPks
        rw [List.map_map, List.mem_map]
        constructor
        · rintro ⟨e, he, hc, rfl⟩
          obtain ⟨i, hi, rfl⟩ := List.getElem_of_mem he
          rw [chEnts_length] at hi
          rw [chEnts_get S.ents chl i hi] at hc ⊢
          exact ⟨(i, picked chl i), mem_picked hc, by simp only [Function.comp, renP]; rw [ix_of (ents_name S hi)]⟩
        · rintro ⟨p, hp, rfl⟩
          have hi : p.1 < S.ents.length := by have := hch.a p hp; omega
          have hpk := picked_mem hch.nd (show (p.1, p.2) ∈ chl from hp)
          refine ⟨(chEnts S.ents chl)[p.1]'(by rw [chEnts_length]; exact hi), List.getElem_mem _, ?_, ?_⟩
          · rw [chEnts_get S.ents chl p.1 hi]
            have := (hch.v p hp).1
            simp only
            omega
          · rw [chEnts_get S.ents chl p.1 hi]
            simp only [Function.comp, renP]
            rw [hpk, ix_of (ents_name S hi)]
      show (picksP (chEnts S.ents chl), budget - left, 0) = (sortPk (chPks (chl.map (renP (ix S.names)))), budget - left, 0)
      rw [hsame]

end Go.Proofs.YtgcldedkempjhaaDoor
