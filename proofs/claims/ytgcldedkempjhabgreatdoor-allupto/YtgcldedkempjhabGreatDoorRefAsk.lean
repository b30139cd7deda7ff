/-
  What the program's depot tells of Log, Head and Resolve is what the document's deeds tell.
-/
import Derived.Test.YtgcldedkempjhabGreatDoorRefSlv
import Derived.Test.YtgcldedkempjhabGreatDoorDepRes
import Derived.Test.YtgcldedkempjhabGreatDoorRefLog
namespace Go.Proofs.YtgcldedkempjhabGreatDoor
open Go.RowKit

theorem work3 {r : Int} (h : 0 ≤ r ∧ r ≤ 4) : workF r 3 = if r = 0 then 3 else if r = 3 then 0 else 4 := by
  unfold workF
  by_cases h0 : r = 0
  · subst h0; rfl
  · have : (r == 0) = false := beq_eq_false_iff_ne.2 h0
    rw [this]
    simp only [Bool.false_eq_true, if_false, if_neg h0]
    by_cases h3 : r = 3
    · subst h3; rfl
    · rw [if_neg h3, if_pos (by omega)]

theorem log_of {P : PDep} {ds : List Deed} (s : Sim P ds) (house : ByteArray) : ((hseF P.hs house).map PHse.log).getD [] = logD ds house := by
  rw [← s.s15 house]
  unfold logOf
  cases hseF P.hs house <;> rfl

theorem log_agree {P : PDep} {ds : List Deed} (s : Sim P ds) (house : ByteArray) (id : Int) : dlogP P house id = logE (roleF P.root P.clock ds house id) ds house := by
  have hr := role_range s house id
  unfold dlogP logE
  rw [log_of s house, ← role_agree s house id, work3 hr]
  generalize heldF P house id = r
  by_cases h0 : r = 0
  · subst h0; rfl
  · by_cases h3 : r = 3
    · subst h3; rfl
    · simp [h0, h3]

theorem head_agree {P : PDep} {ds : List Deed} (s : Sim P ds) (house : ByteArray) (id : Int) : dheadP P house id = headE (roleF P.root P.clock ds house id) ds house := by
  have hr := role_range s house id
  unfold dheadP headE
  rw [log_of s house, ← role_agree s house id, work3 hr]
  generalize heldF P house id = r
  by_cases h0 : r = 0
  · subst h0; rfl
  · by_cases h3 : r = 3
    · subst h3; rfl
    · simp [h0, h3]

def pieceR (ds : List Deed) (p : Pk) : ByteArray := p.name ++ ⟨#[64]⟩ ++ digitS p.ver ++ ⟨#[35]⟩ ++ whoR ds p.name ++ ⟨#[59]⟩

/-- What is told of how a search ended. -/
def endE (ds : List Deed) (budget : Nat) (r : Res ByteArray) : ByteArray × Int × Int :=
  match r with
  | none => (⟨#[]⟩, (budget : Int), 10)
  | some (left, none) => (⟨#[]⟩, ((budget - left : Nat) : Int), 9)
  | some (left, some c) => (joinT ((sortPk (chPks c)).map (pieceR ds)), ((budget - left : Nat) : Int), 0)

def resolveE (r : Int) (ds : List Deed) (house text : ByteArray) (budget : Int) : ByteArray × Int × Int :=
  if (r == 0) = true then (⟨#[]⟩, 0, 3) else
  match wantsF text with
  | none => (⟨#[]⟩, 0, 8)
  | some ask => if budget < 0 ∨ 1000000 < budget then (⟨#[]⟩, 0, 1) else endE ds budget.toNat (solve (candRW ds house ask) 1000001 (ask.map WantD.wt) [] budget.toNat)

theorem candD_names {P : PDep} {house : ByteArray} {ask : List WantD} {nm : ByteArray} {v : Int} {ws : List WantD} (h : candD P house ask nm v = some ws) : ∀ x ∈ ws, x.name ∈ namesU P ask := by
  have key : ∀ {es : List PEd} {l : ByteArray}, candP ask nm v (pedF es l v) = some ws → ∃ e ∈ es, ws = e.wants := by
    intro es l hc
    unfold candP at hc
    cases hp : pedF es l v with
    | none => rw [hp] at hc; cases hc
    | some e =>
      rw [hp] at hc
      simp only [Option.bind_some] at hc
      split at hc
      · cases hc
      · injection hc with hc
        exact ⟨e, List.mem_of_find?_eq_some hp, hc.symm⟩
  intro x hx
  unfold candD at h
  unfold namesU
  refine List.mem_append_right _ ?_
  split at h
  · rename_i y l hpl
    split at h
    · obtain ⟨e, he, rfl⟩ := key h
      refine List.mem_append_left _ (List.mem_flatMap.2 ⟨y, ?_, List.mem_flatMap.2 ⟨e, he, List.mem_map_of_mem (f := fun x : WantD => x.name) hx⟩⟩)
      unfold placeF at hpl
      split at hpl
      · split at hpl
        · rename_i z hz
          simp only [Prod.mk.injEq, Option.some.injEq] at hpl
          rw [← hpl.1]
          exact List.mem_of_find?_eq_some hz
        · simp at hpl
      · simp at hpl
    · cases h
  · split at h
    · obtain ⟨e, he, rfl⟩ := key h
      exact List.mem_append_right _ (List.mem_flatMap.2 ⟨e, he, List.mem_map_of_mem (f := fun x : WantD => x.name) hx⟩)
    · cases h

theorem candW_names (P : PDep) (house : ByteArray) (ask : List WantD) : GoodK (fun i => i ∈ namesU P ask) (candW P house ask) := by
  intro nm _ v l hl x hx
  unfold candW at hl
  split at hl
  · cases hc : candD P house ask nm v with
    | none => rw [hc] at hl; cases hl
    | some ws =>
      rw [hc] at hl
      injection hl with hl
      subst hl
      obtain ⟨y, hy, rfl⟩ := List.mem_map.1 hx
      exact candD_names hc y hy
  · cases hl

theorem solve_agree {P : PDep} {ds : List Deed} (s : Sim P ds) (hl : Lens P) (house : ByteArray) {text : ByteArray} {ask : List WantD} (hw : wantsF text = some ask) (b : Nat) :
    solve (candW P house ask) 600 (ask.map WantD.wt) [] b = solve (candRW ds house ask) 1000001 (ask.map WantD.wt) [] b := by
  have hg := wantsF_wg hw
  rw [solve_depth (namesU P ask) (candW P house ask) (candW_names P house ask) 600 1000001 (ask.map WantD.wt) [] b (by decide)
    (Nat.le_trans List.countP_le_length (namesU_len hl (wantsF_ok hw)))
    (fun x hx => by
      obtain ⟨y, hy, rfl⟩ := List.mem_map.1 hx
      exact List.mem_append_left _ (List.mem_map_of_mem (f := fun x : WantD => x.name) hy))]
  refine solve_same (A := nameA) ?_ (candRW_good ds house ask) 1000001 _ [] b (good_wt hg) (fun p hp => by cases hp)
  intro nm hn v
  unfold candW candRW
  rw [(cand_agree s hl house ask hn (v : Int)).1]

theorem resolve_agree {P : PDep} {ds : List Deed} (s : Sim P ds) (hl : Lens P) (house : ByteArray) (id : Int) (text : ByteArray) (budget : Int) :
    dresolveP P house id text budget = resolveE (roleF P.root P.clock ds house id) ds house text budget := by
  unfold dresolveP resolveE resolveP
  rw [← role_agree s house id]
  cases (heldF P house id == 0) with
  | true => rfl
  | false =>
    simp only [Bool.false_eq_true, if_false]
    cases hw : wantsF text with
    | none => rfl
    | some ask =>
      simp only
      split
      · rfl
      · unfold runW
        rw [solve_agree s hl house hw]
        cases hr : solve (candRW ds house ask) 1000001 (ask.map WantD.wt) [] budget.toNat with
        | none => rfl
        | some p =>
          obtain ⟨left, o⟩ := p
          cases o with
          | none => rfl
          | some c =>
            have hch := solve_chOk (candRW_good ds house ask) (good_wt (wantsF_wg hw)) hr
            have hnd : ((chPks c).map fun p => p.name).Nodup := by
              unfold chPks
              rw [List.map_map]
              exact hch.nd
            simp only [endE, if_true]
            rw [written_join]
            congr 2
            apply List.map_congr_left
            intro p hp
            have hp' := ((sortPk_is hnd).2 p).1 hp
            unfold chPks at hp'
            obtain ⟨q, hq, rfl⟩ := List.mem_map.1 hp'
            unfold pieceP pieceR
            simp only
            rw [(cand_agree s hl house ask (hch.a q hq) 1).2]

end Go.Proofs.YtgcldedkempjhabGreatDoor
