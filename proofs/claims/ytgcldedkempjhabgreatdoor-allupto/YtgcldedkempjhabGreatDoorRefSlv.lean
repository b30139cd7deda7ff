/-
  depotref: what may be chosen, told of the deeds, is what the program's depot offers; the order of what is told.
-/
import Derived.Test.YtgcldedkempjhabGreatDoorAgreeShow
import Derived.Test.YtgcldedkempjhabGreatDoorRunName
namespace Go.Proofs.YtgcldedkempjhabGreatDoor
open Go.RowKit

/-- A want as a text can say it. -/
def WGood (x : WantD) : Prop := nameF x.name = true ∧ 1 ≤ x.lo ∧ x.lo ≤ x.hi ∧ x.hi ≤ 9

theorem wantsF_wg {s : ByteArray} {ws : List WantD} (h : wantsF s = some ws) : ∀ x ∈ ws, WGood x := by
  unfold wantsF piecesF at h
  split at h
  · injection h with h; subst h; exact fun x hx => by cases hx
  · split at h
    · intro x hx
      obtain ⟨p, hp⟩ := mem_mapM _ _ _ h x hx
      obtain ⟨a, d1, d2, ⟨_, h1, h2, h3, h4⟩, rfl⟩ := wantF_is hp
      exact ⟨h1, by show 1 ≤ (d1.toNat : Int) - 48; omega, by show (d1.toNat : Int) - 48 ≤ (d2.toNat : Int) - 48; omega, by show (d2.toNat : Int) - 48 ≤ 9; omega⟩
    · cases h

theorem ped_find (es : List PEd) (pack : ByteArray) (v : Int) : (pedF es pack v).map PEd.key = (es.map PEd.key).find? (keyP pack v) := by
  unfold pedF
  rw [List.find?_map]
  rfl

theorem rel_find (ds : List Deed) (house pack : ByteArray) (v : Int) : (relF ds house pack v).map Deed.key = ((ds.filter (isD (relKind house) house)).map Deed.key).find? (keyP pack v) := by
  unfold relF
  rw [List.find?_map, List.find?_filter]
  congr 2
  funext x
  unfold relP isD
  simp only [Function.comp, keyP, Deed.key]
  have key : ∀ a b c d : Bool, (a && b && c && d) = decide ((a && b) = true ∧ (d && c) = true) := by decide
  exact key _ _ _ _

section
variable {P : PDep} {ds : List Deed}

theorem relk_pub (s : Sim P ds) (pack : ByteArray) (v : Int) : (relF ds noB pack v).map Deed.key = (pedF P.pub pack v).map PEd.key := by
  rw [rel_find, ped_find, s.s10, relKind_no]

theorem relk_house (s : Sim P ds) {house : ByteArray} (hne : house.toList.isEmpty = false) {h : PHse} (hh : hseF P.hs house = some h) (pack : ByteArray) (v : Int) : (relF ds house pack v).map Deed.key = (pedF h.eds pack v).map PEd.key := by
  rw [rel_find, ped_find, relKind_house hne, ← s.s7 house, stock_of hh]

end

/-- What may be chosen of a name, told of the deeds. -/
def candOkR (ds : List Deed) (house : ByteArray) (ask : List WantD) (nm : ByteArray) (v : Int) : Bool :=
  seenE ds house nm && ((relF ds (ownerF ds nm).1 (ownerF ds nm).2 v).isSome && !(yankF ds (ownerF ds nm).1 (ownerF ds nm).2 v && !aloneW ask nm v))

/-- The wants of a version of a name, told of the deeds. -/
def wantsR (ds : List Deed) (nm : ByteArray) (v : Int) : List WantD := (wantsF ((relF ds (ownerF ds nm).1 (ownerF ds nm).2 v).getD noDeed).wants).getD []

def candR (ds : List Deed) (house : ByteArray) (ask : List WantD) (nm : ByteArray) (v : Int) : Option (List WantD) := if candOkR ds house ask nm v then some (wantsR ds nm v) else none

def candRW (ds : List Deed) (house : ByteArray) (ask : List WantD) (nm : ByteArray) (v : Nat) : Option (List (Wt ByteArray)) := if 1 ≤ v ∧ v < 10 then (candR ds house ask nm v).map (List.map WantD.wt) else none

/-- Whose a name is, as it is told. -/
def whoR (ds : List Deed) (nm : ByteArray) : ByteArray := whoseE (ownerF ds nm).1

theorem cand_key {o : Option Deed} {q : Option PEd} (h : o.map Deed.key = q.map PEd.key) (y alone : Bool) (hy : y = offOf q) (ask : List WantD) (nm : ByteArray) (v : Int) (ha : alone = aloneW ask nm v) :
    (if (o.isSome && !(y && !alone)) then some ((wantsF (o.getD noDeed).wants).getD []) else none) = candP ask nm v q := by
  subst hy ha
  cases q with
  | none =>
    cases o with
    | none => rfl
    | some x => cases h
  | some e =>
    cases o with
    | none => cases h
    | some x =>
      simp only [Option.map_some, Option.some.injEq, Deed.key, PEd.key, Prod.mk.injEq] at h
      unfold candP
      simp only [Option.isSome_some, Bool.true_and, Option.getD_some, h.2.2, Option.bind_some, offOf]
      cases (e.off && !aloneW ask nm v) <;> rfl

theorem cand_agree {P : PDep} {ds : List Deed} (s : Sim P ds) (hl : Lens P) (house : ByteArray) (ask : List WantD) {nm : ByteArray} (hn : nameF nm = true) (v : Int) :
    candR ds house ask nm v = candD P house ask nm v ∧ whoR ds nm = whoseF P nm := by
  have hnone : hseF P.hs noB = none := by
    cases hq : hseF P.hs noB with
    | none => rfl
    | some y =>
      have := word_ne (lens_of hl hq).2.2.2.1
      rw [hse_name hq, noB_empty] at this
      cases this
  have pub : placeF P nm = (none, nm) → ownerF ds nm = (noB, nm) → candR ds house ask nm v = candD P house ask nm v ∧ whoR ds nm = whoseF P nm := by
    intro h1 h2
    have hseen : seenE ds house nm = phas P.pub nm := by
      unfold seenE
      rw [h2]
      simp only
      rw [noB_empty, has_pub s]
      simp
    have hy : yankF ds noB nm v = offOf (pedF P.pub nm v) := by
      rw [s.s8 noB nm v]
      have e : stock P.hs noB = [] := by unfold stock; rw [hnone]
      rw [e]
      show false = _
      cases hq : pedF P.pub nm v with
      | none => rfl
      | some y => exact (s.s11 y (List.mem_of_find?_eq_some hq)).symm
    refine ⟨?_, ?_⟩
    · have key := cand_key (relk_pub s nm v) _ _ hy ask nm v rfl
      unfold candR candOkR wantsR candD
      rw [h1, hseen, h2]
      simp only
      rw [← key]
      cases phas P.pub nm <;> simp
    · unfold whoR whoseF
      rw [h1, h2]
      unfold whoseE
      rw [noB_empty]
      rfl
  rcases cut_name hn with ⟨a, b, hsp, hcut, ha, hb, _⟩ | ⟨hsp, hcut, _⟩
  · cases hh : hseF P.hs a with
    | none =>
      have h2 := s.s2 a
      rw [hh] at h2
      have h0 : ¬ 0 < didF ds kFound a := of_decide_eq_false h2
      exact pub (by unfold placeF; rw [hsp]; simp only [if_true]; rw [hh]) (by unfold ownerF; rw [hcut]; simp only; rw [if_neg h0])
    | some h =>
      have h2 := s.s2 a
      rw [hh] at h2
      have h0 : 0 < didF ds kFound a := of_decide_eq_true h2
      have hp : placeF P nm = (some h, b) := by unfold placeF; rw [hsp]; simp only [if_true]; rw [hh]
      have ho : ownerF ds nm = (a, b) := by unfold ownerF; rw [hcut]; simp only; rw [if_pos h0]
      have hane := word_ne ha
      have hname := hse_name hh
      have hseen : seenE ds house nm = (((h.name.toList == house.toList) || grtF h.grs b house) && phas h.eds b) := by
        unfold seenE
        rw [ho]
        simp only
        rw [hane, has_house s hane hh, granted_house s hh, hname, Bool.false_or, Bool.and_comm]
      have hy : yankF ds a b v = offOf (pedF h.eds b v) := by rw [s.s8 a b v, stock_of hh]
      refine ⟨?_, ?_⟩
      · have key := cand_key (relk_house s hane hh b v) _ _ hy ask nm v rfl
        unfold candR candOkR wantsR candD
        rw [hp, hseen, ho]
        simp only
        rw [← key]
        cases (((h.name.toList == house.toList) || grtF h.grs b house) && phas h.eds b) <;> simp
      · unfold whoR whoseF
        rw [hp, ho]
        unfold whoseE
        rw [hane]
        exact hname.symm
  · exact pub (by unfold placeF; rw [hsp]; rfl) (by unfold ownerF; rw [hcut])

theorem candR_good {ds : List Deed} {house : ByteArray} {ask : List WantD} {nm : ByteArray} {v : Int} {l : List WantD} (h : candR ds house ask nm v = some l) : (∀ x ∈ l, WGood x) ∧ l.length ≤ 6 ∧ l = wantsR ds nm v := by
  unfold candR at h
  split at h
  · injection h with h
    subst h
    unfold wantsR
    cases hw : wantsF ((relF ds (ownerF ds nm).1 (ownerF ds nm).2 v).getD noDeed).wants with
    | none => exact ⟨fun x hx => absurd hx List.not_mem_nil, Nat.zero_le _, rfl⟩
    | some ws => exact ⟨wantsF_wg hw, wantsF_len hw, rfl⟩
  · cases h

def nameA (nm : ByteArray) : Prop := nameF nm = true

theorem good_wt {l : List WantD} (h : ∀ x ∈ l, WGood x) : GoodW nameA (l.map WantD.wt) := by
  intro x hx
  obtain ⟨y, hy, rfl⟩ := List.mem_map.1 hx
  exact (h y hy).1

theorem candRW_good (ds : List Deed) (house : ByteArray) (ask : List WantD) : GoodK nameA (candRW ds house ask) := by
  intro nm _ v l hl
  unfold candRW at hl
  split at hl
  · cases hc : candR ds house ask nm v with
    | none => rw [hc] at hl; cases hl
    | some ws =>
      rw [hc] at hl
      injection hl with hl
      subst hl
      exact good_wt (candR_good hc).1
  · cases hl

section
variable {α : Type} [DecidableEq α]

theorem solve_same {A : α → Prop} {cand cand' : α → Nat → Option (List (Wt α))} (h : ∀ i, A i → ∀ v, cand' i v = cand i v) (hgood : GoodK A cand) (k : Nat) (todo : List (Wt α)) (ch : List (α × Nat)) (left : Nat) (ht : GoodW A todo) (hc : GoodC A ch) : solve cand' k todo ch left = solve cand k todo ch left := by
  have e1 : (Wt.ren id : Wt α → Wt α) = id := funext fun _ => rfl
  have e2 : (renP id : α × Nat → α × Nat) = id := funext fun _ => rfl
  have := solve_ren (A := A) (g := id) (fun i j _ _ h => h) cand cand' (fun i hi v => by rw [e1, List.map_id_fun, Option.map_id_fun]; exact h i hi v) hgood k todo ch left ht hc
  rw [e1, e2, List.map_id, List.map_id] at this
  rw [this]
  unfold resRen
  rw [e2, List.map_id_fun]
  simp

theorem solve_skip {cand : α → Nat → Option (List (Wt α))} {todo todo' : List (Wt α)} {ch : List (α × Nat)} (h : skip ch todo = skip ch todo') (k left : Nat) : solve cand k todo ch left = solve cand k todo' ch left := by
  cases k <;> simp [solve, h]

theorem picked_rev {ch : List (α × Nat)} (h : (ch.map Prod.fst).Nodup) (n : α) : picked ch.reverse n = picked ch n := by
  have hr : (ch.reverse.map Prod.fst).Nodup := by rw [List.map_reverse]; exact List.pairwise_reverse.2 (h.imp fun hab => hab.symm)
  by_cases h0 : picked ch n = 0
  · by_cases h1 : picked ch.reverse n = 0
    · rw [h0, h1]
    · have := mem_picked h1
      rw [List.mem_reverse] at this
      exact absurd (picked_mem h this) (fun e => h1 (e ▸ h0))
  · exact picked_mem hr (List.mem_reverse.2 (mem_picked h0))

end

section
variable {α : Type}

theorem tries_above {f : List (Wt α) → List (α × Nat) → Nat → Res α} {cand : Nat → Option (List (Wt α))} {rest : List (Wt α)} {ch : List (α × Nat)} {w : Wt α} {left : Nat} (u : Nat) (h : w.hi ≤ u) : ∀ n, tries f cand rest ch w (u + n) left = tries f cand rest ch w u left := by
  intro n
  induction n with
  | zero => rfl
  | succ n ih =>
    rw [← Nat.add_assoc, tries_skip, ih]
    have : w.has (((u + n + 1 : Nat)) : Int) = false := by
      unfold Wt.has
      rw [Bool.and_eq_false_iff]
      exact Or.inr (decide_eq_false (by omega))
    rw [this]; rfl

theorem tries_under {f : List (Wt α) → List (α × Nat) → Nat → Res α} {cand : Nat → Option (List (Wt α))} {rest : List (Wt α)} {ch : List (α × Nat)} {w : Wt α} {left : Nat} : ∀ u : Nat, (u : Int) < w.lo → tries f cand rest ch w u left = some (left, none) := by
  intro u
  induction u with
  | zero => intro _; rfl
  | succ u ih =>
    intro h
    rw [tries_skip, ih (by omega)]
    have : w.has (((u + 1 : Nat)) : Int) = false := by
      unfold Wt.has
      rw [Bool.and_eq_false_iff]
      exact Or.inl (decide_eq_false (by omega))
    rw [this]; rfl

end

/-- How many names of a list are less than a name. -/
def lessN (l : List Pk) (p : Pk) : Nat := l.countP fun q => pkLess q p

theorem sorted_idx : ∀ (l : List Pk), SortedP l → ∀ k (hk : k < l.length), l.countP (fun q => pkLess q l[k]) = k := by
  intro l
  induction l with
  | nil => intro _ k hk; simp at hk
  | cons a t ih =>
    intro h k hk
    obtain ⟨h1, h2⟩ := List.pairwise_cons.1 h
    cases k with
    | zero =>
      rw [List.getElem_cons_zero, List.countP_cons, pkLess_irrefl]
      have : t.countP (fun q => pkLess q a) = 0 := by
        rw [List.countP_eq_zero]
        intro q hq hc
        have := pkLess_trans (h1 q hq) hc
        rw [pkLess_irrefl] at this
        cases this
      rw [this]; rfl
    | succ k =>
      have hk' : k < t.length := by simpa using hk
      rw [List.getElem_cons_succ, List.countP_cons, ih h2 k hk', h1 _ (List.getElem_mem hk')]
      rfl

theorem nodup_names {l : List Pk} (h : (l.map fun p => p.name).Nodup) : l.Nodup := List.Pairwise.of_map (fun p : Pk => p.name) (fun _ _ hab e => hab (congrArg _ e)) h

theorem sorted_nodup {l : List Pk} (h : SortedP l) : l.Nodup := h.imp fun {_ _} hab e => by
  rw [e, pkLess_irrefl] at hab
  cases hab

instance : DecidableEq Pk := fun a b => by
  cases a with | mk n v => cases b with | mk m u =>
  exact if h : n = m ∧ v = u then isTrue (by rw [h.1, h.2]) else isFalse (fun e => by injection e with e1 e2; exact h ⟨e1, e2⟩)

theorem sortPk_perm {l : List Pk} (h : (l.map fun p => p.name).Nodup) : (sortPk l).Perm l := by
  obtain ⟨h1, h2⟩ := sortPk_is h
  rw [List.perm_ext_iff_of_nodup (sorted_nodup h1) (nodup_names h)]
  exact h2

theorem less_idx {l : List Pk} (h : (l.map fun p => p.name).Nodup) (k : Nat) (hk : k < (sortPk l).length) : lessN l (sortPk l)[k] = k := by
  unfold lessN
  rw [← (sortPk_perm h).countP_eq]
  exact sorted_idx _ (sortPk_is h).1 k hk

/-- The texts of the first picks, each at its place. -/
def laidT (pc : Pk → ByteArray) (l : List Pk) : Nat → List ByteArray
  | 0 => List.replicate l.length ⟨#[]⟩
  | k + 1 => (laidT pc l k).set (lessN l (l[k]?.getD ⟨⟨#[]⟩, 0⟩)) (pc (l[k]?.getD ⟨⟨#[]⟩, 0⟩))

theorem laidT_length (pc : Pk → ByteArray) (l : List Pk) (k : Nat) : (laidT pc l k).length = l.length := by
  induction k with
  | zero => simp [laidT]
  | succ k ih => simp [laidT, ih]

theorem less_lt {l : List Pk} (h : (l.map fun p => p.name).Nodup) {p : Pk} (hp : p ∈ l) : lessN l p < l.length := by
  have hm := (sortPk_perm h).mem_iff.2 hp
  obtain ⟨i, hi, rfl⟩ := List.getElem_of_mem hm
  rw [less_idx h i hi]
  rw [← (sortPk_perm h).length_eq]
  exact hi

theorem less_inj {l : List Pk} (h : (l.map fun p => p.name).Nodup) {p q : Pk} (hp : p ∈ l) (hq : q ∈ l) (he : lessN l p = lessN l q) : p = q := by
  obtain ⟨i, hi, rfl⟩ := List.getElem_of_mem ((sortPk_perm h).mem_iff.2 hp)
  obtain ⟨j, hj, rfl⟩ := List.getElem_of_mem ((sortPk_perm h).mem_iff.2 hq)
  rw [less_idx h i hi, less_idx h j hj] at he
  subst he
  rfl

theorem laidT_at (pc : Pk → ByteArray) {l : List Pk} (h : (l.map fun p => p.name).Nodup) : ∀ k, k ≤ l.length → ∀ j (_ : j < k) (hl : j < l.length), (laidT pc l k)[lessN l l[j]]? = some (pc l[j]) := by
  intro k
  induction k with
  | zero => intro _ j hj; omega
  | succ k ih =>
    intro hk j hj hl
    have hkl : k < l.length := by omega
    unfold laidT
    rw [List.getElem?_eq_getElem hkl, Option.getD_some, List.getElem?_set]
    by_cases he : j = k
    · subst he
      rw [if_pos rfl, if_pos (by rw [laidT_length]; exact less_lt h (List.getElem_mem hl))]
    · rw [if_neg (fun e => he ?_)]
      · exact ih (by omega) j (by omega) hl
      · have := less_inj h (List.getElem_mem hkl) (List.getElem_mem hl) e
        have hnd := nodup_names h
        exact ((List.getElem_inj hnd).1 this).symm

theorem laidT_all (pc : Pk → ByteArray) {l : List Pk} (h : (l.map fun p => p.name).Nodup) : laidT pc l l.length = (sortPk l).map pc := by
  have hp := sortPk_perm h
  apply List.ext_getElem?
  intro i
  by_cases hi : i < l.length
  · have his : i < (sortPk l).length := by rw [hp.length_eq]; exact hi
    obtain ⟨j, hj, he⟩ := List.getElem_of_mem (hp.mem_iff.1 (List.getElem_mem his))
    have := laidT_at pc h l.length (Nat.le_refl _) j hj hj
    rw [he, less_idx h i his] at this
    rw [this, List.getElem?_map, List.getElem?_eq_getElem his]
    rfl
  · rw [List.getElem?_eq_none (by rw [laidT_length]; omega), List.getElem?_eq_none (by rw [List.length_map, hp.length_eq]; omega)]

/-- Texts, one behind the other. -/
def joinT (l : List ByteArray) : ByteArray := l.foldl (fun t p => t ++ p) ⟨#[]⟩

theorem joinT_take (l : List ByteArray) (k : Nat) (hk : k < l.length) : joinT (l.take (k + 1)) = joinT (l.take k) ++ l[k] := by
  unfold joinT
  rw [List.take_succ_eq_append_getElem hk, List.foldl_append]
  rfl

theorem written_join (P : PDep) (l : List Pk) : writtenP P l = joinT (l.map (pieceP P)) := by
  unfold writtenP joinT
  rw [List.foldl_map]

end Go.Proofs.YtgcldedkempjhabGreatDoor
