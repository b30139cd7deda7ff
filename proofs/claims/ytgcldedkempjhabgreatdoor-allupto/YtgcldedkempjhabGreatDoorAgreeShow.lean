/-
  What Show tells: the program's text is the document's.
-/
import Derived.Test.YtgcldedkempjhabGreatDoorSim
namespace Go.Proofs.YtgcldedkempjhabGreatDoor
section
open Go.RowKit

theorem role_agree {P : PDep} {ds : List Deed} (s : Sim P ds) (house : ByteArray) (id : Int) : heldF P house id = roleF P.root P.clock ds house id := by
  unfold heldF roleF
  cases house.toList.isEmpty with
  | true => rfl
  | false =>
    have h3 := s.s3 house id
    have h4 := s.s4 house id
    unfold tk at h3 h4
    simp only [Bool.false_eq_true, if_false]
    cases hh : hseF P.hs house with
    | none =>
      rw [hh] at h3
      cases hd : deedF ds kMint house id with
      | none => rfl
      | some x => rw [hd] at h3; simp at h3
    | some h =>
      rw [hh] at h3 h4
      simp only at h3 h4 ⊢
      unfold roleT
      cases ht : tokF h.toks id with
      | none =>
        rw [ht] at h3
        cases hd : deedF ds kMint house id with
        | none => rfl
        | some x => rw [hd] at h3; simp at h3
      | some t =>
        rw [ht] at h3 h4
        cases hd : deedF ds kMint house id with
        | none => rw [hd] at h3; simp at h3
        | some x =>
          rw [hd] at h3
          simp at h3
          rw [h4]
          simp only [goneOf, h3.1, h3.2]

/-- A role is one of the five. -/
theorem role_range {P : PDep} {ds : List Deed} (s : Sim P ds) (house : ByteArray) (id : Int) : 0 ≤ heldF P house id ∧ heldF P house id ≤ 4 := by
  unfold heldF
  split
  · split <;> omega
  · split
    · omega
    · rename_i h hh
      unfold roleT
      split
      · omega
      · rename_i t ht
        have := s.role_of hh id t ht
        split <;> omega

theorem found_agree {P : PDep} {ds : List Deed} (s : Sim P ds) (hl : Lens P) (r : Int) (b1 : Bool) (name : ByteArray) :
    foundP r b1 (hseF P.hs name).isSome P.hs.length = foundE r b1 (decide (0 < didF ds kFound name)) (nFound ds) := by
  rw [s.s2, s.s1]
  have := hl.h
  have : (((P.hs.length : Nat) : Int) == 6) = decide (6 ≤ P.hs.length) := by
    rw [Bool.eq_iff_iff]; simp; omega
  unfold foundP foundE
  rw [this]
  simp

/-- Who may manage: of a house that is not there, Root alone is told so. -/
theorem manage_agree {P : PDep} {ds : List Deed} (s : Sim P ds) (house : ByteArray) (id : Int) (of : ByteArray) :
    (manageF (heldF P house id) (house.toList == of.toList) ≠ 0 ∧ governsE (roleF P.root P.clock ds house id) (decide (0 < didF ds kFound of)) (house.toList == of.toList) = manageF (heldF P house id) (house.toList == of.toList)) ∨
    (manageF (heldF P house id) (house.toList == of.toList) = 0 ∧ governsE (roleF P.root P.clock ds house id) (decide (0 < didF ds kFound of)) (house.toList == of.toList) = if (hseF P.hs of).isSome then 0 else 7) := by
  rw [← role_agree s house id, s.s2 of]
  have hsome : (house.toList == of.toList) = true → heldF P house id = 3 → (hseF P.hs of).isSome = true := by
    intro he h3
    rw [← hseF_key P.hs (beq_iff_eq.1 he)]
    unfold heldF at h3
    cases hh : hseF P.hs house with
    | some x => rfl
    | none =>
      rw [hh] at h3
      split at h3
      · split at h3 <;> exact absurd h3 (by decide)
      · have h3' : (0 : Int) = 3 := h3
        exact absurd h3' (by decide)
  generalize heldF P house id = r at *
  unfold manageF governsE
  by_cases h0 : r = 0
  · subst h0; exact Or.inl ⟨by simp, rfl⟩
  · have b0 : (r == 0) = false := beq_eq_false_iff_ne.2 h0
    by_cases h4 : r = 4
    · subst h4; exact Or.inr ⟨rfl, by cases (hseF P.hs of).isSome <;> rfl⟩
    · have b4 : (r == 4) = false := beq_eq_false_iff_ne.2 h4
      by_cases h3 : r = 3
      · subst h3
        cases hc : (house.toList == of.toList) with
        | false => exact Or.inl ⟨by simp, rfl⟩
        | true =>
          have := hsome hc rfl
          rw [this]
          exact Or.inr ⟨rfl, rfl⟩
      · have b3 : (r == 3) = false := beq_eq_false_iff_ne.2 h3
        simp [b0, b4, b3]

theorem mintT_agree {ts : List Tok} {role fresh till : Int} (h8 : ts.length ≤ 8) : mintT ts role fresh till = mintE 0 role fresh till (tokF ts fresh).isSome ts.length := by
  have : (((ts.length : Nat) : Int) == 8) = decide (8 ≤ ts.length) := by
    rw [Bool.eq_iff_iff]; simp; omega
  unfold mintT mintE
  rw [this]
  have hc : (role < 1 ∨ 3 < role ∨ fresh < 1 ∨ till < 1) ↔ (role < 1 ∨ 3 < role ∨ fresh ≤ 0 ∨ till ≤ 0) := by omega
  simp [hc]

theorem tk_some {hs : List PHse} {of : ByteArray} {h : PHse} (hh : hseF hs of = some h) (n : Int) : tk hs of n = tokF h.toks n := by unfold tk; rw [hh]
theorem tk_none {hs : List PHse} {of : ByteArray} (hh : hseF hs of = none) (n : Int) : tk hs of n = none := by unfold tk; rw [hh]

theorem mintD_some {P : PDep} {ds : List Deed} (s : Sim P ds) (of : ByteArray) (n : Int) : (deedF ds kMint of n).isSome = (tk P.hs of n).isSome := by
  have := congrArg Option.isSome (s.s3 of n)
  simpa using this

theorem mint_agree {P : PDep} {ds : List Deed} (s : Sim P ds) (hl : Lens P) (house : ByteArray) (id : Int) (of : ByteArray) (role fresh till : Int) :
    mintP (manageF (heldF P house id) (house.toList == of.toList)) P.hs of role fresh till =
    mintE (governsE (roleF P.root P.clock ds house id) (decide (0 < didF ds kFound of)) (house.toList == of.toList)) role fresh till (deedF ds kMint of fresh).isSome (didF ds kMint of) := by
  rw [mintD_some s, s.s5 of]
  rcases manage_agree s house id of with ⟨h1, h2⟩ | ⟨h1, h2⟩
  · rw [h2]
    have hb := bne_iff_ne.2 h1
    unfold mintP
    rw [if_pos hb, mintE_g hb]
  · rw [h2, h1]
    unfold mintP
    cases h3 : hseF P.hs of with
    | some h =>
      rw [tk_some h3]
      have hc : hcount P.hs of = h.toks.length := by unfold hcount; rw [h3]
      rw [hc]
      simpa using mintT_agree (lens_of hl h3).1
    | none => rw [mintE_g (by decide)]; rfl

theorem revoke_agree {P : PDep} {ds : List Deed} (s : Sim P ds) (house : ByteArray) (id : Int) (of : ByteArray) (old : Int) :
    revokeP (manageF (heldF P house id) (house.toList == of.toList)) P.hs of old =
    revokeE (governsE (roleF P.root P.clock ds house id) (decide (0 < didF ds kFound of)) (house.toList == of.toList)) (deedF ds kMint of old).isSome (deedF ds kRevoke of old).isSome := by
  rw [mintD_some s, s.s4 of]
  rcases manage_agree s house id of with ⟨h1, h2⟩ | ⟨h1, h2⟩
  · rw [h2]
    have hb := bne_iff_ne.2 h1
    unfold revokeP revokeE
    rw [if_pos hb, if_pos hb]
  · rw [h2, h1]
    unfold revokeP
    cases h3 : hseF P.hs of with
    | some h =>
      rw [tk_some h3]
      unfold revokeE revokeT
      cases hto : tokF h.toks old with
      | none => simp [hto]
      | some t => cases ht : t.gone <;> simp [goneOf, ht, hto]
    | none =>
      unfold revokeE
      rfl

/-- What is told by keys. -/
def keyP (pack : ByteArray) (v : Int) (k : ByteArray × Int × Option (List WantD)) : Bool := k.2.1 == v && k.1.toList == pack.toList

theorem ped_key (es : List PEd) (pack : ByteArray) (v : Int) : (pedF es pack v).isSome = (es.map PEd.key).any (keyP pack v) := by
  unfold pedF
  rw [List.any_map, List.isSome_find?]
  rfl

theorem rel_key (ds : List Deed) (house pack : ByteArray) (v : Int) : (relF ds house pack v).isSome = ((ds.filter (isD (relKind house) house)).map Deed.key).any (keyP pack v) := by
  unfold relF
  rw [List.any_map, List.any_filter, List.isSome_find?]
  congr 1
  funext x
  unfold relP isD
  simp only [Function.comp, keyP, Deed.key]
  cases (x.kind.toList == (relKind house).toList) <;> cases (x.house.toList == house.toList) <;> simp [Bool.and_comm]

theorem did_filter (ds : List Deed) (k nm : ByteArray) : didF ds k nm = (ds.filter (isD k nm)).length := rfl

theorem stock_of {hs : List PHse} {nm : ByteArray} {h : PHse} (hh : hseF hs nm = some h) : stock hs nm = h.eds := by unfold stock; rw [hh]
theorem grs_of {hs : List PHse} {nm : ByteArray} {h : PHse} (hh : hseF hs nm = some h) : grsOf hs nm = h.grs := by unfold grsOf; rw [hh]

theorem noB_empty : noB.toList.isEmpty = true := by rw [ByteArray.toList_eq]; rfl
theorem relKind_no : relKind noB = kFeed := by unfold relKind; rw [noB_empty]; rfl
theorem relKind_house {house : ByteArray} (h : house.toList.isEmpty = false) : relKind house = kPublish := by unfold relKind; rw [h]; rfl

section
variable {P : PDep} {ds : List Deed}

theorem rel_pub (s : Sim P ds) (pack : ByteArray) (v : Int) : (relF ds noB pack v).isSome = (pedF P.pub pack v).isSome := by
  rw [rel_key, ped_key, s.s10, relKind_no]

theorem rel_house (s : Sim P ds) {house : ByteArray} (hne : house.toList.isEmpty = false) {h : PHse} (hh : hseF P.hs house = some h) (pack : ByteArray) (v : Int) : (relF ds house pack v).isSome = (pedF h.eds pack v).isSome := by
  rw [rel_key, ped_key, relKind_house hne, ← s.s7 house, stock_of hh]

theorem did_pub (s : Sim P ds) : didF ds kFeed noB = P.pub.length := by
  have := congrArg List.length s.s10
  rw [List.length_map, List.length_map] at this
  rw [did_filter, this]

theorem did_own (s : Sim P ds) {house : ByteArray} {h : PHse} (hh : hseF P.hs house = some h) : didF ds kPublish house = h.eds.length := by
  have := congrArg List.length (s.s7 house)
  rw [List.length_map, List.length_map, stock_of hh] at this
  rw [did_filter, this]

theorem did_grant (s : Sim P ds) {house : ByteArray} {h : PHse} (hh : hseF P.hs house = some h) : didF ds kGrant house = h.grs.length := by
  have := congrArg List.length (s.s9 house)
  rw [List.length_map, List.length_map, grs_of hh] at this
  rw [did_filter, this]

theorem may_pub (s : Sim P ds) (hl : Lens P) (pack : ByteArray) (v : Int) (text : ByteArray) : playF P.pub pack v text 24 = mayE ds noB pack v text := by
  have := hl.p
  have hr : roomN ds noB = P.pub.length := by unfold roomN; rw [noB_empty]; exact did_pub s
  have hm : roomM noB = 24 := by unfold roomM; rw [noB_empty]; rfl
  unfold playF mayE
  rw [rel_pub s, hr, hm]
  have e : ((24 : Int) ≤ P.pub.length) ↔ P.pub.length = 24 := by omega
  simp only [e]

theorem may_house (s : Sim P ds) (hl : Lens P) {house : ByteArray} (hne : house.toList.isEmpty = false) {h : PHse} (hh : hseF P.hs house = some h) (pack : ByteArray) (v : Int) (text : ByteArray) : playF h.eds pack v text 12 = mayE ds house pack v text := by
  have := (lens_of hl hh).2.1
  have hr : roomN ds house = h.eds.length := by unfold roomN; rw [hne]; exact did_own s hh
  have hm : roomM house = 12 := by unfold roomM; rw [hne]; rfl
  unfold playF mayE
  rw [rel_house s hne hh, hr, hm]
  have e : ((12 : Int) ≤ h.eds.length) ↔ h.eds.length = 12 := by omega
  simp only [e]

theorem feed_agree (s : Sim P ds) (hl : Lens P) (name : ByteArray) (v : Int) (text : ByteArray) : dfeedP P name v text = feedE ds name v text := by
  unfold dfeedP feedE
  rw [may_pub s hl]

/-- Who may write: the house is there, or both tell the same error. -/
theorem write_agree (s : Sim P ds) (house : ByteArray) (id : Int) (pack : ByteArray) :
    (workF (heldF P house id) 2 ≠ 0 ∧ writesE (roleF P.root P.clock ds house id) (wordF pack) = workF (heldF P house id) 2) ∨
    (workF (heldF P house id) 2 = 0 ∧ writesE (roleF P.root P.clock ds house id) (wordF pack) = (if wordF pack = false then 2 else 0)) := by
  rw [← role_agree s house id]
  have hr := role_range s house id
  generalize heldF P house id = r at *
  have hc : r = 0 ∨ r = 1 ∨ r = 2 ∨ r = 3 ∨ r = 4 := by omega
  rcases hc with rfl | rfl | rfl | rfl | rfl
  · exact Or.inl ⟨by decide, rfl⟩
  · exact Or.inl ⟨by decide, rfl⟩
  · exact Or.inr ⟨by decide, by cases wordF pack <;> rfl⟩
  · exact Or.inr ⟨by decide, by cases wordF pack <;> rfl⟩
  · exact Or.inl ⟨by decide, rfl⟩

theorem publish_agree (s : Sim P ds) (hl : Lens P) (house : ByteArray) (id : Int) (pack : ByteArray) (v : Int) (text : ByteArray) :
    dpublishP P house id pack v text = publishE (roleF P.root P.clock ds house id) ds house pack v text := by
  unfold dpublishP publishE
  rcases write_agree s house id pack with ⟨h1, h2⟩ | ⟨h1, h2⟩
  · rw [h2, if_pos h1, if_pos h1]
  · rw [h2, if_neg (by simpa using h1)]
    obtain ⟨hne, h, hh⟩ := held_house h1
    cases wordF pack with
    | false => rfl
    | true =>
      simp only [Bool.true_eq_false, if_false, ne_eq, not_true_eq_false]
      rw [hh]
      exact may_house s hl hne hh pack v text

theorem yank_agree (s : Sim P ds) (house : ByteArray) (id : Int) (pack : ByteArray) (v : Int) :
    dyankP P house id pack v = yankE (roleF P.root P.clock ds house id) ds house pack v := by
  unfold dyankP yankE
  rcases write_agree s house id pack with ⟨h1, h2⟩ | ⟨h1, h2⟩
  · rw [h2, if_pos h1, if_pos h1]
  · rw [h2, if_neg (by simpa using h1)]
    obtain ⟨hne, h, hh⟩ := held_house h1
    cases wordF pack with
    | false => rfl
    | true =>
      simp only [Bool.true_eq_false, if_false, ne_eq, not_true_eq_false]
      rw [hh, rel_house s hne hh]

theorem phas_any (l : List PEd) (pack : ByteArray) (h : ∀ e ∈ l, 1 ≤ e.ver ∧ e.ver ≤ 9) : phas l pack = (List.range 9).any fun i => (pedF l pack ((i : Int) + 1)).isSome := by
  rw [Bool.eq_iff_iff]
  unfold phas
  rw [List.any_eq_true, List.any_eq_true]
  constructor
  · rintro ⟨e, he, hp⟩
    obtain ⟨h1, h2⟩ := h e he
    refine ⟨(e.ver - 1).toNat, by simp; omega, ?_⟩
    unfold pedF
    rw [List.isSome_find?, List.any_eq_true]
    refine ⟨e, he, ?_⟩
    unfold pedP
    rw [Bool.and_eq_true]
    exact ⟨by rw [beq_iff_eq]; omega, hp⟩
  · rintro ⟨i, _, hi⟩
    unfold pedF at hi
    rw [List.isSome_find?, List.any_eq_true] at hi
    obtain ⟨e, he, hp⟩ := hi
    unfold pedP at hp
    rw [Bool.and_eq_true] at hp
    exact ⟨e, he, hp.2⟩

theorem has_pub (s : Sim P ds) (pack : ByteArray) : hasF ds noB pack = phas P.pub pack := by
  rw [phas_any P.pub pack s.s14]
  unfold hasF
  congr 1
  funext i
  exact rel_pub s pack _

theorem has_house (s : Sim P ds) {house : ByteArray} (hne : house.toList.isEmpty = false) {h : PHse} (hh : hseF P.hs house = some h) (pack : ByteArray) : hasF ds house pack = phas h.eds pack := by
  rw [phas_any h.eds pack (fun e he => s.ver_of hh e he)]
  unfold hasF
  congr 1
  funext i
  exact rel_house s hne hh pack _

theorem granted_house (s : Sim P ds) {house : ByteArray} {h : PHse} (hh : hseF P.hs house = some h) (pack to : ByteArray) : grantF ds house pack to = grtF h.grs pack to := by
  have h9 := s.s9 house
  rw [grs_of hh] at h9
  have e1 : grantF ds house pack to = ((ds.filter (isD kGrant house)).map Deed.gkey).any fun k => k.1.toList == pack.toList && k.2.toList == to.toList := by
    unfold grantF
    rw [List.any_map, List.any_filter]
    congr 1
    funext x
    unfold grantP isD
    simp only [Function.comp, Deed.gkey, Bool.and_assoc]
  have e2 : grtF h.grs pack to = (h.grs.map Grt.key).any fun k => k.1.toList == pack.toList && k.2.toList == to.toList := by
    unfold grtF
    rw [List.any_map]
    rfl
  rw [e1, e2, h9]

theorem grant_agree (s : Sim P ds) (hl : Lens P) (house : ByteArray) (id : Int) (pack to : ByteArray) :
    dgrantP P house id pack to = grantE (roleF P.root P.clock ds house id) ds house pack to := by
  unfold dgrantP grantE
  by_cases h1 : workF (heldF P house id) 3 = 0
  · obtain ⟨hne, h, hh⟩ := held_house h1
    have hg := (lens_of hl hh).2.2.1
    rw [← role_agree s house id]
    have hr := role_range s house id
    generalize heldF P house id = r at *
    have hc : r = 0 ∨ r = 1 ∨ r = 2 ∨ r = 3 ∨ r = 4 := by omega
    rcases hc with rfl | rfl | rfl | rfl | rfl
    · exact absurd h1 (by decide)
    · exact absurd h1 (by decide)
    · exact absurd h1 (by decide)
    · rw [if_neg (by simpa using h1), hh, has_house s hne hh, granted_house s hh, did_grant s hh]
      have e : (6 ≤ h.grs.length) ↔ h.grs.length = 6 := by omega
      simp only [addF, e]
      rfl
    · exact absurd h1 (by decide)
  · rw [if_pos h1, ← role_agree s house id]
    have hr := role_range s house id
    generalize heldF P house id = r at *
    have hc : r = 0 ∨ r = 1 ∨ r = 2 ∨ r = 3 ∨ r = 4 := by omega
    rcases hc with rfl | rfl | rfl | rfl | rfl
    · rfl
    · rfl
    · rfl
    · exact absurd rfl h1
    · rfl

end

/-- What a minted number was: free; and the role one of three. -/
theorem mintP_ok {m : Int} {hs : List PHse} {of : ByteArray} {role fresh till : Int} (h : mintP m hs of role fresh till = 0) : ∃ x, hseF hs of = some x ∧ tokF x.toks fresh = none ∧ 1 ≤ role ∧ role ≤ 3 := by
  unfold mintP at h
  split at h
  · rename_i hm
    rw [h] at hm
    exact absurd hm (by decide)
  · split at h
    · cases h
    · rename_i x hx
      refine ⟨x, hx, ?_⟩
      unfold mintT at h
      split at h
      · cases h
      · rename_i ha
        split at h
        · cases h
        · rename_i hn
          refine ⟨?_, by omega, by omega⟩
          cases hc : tokF x.toks fresh with
          | none => rfl
          | some y => rw [hc] at hn; simp at hn

theorem revokeP_ok {m : Int} {hs : List PHse} {of : ByteArray} {old : Int} (h : revokeP m hs of old = 0) : ∃ x t, hseF hs of = some x ∧ tokF x.toks old = some t ∧ t.gone = false := by
  unfold revokeP at h
  split at h
  · rename_i hm
    rw [h] at hm
    exact absurd hm (by decide)
  · split at h
    · cases h
    · rename_i x hx
      unfold revokeT at h
      split at h
      · cases h
      · rename_i t ht
        refine ⟨x, t, hx, ht, ?_⟩
        cases hg : t.gone with
        | false => rfl
        | true => rw [hg] at h; simp at h

theorem foundP_ok {r : Int} {b1 : Bool} {hs : List PHse} {name : ByteArray} {n : Nat} (h : foundP r b1 (hseF hs name).isSome n = 0) : hseF hs name = none := by
  unfold foundP at h
  repeat (split at h; · cases h)
  cases hc : hseF hs name with
  | none => rfl
  | some x =>
    rename_i h1 _
    rw [hc] at h1
    simp at h1

theorem playF_ok {es : List PEd} {label : ByteArray} {v : Int} {text : ByteArray} {room : Int} (h : playF es label v text room = 0) : (1 ≤ v ∧ v ≤ 9) ∧ ∃ ws, wantsF text = some ws := by
  unfold playF at h
  split at h
  · cases h
  · rename_i hv
    refine ⟨by omega, ?_⟩
    split at h
    · cases h
    · rename_i hw
      cases hc : wantsF text with
      | some ws => exact ⟨ws, rfl⟩
      | none => rw [hc] at hw; simp at hw

end

section
open Go.RowKit

theorem toList_bytes (s : ByteArray) : s.toList = bytes s := ByteArray.toList_eq s
theorem toList_inj {s t : ByteArray} (h : s.toList = t.toList) : s = t := by rw [toList_bytes, toList_bytes] at h; exact bytes_inj h
theorem bytes_append (a b : ByteArray) : bytes (a ++ b) = bytes a ++ bytes b := by simp [bytes]

def joinL : List (List UInt8) → List UInt8
  | [] => []
  | [x] => x
  | x :: y :: l => x ++ 44 :: joinL (y :: l)

theorem joinL_cons (x : List UInt8) (l : List (List UInt8)) (h : l ≠ []) : joinL (x :: l) = x ++ 44 :: joinL l := by
  cases l with
  | nil => exact absurd rfl h
  | cons y l => rfl

theorem joinL_snoc (l : List (List UInt8)) (x : List UInt8) (h : l ≠ []) : joinL (l ++ [x]) = joinL l ++ 44 :: x := by
  induction l with
  | nil => exact absurd rfl h
  | cons y l ih =>
    cases l with
    | nil => rfl
    | cons z l =>
      have := ih (by simp)
      show y ++ 44 :: joinL ((z :: l) ++ [x]) = _
      rw [this]
      show _ = (y ++ 44 :: joinL (z :: l)) ++ 44 :: x
      simp

theorem joinL_nil {l : List (List UInt8)} (hne : ∀ x ∈ l, x ≠ []) (h : joinL l = []) : l = [] := by
  match l, h with
  | [], _ => rfl
  | [x], h => exact absurd h (hne x (by simp))
  | x :: y :: l, h => simp [joinL] at h

/-- A version's text. -/
def item (f : Int → Option Bool) (v : Nat) : List (List UInt8) :=
  match f v with
  | none => []
  | some off => [[UInt8.ofNat (48 + v)] ++ if off then [42] else []]

def upL (f : Int → Option Bool) : Nat → List (List UInt8)
  | 0 => []
  | k + 1 => upL f k ++ item f (k + 1)

def downL (f : Int → Option Bool) : Nat → List (List UInt8)
  | 0 => []
  | k + 1 => item f (9 - k) ++ downL f k

theorem up_down (f : Int → Option Bool) : upL f 9 = downL f 9 := by simp [upL, downL]

theorem item_ne (f : Int → Option Bool) (v : Nat) : ∀ x ∈ item f v, x ≠ [] := by
  intro x hx
  unfold item at hx
  split at hx
  · cases hx
  · simp at hx; subst hx; simp

theorem upL_ne (f : Int → Option Bool) (k : Nat) : ∀ x ∈ upL f k, x ≠ [] := by
  induction k with
  | zero => intro x hx; cases hx
  | succ k ih =>
    intro x hx
    rcases List.mem_append.1 hx with h | h
    · exact ih x h
    · exact item_ne f _ x h

theorem downL_ne (f : Int → Option Bool) (k : Nat) : ∀ x ∈ downL f k, x ≠ [] := by
  induction k with
  | zero => intro x hx; cases hx
  | succ k ih =>
    intro x hx
    rcases List.mem_append.1 hx with h | h
    · exact item_ne f _ x h
    · exact ih x h

theorem digit_bytes (v : Nat) : bytes (digitS v) = [UInt8.ofNat (48 + v)] := rfl

theorem empty_iff {s : ByteArray} {l : List (List UInt8)} (h : bytes s = joinL l) (hne : ∀ x ∈ l, x ≠ []) : s.toList.isEmpty = true ↔ l = [] := by
  rw [toList_bytes, h, List.isEmpty_iff]
  constructor
  · exact joinL_nil hne
  · rintro rfl; rfl

theorem ptell_bytes (es : List PEd) (pack : ByteArray) (k : Nat) : bytes (ptell es pack k) = joinL (upL (fun v => (pedF es pack v).map PEd.off) k) := by
  induction k with
  | zero => rfl
  | succ k ih =>
    have hemp := empty_iff ih (upL_ne _ k)
    have hc : (((k + 1 : Nat) : Int)) = (k : Int) + 1 := by omega
    have hi : item (fun v => (pedF es pack v).map PEd.off) (k + 1) = match pedF es pack ((k : Int) + 1) with
      | none => []
      | some e => [[UInt8.ofNat (48 + (k + 1))] ++ if e.off then [42] else []] := by
      unfold item
      rw [hc]
      simp only
      cases pedF es pack ((k : Int) + 1) <;> rfl
    show bytes (ptell es pack (k + 1)) = joinL (upL (fun v => (pedF es pack v).map PEd.off) k ++ item (fun v => (pedF es pack v).map PEd.off) (k + 1))
    rw [hi]
    unfold ptell
    cases hp : pedF es pack ((k : Int) + 1) with
    | none => simp only [List.append_nil]; exact ih
    | some e =>
      simp only
      have hs : bytes (if e.off then (⟨#[42]⟩ : ByteArray) else ⟨#[]⟩) = if e.off then [42] else [] := by cases e.off <;> rfl
      by_cases he : (ptell es pack k).toList.isEmpty = true
      · have hl := hemp.1 he
        rw [if_pos he, bytes_append, bytes_append, ih, hl, digit_bytes, hs]
        rfl
      · have hl : upL (fun v => (pedF es pack v).map PEd.off) k ≠ [] := fun h => he (hemp.2 h)
        rw [if_neg he, bytes_append, bytes_append, bytes_append, ih, joinL_snoc _ _ hl, digit_bytes, hs]
        show _ ++ [44] ++ _ ++ _ = _
        simp

theorem tellE_bytes (ds : List Deed) (o pack : ByteArray) (k : Nat) (hk : k ≤ 9) : bytes (tellE ds o pack k) = joinL (downL (fun v => if (relF ds o pack v).isSome then some (yankF ds o pack v) else none) k) := by
  induction k with
  | zero => rfl
  | succ k ih =>
    have ih := ih (by omega)
    have hemp := empty_iff ih (downL_ne _ k)
    have hi : item (fun v => if (relF ds o pack v).isSome then some (yankF ds o pack v) else none) (9 - k) = if (relF ds o pack ((9 - k : Nat) : Int)).isSome then [[UInt8.ofNat (48 + (9 - k))] ++ if yankF ds o pack ((9 - k : Nat) : Int) then [42] else []] else [] := by
      unfold item
      simp only
      cases (relF ds o pack ((9 - k : Nat) : Int)).isSome <;> rfl
    show bytes (tellE ds o pack (k + 1)) = joinL (item (fun v => if (relF ds o pack v).isSome then some (yankF ds o pack v) else none) (9 - k) ++ downL (fun v => if (relF ds o pack v).isSome then some (yankF ds o pack v) else none) k)
    rw [hi]
    unfold tellE
    cases hp : (relF ds o pack ((9 - k : Nat) : Int)).isSome with
    | false => simp only [Bool.false_eq_true, if_false, List.nil_append]; exact ih
    | true =>
      simp only [if_true]
      have hs : bytes (oneE ds o pack (9 - k)) = [UInt8.ofNat (48 + (9 - k))] ++ if yankF ds o pack ((9 - k : Nat) : Int) then [42] else [] := by
        unfold oneE
        cases yankF ds o pack ((9 - k : Nat) : Int) with
        | true => rw [if_pos rfl, bytes_append, digit_bytes]; rfl
        | false => rw [if_neg (by decide), digit_bytes]; rfl
      by_cases he : (tellE ds o pack k).toList.isEmpty = true
      · have hl := hemp.1 he
        rw [if_pos he, hs, hl]
        rfl
      · have hl : downL (fun v => if (relF ds o pack v).isSome then some (yankF ds o pack v) else none) k ≠ [] := fun h => he (hemp.2 h)
        rw [if_neg he, bytes_append, bytes_append, ih, hs]
        show _ = joinL (_ :: downL _ k)
        rw [joinL_cons _ _ hl]
        show _ ++ [44] ++ _ = _
        simp

theorem tell_agree {ds : List Deed} {o pack : ByteArray} {es : List PEd} (h1 : ∀ v, (relF ds o pack v).isSome = (pedF es pack v).isSome) (h2 : ∀ v, yankF ds o pack v = offOf (pedF es pack v)) : tellE ds o pack 9 = ptell es pack 9 := by
  apply bytes_inj
  rw [tellE_bytes ds o pack 9 (Nat.le_refl _), ptell_bytes, up_down]
  congr 2
  funext v
  rw [h1, h2]
  cases pedF es pack v <;> rfl

theorem hse_name {hs : List PHse} {nm : ByteArray} {h : PHse} (hh : hseF hs nm = some h) : h.name = nm := by
  have := List.find?_some hh
  exact toList_inj (by simpa using this)

theorem word_ne {s : ByteArray} (h : wordF s = true) : s.toList.isEmpty = false := by
  rw [toList_bytes]
  rw [wordF_bytes] at h
  unfold wordL at h
  cases hb : bytes s with
  | nil => rw [hb] at h; simp at h
  | cons x l => rfl

theorem show_agree {P : PDep} {ds : List Deed} (s : Sim P ds) (hl : Lens P) (house : ByteArray) (id : Int) (name : ByteArray) :
    dshowP P house id name = showE (roleF P.root P.clock ds house id) ds house name := by
  unfold dshowP showE
  rw [← role_agree s house id]
  cases (heldF P house id == 0) with
  | true => rfl
  | false =>
    simp only [Bool.false_eq_true, if_false]
    cases hn : nameF name with
    | false => rfl
    | true =>
      simp only [Bool.true_eq_false, if_false]
      have hnone : hseF P.hs noB = none := by
        cases hq : hseF P.hs noB with
        | none => rfl
        | some y =>
          have := word_ne (lens_of hl hq).2.2.2.1
          rw [hse_name hq, noB_empty] at this
          cases this
      have pub : placeF P name = (none, name) → ownerF ds name = (noB, name) →
          (match placeF P name with
          | (some h, l) => if ((h.name.toList == house.toList) || grtF h.grs l house) && phas h.eds l then (h.name ++ ⟨#[58]⟩ ++ ptell h.eds l 9, (0 : Int)) else (⟨#[]⟩, 7)
          | (none, l) => if phas P.pub l then (pubWord ++ ⟨#[58]⟩ ++ ptell P.pub l 9, 0) else (⟨#[]⟩, 7)) =
          if seenE ds house name = false then (⟨#[]⟩, 7) else (whoseE (ownerF ds name).1 ++ ⟨#[58]⟩ ++ tellE ds (ownerF ds name).1 (ownerF ds name).2 9, 0) := by
        intro h1 h2
        have hseen : seenE ds house name = phas P.pub name := by
          unfold seenE
          rw [h2]
          simp only
          rw [noB_empty, has_pub s]
          simp
        have hy : ∀ v, yankF ds noB name v = offOf (pedF P.pub name v) := by
          intro v
          rw [s.s8 noB name v]
          have e : stock P.hs noB = [] := by unfold stock; rw [hnone]
          rw [e]
          show false = _
          cases hq : pedF P.pub name v with
          | none => rfl
          | some y => exact (s.s11 y (List.mem_of_find?_eq_some hq)).symm
        rw [h1, hseen, h2]
        simp only
        rw [tell_agree (fun v => rel_pub s name v) hy]
        have hw : whoseE noB = pubWord := by unfold whoseE; rw [noB_empty]; rfl
        rw [hw]
        cases phas P.pub name <;> rfl
      rcases cut_name hn with ⟨a, b, hsp, hcut, ha, hb, _⟩ | ⟨hsp, hcut, _⟩
      · cases hh : hseF P.hs a with
        | none =>
          have h2 := s.s2 a
          rw [hh] at h2
          have h0 : ¬ 0 < didF ds kFound a := of_decide_eq_false h2
          exact pub (by unfold placeF; rw [hsp]; simp only [if_true]; rw [hh]) (by unfold ownerF; rw [hcut]; simp only; rw [if_neg h0])
        | some h =>
          have h2 := s.s2 a
          rw [hh] at h2
          have h0 : 0 < didF ds kFound a := of_decide_eq_true h2
          have hp : placeF P name = (some h, b) := by unfold placeF; rw [hsp]; simp only [if_true]; rw [hh]
          have ho : ownerF ds name = (a, b) := by unfold ownerF; rw [hcut]; simp only; rw [if_pos h0]
          have hane := word_ne ha
          have hname := hse_name hh
          have hseen : seenE ds house name = (((h.name.toList == house.toList) || grtF h.grs b house) && phas h.eds b) := by
            unfold seenE
            rw [ho]
            simp only
            rw [hane, has_house s hane hh, granted_house s hh, hname, Bool.false_or, Bool.and_comm]
          have hy : ∀ v, yankF ds a b v = offOf (pedF h.eds b v) := by
            intro v
            rw [s.s8 a b v, stock_of hh]
          rw [hp, hseen, ho]
          simp only
          rw [tell_agree (fun v => rel_house s hane hh b v) hy]
          have hw : whoseE a = h.name := by unfold whoseE; rw [hane, hname]; rfl
          rw [hw]
          cases (((h.name.toList == house.toList) || grtF h.grs b house) && phas h.eds b) <;> rfl
      · exact pub (by unfold placeF; rw [hsp]; rfl) (by unfold ownerF; rw [hcut])

end

end Go.Proofs.YtgcldedkempjhabGreatDoor
