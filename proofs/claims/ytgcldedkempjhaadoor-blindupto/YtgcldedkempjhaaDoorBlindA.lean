/-
  depotkeep: Blind: a depot without what the house g did: what holders of h are told is the same.
-/
import Derived.Test.YtgcldedkempjhaaDoorKnown
import Derived.Test.YtgcldedkempjhaaDoorPLem
import Derived.Test.YtgcldedkempjhaaDoorOpenA
namespace Go.Proofs.YtgcldedkempjhaaDoor
open Go.RowKit

/-- A house; of g nothing but its name. -/
def blur (h : PHse) : PHse := if (h.name.toList == kG.toList) = true then ⟨h.name, [], [], [], []⟩ else h

def blurP (P : PDep) : PDep := ⟨P.root, P.clock, P.hs.map blur, P.pub, 0⟩

theorem blur_name (h : PHse) : (blur h).name = h.name := by unfold blur; split <;> rfl

theorem blur_not {h : PHse} (hn : (h.name.toList == kG.toList) = false) : blur h = h := by unfold blur; rw [if_neg (by rw [hn]; decide)]

theorem blur_twice (h : PHse) : blur (blur h) = blur h := by
  cases hn : (h.name.toList == kG.toList) with
  | false => rw [blur_not hn, blur_not hn]
  | true =>
    have e : blur h = ⟨h.name, [], [], [], []⟩ := if_pos hn
    rw [e]
    exact if_pos hn

theorem blurs_twice (hs : List PHse) : (hs.map blur).map blur = hs.map blur := by
  rw [List.map_map]
  exact List.map_congr_left fun h _ => blur_twice h

theorem blurP_twice (P : PDep) : blurP (blurP P) = blurP P := by
  unfold blurP
  simp only
  rw [blurs_twice]

theorem hse_blur (hs : List PHse) (nm : ByteArray) : hseF (hs.map blur) nm = (hseF hs nm).map blur := by
  unfold hseF
  rw [List.find?_map]
  have e : ((fun h : PHse => h.name.toList == nm.toList) ∘ blur) = fun h => h.name.toList == nm.toList := by
    funext h
    simp only [Function.comp, blur_name]
  rw [e]

theorem hse_name {hs : List PHse} {nm : ByteArray} {h : PHse} (hx : hseF hs nm = some h) : h ∈ hs ∧ h.name.toList = nm.toList := by
  refine ⟨List.mem_of_find?_eq_some hx, ?_⟩
  have := List.find?_some hx
  simpa using this

theorem hse_blur_not {hs : List PHse} {nm : ByteArray} (hn : (nm.toList == kG.toList) = false) : hseF (hs.map blur) nm = hseF hs nm := by
  rw [hse_blur]
  cases hx : hseF hs nm with
  | none => rfl
  | some h => rw [Option.map_some, blur_not (by rw [(hse_name hx).2]; exact hn)]

theorem held_blur {P : PDep} {house : ByteArray} (hn : (house.toList == kG.toList) = false) (id : Int) : heldF (blurP P) house id = heldF P house id := by
  unfold heldF
  simp only [blurP]
  rw [hse_blur_not hn]
  rfl

theorem updH_blur (hs : List PHse) (nm : ByteArray) (f : PHse → PHse) (hf : ∀ h, (f h).name = h.name) (hn : (nm.toList == kG.toList) = false) : (updH hs nm f).map blur = updH (hs.map blur) nm f := by
  induction hs with
  | nil => rfl
  | cons h t ih =>
    rw [List.map_cons, updH, updH, blur_name]
    cases hx : (h.name.toList == nm.toList) with
    | true =>
      have e : h.name.toList = nm.toList := by simpa using hx
      rw [if_pos rfl, if_pos rfl, List.map_cons, blur_not (h := f h) (by rw [hf, e]; exact hn), blur_not (h := h) (by rw [e]; exact hn)]
    | false => rw [if_neg (by decide), if_neg (by decide), List.map_cons, ih]

theorem updH_g (hs : List PHse) (nm : ByteArray) (f : PHse → PHse) (hf : ∀ h, (f h).name = h.name) (hn : (nm.toList == kG.toList) = true) : (updH hs nm f).map blur = hs.map blur := by
  induction hs with
  | nil => rfl
  | cons h t ih =>
    rw [updH]
    split
    · rename_i hx
      have e : h.name.toList = nm.toList := by simpa using hx
      have e1 : blur (f h) = ⟨(f h).name, [], [], [], []⟩ := if_pos (by rw [hf, e]; exact hn)
      have e2 : blur h = ⟨h.name, [], [], [], []⟩ := if_pos (by rw [e]; exact hn)
      rw [List.map_cons, List.map_cons, e1, e2, hf]
    · rw [List.map_cons, List.map_cons, ih]

theorem blur_upd (P : PDep) (nm : ByteArray) (f : PHse → PHse) (hf : ∀ h, (f h).name = h.name) (hn : (nm.toList == kG.toList) = false) : blurP (P.upd nm f) = (blurP P).upd nm f := by
  unfold blurP PDep.upd
  simp only
  rw [updH_blur _ _ _ hf hn]

theorem blur_upd_g (P : PDep) (nm : ByteArray) (f : PHse → PHse) (hf : ∀ h, (f h).name = h.name) (hn : (nm.toList == kG.toList) = true) : blurP (P.upd nm f) = blurP P := by
  unfold blurP PDep.upd
  simp only
  rw [updH_g _ _ _ hf hn]

/-- What is blurred of a depot one house of which is changed hangs on the blurred depot alone. -/
theorem upd_both (P : PDep) (nm : ByteArray) (f : PHse → PHse) (hf : ∀ h, (f h).name = h.name) : blurP (P.upd nm f) = blurP ((blurP P).upd nm f) := by
  cases hn : (nm.toList == kG.toList) with
  | false => rw [blur_upd P nm f hf hn, blur_upd _ nm f hf hn, blurP_twice]
  | true => rw [blur_upd_g P nm f hf hn, blur_upd_g _ nm f hf hn, blurP_twice]

/-- g has granted h nothing; no token is Root's. -/
structure BOk (P : PDep) : Prop where
  g : ∀ h ∈ P.hs, (h.name.toList == kG.toList) = true → ∀ r ∈ h.grs, (r.to.toList == kH.toList) = false
  r : ∀ h ∈ P.hs, ∀ t ∈ h.toks, t.role ≠ 4

theorem mem_updH {hs : List PHse} {nm : ByteArray} {f : PHse → PHse} {h : PHse} (hm : h ∈ updH hs nm f) : h ∈ hs ∨ ∃ y ∈ hs, (y.name.toList == nm.toList) = true ∧ h = f y := by
  induction hs with
  | nil => cases hm
  | cons x t ih =>
    rw [updH] at hm
    split at hm
    · rename_i hx
      cases List.mem_cons.1 hm with
      | inl e => exact Or.inr ⟨x, by simp, hx, e⟩
      | inr e => exact Or.inl (by simp [e])
    · cases List.mem_cons.1 hm with
      | inl e => exact Or.inl (by simp [e])
      | inr e =>
        rcases ih e with h1 | ⟨y, h1, h2, h3⟩
        · exact Or.inl (by simp [h1])
        · exact Or.inr ⟨y, by simp [h1], h2, h3⟩

theorem BOk.upd {P : PDep} (ok : BOk P) {nm : ByteArray} {f : PHse → PHse}
    (h1 : ∀ y ∈ P.hs, (y.name.toList == nm.toList) = true → (f y).name = y.name ∧ (∀ r ∈ (f y).grs, r ∈ y.grs ∨ ((y.name.toList == kG.toList) = true → (r.to.toList == kH.toList) = false)) ∧ ∀ t ∈ (f y).toks, t.role ≠ 4) : BOk (P.upd nm f) := by
  refine ⟨fun h hm hn r hr => ?_, fun h hm t ht => ?_⟩
  · rcases mem_updH hm with h2 | ⟨y, hy, hnm, rfl⟩
    · exact ok.g h h2 hn r hr
    · obtain ⟨e1, e2, _⟩ := h1 y hy hnm
      rw [e1] at hn
      rcases e2 r hr with h3 | h3
      · exact ok.g y hy hn r h3
      · exact h3 hn
  · rcases mem_updH hm with h2 | ⟨y, hy, hnm, rfl⟩
    · exact ok.r h h2 t ht
    · exact (h1 y hy hnm).2.2 t ht

theorem held_role {P : PDep} (ok : BOk P) {house : ByteArray} (id : Int) (hne : house.toList ≠ []) : heldF P house id ≠ 4 := by
  unfold heldF
  rw [if_neg (by simpa using hne)]
  cases hx : hseF P.hs house with
  | none => simp
  | some h =>
    simp only
    unfold roleT
    cases ht : tokF h.toks id with
    | none => simp
    | some t =>
      simp only
      split
      · simp
      · exact ok.r h (hse_name hx).1 t (List.mem_of_find?_eq_some ht)

theorem mintP_role {m : Int} {hs : List PHse} {of : ByteArray} {role fresh till : Int} (h : mintP m hs of role fresh till = 0) : m = 0 ∧ role ≠ 4 := by
  unfold mintP at h
  split at h
  · rename_i hm
    subst h
    simp at hm
  · rename_i hm
    refine ⟨by simpa using hm, ?_⟩
    split at h
    · cases h
    · unfold mintT at h
      split at h
      · cases h
      · rename_i h4
        omega

theorem revokeP_m {m : Int} {hs : List PHse} {of : ByteArray} {old : Int} (h : revokeP m hs of old = 0) : m = 0 := by
  unfold revokeP at h
  split at h
  · exact h
  · rename_i hm
    simpa using hm

theorem manage_same {r : Int} {same : Bool} (h : manageF r same = 0) (hr : r ≠ 4) : same = true := by
  unfold manageF at h
  split at h
  · cases h
  · rw [if_neg (by simpa using hr)] at h
    split at h
    · cases same with
      | true => rfl
      | false => cases h
    · cases h

theorem found_root {r : Int} {b1 b2 : Bool} {n : Nat} (h : foundP r b1 b2 n = 0) : r = 4 := by
  unfold foundP at h
  split at h
  · cases h
  · split at h
    · cases h
    · rename_i h4
      simpa using h4

theorem stepP_if {E : Int} {P Q : PDep} {R : PDep → Prop} (h1 : E = 0 → R Q) (h2 : R P) : R (stepP E P Q) := by
  unfold stepP
  split
  · rename_i h
    exact h1 h
  · exact h2

theorem call_e1 (P : PDep) {x : TurnD} (k : x.kind = 1) : callS P x = stepP (foundP (heldF P (showsH x.who) (showsI x.who x.id)) (wordF x.s) (hseF P.hs x.s).isSome P.hs.length) P (foundS P x.s) := by
  simp [callS, callA, callQ, k]
theorem call_e2 (P : PDep) {x : TurnD} (k : x.kind = 2) : callS P x = stepP (mintP (manageF (heldF P (showsH x.who) (showsI x.who x.id)) ((showsH x.who).toList == x.of.toList)) P.hs x.of x.a x.b x.c) P (mintS P x.of (showsI x.who x.id) ⟨x.b, x.a, x.c, false⟩) := by
  simp [callS, callA, callQ, k]
theorem call_e3 (P : PDep) {x : TurnD} (k : x.kind = 3) : callS P x = stepP (revokeP (manageF (heldF P (showsH x.who) (showsI x.who x.id)) ((showsH x.who).toList == x.of.toList)) P.hs x.of x.a) P (revokeS P x.of (showsI x.who x.id) x.a) := by
  simp [callS, callA, callQ, k]
theorem call_e4 (P : PDep) {x : TurnD} (k : x.kind = 4) : callS P x = stepP (dpublishP P (showsH x.who) (showsI x.who x.id) x.s x.a x.t) P (dpublishS P (showsH x.who) (showsI x.who x.id) x.s x.a x.t) := by
  simp [callS, callA, callQ, k]
theorem call_e5 (P : PDep) {x : TurnD} (k : x.kind = 5) : callS P x = stepP (dyankP P (showsH x.who) (showsI x.who x.id) x.s x.a) P (dyankS P (showsH x.who) (showsI x.who x.id) x.s x.a (!(x.b.tmod 2 != 0))) := by
  simp [callS, callA, callQ, k]
theorem call_e6 (P : PDep) {x : TurnD} (k : x.kind = 6) : callS P x = stepP (dgrantP P (showsH x.who) (showsI x.who x.id) x.s x.t) P (dgrantS P (showsH x.who) (showsI x.who x.id) x.s x.t) := by
  simp [callS, callA, callQ, k]
theorem call_e11 (P : PDep) {x : TurnD} (k : x.kind = 11) : callS P x = stepP (dfeedP P x.s x.a x.t) P (dfeedS P x.s x.a x.t) := by
  simp [callS, callA, callQ, k]
theorem call_e12 (P : PDep) {x : TurnD} (k : x.kind = 12) : callS P x = stepP (if x.a < 0 then 1 else 0) P { P with clock := tickF P.clock x.a } := by
  simp [callS, callA, callQ, k]
/-- A turn keeps what the law needs, but for g's grants to h. -/
theorem callS_ok {P : PDep} (ok : BOk P) (x : TurnD) (hg : x.kind = 6 → ((showsH x.who).toList == kG.toList) = true → (x.t.toList == kH.toList) = false) : BOk (callS P x) := by
  by_cases k0 : (x.kind < 1 ∨ (7 ≤ x.kind ∧ x.kind ≤ 10)) ∨ 13 ≤ x.kind
  · rw [call_e0 P k0]; exact ok
  by_cases k1 : x.kind = 1
  · rw [call_e1 P k1]
    refine stepP_if (fun _ => ⟨fun h hm hn r hr => ?_, fun h hm t ht => ?_⟩) ok
    · rcases List.mem_append.1 hm with h1 | h1
      · exact ok.g h h1 hn r hr
      · obtain rfl := List.mem_singleton.1 h1
        cases hr
    · rcases List.mem_append.1 hm with h1 | h1
      · exact ok.r h h1 t ht
      · obtain rfl := List.mem_singleton.1 h1
        cases ht
  by_cases k2 : x.kind = 2
  · rw [call_e2 P k2]
    refine stepP_if (fun hE => ?_) ok
    have hr := (mintP_role hE).2
    refine ok.upd fun y hy _ => ⟨rfl, fun r hr => Or.inl hr, fun t ht => ?_⟩
    rcases List.mem_append.1 ht with h1 | h1
    · exact ok.r y hy t h1
    · obtain rfl := List.mem_singleton.1 h1
      exact hr
  by_cases k3 : x.kind = 3
  · rw [call_e3 P k3]
    refine stepP_if (fun hE => ?_) ok
    refine ok.upd fun y hy _ => ⟨rfl, fun r hr => Or.inl hr, fun t ht => ?_⟩
    rcases mem_updF _ _ _ ht with h1 | ⟨t', h1, rfl⟩
    · exact ok.r y hy t h1
    · exact ok.r y hy t' h1
  by_cases k4 : x.kind = 4
  · rw [call_e4 P k4]
    exact stepP_if (fun hE => ok.upd fun y hy _ => ⟨rfl, fun r hr => Or.inl hr, fun t ht => ok.r y hy t ht⟩) ok
  by_cases k5 : x.kind = 5
  · rw [call_e5 P k5]
    exact stepP_if (fun hE => BOk.upd (P := { P with yanks := P.yanks + 1 }) ⟨ok.g, ok.r⟩ fun y hy _ => ⟨rfl, fun r hr => Or.inl hr, fun t ht => ok.r y hy t ht⟩) ok
  by_cases k6 : x.kind = 6
  · rw [call_e6 P k6]
    refine stepP_if (fun hE => ok.upd fun y hy hn => ⟨rfl, fun r hr => ?_, fun t ht => ok.r y hy t ht⟩) ok
    rcases List.mem_append.1 hr with h1 | h1
    · exact Or.inl h1
    · obtain rfl := List.mem_singleton.1 h1
      refine Or.inr fun hyg => hg k6 ?_
      have e : y.name.toList = (showsH x.who).toList := by simpa using hn
      rw [← e]
      exact hyg
  by_cases k11 : x.kind = 11
  · rw [call_e11 P k11]
    exact stepP_if (fun hE => ⟨ok.g, ok.r⟩) ok
  have k12 : x.kind = 12 := by omega
  rw [call_e12 P k12]
  exact stepP_if (fun hE => ⟨ok.g, ok.r⟩) ok

/-- What g does is blurred. -/
theorem callS_g {P : PDep} (ok : BOk P) (x : TurnD) (hw : showsH x.who = kG) (hc : 0 ≤ x.kind ∧ x.kind ≤ 10) : blurP (callS P x) = blurP P := by
  have hgg : (kG.toList == kG.toList) = true := beq_self_eq_true _
  have hne : kG.toList ≠ [] := by simp [ByteArray.toList_eq]
  by_cases k0 : (x.kind < 1 ∨ (7 ≤ x.kind ∧ x.kind ≤ 10)) ∨ 13 ≤ x.kind
  · rw [call_e0 P k0]
  by_cases k1 : x.kind = 1
  · rw [call_e1 P k1, hw]
    exact stepP_if (R := fun Q => blurP Q = blurP P) (fun hE => absurd (found_root hE) (held_role ok _ hne)) rfl
  by_cases k2 : x.kind = 2
  · rw [call_e2 P k2, hw]
    refine stepP_if (R := fun Q => blurP Q = blurP P) (fun hE => ?_) rfl
    have hs := manage_same (mintP_role hE).1 (held_role ok _ hne)
    exact blur_upd_g P _ _ (fun _ => rfl) (by rw [BEq.comm]; exact hs)
  by_cases k3 : x.kind = 3
  · rw [call_e3 P k3, hw]
    refine stepP_if (R := fun Q => blurP Q = blurP P) (fun hE => ?_) rfl
    have hs := manage_same (revokeP_m hE) (held_role ok _ hne)
    exact blur_upd_g P _ _ (fun _ => rfl) (by rw [BEq.comm]; exact hs)
  by_cases k4 : x.kind = 4
  · rw [call_e4 P k4, hw]
    exact stepP_if (R := fun Q => blurP Q = blurP P) (fun hE => blur_upd_g P _ _ (fun _ => rfl) hgg) rfl
  by_cases k5 : x.kind = 5
  · rw [call_e5 P k5, hw]
    exact stepP_if (R := fun Q => blurP Q = blurP P) (fun hE => blur_upd_g { P with yanks := P.yanks + 1 } _ _ (fun _ => rfl) hgg) rfl
  have k6 : x.kind = 6 := by omega
  rw [call_e6 P k6, hw]
  exact stepP_if (R := fun Q => blurP Q = blurP P) (fun hE => blur_upd_g P _ _ (fun _ => rfl) hgg) rfl

theorem stepP_blur {E : Int} {P Q Q' : PDep} (h : blurP Q = blurP Q') : blurP (stepP E P Q) = blurP (stepP E (blurP P) Q') := by
  unfold stepP
  split
  · exact h
  · exact (blurP_twice P).symm

theorem stepP_g {E : Int} {P Q : PDep} (h : blurP Q = blurP P) : blurP (stepP E P Q) = blurP P := by
  unfold stepP
  split
  · exact h
  · rfl

theorem found_blur {P : PDep} {house : ByteArray} (hn : (house.toList == kG.toList) = false) (id : Int) (s : ByteArray) : foundP (heldF (blurP P) house id) (wordF s) (hseF (blurP P).hs s).isSome (blurP P).hs.length = foundP (heldF P house id) (wordF s) (hseF P.hs s).isSome P.hs.length := by
  rw [held_blur hn]
  simp only [blurP]
  rw [hse_blur, Option.isSome_map, List.length_map]

theorem blur_hse {P : PDep} {nm : ByteArray} (hn : (nm.toList == kG.toList) = false) : hseF (blurP P).hs nm = hseF P.hs nm := hse_blur_not hn

theorem publish_blur {P : PDep} {house : ByteArray} (hn : (house.toList == kG.toList) = false) (id : Int) (s : ByteArray) (v : Int) (t : ByteArray) : dpublishP (blurP P) house id s v t = dpublishP P house id s v t := by
  unfold dpublishP
  rw [held_blur hn, blur_hse hn]

theorem yank_blur {P : PDep} {house : ByteArray} (hn : (house.toList == kG.toList) = false) (id : Int) (s : ByteArray) (v : Int) : dyankP (blurP P) house id s v = dyankP P house id s v := by
  unfold dyankP
  rw [held_blur hn, blur_hse hn]

theorem grant_blur {P : PDep} {house : ByteArray} (hn : (house.toList == kG.toList) = false) (id : Int) (s t : ByteArray) : dgrantP (blurP P) house id s t = dgrantP P house id s t := by
  unfold dgrantP
  rw [held_blur hn, blur_hse hn]

theorem mint_blur {P : PDep} {of : ByteArray} (hn : (of.toList == kG.toList) = false) (m a b c : Int) : mintP m (blurP P).hs of a b c = mintP m P.hs of a b c := by
  unfold mintP
  rw [blur_hse hn]

theorem revoke_blur {P : PDep} {of : ByteArray} (hn : (of.toList == kG.toList) = false) (m a : Int) : revokeP m (blurP P).hs of a = revokeP m P.hs of a := by
  unfold revokeP
  rw [blur_hse hn]

/-- What others do hangs on the blurred depot alone. -/
theorem callS_blur (P : PDep) (x : TurnD) (hn : (x.kind = 11 ∨ 12 ≤ x.kind ∨ x.kind < 0) ∨ ((showsH x.who).toList == kG.toList) = false) : blurP (callS P x) = blurP (callS (blurP P) x) := by
  by_cases k0 : (x.kind < 1 ∨ (7 ≤ x.kind ∧ x.kind ≤ 10)) ∨ 13 ≤ x.kind
  · rw [call_e0 P k0, call_e0 _ k0, blurP_twice]
  by_cases k11 : x.kind = 11
  · rw [call_e11 P k11, call_e11 _ k11]
    exact stepP_blur (by unfold dfeedS blurP; simp only; rw [blurs_twice])
  by_cases k12 : x.kind = 12
  · rw [call_e12 P k12, call_e12 _ k12]
    exact stepP_blur (by unfold blurP; simp only; rw [blurs_twice])
  have hn' := hn.resolve_left (by omega)
  by_cases k1 : x.kind = 1
  · rw [call_e1 P k1, call_e1 _ k1, found_blur hn']
    exact stepP_blur (by unfold foundS blurP; simp only [List.map_append]; rw [blurs_twice])
  by_cases k2 : x.kind = 2
  · rw [call_e2 P k2, call_e2 _ k2, held_blur hn']
    cases ho : (x.of.toList == kG.toList) with
    | false =>
      rw [mint_blur ho]
      exact stepP_blur (upd_both P _ _ fun _ => rfl)
    | true =>
      have hg : ∀ Q : PDep, blurP (mintS Q x.of (showsI x.who x.id) ⟨x.b, x.a, x.c, false⟩) = blurP Q := fun Q => by unfold mintS; exact blur_upd_g Q _ _ (fun _ => rfl) ho
      exact (stepP_g (hg P)).trans ((blurP_twice P).symm.trans (stepP_g (hg (blurP P))).symm)
  by_cases k3 : x.kind = 3
  · rw [call_e3 P k3, call_e3 _ k3, held_blur hn']
    cases ho : (x.of.toList == kG.toList) with
    | false =>
      rw [revoke_blur ho]
      exact stepP_blur (upd_both P _ _ fun _ => rfl)
    | true =>
      have hg : ∀ Q : PDep, blurP (revokeS Q x.of (showsI x.who x.id) x.a) = blurP Q := fun Q => by unfold revokeS; exact blur_upd_g Q _ _ (fun _ => rfl) ho
      exact (stepP_g (hg P)).trans ((blurP_twice P).symm.trans (stepP_g (hg (blurP P))).symm)
  by_cases k4 : x.kind = 4
  · rw [call_e4 P k4, call_e4 _ k4, publish_blur hn']
    exact stepP_blur (upd_both P _ _ fun _ => rfl)
  by_cases k5 : x.kind = 5
  · rw [call_e5 P k5, call_e5 _ k5, yank_blur hn']
    exact stepP_blur (upd_both { P with yanks := P.yanks + 1 } _ _ fun _ => rfl)
  have k6 : x.kind = 6 := by omega
  rw [call_e6 P k6, call_e6 _ k6, grant_blur hn']
  exact stepP_blur (upd_both P _ _ fun _ => rfl)

theorem place_blur (P : PDep) (nm : ByteArray) : placeF (blurP P) nm = ((placeF P nm).1.map blur, (placeF P nm).2) := by
  unfold placeF
  split
  · rw [show (blurP P).hs = P.hs.map blur from rfl, hse_blur]
    cases hseF P.hs (splitF nm).1 with
    | none => rfl
    | some h => rfl
  · rfl

theorem place_mem {P : PDep} {nm : ByteArray} {h : PHse} {l : ByteArray} (hp : placeF P nm = (some h, l)) : h ∈ P.hs := by
  unfold placeF at hp
  split at hp
  · cases hx : hseF P.hs (splitF nm).1 with
    | none => rw [hx] at hp; cases hp
    | some y =>
      rw [hx] at hp
      simp only [Prod.mk.injEq, Option.some.injEq] at hp
      exact hp.1 ▸ (hse_name hx).1
  · cases hp

/-- Who holds of h sees nothing of g's, blurred or not. -/
theorem sees_blur {P : PDep} (ok : BOk P) {nm : ByteArray} {h : PHse} {l : ByteArray} (hp : placeF P nm = (some h, l)) :
    blur h = h ∨ ((((h.name.toList == kH.toList) || grtF h.grs l kH) && phas h.eds l) = false ∧ ((((blur h).name.toList == kH.toList) || grtF (blur h).grs l kH) && phas (blur h).eds l) = false) := by
  cases hn : (h.name.toList == kG.toList) with
  | false => exact Or.inl (blur_not hn)
  | true =>
    have e : blur h = ⟨h.name, [], [], [], []⟩ := if_pos hn
    have en : h.name.toList = kG.toList := by simpa using hn
    have h1 : (h.name.toList == kH.toList) = false := by rw [en]; exact kHG.2.1
    have h2 : grtF h.grs l kH = false := by
      unfold grtF
      rw [List.any_eq_false]
      intro r hr
      unfold grtP
      rw [ok.g h (place_mem hp) hn r hr]
      simp
    refine Or.inr ⟨by rw [h1, h2]; rfl, ?_⟩
    rw [e]
    simp only [h1]
    rfl

theorem show_blur {P : PDep} (ok : BOk P) (id : Int) (nm : ByteArray) : dshowP (blurP P) kH id nm = dshowP P kH id nm := by
  unfold dshowP
  rw [held_blur kHG.1, place_blur]
  split
  · rfl
  · split
    · rfl
    · rcases hp : placeF P nm with ⟨_ | h, l⟩
      · rfl
      · simp only [Option.map_some]
        rcases sees_blur ok hp with e | ⟨e1, e2⟩
        · rw [e]
        · rw [e1, e2]
          rfl

theorem cand_blur {P : PDep} (ok : BOk P) (ask : List WantD) (nm : ByteArray) (v : Int) : candD (blurP P) kH ask nm v = candD P kH ask nm v := by
  unfold candD
  rw [place_blur]
  rcases hp : placeF P nm with ⟨_ | h, l⟩
  · rfl
  · simp only [Option.map_some]
    rcases sees_blur ok hp with e | ⟨e1, e2⟩
    · rw [e]
    · rw [e1, e2]
      rfl

theorem candW_blur {P : PDep} (ok : BOk P) (ask : List WantD) : candW (blurP P) kH ask = candW P kH ask := by
  funext nm v
  unfold candW
  rw [cand_blur ok]

theorem whose_blur (P : PDep) (nm : ByteArray) : whoseF (blurP P) nm = whoseF P nm := by
  unfold whoseF
  rw [place_blur]
  cases (placeF P nm).1 with
  | none => rfl
  | some h => exact blur_name h

theorem written_blur (P : PDep) (l : List Pk) : writtenP (blurP P) l = writtenP P l := by
  unfold writtenP
  have e : (fun (t : ByteArray) (p : Pk) => t ++ pieceP (blurP P) p) = fun t p => t ++ pieceP P p := by
    funext t p
    unfold pieceP
    rw [whose_blur]
  rw [e]

theorem resolve_blur {P : PDep} (ok : BOk P) (id : Int) (text : ByteArray) (b : Int) : dresolveP (blurP P) kH id text b = dresolveP P kH id text b := by
  unfold dresolveP resolveP
  rw [held_blur kHG.1]
  split
  · rfl
  · cases wantsF text with
    | none => rfl
    | some ask =>
      simp only
      rw [candW_blur ok, written_blur]

/-- What holders of h are answered, and what all are, hangs on the blurred depot alone. -/
theorem callA_blur {P : PDep} (ok : BOk P) (x : TurnD) (hn : (x.kind = 11 ∨ 12 ≤ x.kind ∨ x.kind < 0) ∨ showsH x.who = kH) : callA P x = callA (blurP P) x := by
  have hHG := kHG.1
  by_cases kc : x.kind = 11 ∨ 12 ≤ x.kind ∨ x.kind < 0
  · by_cases k11 : x.kind = 11
    · have e : ∀ Q, callA Q x = (0, ⟨#[]⟩, dfeedP Q x.s x.a x.t) := fun Q => by simp [callA, k11]
      rw [e, e]
      rfl
    by_cases k12 : x.kind = 12
    · have e : ∀ Q, callA Q x = (0, ⟨#[]⟩, if x.a < 0 then 1 else 0) := fun Q => by simp [callA, k12]
      rw [e, e]
    have e : ∀ Q, callA Q x = (Q.clock, ⟨#[]⟩, 0) := fun Q => by
      unfold callA
      simp only
      rw [if_neg (by omega), if_neg (by omega), if_neg (by omega), if_neg (by omega), if_neg (by omega), if_neg (by omega), if_neg (by omega), if_neg (by omega), if_neg (by omega), if_neg (by omega), if_neg (by omega), if_neg k11, if_neg k12]
    rw [e, e]
    rfl
  have hw := hn.resolve_left kc
  have hne : kH.toList ≠ [] := by simp [ByteArray.toList_eq]
  unfold callA
  simp only
  have eb : (hseF (blurP P).hs x.s).isSome = (hseF P.hs x.s).isSome := by simp only [blurP]; rw [hse_blur, Option.isSome_map]
  have el : (blurP P).hs.length = P.hs.length := by simp [blurP]
  rw [hw, held_blur hHG, eb, el, publish_blur hHG, yank_blur hHG, grant_blur hHG, show_blur ok, resolve_blur ok]
  have e1 : mintP (manageF (heldF P kH (showsI x.who x.id)) (kH.toList == x.of.toList)) (blurP P).hs x.of x.a x.b x.c = mintP (manageF (heldF P kH (showsI x.who x.id)) (kH.toList == x.of.toList)) P.hs x.of x.a x.b x.c := by
    cases ho : (x.of.toList == kG.toList) with
    | false => rw [mint_blur ho]
    | true =>
      have eo : x.of.toList = kG.toList := by simpa using ho
      have hm : manageF (heldF P kH (showsI x.who x.id)) (kH.toList == x.of.toList) ≠ 0 := by
        intro h0
        have := manage_same h0 (held_role ok _ hne)
        rw [eo, hHG] at this
        cases this
      unfold mintP
      rw [if_pos (by simpa using hm), if_pos (by simpa using hm)]
  have e2 : revokeP (manageF (heldF P kH (showsI x.who x.id)) (kH.toList == x.of.toList)) (blurP P).hs x.of x.a = revokeP (manageF (heldF P kH (showsI x.who x.id)) (kH.toList == x.of.toList)) P.hs x.of x.a := by
    cases ho : (x.of.toList == kG.toList) with
    | false => rw [revoke_blur ho]
    | true =>
      have eo : x.of.toList = kG.toList := by simpa using ho
      have hm : manageF (heldF P kH (showsI x.who x.id)) (kH.toList == x.of.toList) ≠ 0 := by
        intro h0
        have := manage_same h0 (held_role ok _ hne)
        rw [eo, hHG] at this
        cases this
      unfold revokeP
      rw [if_pos (by simpa using hm), if_pos (by simpa using hm)]
  have e3 : ∀ id, dlogP (blurP P) kH id = dlogP P kH id := by
    intro id
    unfold dlogP
    rw [held_blur hHG, blur_hse hHG]
  have e4 : ∀ id, dheadP (blurP P) kH id = dheadP P kH id := by
    intro id
    unfold dheadP
    rw [held_blur hHG, blur_hse hHG]
  have e5 : dfeedP (blurP P) x.s x.a x.t = dfeedP P x.s x.a x.t := rfl
  have e6 : (blurP P).clock = P.clock := rfl
  rw [e1, e2, e3, e4, e5, e6]

end Go.Proofs.YtgcldedkempjhaaDoor
