/-
  depot.Depot: Mint, Revoke.
-/
import Derived.Test.YtdddbinlkljbcaaDepFound
namespace Go.Proofs.Ytdddbinlkljbcaa
open Go.RowKit

theorem hsesCells_set (hs : List Hse) (i : Nat) (hi : i < hs.length) (h' : Hse) (hn : h'.name = hs[i].name) : hsesCells (hs.set i h') = (hsesCells hs).set (i * 2 + 1) (.slice h'.ao h'.toks.length h'.cap) := by
  induction hs generalizing i with
  | nil => simp at hi
  | cons t ts ih =>
    have hl : t.cells.length = 2 := rfl
    cases i with
    | zero =>
      show h'.cells ++ hsesCells ts = (t.cells ++ hsesCells ts).set (0 * 2 + 1) _
      rw [List.set_append_left _ _ (by rw [hl]; omega)]
      have hn' : h'.name = t.name := hn
      simp [Hse.cells, hn']
    | succ i =>
      have hi' : i < ts.length := by simpa using hi
      show t.cells ++ hsesCells (ts.set i h') = (t.cells ++ hsesCells ts).set ((i + 1) * 2 + 1) _
      rw [List.set_append_right _ _ (by rw [hl]; omega), hl, ih i hi' (by simpa using hn), show (i + 1) * 2 + 1 - 2 = i * 2 + 1 from by omega]

theorem hsesCells_same (hs : List Hse) (i : Nat) (hi : i < hs.length) (h' : Hse) (hn : h'.cells = hs[i].cells) : hsesCells (hs.set i h') = hsesCells hs := by
  induction hs generalizing i with
  | nil => simp at hi
  | cons t ts ih =>
    cases i with
    | zero =>
      show h'.cells ++ hsesCells ts = t.cells ++ hsesCells ts
      have hn' : h'.cells = t.cells := hn
      rw [hn']
    | succ i =>
      show t.cells ++ hsesCells (ts.set i h') = t.cells ++ hsesCells ts
      rw [ih i (by simpa using hi) (by simpa using hn)]

theorem ownsRow_setCell_other {w : World} {base : Nat} {e : TypeId} {size n c m : Nat} {ao : Option Addr} {xs : List Value} (h : w.ownsRow base e size (.slice ao n c) m xs) {a : Addr} (ha : ¬ blockOf ao a.block) (u : Value) : (w.setCell a u).ownsRow base e size (.slice ao n c) m xs :=
  ownsRow_keep h fun _ hk => Below.heap_setCell _ _ _ _ (fun e => ha (e ▸ hk))

section
variable {w w1 : World} {db : Nat} {root clock : Int} {ho : Option Addr} {hcap : Nat} {hs : List Hse}

theorem DepAt.ring_db (h : DepAt w db root clock ho hcap hs) (i : Nat) (hi : i < hs.length) : ¬ blockOf hs[i].ao db := fun hb => by have := (blockOf_lt (h.ring i hi) hb).1; omega

theorem DepAt.pushTok (h : DepAt w db root clock ho hcap hs) (i : Nat) (hi : i < hs.length) {g g' cap' : Nat} {t : Tok} (hg : ho = some ⟨g, 0, none⟩) (ht : hs[i].toks.length < 8)
    (hchg : Chg (blockOf hs[i].ao) w w1) (hown : w1.ownsRow (db + 1) 104 4 (.slice (some ⟨g', 0, none⟩) (hs[i].toks.length + 1) cap') (hs[i].toks.length + 1) (toksCells hs[i].toks ++ t.cells))
    (hg' : blockOf hs[i].ao g' ∨ w.heap.size ≤ g') :
    DepAt (w1.setCell ⟨g, i * 2 + 1, none⟩ (.slice (some ⟨g', 0, none⟩) (hs[i].toks.length + 1) cap')) db root clock ho hcap (hs.set i ⟨hs[i].name, hs[i].toks ++ [t], some ⟨g', 0, none⟩, cap'⟩) := by
  have hk : w1.heap[db]? = w.heap[db]? := hchg.block db h.lt (h.ring_db i hi)
  have hbg : blockOf ho g := ⟨_, hg, rfl⟩
  have hgdb : db + 1 ≤ g := (blockOf_lt h.own hbg).1
  have hown1 : w1.ownsRow (db + 1) 82 2 (.slice ho hs.length hcap) hs.length (hsesCells hs) :=
    ownsRow_keep h.own (fun k hb => hchg.block k (blockOf_lt h.own hb).2 (fun hb' => types_apart h i hi hb' hb))
  have hgg : g ≠ g' := by
    rintro rfl
    obtain ⟨c1, e1⟩ := blockOf_heap hown1 hbg
    obtain ⟨c2, e2⟩ := blockOf_heap hown ⟨_, rfl, rfl⟩
    rw [e1] at e2
    injection e2 with e
    injection e with _ e _
    exact absurd e (by decide)
  refine ⟨?_, ?_, ?_, ?_, ?_, ?_, ?_, ?_, by simpa using h.len, ?_⟩
  · rw [cell_setCell_ne (by omega)]; exact (World.cell?_of_block (a := ⟨db, 0, none⟩) hk).trans h.c0
  · rw [cell_setCell_ne (by omega)]; exact (World.cell?_of_block (a := ⟨db, 1, none⟩) hk).trans h.c1
  · rw [cell_setCell_ne (by omega), List.length_set]; exact (World.cell?_of_block (a := ⟨db, 2, none⟩) hk).trans h.c2
  · rw [frozen_setCell]; exact (World.frozen?_of_block (a := ⟨db, 1, none⟩) hk).trans h.f1
  · rw [frozen_setCell]; exact (World.frozen?_of_block (a := ⟨db, 2, none⟩) hk).trans h.f2
  · rw [List.length_set, hsesCells_set hs i hi ⟨hs[i].name, hs[i].toks ++ [t], some ⟨g', 0, none⟩, cap'⟩ rfl]
    simp only [List.length_append, List.length_singleton]
    subst hg
    exact ownsRow_set hown1 _ _
  · intro j hj
    by_cases hij : i = j
    · subst hij
      rw [List.getElem_set_self]
      have hd : toksCells (hs[i].toks ++ [t]) = toksCells hs[i].toks ++ t.cells := by simp [toksCells]
      simp only [hd, List.length_append, List.length_singleton]
      exact ownsRow_setCell_other hown (fun ⟨a, e, eb⟩ => by injection e with e; subst e; exact hgg eb.symm) _
    · have hj' : j < hs.length := by simpa using hj
      rw [List.getElem_set_ne hij]
      refine ownsRow_setCell_other (ownsRow_keep (h.ring j hj') (fun k hb => hchg.block k (blockOf_lt (h.ring j hj') hb).2 (fun hb' => h.sep i j hi hj' hij k hb' hb))) ?_ _
      exact fun hb => types_apart h j hj' hb hbg
  · have key : ∀ j, (hj : j < hs.length) → j ≠ i → ¬ blockOf hs[j].ao g' := by
      intro j hj hne hb
      rcases hg' with hb' | hge
      · exact h.sep j i hj hi hne g' hb hb'
      · have := (blockOf_lt (h.ring j hj) hb).2; omega
    intro a b ha hb' hne k h1 h2
    have ha' : a < hs.length := by simpa using ha
    have hb'' : b < hs.length := by simpa using hb'
    by_cases hia : i = a
    · subst hia
      rw [List.getElem_set_self] at h1
      rw [List.getElem_set_ne hne] at h2
      obtain ⟨x, e, ek⟩ := h1
      injection e with e
      subst e
      subst ek
      exact key b hb'' (Ne.symm hne) h2
    · rw [List.getElem_set_ne hia] at h1
      by_cases hib : i = b
      · subst hib
        rw [List.getElem_set_self] at h2
        obtain ⟨x, e, ek⟩ := h2
        injection e with e
        subst e
        subst ek
        exact key a ha' hne h1
      · rw [List.getElem_set_ne hib] at h2
        exact h.sep a b ha' hb'' hne k h1 h2
  · intro j hj
    by_cases hij : i = j
    · subst hij
      rw [List.getElem_set_self]
      simp; omega
    · rw [List.getElem_set_ne hij]
      exact h.tlen j (by simpa using hj)

theorem DepAt.goneTok (h : DepAt w db root clock ho hcap hs) (i : Nat) (hi : i < hs.length) {g j : Nat} (hj : j < hs[i].toks.length) (hg : hs[i].ao = some ⟨g, 0, none⟩) :
    DepAt (w.setCell ⟨g, j * 4 + 3, none⟩ (.bool true)) db root clock ho hcap (hs.set i { hs[i] with toks := hs[i].toks.set j { hs[i].toks[j] with gone := true } }) := by
  have hbg : blockOf hs[i].ao g := ⟨_, hg, rfl⟩
  have hgdb : db + 1 ≤ g := (blockOf_lt (h.ring i hi) hbg).1
  refine ⟨?_, ?_, ?_, ?_, ?_, ?_, ?_, ?_, by simpa using h.len, ?_⟩
  · rw [cell_setCell_ne (by omega)]; exact h.c0
  · rw [cell_setCell_ne (by omega)]; exact h.c1
  · rw [cell_setCell_ne (by omega), List.length_set]; exact h.c2
  · rw [frozen_setCell]; exact h.f1
  · rw [frozen_setCell]; exact h.f2
  · rw [List.length_set, hsesCells_same hs i hi _ (by simp [Hse.cells])]
    exact ownsRow_setCell_other h.own (types_apart h i hi hbg) _
  · intro a ha
    by_cases hia : i = a
    · subst hia
      rw [List.getElem_set_self]
      simp only [List.length_set]
      rw [toksCells_revoke _ _ hj]
      have hri := h.ring i hi
      simp only [hg] at hri ⊢
      exact ownsRow_set hri _ _
    · have ha' : a < hs.length := by simpa using ha
      rw [List.getElem_set_ne hia]
      exact ownsRow_setCell_other (h.ring a ha') (h.sep i a hi ha' hia g hbg) _
  · intro a b ha hb hne k h1 h2
    have ha' : a < hs.length := by simpa using ha
    have hb' : b < hs.length := by simpa using hb
    have e1 : blockOf hs[a].ao k := by
      by_cases hia : i = a
      · subst hia; rw [List.getElem_set_self] at h1; exact h1
      · rw [List.getElem_set_ne hia] at h1; exact h1
    have e2 : blockOf hs[b].ao k := by
      by_cases hib : i = b
      · subst hib; rw [List.getElem_set_self] at h2; exact h2
      · rw [List.getElem_set_ne hib] at h2; exact h2
    exact h.sep a b ha' hb' hne k e1 e2
  · intro a ha
    by_cases hia : i = a
    · subst hia
      rw [List.getElem_set_self]
      simpa using h.tlen i hi
    · rw [List.getElem_set_ne hia]
      exact h.tlen a (by simpa using ha)

end

/-- The first house of this name. -/
def FirstH (hs : List Hse) (of : ByteArray) (i : Nat) (hi : i < hs.length) : Prop := hs[i].name.toList = of.toList ∧ ∀ j, (hj : j < hs.length) → j < i → hs[j].name.toList ≠ of.toList

def MintR (E : Int) (of : ByteArray) (t : Tok) (hs hs' : List Hse) : Prop :=
  (E ≠ 0 ∧ hs' = hs) ∨ (E = 0 ∧ ∃ i, ∃ hi : i < hs.length, FirstH hs of i hi ∧ ∃ h, h.name = hs[i].name ∧ h.toks = hs[i].toks ++ [t] ∧ hs' = hs.set i h)

def mintP (m : Int) (hs : List Hse) (of : ByteArray) (role fresh till : Int) : Int :=
  if m != 0 then m else match hseF hs of with
  | none => 7
  | some h => mintT h.toks role fresh till

theorem mintT_room {ts : List Tok} {role fresh till : Int} (h : mintT ts role fresh till = 0) : ts.length < 8 := by
  unfold mintT at h
  split at h
  · cases h
  · split at h
    · cases h
    · split at h
      · cases h
      · omega

set_option maxHeartbeats 800000 in
set_option maxRecDepth 100000 in
theorem mint_any (db : Nat) (root clock : Int) (ho : Option Addr) (hcap : Nat) (hs : List Hse) (house : ByteArray) (id : Int) (of : ByteArray) (role fresh till : Int) (w : World) (hr : DepAt w db root clock ho hcap hs) (E : Int)
    (hE : E = mintP (manageF (heldF root clock hs house id) (house.toList == of.toList)) hs of role fresh till) :
    Calls Try.prog 14 #[.pointer (some ⟨db, 0, none⟩), .string house, .int .i64 id, .string of, .int .i64 role, .int .i64 fresh, .int .i64 till] w fun e w' =>
      e = .returned (.int .i64 E) ∧ DepStep w w' db root clock ho hs (MintR E of ⟨fresh, role, till, false⟩ hs) := by
  have HRE := hide (show ∀ E, E ≠ 0 → MintR E of ⟨fresh, role, till, false⟩ hs hs from fun E h => Or.inl ⟨h, rfl⟩)
  have Hm := hide (mayManage_any db root clock ho hcap hs house id of w hr)
  have HE := hide hE
  clear hE
  generalize manageF (heldF root clock hs house id) (house.toList == of.toList) = m at *
  rcases hse_cases hs of with ⟨i, hi, h1, h2, h3⟩ | ⟨h1, h3⟩
  · have Hf := hide (fun W h => depFind_some db root clock ho hcap hs of W h i hi h1 h2)
    have H3 := hide h3
    have HF := hide (show FirstH hs of i hi from ⟨h1, h2⟩)
    clear h1 h2 h3
    go_enter Try.func14, Try.ntmps14
    go_wp2_with fail
    refine Hm.out.mono ?_
    rintro e w1 ⟨rfl, hb⟩
    have hr1 := hr.below hb
    have c2 := hr1.c2
    have htl := hr1.tlen i hi
    obtain ⟨g, hgo, hg, hdg, d0, hring, hnb⟩ := hr1.house i hi
    subst hgo
    go_wp2_with fail
    · go_ret
      exact DepStep.err (R := fun E => MintR E of ⟨fresh, role, till, false⟩) hr hb (by rw [HE.out]; simp [mintP, *]) (by simpa using ‹(m != 0) = true›) HRE.out
    · have HE2 := hide (show E = mintT hs[i].toks role fresh till by rw [HE.out, mintP, H3.out]; simp [*])
      refine (Hf.out _ hr1).mono ?_
      rintro e w3 ⟨rfl, hh⟩
      subst hh
      go_wp2_with fail
      refine (ringMint_any (db + 1) g (i * 2 + 1) hs[i].ao hs[i].cap hs[i].toks role fresh till _ hring (by omega) hnb (by omega) E HE2.out).mono ?_
      rintro e w4 ⟨rfl, hst⟩
      go_wp2_with fail
      go_ret
      refine ⟨rfl, DepStep.behind hb ?_⟩
      rcases hst with ⟨he, rfl⟩ | ⟨he, g', cap', w5, q1, q2, q3, rfl⟩
      · exact DepStep.ofBelow hr1 (Below.refl _ _) (HRE.out _ he)
      · refine ⟨_, _, _, hr1.pushTok i hi rfl (mintT_room (HE2.out ▸ he)) q2 q1 q3, Or.inr ⟨he, i, hi, HF.out, ⟨hs[i].name, hs[i].toks ++ [⟨fresh, role, till, false⟩], some ⟨g', 0, none⟩, cap'⟩, rfl, rfl, rfl⟩, ?_, ?_⟩
        · exact (q2.mono (S' := DepFoot db (some ⟨g, 0, none⟩) hs) (fun _ h => Or.inr (Or.inr ⟨i, hi, h⟩))).setCell (p := ⟨g, i * 2 + 1, none⟩) (Or.inl (Or.inr (Or.inl ⟨⟨g, 0, none⟩, rfl, rfl⟩))) _
        · intro k hk
          rcases hk with rfl | hk | ⟨j, hj, hk⟩
          · exact Or.inl (Or.inl rfl)
          · exact Or.inl (Or.inr (Or.inl hk))
          · have hj' : j < hs.length := by simpa using hj
            by_cases hij : i = j
            · subst hij
              rw [List.getElem_set_self] at hk
              obtain ⟨x, e, ek⟩ := hk
              injection e with e
              subst e
              subst ek
              exact q3.elim (fun h => Or.inl (Or.inr (Or.inr ⟨i, hi, h⟩))) Or.inr
            · rw [List.getElem_set_ne hij] at hk
              exact Or.inl (Or.inr (Or.inr ⟨j, hj', hk⟩))
  · have Hf := hide (fun W h => depFind_none db root clock ho hcap hs of W h h1)
    have H3 := hide h3
    clear h1 h3
    go_enter Try.func14, Try.ntmps14
    go_wp2_with fail
    refine Hm.out.mono ?_
    rintro e w1 ⟨rfl, hb⟩
    have hr1 := hr.below hb
    go_wp2_with fail
    · go_ret
      exact DepStep.err (R := fun E => MintR E of ⟨fresh, role, till, false⟩) hr hb (by rw [HE.out]; simp [mintP, *]) (by simpa using ‹(m != 0) = true›) HRE.out
    · refine (Hf.out _ hr1).mono ?_
      rintro e w3 ⟨rfl, hh⟩
      subst hh
      go_wp2_with fail
      go_ret
      exact DepStep.err (R := fun E => MintR E of ⟨fresh, role, till, false⟩) hr hb (by rw [HE.out, mintP, H3.out]; simp [*]) (by decide) HRE.out

/-- The first token of this number. -/
def FirstT (ts : List Tok) (n : Int) (i : Nat) (hi : i < ts.length) : Prop := ts[i].num = n ∧ ∀ j, (hj : j < ts.length) → j < i → ts[j].num ≠ n

def RevokeR (E : Int) (of : ByteArray) (old : Int) (hs hs' : List Hse) : Prop :=
  (E ≠ 0 ∧ hs' = hs) ∨ (E = 0 ∧ ∃ i, ∃ hi : i < hs.length, FirstH hs of i hi ∧ ∃ j, ∃ hj : j < hs[i].toks.length, FirstT hs[i].toks old j hj ∧
    ∃ h, h.name = hs[i].name ∧ h.toks = hs[i].toks.set j { hs[i].toks[j] with gone := true } ∧ hs' = hs.set i h)

def revokeP (m : Int) (hs : List Hse) (of : ByteArray) (old : Int) : Int :=
  if m != 0 then m else match hseF hs of with
  | none => 7
  | some h => revokeT h.toks old

set_option maxHeartbeats 800000 in
set_option maxRecDepth 100000 in
theorem revoke_any (db : Nat) (root clock : Int) (ho : Option Addr) (hcap : Nat) (hs : List Hse) (house : ByteArray) (id : Int) (of : ByteArray) (old : Int) (w : World) (hr : DepAt w db root clock ho hcap hs) (E : Int)
    (hE : E = revokeP (manageF (heldF root clock hs house id) (house.toList == of.toList)) hs of old) :
    Calls Try.prog 37 #[.pointer (some ⟨db, 0, none⟩), .string house, .int .i64 id, .string of, .int .i64 old] w fun e w' =>
      e = .returned (.int .i64 E) ∧ DepStep w w' db root clock ho hs (RevokeR E of old hs) := by
  have HRE := hide (show ∀ E, E ≠ 0 → RevokeR E of old hs hs from fun E h => Or.inl ⟨h, rfl⟩)
  have Hm := hide (mayManage_any db root clock ho hcap hs house id of w hr)
  have HE := hide hE
  clear hE
  generalize manageF (heldF root clock hs house id) (house.toList == of.toList) = m at *
  rcases hse_cases hs of with ⟨i, hi, h1, h2, h3⟩ | ⟨h1, h3⟩
  · have Hf := hide (fun W h => depFind_some db root clock ho hcap hs of W h i hi h1 h2)
    have H3 := hide h3
    have HF := hide (show FirstH hs of i hi from ⟨h1, h2⟩)
    clear h1 h2 h3
    go_enter Try.func37, Try.ntmps37
    go_wp2_with fail
    refine Hm.out.mono ?_
    rintro e w1 ⟨rfl, hb⟩
    have hr1 := hr.below hb
    have c2 := hr1.c2
    have htl := hr1.tlen i hi
    obtain ⟨g, hgo, hg, hdg, d0, hring, hnb⟩ := hr1.house i hi
    subst hgo
    go_wp2_with fail
    · go_ret
      exact DepStep.err (R := fun E => RevokeR E of old) hr hb (by rw [HE.out]; simp [revokeP, *]) (by simpa using ‹(m != 0) = true›) HRE.out
    · have HE2 := hide (show E = revokeT hs[i].toks old by rw [HE.out, revokeP, H3.out]; simp [*])
      refine (Hf.out _ hr1).mono ?_
      rintro e w3 ⟨rfl, hh⟩
      subst hh
      go_wp2_with fail
      refine (ringRevoke_any (db + 1) g (i * 2 + 1) hs[i].ao hs[i].cap hs[i].toks old _ hring (by omega) E HE2.out).mono ?_
      rintro e w4 ⟨rfl, hst⟩
      go_wp2_with fail
      go_ret
      refine ⟨rfl, DepStep.behind hb ?_⟩
      rcases hst with ⟨he, rfl⟩ | ⟨he, j, hj, g', q1, q2, q3, q4, rfl⟩
      · exact DepStep.ofBelow hr1 (Below.refl _ _) (HRE.out _ he)
      · refine ⟨_, _, _, hr1.goneTok i hi hj q1, Or.inr ⟨he, i, hi, HF.out, j, hj, ⟨q2, q4⟩, { hs[i] with toks := hs[i].toks.set j { hs[i].toks[j] with gone := true } }, rfl, rfl, rfl⟩, ?_, ?_⟩
        · exact (Chg.refl _ _).setCell (p := ⟨g', j * 4 + 3, none⟩) (Or.inl (Or.inr (Or.inr ⟨i, hi, ⟨g', 0, none⟩, q1, rfl⟩))) _
        · intro k hk
          rcases hk with rfl | hk | ⟨a, ha, hk⟩
          · exact Or.inl (Or.inl rfl)
          · exact Or.inl (Or.inr (Or.inl hk))
          · have ha' : a < hs.length := by simpa using ha
            by_cases hia : i = a
            · subst hia
              rw [List.getElem_set_self] at hk
              exact Or.inl (Or.inr (Or.inr ⟨i, hi, hk⟩))
            · rw [List.getElem_set_ne hia] at hk
              exact Or.inl (Or.inr (Or.inr ⟨a, ha', hk⟩))
  · have Hf := hide (fun W h => depFind_none db root clock ho hcap hs of W h h1)
    have H3 := hide h3
    clear h1 h3
    go_enter Try.func37, Try.ntmps37
    go_wp2_with fail
    refine Hm.out.mono ?_
    rintro e w1 ⟨rfl, hb⟩
    have hr1 := hr.below hb
    go_wp2_with fail
    · go_ret
      exact DepStep.err (R := fun E => RevokeR E of old) hr hb (by rw [HE.out]; simp [revokeP, *]) (by simpa using ‹(m != 0) = true›) HRE.out
    · refine (Hf.out _ hr1).mono ?_
      rintro e w3 ⟨rfl, hh⟩
      subst hh
      go_wp2_with fail
      go_ret
      exact DepStep.err (R := fun E => RevokeR E of old) hr hb (by rw [HE.out, revokeP, H3.out]; simp [*]) (by decide) HRE.out

end Go.Proofs.Ytdddbinlkljbcaa
