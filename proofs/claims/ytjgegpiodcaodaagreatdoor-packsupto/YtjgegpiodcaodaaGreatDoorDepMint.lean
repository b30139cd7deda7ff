/-
  depot.Depot: Mint, Revoke.
-/
import Derived.Test.YtjgegpiodcaodaaGreatDoorDepFound
namespace Go.Proofs.YtjgegpiodcaodaaGreatDoor
open Go.RowKit

/-- The first of a list that is so, changed. -/
def updF {α : Type} (p : α → Bool) (f : α → α) : List α → List α
  | [] => []
  | x :: t => if p x = true then f x :: t else x :: updF p f t

theorem updF_set {α : Type} (p : α → Bool) (f : α → α) (l : List α) (i : Nat) (hi : i < l.length) (h1 : p l[i] = true) (h2 : ∀ j, (hj : j < l.length) → j < i → p l[j] = false) : updF p f l = l.set i (f l[i]) := by
  induction l generalizing i with
  | nil => simp at hi
  | cons x l ih =>
    cases i with
    | zero =>
      have h1' : p x = true := h1
      rw [updF, if_pos h1']
      rfl
    | succ i =>
      have h0 : p x = false := h2 0 (by simp) (by omega)
      rw [updF, if_neg (by rw [h0]; decide), ih i (by simpa using hi) (by simpa using h1) (fun j hj hlt => h2 (j + 1) (Nat.succ_lt_succ hj) (by omega))]
      rfl

theorem updF_length {α : Type} (p : α → Bool) (f : α → α) (l : List α) : (updF p f l).length = l.length := by
  induction l with
  | nil => rfl
  | cons x l ih =>
    unfold updF
    split
    · rfl
    · simp [ih]

def mintP (m : Int) (hs : List PHse) (of : ByteArray) (role fresh till : Int) : Int :=
  if m != 0 then m else match hseF hs of with
  | none => 7
  | some h => mintT h.toks role fresh till

def mintS (P : PDep) (of : ByteArray) (t : Tok) : PDep := P.upd of fun h => { h with toks := h.toks ++ [t] }

theorem mintT_room {ts : List Tok} {role fresh till : Int} (h : mintT ts role fresh till = 0) : ts.length < 8 := by
  unfold mintT at h
  split at h
  · cases h
  · split at h
    · cases h
    · split at h
      · cases h
      · omega

theorem lens_of {P : PDep} (h : Lens P) {nm : ByteArray} {x : PHse} (hx : hseF P.hs nm = some x) : x.toks.length ≤ 8 ∧ x.eds.length ≤ 12 ∧ x.grs.length ≤ 6 ∧ wordF x.name = true := by
  have := List.mem_of_find?_eq_some hx
  exact ⟨h.t x this, h.e x this, h.g x this, h.w x this⟩

set_option maxHeartbeats 800000 in
set_option maxRecDepth 100000 in
theorem mint_any (db : Nat) (D : DepD) (house : ByteArray) (id : Int) (of : ByteArray) (role fresh till : Int) (w : World) (hr : DepAt w db D) (E : Int)
    (hE : E = mintP (manageF (heldF D.pure house id) (house.toList == of.toList)) D.pure.hs of role fresh till) :
    Calls Tryz.prog 23 #[.pointer (some ⟨db, 0, none⟩), .string house, .int .i64 id, .string of, .int .i64 role, .int .i64 fresh, .int .i64 till] w fun e w' =>
      e = .returned (.int .i64 E) ∧ DepStep w w' db D (stepP E D.pure (mintS D.pure of ⟨fresh, role, till, false⟩)) := by
  have Hm := hide (mayManage_any db D house id of w hr)
  have HE := hide hE
  clear hE
  generalize manageF (heldF D.pure house id) (house.toList == of.toList) = m at *
  rcases hse_cases D of with ⟨i, hi, h1, h3⟩ | ⟨h1, h3⟩
  · obtain ⟨g, hg, _⟩ := hr.house i hi
    have Hf := hide (fun W h => depFind_some db D of W h i hi h1 g hg)
    have H3 := hide h3
    have HF := hide h1
    clear h1 h3
    go_enter Tryz.func23, Tryz.ntmps23
    go_wp2_with fail
    refine Hm.out.mono ?_
    rintro e w1 ⟨rfl, hb⟩
    have hr1 := hr.below hb
    have htl := hr1.tlen i hi
    obtain ⟨g2, hg2, hglt, hdg, d0, hring, _, _, hnb⟩ := hr1.house i hi
    rw [hg] at hg2
    injection hg2 with hg2
    injection hg2 with hg2
    subst hg2
    go_wp2_with fail
    · go_ret
      exact DepStep.err hr hb (by rw [HE.out]; simp [mintP, *]) (by simpa using ‹(m != 0) = true›)
    · have HE2 := hide (show E = mintT D.hs[i].toks role fresh till by rw [HE.out, mintP, H3.out]; simp [*, Hse.pure])
      refine (Hf.out _ hr1).mono ?_
      rintro e w3 ⟨rfl, hh⟩
      subst hh
      go_wp2_with fail
      refine (ringMint_any (db + 1) g (i * 4 + 1) D.hs[i].ao D.hs[i].cap D.hs[i].toks role fresh till _ hring (by omega) (hnb .ring) (by omega) E HE2.out).mono ?_
      rintro e w4 ⟨rfl, hst⟩
      go_wp2_with fail
      go_ret
      refine ⟨rfl, DepStep.behind hb ?_⟩
      rcases hst with ⟨he, rfl⟩ | ⟨he, g', cap', w5, q1, q2, q3, rfl⟩
      · have := DepStep.ofBelow hr1 (Below.refl w4.heap.size w4)
        unfold stepP
        rw [if_neg he]
        exact this
      · refine DepStep.ok he ?_
        refine DepStep.pushHouse (f := .ring) (x := { D.hs[i] with toks := D.hs[i].toks ++ [⟨fresh, role, till, false⟩], ao := some ⟨g', 0, none⟩, cap := cap' }) hr1 (Below.refl _ _) hi HF.out hg (F := fun h => { h with toks := h.toks ++ [⟨fresh, role, till, false⟩] }) rfl ?_ rfl ?_ q2 ?_ (fun e he => Or.inl he) ?_ (by simp [Hse.row, Fam.idx])
        · intro f' hne
          match f', hne with
          | none, hne => exact absurd rfl hne
          | some false, _ => rfl
          | some true, _ => rfl
        · simpa [RowOk, Hse.row, toksCells] using q1
        · rintro k ⟨a, e, rfl⟩
          injection e with e
          subst e
          exact q3
        · refine hr1.lens.upd of _ fun x hx => ?_
          rw [H3.out] at hx
          injection hx with hx
          subst hx
          obtain ⟨l1, l2, l3, l4⟩ := lens_of hr1.lens H3.out
          have := mintT_room (HE2.out ▸ he)
          refine ⟨?_, l2, l3, l4⟩
          simp [Hse.pure]
          omega
  · have Hf := hide (fun W h => depFind_none db D of W h h1)
    have H3 := hide h3
    clear h1 h3
    go_enter Tryz.func23, Tryz.ntmps23
    go_wp2_with fail
    refine Hm.out.mono ?_
    rintro e w1 ⟨rfl, hb⟩
    have hr1 := hr.below hb
    go_wp2_with fail
    · go_ret
      exact DepStep.err hr hb (by rw [HE.out]; simp [mintP, *]) (by simpa using ‹(m != 0) = true›)
    · refine (Hf.out _ hr1).mono ?_
      rintro e w3 ⟨rfl, hh⟩
      subst hh
      go_wp2_with fail
      go_ret
      exact DepStep.err hr hb (by rw [HE.out, mintP, H3.out]; simp [*]) (by decide)

def revokeP (m : Int) (hs : List PHse) (of : ByteArray) (old : Int) : Int :=
  if m != 0 then m else match hseF hs of with
  | none => 7
  | some h => revokeT h.toks old

def revTok (ts : List Tok) (old : Int) : List Tok := updF (fun t => t.num == old) (fun t => { t with gone := true }) ts

def revokeS (P : PDep) (of : ByteArray) (old : Int) : PDep := P.upd of fun h => { h with toks := revTok h.toks old }

set_option maxHeartbeats 800000 in
set_option maxRecDepth 100000 in
theorem revoke_any (db : Nat) (D : DepD) (house : ByteArray) (id : Int) (of : ByteArray) (old : Int) (w : World) (hr : DepAt w db D) (E : Int)
    (hE : E = revokeP (manageF (heldF D.pure house id) (house.toList == of.toList)) D.pure.hs of old) :
    Calls Tryz.prog 25 #[.pointer (some ⟨db, 0, none⟩), .string house, .int .i64 id, .string of, .int .i64 old] w fun e w' =>
      e = .returned (.int .i64 E) ∧ DepStep w w' db D (stepP E D.pure (revokeS D.pure of old)) := by
  have Hm := hide (mayManage_any db D house id of w hr)
  have HE := hide hE
  clear hE
  generalize manageF (heldF D.pure house id) (house.toList == of.toList) = m at *
  rcases hse_cases D of with ⟨i, hi, h1, h3⟩ | ⟨h1, h3⟩
  · obtain ⟨g, hg, _⟩ := hr.house i hi
    have Hf := hide (fun W h => depFind_some db D of W h i hi h1 g hg)
    have H3 := hide h3
    have HF := hide h1
    clear h1 h3
    go_enter Tryz.func25, Tryz.ntmps25
    go_wp2_with fail
    refine Hm.out.mono ?_
    rintro e w1 ⟨rfl, hb⟩
    have hr1 := hr.below hb
    have htl := hr1.tlen i hi
    obtain ⟨g2, hg2, hglt, hdg, d0, hring, _, _, hnb⟩ := hr1.house i hi
    rw [hg] at hg2
    injection hg2 with hg2
    injection hg2 with hg2
    subst hg2
    go_wp2_with fail
    · go_ret
      exact DepStep.err hr hb (by rw [HE.out]; simp [revokeP, *]) (by simpa using ‹(m != 0) = true›)
    · have HE2 := hide (show E = revokeT D.hs[i].toks old by rw [HE.out, revokeP, H3.out]; simp [*, Hse.pure])
      refine (Hf.out _ hr1).mono ?_
      rintro e w3 ⟨rfl, hh⟩
      subst hh
      go_wp2_with fail
      refine (ringRevoke_any (db + 1) g (i * 4 + 1) D.hs[i].ao D.hs[i].cap D.hs[i].toks old _ hring (by omega) E HE2.out).mono ?_
      rintro e w4 ⟨rfl, hst⟩
      go_wp2_with fail
      go_ret
      refine ⟨rfl, DepStep.behind hb ?_⟩
      rcases hst with ⟨he, rfl⟩ | ⟨he, j, hj, g', q1, q2, q3, q4, rfl⟩
      · have := DepStep.ofBelow hr1 (Below.refl w4.heap.size w4)
        unfold stepP
        rw [if_neg he]
        exact this
      · refine DepStep.ok he ?_
        have hrev : revTok D.hs[i].toks old = D.hs[i].toks.set j { D.hs[i].toks[j] with gone := true } :=
          updF_set _ _ _ j hj (by simpa using q2) (fun k hk hlt => by simpa using q4 k hk hlt)
        refine DepStep.setRow (f := .ring) (x := { D.hs[i] with toks := D.hs[i].toks.set j { D.hs[i].toks[j] with gone := true } }) hr1 hi HF.out (F := fun h => { h with toks := revTok h.toks old }) ?_ ?_ ?_ ?_ ?_ rfl (fun e he => ⟨e, he, rfl, rfl, rfl⟩) ?_
        · simp only [Hse.pure]
          rw [hrev]
        · intro f' hne
          match f', hne with
          | none, hne => exact absurd rfl hne
          | some false, _ => rfl
          | some true, _ => rfl
        · simp [Hse.cells]
        · have ho := hring.own
          rw [q1] at ho
          have := ownsRow_set ho (j * 4 + 3) (.bool true)
          rw [← toksCells_revoke _ _ hj] at this
          simpa [RowOk, Hse.row, q1] using this
        · exact (Chg.refl _ _).setCell (Or.inl ⟨_, q1, rfl⟩) _
        · refine hr1.lens.upd of _ fun x hx => ?_
          rw [H3.out] at hx
          injection hx with hx
          subst hx
          obtain ⟨l1, l2, l3, l4⟩ := lens_of hr1.lens H3.out
          refine ⟨?_, l2, l3, l4⟩
          simpa [revTok, updF_length] using l1
  · have Hf := hide (fun W h => depFind_none db D of W h h1)
    have H3 := hide h3
    clear h1 h3
    go_enter Tryz.func25, Tryz.ntmps25
    go_wp2_with fail
    refine Hm.out.mono ?_
    rintro e w1 ⟨rfl, hb⟩
    have hr1 := hr.below hb
    go_wp2_with fail
    · go_ret
      exact DepStep.err hr hb (by rw [HE.out]; simp [revokeP, *]) (by simpa using ‹(m != 0) = true›)
    · refine (Hf.out _ hr1).mono ?_
      rintro e w3 ⟨rfl, hh⟩
      subst hh
      go_wp2_with fail
      go_ret
      exact DepStep.err hr hb (by rw [HE.out, revokeP, H3.out]; simp [*]) (by decide)

end Go.Proofs.YtjgegpiodcaodaaGreatDoor
