/-
  depotkeep: opened: a depot with the houses h and g, of each the token 1 Admin; and a turn on depot and book.
-/
import Derived.Test.YtgcldedkempjhaaDoorGateSim
import Derived.Test.YtgcldedkempjhaaDoorCall
import Derived.Test.YtgcldedkempjhaaDoorWants
namespace Go.Proofs.YtgcldedkempjhaaDoor
open Go.RowKit

theorem held_root {P : PDep} (h : P.root = 77) : heldF P ⟨#[]⟩ 77 = 4 := by
  simp [heldF, h]

theorem words_hg : wordF kH = true ∧ wordF kG = true := by constructor <;> decide

theorem kHG : (kH.toList == kG.toList) = false ∧ (kG.toList == kH.toList) = false ∧ (kH.toList == kH.toList) = true ∧ (kG.toList == kG.toList) = true := by
  refine ⟨?_, ?_, beq_self_eq_true _, beq_self_eq_true _⟩ <;> simp

theorem hseF_one (h : PHse) (nm : ByteArray) : hseF [h] nm = if (h.name.toList == nm.toList) = true then some h else none := by
  unfold hseF
  rw [List.find?_cons, List.find?_nil]
  cases (h.name.toList == nm.toList) <;> rfl

theorem hseF_two (h g : PHse) (nm : ByteArray) : hseF [h, g] nm = if (h.name.toList == nm.toList) = true then some h else if (g.name.toList == nm.toList) = true then some g else none := by
  unfold hseF
  rw [List.find?_cons, List.find?_cons, List.find?_nil]
  cases (h.name.toList == nm.toList) <;> cases (g.name.toList == nm.toList) <;> rfl

def bk0 : List Bk := [⟨kH, 1, 3, 1099511627776, false⟩, ⟨kG, 1, 3, 1099511627776, false⟩]

theorem projT_bk0 (nm : ByteArray) : projT bk0 nm = (if (kH.toList == nm.toList) = true then [⟨1, 3, 1099511627776, false⟩] else []) ++ (if (kG.toList == nm.toList) = true then [⟨1, 3, 1099511627776, false⟩] else []) := by
  unfold projT bk0
  rw [List.filter_cons, List.filter_cons]
  cases (kH.toList == nm.toList) <;> cases (kG.toList == nm.toList) <;> rfl

theorem bsim_start {h g : PHse} (h1 : h.name.toList = kH.toList) (h2 : h.toks = [⟨1, 3, 1099511627776, false⟩]) (g1 : g.name.toList = kG.toList) (g2 : g.toks = [⟨1, 3, 1099511627776, false⟩]) : BSim [h, g] bk0 := by
  obtain ⟨k1, k2, k3, k4⟩ := kHG
  refine ⟨?_, ?_, ?_⟩
  · intro nm x hx
    rw [hseF_two, h1, g1] at hx
    rw [projT_bk0]
    cases ha : (kH.toList == nm.toList) with
    | true =>
      rw [ha] at hx
      have hn : (kG.toList == nm.toList) = false := by rw [← beq_iff_eq.1 ha]; exact k2
      injection hx with hx
      subst hx
      rw [hn]
      exact ⟨by unfold isHG; rw [← beq_iff_eq.1 ha, k3]; rfl, by rw [h2]; rfl⟩
    | false =>
      rw [ha] at hx
      cases hb : (kG.toList == nm.toList) with
      | true =>
        rw [hb] at hx
        injection hx with hx
        subst hx
        exact ⟨by unfold isHG; rw [← beq_iff_eq.1 hb, k4]; simp, by rw [g2]; rfl⟩
      | false => rw [hb] at hx; cases hx
  · intro nm hx
    rw [hseF_two, h1, g1] at hx
    rw [projT_bk0]
    cases ha : (kH.toList == nm.toList) with
    | true => rw [ha] at hx; cases hx
    | false =>
      rw [ha] at hx
      cases hb : (kG.toList == nm.toList) with
      | true => rw [hb] at hx; cases hx
      | false =>
        refine ⟨?_, rfl⟩
        have c1 : (nm.toList == kH.toList) = false := by rw [beq_eq_false_iff_ne] at ha ⊢; exact Ne.symm ha
        have c2 : (nm.toList == kG.toList) = false := by rw [beq_eq_false_iff_ne] at hb ⊢; exact Ne.symm hb
        unfold isHG
        rw [c1, c2]; rfl
  · intro b hb
    unfold bk0 at hb
    rcases List.mem_cons.1 hb with rfl | hb
    · unfold isHG; rw [k3]; rfl
    · rcases List.mem_cons.1 hb with rfl | hb
      · unfold isHG; rw [k4]; simp
      · cases hb

abbrev tok0 : Tok := ⟨1, 3, 1099511627776, false⟩

/-- What a depot with two houses holds. -/
abbrev log0 : List UInt8 := mintLine 77 1 3 1099511627776

abbrev P0 : PDep := ⟨77, 0, [⟨kH, [tok0], [], [], log0⟩, ⟨kG, [tok0], [], [], log0⟩], [], 0⟩

/-- A depot with two houses. -/
def Opened (w w' : World) (db : Nat) : Prop := ∃ D, DepAt w' db D ∧ D.pure = P0 ∧ Below w.heap.size w w' ∧ ∀ k, DepFoot db D k → w.heap.size ≤ k

set_option maxHeartbeats 1600000 in
set_option maxRecDepth 100000 in
theorem opened_any (w : World) (htab : TabOk w) : Calls Tryd.prog 10 #[] w fun e w' => e = .returned (.pointer (some ⟨w.heap.size, 0, none⟩)) ∧ Opened w w' w.heap.size := by
  obtain ⟨k1, k2, k3, k4⟩ := kHG
  have KK := hide (And.intro k1 (And.intro k2 (And.intro k3 k4)))
  clear k1 k2 k3 k4
  go_enter Tryd.func10, Tryd.ntmps10
  go_wp2_with fail
  refine (new_yes 77 _ (by decide) htab).mono ?_
  rintro e w1 ⟨rfl, hD1, hB1⟩
  go_wp2_with fail
  refine (found_any w.heap.size (freshD 77) ⟨#[]⟩ 77 kH _ hD1 0 (by rw [held_root rfl, words_hg.1]; rfl)).mono ?_
  rintro e w2 ⟨rfl, D2, hD2, hP2, hC2, hF2⟩
  have HP2 := hide (show D2.pure = ⟨77, 0, [⟨kH, [], [], [], []⟩], [], 0⟩ from hP2)
  clear hP2
  go_wp2_with fail
  refine (found_any w.heap.size D2 ⟨#[]⟩ 77 kG _ hD2 0 (by rw [held_root (by rw [HP2.out]), words_hg.2, HP2.out, hseF_one, KK.out.1]; rfl)).mono ?_
  rintro e w3 ⟨rfl, D3, hD3, hP3, hC3, hF3⟩
  have HP3 := hide (show D3.pure = ⟨77, 0, [⟨kH, [], [], [], []⟩, ⟨kG, [], [], [], []⟩], [], 0⟩ by rw [hP3, HP2.out]; rfl)
  clear hP3
  go_wp2_with fail
  refine (mint_any w.heap.size D3 ⟨#[]⟩ 77 kH 3 1 1099511627776 _ hD3 ⟨by decide, by decide⟩ ⟨by decide, by decide⟩ ⟨by decide, by decide⟩ 0 (by
    rw [held_root (by rw [HP3.out]), HP3.out]
    show 0 = mintP 0 [⟨kH, [], [], [], []⟩, ⟨kG, [], [], [], []⟩] kH 3 1 1099511627776
    unfold mintP
    rw [hseF_two, KK.out.2.2.1]
    simp [mintT, tokF])).mono ?_
  rintro e w4 ⟨rfl, D4, hD4, hP4, hC4, hF4⟩
  have HP4 := hide (show D4.pure = ⟨77, 0, [⟨kH, [tok0], [], [], log0⟩, ⟨kG, [], [], [], []⟩], [], 0⟩ by
    rw [hP4, HP3.out]
    show PDep.upd _ _ _ = _
    simp only [PDep.upd, updH, KK.out.2.2.1, if_true]
    rfl)
  clear hP4
  go_wp2_with fail
  refine (mint_any w.heap.size D4 ⟨#[]⟩ 77 kG 3 1 1099511627776 _ hD4 ⟨by decide, by decide⟩ ⟨by decide, by decide⟩ ⟨by decide, by decide⟩ 0 (by
    rw [held_root (by rw [HP4.out]), HP4.out]
    show 0 = mintP 0 [⟨kH, [tok0], [], [], log0⟩, ⟨kG, [], [], [], []⟩] kG 3 1 1099511627776
    unfold mintP
    rw [hseF_two, KK.out.1, KK.out.2.2.2]
    simp [mintT, tokF])).mono ?_
  rintro e w5 ⟨rfl, D5, hD5, hP5, hC5, hF5⟩
  have HP5 := hide (show D5.pure = P0 by
    rw [hP5, HP4.out]
    show PDep.upd _ _ _ = _
    simp only [PDep.upd, updH, KK.out.1, KK.out.2.2.2, if_true, Bool.false_eq_true, if_false]
    rfl)
  clear hP5
  have s1 := hB1.size
  have s2 := hC2.size
  have s3 := hC3.size
  have s4 := hC4.size
  have b2 : Below w.heap.size w1 w2 := hC2.below s1 (fun k hk => (hD1.foot hk).1)
  have b3 : Below w.heap.size w2 w3 := hC3.below (by omega) (fun k hk => (hD2.foot hk).1)
  have b4 : Below w.heap.size w3 w4 := hC4.below (by omega) (fun k hk => (hD3.foot hk).1)
  have b5 : Below w.heap.size w4 w5 := hC5.below (by omega) (fun k hk => (hD4.foot hk).1)
  have HB := hide ((((hB1.trans b2).trans b3).trans b4).trans b5)
  have HD := hide hD5
  clear hC2 hC3 hC4 hC5 hF2 hF3 hF4 hF5 hD1 hD2 hD3 hD4 hD5 hB1 b2 b3 b4 b5 s1 s2 s3 s4
  go_wp2_with fail
  go_ret
  exact ⟨rfl, D5, HD.out, HP5.out, HB.out, fun k hk => (HD.out.foot hk).1⟩

/-- A turn that the law lets by: what the program answers, what the book asks, and that the tie holds behind. -/
def Both (x : TurnD) (db bb : Nat) (D : DepD) (ao : Option Addr) (cap : Nat) (bs : List Bk) : Prop :=
  ∃ (n e : Int) (P' : PDep) (RB : List Bk → Prop),
    (∀ W, DepAt W db D → Calls Tryd.prog 11 #[.pointer (some ⟨db, 0, none⟩), .agg (turnV x)] W fun ε w' => ε = .returned (.agg (ansV n e)) ∧ DepStep W w' db D P') ∧
    (∀ W, KBookAt W bb D.clock ao cap bs → Calls Tryd.prog 12 #[.pointer (some ⟨bb, 0, none⟩), .agg (turnV x)] W fun ε w' => ε = .returned (.agg (ansV n e)) ∧ BookStep W w' bb P'.clock ao RB) ∧
    (∀ bs', RB bs' → BSim P'.hs bs') ∧ P'.root = 77 ∧ 0 ≤ P'.clock ∧ P'.clock ≤ 1099511627776

theorem shows_empty (who id : Int) : (showsH who).toList.isEmpty = true → showsI who id = 77 := by
  unfold showsH showsI
  intro h
  cases h1 : (pickF who == 1) with
  | true => rw [h1] at h; simp at h
  | false =>
    cases h2 : (pickF who == 2) with
    | true => rw [h1, h2] at h; simp at h
    | false => simp

theorem stepP_clock {E : Int} {P Q : PDep} (h : Q.clock = P.clock) : (stepP E P Q).clock = P.clock := by unfold stepP; split <;> simp [h]
theorem stepP_root {E : Int} {P Q : PDep} (h : Q.root = P.root) : (stepP E P Q).root = P.root := by unfold stepP; split <;> simp [h]
theorem stepP_no {E : Int} {P Q : PDep} (h : E ≠ 0) : stepP E P Q = P := if_neg h
theorem stepP_yes {E : Int} {P Q : PDep} (h : E = 0) : stepP E P Q = Q := if_pos h

theorem mintP_house {m : Int} {hs : List PHse} {of : ByteArray} {role fresh till : Int} (h : mintP m hs of role fresh till = 0) : ∃ x, hseF hs of = some x := by
  unfold mintP at h
  split at h
  · rename_i hm
    rw [h] at hm
    exact absurd hm (by decide)
  · split at h
    · cases h
    · rename_i x hx
      exact ⟨x, hx⟩

theorem revokeP_house {m : Int} {hs : List PHse} {of : ByteArray} {old : Int} (h : revokeP m hs of old = 0) : ∃ x, hseF hs of = some x := by
  unfold revokeP at h
  split at h
  · rename_i hm
    rw [h] at hm
    exact absurd hm (by decide)
  · split at h
    · cases h
    · rename_i x hx
      exact ⟨x, hx⟩

/-- Its numbers are those of an int. -/
def TurnInt (x : TurnD) : Prop := I64 x.id ∧ I64 x.a ∧ I64 x.b ∧ I64 x.c

theorem turn_both (x : TurnD) (db bb : Nat) (D : DepD) (ao : Option Addr) (cap : Nat) (bs : List Bk) (s : BSim D.pure.hs bs) (hrt : D.root = 77) (hfew : bs.length < 1000) (h0 : 0 ≤ D.clock) (h1 : D.clock ≤ 1099511627776)
    (w1 : -9223372036854775808 ≤ x.who) (w2 : x.who ≤ 9223372036854775807) (a2 : x.a ≤ 9223372036854775807) (ti : TurnInt x) (hk1 : ¬ x.kind = 1) (hk2 : ¬ (4 ≤ x.kind ∧ x.kind ≤ 11)) : Both x db bb D ao cap bs := by
  have hrole : heldF D.pure (showsH x.who) (showsI x.who x.id) = bookRole D.clock bs (showsH x.who) (showsI x.who x.id) := by
    have := brole_agree s D.clock D.pure.pub D.pure.yanks _ _ (shows_empty x.who x.id)
    rw [← this]
    have e : D.pure = ⟨77, D.clock, D.pure.hs, D.pure.pub, D.pure.yanks⟩ := by rw [← hrt]; rfl
    rw [← e]
  by_cases k0 : x.kind = 0
  · obtain ⟨⟨r1, r2⟩, hr⟩ : ∃ r, r = mayF (heldF D.pure (showsH x.who) (showsI x.who x.id)) := ⟨_, rfl⟩
    refine ⟨r1, r2, D.pure, fun bs' => bs' = bs, ?_, ?_, ?_, hrt, h0, h1⟩
    · exact fun W hW => call_ruled0 db D x _ _ W hW k0 w1 w2 rfl rfl r1 r2 _ (fun W' hW' => ruled_may db D x _ _ W' hW' k0 w1 w2 rfl rfl r1 r2 hr)
    · exact fun W hW => wants_may bb D.clock ao cap bs x W hW k0 _ _ w1 w2 rfl rfl r1 r2 (hr.trans (by rw [hrole]))
    · rintro bs' rfl; exact s
  · by_cases k2 : x.kind = 2
    · obtain ⟨E, hE⟩ : ∃ E, E = mintP (manageF (heldF D.pure (showsH x.who) (showsI x.who x.id)) ((showsH x.who).toList == x.of.toList)) D.pure.hs x.of x.a x.b x.c := ⟨_, rfl⟩
      have hclk : (stepP E D.pure (mintS D.pure x.of (showsI x.who x.id) ⟨x.b, x.a, x.c, false⟩)).clock = D.clock := stepP_clock rfl
      refine ⟨0, E, stepP E D.pure (mintS D.pure x.of (showsI x.who x.id) ⟨x.b, x.a, x.c, false⟩), BMintR E x bs, ?_, ?_, ?_, (stepP_root (E := E) (P := D.pure) (Q := mintS D.pure x.of (showsI x.who x.id) ⟨x.b, x.a, x.c, false⟩) rfl).trans hrt, by rw [hclk]; exact h0, by rw [hclk]; exact h1⟩
      · exact fun W hW => call_ruled2 db D x _ _ W hW k2 w1 w2 rfl rfl 0 E _ (fun W' hW' => ruled_mint db D x _ _ W' hW' k2 w1 w2 rfl rfl ti.1 ti.2.2.1 ti.2.2.2 E hE)
      · rw [hclk]
        exact fun W hW => wants_mint bb D.clock ao cap bs x W hW k2 E (fun W' hW' => bmints_any bb D.clock ao cap bs x _ _ W' hW' hfew w1 w2 rfl rfl E (hE.trans (by rw [bmint_agree s, hrole])))
      · intro bs' q2
        rcases q2 with ⟨he, rfl⟩ | ⟨he, rfl⟩
        · rw [stepP_no he]; exact s
        · rw [stepP_yes he]
          obtain ⟨y, hy⟩ := mintP_house (hE ▸ he)
          exact s.mint hy
    · by_cases k3 : x.kind = 3
      · obtain ⟨E, hE⟩ : ∃ E, E = revokeP (manageF (heldF D.pure (showsH x.who) (showsI x.who x.id)) ((showsH x.who).toList == x.of.toList)) D.pure.hs x.of x.a := ⟨_, rfl⟩
        have hclk : (stepP E D.pure (revokeS D.pure x.of (showsI x.who x.id) x.a)).clock = D.clock := stepP_clock rfl
        refine ⟨0, E, stepP E D.pure (revokeS D.pure x.of (showsI x.who x.id) x.a), BRevokeR E x bs, ?_, ?_, ?_, (stepP_root (E := E) (P := D.pure) (Q := revokeS D.pure x.of (showsI x.who x.id) x.a) rfl).trans hrt, by rw [hclk]; exact h0, by rw [hclk]; exact h1⟩
        · exact fun W hW => call_ruled3 db D x _ _ W hW k3 w1 w2 rfl rfl 0 E _ (fun W' hW' => ruled_revoke db D x _ _ W' hW' k3 w1 w2 rfl rfl ti.1 ti.2.1 E hE)
        · rw [hclk]
          exact fun W hW => wants_revoke bb D.clock ao cap bs x W hW k3 E (fun W' hW' => brevokes_any bb D.clock ao cap bs x _ _ W' hW' w1 w2 rfl rfl E (hE.trans (by rw [brevoke_agree s, hrole])))
        · intro bs' q2
          rcases q2 with ⟨he, rfl⟩ | ⟨he, k, hk, p1, p2, _, rfl⟩
          · rw [stepP_no he]; exact s
          · rw [stepP_yes he]
            obtain ⟨y, hy⟩ := revokeP_house (hE ▸ he)
            exact s.revoke hy p1 p2
      · by_cases k12 : x.kind = 12
        · by_cases ha : x.a < 0
          · refine ⟨0, 1, D.pure, fun bs' => bs' = bs, ?_, ?_, ?_, hrt, h0, h1⟩
            · exact fun W hW => call_tick_no db D x _ _ W hW k12 w1 w2 rfl rfl ha
            · exact fun W hW => wants_tick_no bb D.clock ao cap bs x W hW k12 ha
            · rintro bs' rfl; exact s
          · have hb := tickF_bounds h0 h1 (show 0 ≤ x.a by omega)
            refine ⟨0, 0, { D.pure with clock := tickF D.clock x.a }, fun bs' => bs' = bs, ?_, ?_, ?_, hrt, hb.1, hb.2⟩
            · exact fun W hW => call_tick db D x _ _ W hW k12 w1 w2 rfl rfl (by omega) a2 h0 h1
            · intro W hW
              by_cases hc : 1099511627776 - D.clock < x.a
              · exact wants_tick_hi bb D.clock ao cap bs x W hW k12 (by omega) a2 h0 h1 hc
              · exact wants_tick_lo bb D.clock ao cap bs x W hW k12 (by omega) a2 h0 h1 (by omega)
            · rintro bs' rfl; exact s
        · refine ⟨D.pure.clock, 0, D.pure, fun bs' => bs' = bs, ?_, ?_, ?_, hrt, h0, h1⟩
          · intro W hW
            by_cases hlo : x.kind < 0
            · exact call_clock_lo db D x _ _ W hW w1 w2 rfl rfl hlo
            · exact call_clock_hi db D x _ _ W hW w1 w2 rfl rfl (by omega)
          · exact fun W hW => wants_now bb D.clock ao cap bs x W hW (beq_eq_false_iff_ne.2 k0) (beq_eq_false_iff_ne.2 k2) (beq_eq_false_iff_ne.2 k3) (beq_eq_false_iff_ne.2 k12)
          · rintro bs' rfl; exact s

end Go.Proofs.YtgcldedkempjhaaDoor
