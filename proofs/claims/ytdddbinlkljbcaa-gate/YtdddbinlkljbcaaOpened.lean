/-
  depotkeep: opened: a depot with the houses h and g, of each the token 1 Admin; and a turn on depot and book.
-/
import Derived.Test.YtdddbinlkljbcaaGateSim
import Derived.Test.YtdddbinlkljbcaaCall
import Derived.Test.YtdddbinlkljbcaaWants
namespace Go.Proofs.Ytdddbinlkljbcaa
open Go.RowKit

theorem held_root (clk : Int) (hs : List Hse) : heldF 77 clk hs ⟨#[]⟩ 77 = 4 := by
  simp [heldF]

theorem words_hg : wordF kH = true ∧ wordF kG = true := by constructor <;> decide

theorem kHG : (kH.toList == kG.toList) = false ∧ (kG.toList == kH.toList) = false ∧ (kH.toList == kH.toList) = true ∧ (kG.toList == kG.toList) = true := by
  refine ⟨?_, ?_, beq_self_eq_true _, beq_self_eq_true _⟩ <;> simp

theorem hseF_one (h : Hse) (nm : ByteArray) : hseF [h] nm = if (h.name.toList == nm.toList) = true then some h else none := by
  unfold hseF
  rw [List.find?_cons, List.find?_nil]
  cases (h.name.toList == nm.toList) <;> rfl

theorem hseF_two (h g : Hse) (nm : ByteArray) : hseF [h, g] nm = if (h.name.toList == nm.toList) = true then some h else if (g.name.toList == nm.toList) = true then some g else none := by
  unfold hseF
  rw [List.find?_cons, List.find?_cons, List.find?_nil]
  cases (h.name.toList == nm.toList) <;> cases (g.name.toList == nm.toList) <;> rfl

def bk0 : List Bk := [⟨kH, 1, 3, 1099511627776, false⟩, ⟨kG, 1, 3, 1099511627776, false⟩]

theorem projT_bk0 (nm : ByteArray) : projT bk0 nm = (if (kH.toList == nm.toList) = true then [⟨1, 3, 1099511627776, false⟩] else []) ++ (if (kG.toList == nm.toList) = true then [⟨1, 3, 1099511627776, false⟩] else []) := by
  unfold projT bk0
  rw [List.filter_cons, List.filter_cons]
  cases (kH.toList == nm.toList) <;> cases (kG.toList == nm.toList) <;> rfl

theorem bsim_start {h g : Hse} (h1 : h.name.toList = kH.toList) (h2 : h.toks = [⟨1, 3, 1099511627776, false⟩]) (g1 : g.name.toList = kG.toList) (g2 : g.toks = [⟨1, 3, 1099511627776, false⟩]) : BSim [h, g] bk0 := by
  obtain ⟨k1, k2, k3, k4⟩ := kHG
  refine ⟨?_, ?_, ?_⟩
  · intro nm x hx
    rw [hseF_two, h1, g1] at hx
    rw [projT_bk0]
    cases ha : (kH.toList == nm.toList) with
    | true =>
      rw [ha] at hx
      have hn : (kG.toList == nm.toList) = false := by rw [← beq_iff_eq.1 ha]; exact k2
      injection hx with hx
      subst hx
      rw [hn]
      exact ⟨by unfold isHG; rw [← beq_iff_eq.1 ha, k3]; rfl, by rw [h2]; rfl⟩
    | false =>
      rw [ha] at hx
      cases hb : (kG.toList == nm.toList) with
      | true =>
        rw [hb] at hx
        injection hx with hx
        subst hx
        exact ⟨by unfold isHG; rw [← beq_iff_eq.1 hb, k4]; simp, by rw [g2]; rfl⟩
      | false => rw [hb] at hx; cases hx
  · intro nm hx
    rw [hseF_two, h1, g1] at hx
    rw [projT_bk0]
    cases ha : (kH.toList == nm.toList) with
    | true => rw [ha] at hx; cases hx
    | false =>
      rw [ha] at hx
      cases hb : (kG.toList == nm.toList) with
      | true => rw [hb] at hx; cases hx
      | false =>
        refine ⟨?_, rfl⟩
        have c1 : (nm.toList == kH.toList) = false := by rw [beq_eq_false_iff_ne] at ha ⊢; exact Ne.symm ha
        have c2 : (nm.toList == kG.toList) = false := by rw [beq_eq_false_iff_ne] at hb ⊢; exact Ne.symm hb
        unfold isHG
        rw [c1, c2]; rfl
  · intro b hb
    unfold bk0 at hb
    rcases List.mem_cons.1 hb with rfl | hb
    · unfold isHG; rw [k3]; rfl
    · rcases List.mem_cons.1 hb with rfl | hb
      · unfold isHG; rw [k4]; simp
      · cases hb

theorem mint_first {h g : Hse} {hs' : List Hse} {t : Tok} (hn : h.name.toList = kH.toList) (hR : MintR 0 kH t [h, g] hs') : ∃ h' : Hse, h'.name = h.name ∧ h'.toks = h.toks ++ [t] ∧ hs' = [h', g] := by
  rcases hR with ⟨h0, _⟩ | ⟨_, i, hi, hf, x, hx1, hx2, rfl⟩
  · exact absurd rfl h0
  · match i, hi with
    | 0, _ => exact ⟨x, hx1, hx2, rfl⟩
    | 1, _ => exact absurd (hn.trans rfl) (hf.2 0 (by simp) (by omega))

theorem mint_second {h g : Hse} {hs' : List Hse} {t : Tok} (hn : h.name.toList = kH.toList) (hR : MintR 0 kG t [h, g] hs') : ∃ g' : Hse, g'.name = g.name ∧ g'.toks = g.toks ++ [t] ∧ hs' = [h, g'] := by
  rcases hR with ⟨h0, _⟩ | ⟨_, i, hi, hf, x, hx1, hx2, rfl⟩
  · exact absurd rfl h0
  · match i, hi with
    | 0, _ =>
      have : kH.toList = kG.toList := hn.symm.trans hf.1
      exact absurd this (beq_eq_false_iff_ne.1 kHG.1)
    | 1, _ => exact ⟨x, hx1, hx2, rfl⟩

/-- A depot with two houses. -/
def Opened (w w' : World) (db : Nat) : Prop := ∃ ho hcap hs, DepAt w' db 77 0 ho hcap hs ∧ BSim hs bk0 ∧ Below w.heap.size w w' ∧ ∀ k, DepFoot db ho hs k → w.heap.size ≤ k

set_option maxHeartbeats 1600000 in
set_option maxRecDepth 100000 in
theorem opened_any (w : World) : Calls Try.prog 6 #[] w fun e w' => e = .returned (.pointer (some ⟨w.heap.size, 0, none⟩)) ∧ Opened w w' w.heap.size := by
  obtain ⟨k1, k2, k3, k4⟩ := kHG
  have KK := hide (And.intro k1 (And.intro k2 (And.intro k3 k4)))
  clear k1 k2 k3 k4
  go_enter Try.func6, Try.ntmps6
  go_wp2_with fail
  refine (new_yes 77 _ (by decide)).mono ?_
  rintro e w1 ⟨rfl, hD1, hB1⟩
  go_wp2_with fail
  refine (found_any w.heap.size 77 0 none 0 [] ⟨#[]⟩ 77 kH _ hD1 0 (by rw [held_root, words_hg.1]; rfl)).mono ?_
  rintro e w2 ⟨rfl, ho2, hcap2, hs2, hD2, hR2, hC2, hF2⟩
  obtain ⟨h, hn1, ht1, rfl⟩ : ∃ h : Hse, h.name.toList = kH.toList ∧ h.toks = [] ∧ hs2 = [] ++ [h] := by
    rcases hR2 with ⟨h0, _⟩ | ⟨_, h⟩
    · exact absurd rfl h0
    · exact h
  clear hR2
  have HN1 := hide (And.intro hn1 ht1)
  clear hn1 ht1
  go_wp2_with fail
  refine (found_any w.heap.size 77 0 ho2 hcap2 ([] ++ [h]) ⟨#[]⟩ 77 kG _ hD2 0 (by rw [held_root, words_hg.2, List.nil_append, hseF_one, HN1.out.1, KK.out.1]; rfl)).mono ?_
  rintro e w3 ⟨rfl, ho3, hcap3, hs3, hD3, hR3, hC3, hF3⟩
  obtain ⟨g, hn2, ht2, rfl⟩ : ∃ g : Hse, g.name.toList = kG.toList ∧ g.toks = [] ∧ hs3 = [] ++ [h] ++ [g] := by
    rcases hR3 with ⟨h0, _⟩ | ⟨_, h⟩
    · exact absurd rfl h0
    · exact h
  clear hR3
  have HN2 := hide (And.intro hn2 ht2)
  clear hn2 ht2
  go_wp2_with fail
  refine (mint_any w.heap.size 77 0 ho3 hcap3 ([] ++ [h] ++ [g]) ⟨#[]⟩ 77 kH 3 1 1099511627776 _ hD3 0 (by
    rw [held_root]
    show 0 = mintP 0 [h, g] kH 3 1 1099511627776
    unfold mintP
    rw [hseF_two, HN1.out.1, KK.out.2.2.1]
    simp [mintT, HN1.out.2, tokF])).mono ?_
  rintro e w4 ⟨rfl, ho4, hcap4, hs4, hD4, hR4, hC4, hF4⟩
  obtain ⟨h', hn3, ht3, rfl⟩ := mint_first HN1.out.1 hR4
  clear hR4
  have HN3 := hide (show h'.name.toList = kH.toList ∧ h'.toks = [⟨1, 3, 1099511627776, false⟩] from ⟨by rw [hn3]; exact HN1.out.1, by rw [ht3, HN1.out.2]; rfl⟩)
  clear hn3 ht3
  go_wp2_with fail
  refine (mint_any w.heap.size 77 0 ho4 hcap4 [h', g] ⟨#[]⟩ 77 kG 3 1 1099511627776 _ hD4 0 (by
    rw [held_root]
    show 0 = mintP 0 [h', g] kG 3 1 1099511627776
    unfold mintP
    rw [hseF_two, HN3.out.1, HN2.out.1, KK.out.1, KK.out.2.2.2]
    simp [mintT, HN2.out.2, tokF])).mono ?_
  rintro e w5 ⟨rfl, ho5, hcap5, hs5, hD5, hR5, hC5, hF5⟩
  obtain ⟨g', hn4, ht4, rfl⟩ := mint_second HN3.out.1 hR5
  have hS := hide (bsim_start HN3.out.1 HN3.out.2 (show g'.name.toList = kG.toList by rw [hn4]; exact HN2.out.1) (show g'.toks = [⟨1, 3, 1099511627776, false⟩] by rw [ht4, HN2.out.2]; rfl))
  have s1 := hB1.size
  have s2 := hC2.size
  have s3 := hC3.size
  have s4 := hC4.size
  have b2 : Below w.heap.size w1 w2 := hC2.below s1 (fun k hk => (hD1.foot hk).1)
  have b3 : Below w.heap.size w2 w3 := hC3.below (by omega) (fun k hk => (hD2.foot hk).1)
  have b4 : Below w.heap.size w3 w4 := hC4.below (by omega) (fun k hk => (hD3.foot hk).1)
  have b5 : Below w.heap.size w4 w5 := hC5.below (by omega) (fun k hk => (hD4.foot hk).1)
  have HB := hide ((((hB1.trans b2).trans b3).trans b4).trans b5)
  have HD := hide hD5
  clear hR5 hC2 hC3 hC4 hC5 hF2 hF3 hF4 hF5 hD1 hD2 hD3 hD4 hD5 hB1 b2 b3 b4 b5 s1 s2 s3 s4 hn4 ht4
  go_wp2_with fail
  go_ret
  exact ⟨rfl, ho5, hcap5, [h', g'], HD.out, hS.out, HB.out, fun k hk => (HD.out.foot hk).1⟩

/-- A turn that the law lets by: what the program answers, what the book asks, and that the tie holds behind. -/
def Both (x : TurnD) (db bb : Nat) (now : Int) (ho : Option Addr) (hcap : Nat) (hs : List Hse) (ao : Option Addr) (cap : Nat) (bs : List Bk) : Prop :=
  ∃ (n e c' : Int) (R : List Hse → Prop) (RB : List Bk → Prop),
    (∀ W, DepAt W db 77 now ho hcap hs → Calls Try.prog 7 #[.pointer (some ⟨db, 0, none⟩), .agg (turnV x)] W fun ε w' => ε = .returned (.agg (ansV n e)) ∧ DepStep W w' db 77 c' ho hs R) ∧
    (∀ W, BookAt W bb now ao cap bs → Calls Try.prog 8 #[.pointer (some ⟨bb, 0, none⟩), .agg (turnV x)] W fun ε w' => ε = .returned (.agg (ansV n e)) ∧ BookStep W w' bb c' ao RB) ∧
    (∀ hs' bs', R hs' → RB bs' → BSim hs' bs') ∧ 0 ≤ c' ∧ c' ≤ 1099511627776

theorem shows_empty (who id : Int) : (showsH who).toList.isEmpty = true → showsI who id = 77 := by
  unfold showsH showsI
  intro h
  cases h1 : (pickF who == 1) with
  | true => rw [h1] at h; simp at h
  | false =>
    cases h2 : (pickF who == 2) with
    | true => rw [h1, h2] at h; simp at h
    | false => simp

theorem turn_both (x : TurnD) (db bb : Nat) (now : Int) (ho : Option Addr) (hcap : Nat) (hs : List Hse) (ao : Option Addr) (cap : Nat) (bs : List Bk) (s : BSim hs bs) (hfew : bs.length < 1000) (h0 : 0 ≤ now) (h1 : now ≤ 1099511627776)
    (w1 : -9223372036854775808 ≤ x.who) (w2 : x.who ≤ 9223372036854775807) (a2 : x.a ≤ 9223372036854775807) (hk1 : ¬ x.kind = 1) (hk2 : ¬ (4 ≤ x.kind ∧ x.kind ≤ 11)) : Both x db bb now ho hcap hs ao cap bs := by
  have hrole : ∀ c, heldF 77 c hs (showsH x.who) (showsI x.who x.id) = bookRole c bs (showsH x.who) (showsI x.who x.id) := fun c => brole_agree s c _ _ (shows_empty x.who x.id)
  by_cases k0 : x.kind = 0
  · obtain ⟨⟨r1, r2⟩, hr⟩ : ∃ r, r = mayF (heldF 77 now hs (showsH x.who) (showsI x.who x.id)) := ⟨_, rfl⟩
    refine ⟨r1, r2, now, fun hs' => hs' = hs, fun bs' => bs' = bs, ?_, ?_, ?_, h0, h1⟩
    · exact fun W hW => call_ruled0 db 77 now ho hcap hs x _ _ W hW k0 w1 w2 rfl rfl r1 r2 _ (fun W' hW' => ruled_may db 77 now ho hcap hs x _ _ W' hW' k0 w1 w2 rfl rfl r1 r2 hr)
    · exact fun W hW => wants_may bb now ao cap bs x W hW k0 _ _ w1 w2 rfl rfl r1 r2 (hr.trans (by rw [hrole]))
    · rintro hs' bs' rfl rfl; exact s
  · by_cases k2 : x.kind = 2
    · obtain ⟨E, hE⟩ : ∃ E, E = mintP (manageF (heldF 77 now hs (showsH x.who) (showsI x.who x.id)) ((showsH x.who).toList == x.of.toList)) hs x.of x.a x.b x.c := ⟨_, rfl⟩
      refine ⟨0, E, now, MintR E x.of ⟨x.b, x.a, x.c, false⟩ hs, BMintR E x bs, ?_, ?_, ?_, h0, h1⟩
      · exact fun W hW => call_ruled2 db 77 now ho hcap hs x _ _ W hW k2 w1 w2 rfl rfl 0 E _ (fun W' hW' => ruled_mint db 77 now ho hcap hs x _ _ W' hW' k2 w1 w2 rfl rfl E hE)
      · exact fun W hW => wants_mint bb now ao cap bs x W hW k2 E (fun W' hW' => bmints_any bb now ao cap bs x _ _ W' hW' hfew w1 w2 rfl rfl E (hE.trans (by rw [bmint_agree s, hrole])))
      · intro hs' bs' q1 q2
        rcases q1 with ⟨he, rfl⟩ | ⟨he, i, hi, hf, h, hn, ht, rfl⟩
        · rcases q2 with ⟨_, rfl⟩ | ⟨he', _⟩
          · exact s
          · exact absurd he' he
        · rcases q2 with ⟨he', _⟩ | ⟨_, rfl⟩
          · exact absurd he he'
          · exact s.mint hf hn ht
    · by_cases k3 : x.kind = 3
      · obtain ⟨E, hE⟩ : ∃ E, E = revokeP (manageF (heldF 77 now hs (showsH x.who) (showsI x.who x.id)) ((showsH x.who).toList == x.of.toList)) hs x.of x.a := ⟨_, rfl⟩
        refine ⟨0, E, now, RevokeR E x.of x.a hs, BRevokeR E x bs, ?_, ?_, ?_, h0, h1⟩
        · exact fun W hW => call_ruled3 db 77 now ho hcap hs x _ _ W hW k3 w1 w2 rfl rfl 0 E _ (fun W' hW' => ruled_revoke db 77 now ho hcap hs x _ _ W' hW' k3 w1 w2 rfl rfl E hE)
        · exact fun W hW => wants_revoke bb now ao cap bs x W hW k3 E (fun W' hW' => brevokes_any bb now ao cap bs x _ _ W' hW' w1 w2 rfl rfl E (hE.trans (by rw [brevoke_agree s, hrole])))
        · intro hs' bs' q1 q2
          rcases q1 with ⟨he, rfl⟩ | ⟨he, i, hi, hf, j, hj, hft, h, hn, ht, rfl⟩
          · rcases q2 with ⟨_, rfl⟩ | ⟨he', _⟩
            · exact s
            · exact absurd he' he
          · rcases q2 with ⟨he', _⟩ | ⟨_, k, hk, p1, p2, _, rfl⟩
            · exact absurd he he'
            · exact s.revoke hf hft hn ht p1 p2
      · by_cases k12 : x.kind = 12
        · by_cases ha : x.a < 0
          · refine ⟨0, 1, now, fun hs' => hs' = hs, fun bs' => bs' = bs, ?_, ?_, ?_, h0, h1⟩
            · exact fun W hW => call_tick_no db 77 now ho hcap hs x _ _ W hW k12 w1 w2 rfl rfl ha
            · exact fun W hW => wants_tick_no bb now ao cap bs x W hW k12 ha
            · rintro hs' bs' rfl rfl; exact s
          · have hb := tickF_bounds h0 h1 (show 0 ≤ x.a by omega)
            refine ⟨0, 0, tickF now x.a, fun hs' => hs' = hs, fun bs' => bs' = bs, ?_, ?_, ?_, hb.1, hb.2⟩
            · exact fun W hW => call_tick db 77 now ho hcap hs x _ _ W hW k12 w1 w2 rfl rfl (by omega) a2 h0 h1
            · intro W hW
              by_cases hc : 1099511627776 - now < x.a
              · exact wants_tick_hi bb now ao cap bs x W hW k12 (by omega) a2 h0 h1 hc
              · exact wants_tick_lo bb now ao cap bs x W hW k12 (by omega) a2 h0 h1 (by omega)
            · rintro hs' bs' rfl rfl; exact s
        · refine ⟨now, 0, now, fun hs' => hs' = hs, fun bs' => bs' = bs, ?_, ?_, ?_, h0, h1⟩
          · intro W hW
            by_cases hlo : x.kind < 0
            · exact call_clock_lo db 77 now ho hcap hs x _ _ W hW w1 w2 rfl rfl hlo
            · exact call_clock_hi db 77 now ho hcap hs x _ _ W hW w1 w2 rfl rfl (by omega)
          · exact fun W hW => wants_now bb now ao cap bs x W hW (beq_eq_false_iff_ne.2 k0) (beq_eq_false_iff_ne.2 k2) (beq_eq_false_iff_ne.2 k3) (beq_eq_false_iff_ne.2 k12)
          · rintro hs' bs' rfl rfl; exact s

end Go.Proofs.Ytdddbinlkljbcaa
