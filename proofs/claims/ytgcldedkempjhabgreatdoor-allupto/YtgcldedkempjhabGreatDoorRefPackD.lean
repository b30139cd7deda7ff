/-
  depotref: Feed, Publish, Yank, Grant.
-/
import Derived.Test.YtgcldedkempjhabGreatDoorRefMayV
namespace Go.Proofs.YtgcldedkempjhabGreatDoor
open Go.RowKit

set_option maxHeartbeats 800000 in
set_option maxRecDepth 100000 in
theorem rfeed_any (rb : Nat) (root time : Int) (ao : Option Addr) (cap : Nat) (ds : List Deed) (pack : ByteArray) (v : Int) (text : ByteArray) (w : World)
    (hr : RefAt w rb root time ao cap ds) (hlen : ds.length ≤ 1000000000000) (hp : pack.size ≤ 1000000000) (hs : text.size ≤ 1000000000) (E : Int) (hE : E = feedE ds pack v text) :
    Calls Tryz.prog 25 #[.pointer (some ⟨rb, 0, none⟩), .string pack, .int .i64 v, .string text] w fun e w' =>
      e = .returned (.int .i64 E) ∧ RefStep w w' rb root time ao (nextDs E ds (feedD pack v text)) := by
  have Hn := hide (name_any pack w hp)
  have Hm := hide (fun W h => rmayv_any rb root time ao cap ds ⟨#[]⟩ pack v text W h hlen hs)
  unfold feedE at hE
  cases hn : nameF pack with
  | false =>
    have H2 := hide (show E = 2 by rw [hE, hn]; rfl)
    have HN := hide hn
    clear hE hn
    go_enter Tryz.func25, Tryz.ntmps25
    go_wp2_with fail
    refine Hn.out.mono ?_
    rintro e w1 ⟨rfl, hb⟩
    rw [HN.out]
    go_wp2_with fail
    go_ret
    exact RefStep.err hr hb H2.out (by decide)
  | true =>
    have HE := hide (show E = mayE ds ⟨#[]⟩ pack v text by rw [hE, hn]; rfl)
    have HN := hide hn
    clear hE hn
    generalize mayE ds ⟨#[]⟩ pack v text = m at *
    go_enter Tryz.func25, Tryz.ntmps25
    go_wp2_with fail
    refine Hn.out.mono ?_
    rintro e w1 ⟨rfl, hb⟩
    rw [HN.out]
    go_wp2_with fail
    refine (Hm.out _ (hr.below hb)).mono ?_
    rintro e w2 ⟨rfl, hb2⟩
    have hb3 := below_call hb hb2
    go_wp2_with fail
    · go_ret
      exact RefStep.err hr hb3 HE.out (by simpa using ‹(m != 0) = true›)
    · have H0 := hide (show E = 0 by rw [HE.out]; simpa using ‹(m != 0) = false›)
      refine (done_any rb root time ao cap ds (feedD pack v text) _ (hr.below hb3) hlen).mono ?_
      rintro e w4 ⟨rfl, hst⟩
      go_wp2_with fail
      go_ret
      rw [H0.out]
      exact ⟨rfl, RefStep.behind hb3 hst⟩

set_option maxHeartbeats 800000 in
set_option maxRecDepth 100000 in
theorem rpublish_any (rb : Nat) (root time : Int) (ao : Option Addr) (cap : Nat) (ds : List Deed) (house : ByteArray) (id : Int) (pack : ByteArray) (v : Int) (text : ByteArray) (w : World)
    (hr : RefAt w rb root time ao cap ds) (hlen : ds.length ≤ 1000000000000) (hs : text.size ≤ 1000000000) (E : Int) (hE : E = publishE (roleF root time ds house id) ds house pack v text) :
    Calls Tryz.prog 27 #[.pointer (some ⟨rb, 0, none⟩), .string house, .int .i64 id, .string pack, .int .i64 v, .string text] w fun e w' =>
      e = .returned (.int .i64 E) ∧ RefStep w w' rb root time ao (nextDs E ds (publishD house id pack v text)) := by
  have Hw := hide (writes_any rb root time ao cap ds house id pack w hr hlen)
  have Hm := hide (fun W h => rmayv_any rb root time ao cap ds house pack v text W h hlen hs)
  unfold publishE at hE
  generalize writesE (roleF root time ds house id) (wordF pack) = g at *
  generalize mayE ds house pack v text = m at *
  have HE := hide hE
  clear hE
  go_enter Tryz.func27, Tryz.ntmps27
  go_wp2_with fail
  refine Hw.out.mono ?_
  rintro e w1 ⟨rfl, hb⟩
  go_wp2_with fail
  · go_ret
    have hg : g ≠ 0 := by simpa using ‹(g != 0) = true›
    exact RefStep.err hr hb (by rw [HE.out, if_pos hg]) hg
  · have HE2 := hide (show E = m by
      have hg : g = 0 := by simpa using ‹(g != 0) = false›
      rw [HE.out, if_neg (by simpa using hg)])
    refine (Hm.out _ (hr.below hb)).mono ?_
    rintro e w2 ⟨rfl, hb2⟩
    have hb3 := below_call hb hb2
    go_wp2_with fail
    · go_ret
      exact RefStep.err hr hb3 HE2.out (by simpa using ‹(m != 0) = true›)
    · have H0 := hide (show E = 0 by rw [HE2.out]; simpa using ‹(m != 0) = false›)
      refine (done_any rb root time ao cap ds (publishD house id pack v text) _ (hr.below hb3) hlen).mono ?_
      rintro e w4 ⟨rfl, hst⟩
      go_wp2_with fail
      go_ret
      rw [H0.out]
      exact ⟨rfl, RefStep.behind hb3 hst⟩

set_option maxHeartbeats 800000 in
set_option maxRecDepth 100000 in
theorem ryank_any (rb : Nat) (root time : Int) (ao : Option Addr) (cap : Nat) (ds : List Deed) (house : ByteArray) (id : Int) (pack : ByteArray) (v : Int) (back : Bool) (w : World)
    (hr : RefAt w rb root time ao cap ds) (hlen : ds.length ≤ 1000000000000) (E : Int) (hE : E = yankE (roleF root time ds house id) ds house pack v) :
    Calls Tryz.prog 29 #[.pointer (some ⟨rb, 0, none⟩), .string house, .int .i64 id, .string pack, .int .i64 v, .bool back] w fun e w' =>
      e = .returned (.int .i64 E) ∧ RefStep w w' rb root time ao (nextDs E ds (yankD back house id pack v)) := by
  have Hw := hide (writes_any rb root time ao cap ds house id pack w hr hlen)
  have HR := hide (fun W h => release_any rb root time ao cap ds house pack v W h hlen)
  unfold yankE at hE
  generalize writesE (roleF root time ds house id) (wordF pack) = g at *
  generalize relF ds house pack v = orl at *
  have HE := hide hE
  clear hE
  go_enter Tryz.func29, Tryz.ntmps29
  go_wp2_with fail
  refine Hw.out.mono ?_
  rintro e w1 ⟨rfl, hb⟩
  go_wp2_with fail
  · go_ret
    have hg : g ≠ 0 := by simpa using ‹(g != 0) = true›
    exact RefStep.err hr hb (by rw [HE.out, if_pos hg]) hg
  · have HE2 := hide (show E = if orl.isSome then 0 else 7 by
      have hg : g = 0 := by simpa using ‹(g != 0) = false›
      rw [HE.out, if_neg (by simpa using hg)])
    refine (HR.out _ (hr.below hb)).mono ?_
    rintro e w2 ⟨⟨x, _, rfl⟩, hb2⟩
    have hb3 := below_call hb hb2
    have hb4 := hb3.alloc hb3.size (.cells #[.string x.kind, .string x.house, .int .i64 x.who, .string x.pack, .string x.to, .int .i64 x.num, .int .i64 x.role, .int .i64 x.till, .string x.wants] 93)
    cases orl with
    | none =>
      have H7 := hide (show E = 7 by rw [HE2.out]; rfl)
      clear HE HE2
      simp only [Option.isSome_none]
      go_wp2_with fail
      go_ret
      exact RefStep.err hr hb4 H7.out (by decide)
    | some y =>
      have H0 := hide (show E = 0 by rw [HE2.out]; rfl)
      clear HE HE2
      simp only [Option.isSome_some]
      cases back with
      | true =>
        go_wp2_with fail
        refine (done_any rb root time ao cap ds (yankD true house id pack v) _ (hr.below hb4) hlen).mono ?_
        rintro e w4 ⟨rfl, hst⟩
        go_wp2_with fail
        go_ret
        rw [H0.out]
        exact ⟨rfl, RefStep.behind hb4 hst⟩
      | false =>
        go_wp2_with fail
        refine (done_any rb root time ao cap ds (yankD false house id pack v) _ (hr.below hb4) hlen).mono ?_
        rintro e w4 ⟨rfl, hst⟩
        go_wp2_with fail
        go_ret
        rw [H0.out]
        exact ⟨rfl, RefStep.behind hb4 hst⟩

set_option maxHeartbeats 1600000 in
set_option maxRecDepth 100000 in
theorem rgrant_any (rb : Nat) (root time : Int) (ao : Option Addr) (cap : Nat) (ds : List Deed) (house : ByteArray) (id : Int) (pack to : ByteArray) (w : World)
    (hr : RefAt w rb root time ao cap ds) (hlen : ds.length ≤ 1000000000000) (E : Int) (hE : E = grantE (roleF root time ds house id) ds house pack to) :
    Calls Tryz.prog 31 #[.pointer (some ⟨rb, 0, none⟩), .string house, .int .i64 id, .string pack, .string to] w fun e w' =>
      e = .returned (.int .i64 E) ∧ RefStep w w' rb root time ao (nextDs E ds (grantD house id pack to)) := by
  have Hr := hide (role_any rb root time ao cap ds house id w hr hlen)
  have Hw1 := hide (word_any pack)
  have Hw2 := hide (word_any to)
  have Hh := hide (fun W h => has_any rb root time ao cap ds house pack W h hlen)
  have Hg := hide (fun W h => granted_any rb root time ao cap ds house pack to W h hlen)
  have Hd := hide (fun W h => did_any rb root time ao cap ds kGrant house W h hlen)
  have hle := didF_le ds kGrant house
  unfold grantE at hE
  have HE := hide hE
  clear hE
  generalize roleF root time ds house id = r at *
  generalize wordF pack = b1 at *
  generalize wordF to = b2 at *
  generalize hasF ds house pack = b3 at *
  generalize grantF ds house pack to = b4 at *
  generalize didF ds kGrant house = n at *
  go_enter Tryz.func31, Tryz.ntmps31
  go_wp2_with fail
  refine Hr.out.mono ?_
  rintro e w1 ⟨rfl, hb1⟩
  go_wp2_with fail
  refine (Hw1.out _).mono ?_
  rintro e w2 ⟨rfl, h⟩
  subst h
  go_wp2_with fail
  refine (Hw2.out _).mono ?_
  rintro e w2 ⟨rfl, h⟩
  subst h
  go_wp2_with fail
  refine (Hh.out _ (hr.below hb1)).mono ?_
  rintro e w3 ⟨rfl, hb2⟩
  have hb3 := below_call hb1 hb2
  go_wp2_with fail
  refine (Hg.out _ (hr.below hb3)).mono ?_
  rintro e w4 ⟨rfl, hb4⟩
  have hb5 := below_call hb3 hb4
  go_wp2_with fail
  refine (Hd.out _ (hr.below hb5)).mono ?_
  rintro e w5 ⟨rfl, h⟩
  subst h
  clear Hr Hw1 Hw2 Hh Hg Hd hb1 hb2 hb3 hb4
  cases h0 : (r == 0) with
  | true =>
    have H := hide (show E = 3 by rw [HE.out, h0]; rfl)
    go_wp2_with fail
    go_ret
    exact RefStep.err hr hb5 H.out (by decide)
  | false =>
    cases h3 : (r == 3) with
    | false =>
      have H := hide (show E = 4 by rw [HE.out, h0, h3]; rfl)
      have h3' : (r != 3) = true := by rw [bne, h3]; rfl
      clear h3
      go_wp2_with fail
      go_ret
      exact RefStep.err hr hb5 H.out (by decide)
    | true =>
      have HE2 := hide (show E = if b1 = false ∨ b2 = false then 2 else if b3 = false then 7 else if b4 then 5 else if n = 6 then 6 else 0 by rw [HE.out, h0, h3]; rfl)
      have h3' : (r != 3) = false := by rw [bne, h3]; rfl
      clear h3 HE
      cases b1 with
      | false =>
        have H := hide (show E = 2 by rw [HE2.out]; rfl)
        go_wp2_with fail
        go_ret
        exact RefStep.err hr hb5 H.out (by decide)
      | true =>
        cases b2 with
        | false =>
          have H := hide (show E = 2 by rw [HE2.out]; rfl)
          go_wp2_with fail
          go_ret
          exact RefStep.err hr hb5 H.out (by decide)
        | true =>
          cases b3 with
          | false =>
            have H := hide (show E = 7 by rw [HE2.out]; rfl)
            go_wp2_with fail
            go_ret
            exact RefStep.err hr hb5 H.out (by decide)
          | true =>
            cases b4 with
            | true =>
              have H := hide (show E = 5 by rw [HE2.out]; rfl)
              go_wp2_with fail
              go_ret
              exact RefStep.err hr hb5 H.out (by decide)
            | false =>
              by_cases hn : n = 6
              · have H := hide (show E = 6 by rw [HE2.out, hn]; rfl)
                have t1 : ((n : Int) == 6) = true := by rw [beq_iff_eq]; omega
                clear hn HE2
                go_wp2_with fail
                go_ret
                exact RefStep.err hr hb5 H.out (by decide)
              · have H0 := hide (show E = 0 by rw [HE2.out]; simp [hn])
                have t1 : ((n : Int) == 6) = false := by rw [beq_eq_false_iff_ne]; omega
                clear hn HE2
                go_wp2_with fail
                refine (done_any rb root time ao cap ds (grantD house id pack to) _ (hr.below hb5) hlen).mono ?_
                rintro e w6 ⟨rfl, hst⟩
                go_wp2_with fail
                go_ret
                rw [H0.out]
                exact ⟨rfl, RefStep.behind hb5 hst⟩

end Go.Proofs.YtgcldedkempjhabGreatDoor
