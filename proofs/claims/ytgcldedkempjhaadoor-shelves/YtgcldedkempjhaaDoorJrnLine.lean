/-
  journal.Journal: begin, number, word, end; Mint, Revoke, Publish, Yank, Grant.
-/
import Derived.Test.YtgcldedkempjhaaDoorJrn
namespace Go.Proofs.YtgcldedkempjhaaDoor
open Go.RowKit

theorem itoaB_len (n : Int) : (⟨(Lib.itoa n).toArray⟩ : ByteArray).data.toList.length = (Lib.itoa n).length := rfl

theorem size_list (l : List UInt8) : (⟨l.toArray⟩ : ByteArray).size = l.length := by simp [ByteArray.size]

set_option maxHeartbeats 800000 in
set_option maxRecDepth 100000 in
theorem jBegin_any (base b o : Nat) (ao : Option Addr) (cap : Nat) (log : List UInt8) (id : Int) (deed : ByteArray) (w : World) (h : JC w base b o ao cap log) (hl : log.length ≤ 90000000000000) (hid : I64 id) (hd : deed.size ≤ 100) :
    Calls Tryd.prog 80 #[.pointer (some ⟨b, o, none⟩), .int .i64 id, .string deed] w fun e w' => e = .returned (.tuple #[]) ∧ JPush w w' base b o ao log (beginL id deed.data.toList) := by
  have hi := itoa_le hid
  have HI := hide (itoa_any id hid w h.tab)
  have HC := hide h
  have hsz := size_list (Lib.itoa id)
  clear h
  go_enter Tryd.func80, Tryd.ntmps80
  go_wp2_with fail
  refine HI.out.mono ?_
  rintro e w1 ⟨rfl, hb⟩
  have HC1 := HC.out.below hb
  go_wp2_with fail
  refine (jLay_any base b o ao cap log _ _ HC1 (by omega)).mono ?_
  rintro e w2 ⟨rfl, p1⟩
  obtain ⟨a2, c2, HC2, k2⟩ := HC1.push p1
  have K2 := hide k2
  clear k2 p1
  go_wp2_with fail
  refine (jLay_any base b o a2 c2 _ ⟨#[58]⟩ _ HC2 (by rw [List.length_append, itoaB_len]; show _ + 1 ≤ _; omega)).mono ?_
  rintro e w3 ⟨rfl, p2⟩
  obtain ⟨a3, c3, HC3, k3⟩ := HC2.push p2
  have K3 := hide k3
  clear k3 p2
  go_wp2_with fail
  refine (jLay_any base b o a3 c3 _ deed _ HC3 (by rw [List.length_append, List.length_append, itoaB_len]; show _ + 1 + _ ≤ _; omega)).mono ?_
  rintro e w4 ⟨rfl, p3⟩
  have HF := hide (JPush.behind hb (K2.out _ _ (K3.out _ _ p3)))
  clear p3
  go_wp2_with fail
  go_end0
  exact ⟨rfl, HF.out⟩

set_option maxHeartbeats 800000 in
set_option maxRecDepth 100000 in
theorem jWord_any (base b o : Nat) (ao : Option Addr) (cap : Nat) (log : List UInt8) (s : ByteArray) (w : World) (h : JC w base b o ao cap log) (hl : log.length ≤ 90000000000000) (hd : s.size ≤ 100) :
    Calls Tryd.prog 81 #[.pointer (some ⟨b, o, none⟩), .string s] w fun e w' => e = .returned (.tuple #[]) ∧ JPush w w' base b o ao log (sayL s.data.toList) := by
  have HC := hide h
  clear h
  go_enter Tryd.func81, Tryd.ntmps81
  go_wp2_with fail
  refine (jLay_any base b o ao cap log ⟨#[32]⟩ _ HC.out (by simp [ByteArray.size]; omega)).mono ?_
  rintro e w2 ⟨rfl, p1⟩
  obtain ⟨a2, c2, HC2, k2⟩ := HC.out.push p1
  have K2 := hide k2
  clear k2 p1
  go_wp2_with fail
  refine (jLay_any base b o a2 c2 _ s _ HC2 (by rw [List.length_append]; show _ + 1 + _ ≤ _; omega)).mono ?_
  rintro e w3 ⟨rfl, p2⟩
  have HF := hide (K2.out _ _ p2)
  clear p2
  go_wp2_with fail
  go_end0
  exact ⟨rfl, HF.out⟩

set_option maxHeartbeats 800000 in
set_option maxRecDepth 100000 in
theorem jNumber_any (base b o : Nat) (ao : Option Addr) (cap : Nat) (log : List UInt8) (n : Int) (w : World) (h : JC w base b o ao cap log) (hl : log.length ≤ 90000000000000) (hn : I64 n) :
    Calls Tryd.prog 97 #[.pointer (some ⟨b, o, none⟩), .int .i64 n] w fun e w' => e = .returned (.tuple #[]) ∧ JPush w w' base b o ao log (tenL n) := by
  have hi := itoa_le hn
  have HI := hide (itoa_any n hn w h.tab)
  have HC := hide h
  have hsz := size_list (Lib.itoa n)
  clear h
  go_enter Tryd.func97, Tryd.ntmps97
  go_wp2_with fail
  refine HI.out.mono ?_
  rintro e w1 ⟨rfl, hb⟩
  have HC1 := HC.out.below hb
  go_wp2_with fail
  refine (jWord_any base b o ao cap log _ _ HC1 hl (by omega)).mono ?_
  rintro e w2 ⟨rfl, p1⟩
  have HF := hide (JPush.behind hb p1)
  clear p1
  go_wp2_with fail
  go_end0
  exact ⟨rfl, HF.out⟩

set_option maxHeartbeats 800000 in
theorem jEnd_any (base b o : Nat) (ao : Option Addr) (cap : Nat) (log : List UInt8) (w : World) (h : JC w base b o ao cap log) (hl : log.length ≤ 90000000000000) :
    Calls Tryd.prog 82 #[.pointer (some ⟨b, o, none⟩)] w fun e w' => e = .returned (.tuple #[]) ∧ JPush w w' base b o ao log [59] := by
  go_enter Tryd.func82, Tryd.ntmps82
  go_wp2_with fail
  refine (jLay_any base b o ao cap log ⟨#[59]⟩ _ h (by simp [ByteArray.size]; omega)).mono ?_
  rintro e w2 ⟨rfl, p1⟩
  go_wp2_with fail
  go_end0
  exact ⟨rfl, p1⟩

section
variable (base b o : Nat) (ao : Option Addr) (cap : Nat) (log : List UInt8)

set_option maxHeartbeats 800000 in
set_option maxRecDepth 100000 in
theorem jMint_any (id fresh role till : Int) (w : World) (h : JAt w base b o ao cap log) (h1 : ¬ blockOf ao b) (h2 : base ≤ w.heap.size) (h3 : TabOk w) (h4 : tabB < base) (h5 : tabB < b) (hl : log.length ≤ 80000000000000)
    (q1 : I64 id) (q2 : I64 fresh) (q3 : I64 role) (q4 : I64 till) :
    Calls Tryd.prog 72 #[.pointer (some ⟨b, o, none⟩), .int .i64 id, .int .i64 fresh, .int .i64 role, .int .i64 till] w fun e w' => e = .returned (.tuple #[]) ∧ JPush w w' base b o ao log (mintLine id fresh role till) := by
  have HC := hide (JC.mk h h1 h2 h3 h4 h5)
  have l1 := itoa_le q1
  have l2 := itoa_le q2
  have l3 := itoa_le q3
  have l4 := itoa_le q4
  clear h h1 h2 h3 h4 h5
  go_enter Tryd.func72, Tryd.ntmps72
  go_wp2_with fail
  refine (jBegin_any base b o ao cap log id ⟨#[109, 105, 110, 116]⟩ _ HC.out (by omega) q1 (by decide)).mono ?_
  rintro e w1 ⟨rfl, p⟩
  obtain ⟨a1, c1, HC1, k⟩ := HC.out.push p
  have K1 := hide k
  clear k p
  go_wp2_with fail
  refine (jNumber_any base b o a1 c1 _ fresh _ HC1 (by simp [beginL]; omega) q2).mono ?_
  rintro e w2 ⟨rfl, p⟩
  obtain ⟨a2, c2, HC2, k⟩ := HC1.push p
  have K2 := hide k
  clear k p
  go_wp2_with fail
  refine (jNumber_any base b o a2 c2 _ role _ HC2 (by simp [beginL, tenL]; omega) q3).mono ?_
  rintro e w3 ⟨rfl, p⟩
  obtain ⟨a3, c3, HC3, k⟩ := HC2.push p
  have K3 := hide k
  clear k p
  go_wp2_with fail
  refine (jNumber_any base b o a3 c3 _ till _ HC3 (by simp [beginL, tenL]; omega) q4).mono ?_
  rintro e w4 ⟨rfl, p⟩
  obtain ⟨a4, c4, HC4, k⟩ := HC3.push p
  have K4 := hide k
  clear k p
  go_wp2_with fail
  refine (jEnd_any base b o a4 c4 _ _ HC4 (by simp [beginL, tenL]; omega)).mono ?_
  rintro e w5 ⟨rfl, p⟩
  have HF := hide (K1.out _ _ (K2.out _ _ (K3.out _ _ (K4.out _ _ p))))
  clear p
  go_wp2_with fail
  go_end0
  exact ⟨rfl, HF.out⟩

set_option maxHeartbeats 800000 in
set_option maxRecDepth 100000 in
theorem jRevoke_any (id old : Int) (w : World) (h : JAt w base b o ao cap log) (h1 : ¬ blockOf ao b) (h2 : base ≤ w.heap.size) (h3 : TabOk w) (h4 : tabB < base) (h5 : tabB < b) (hl : log.length ≤ 80000000000000)
    (q1 : I64 id) (q2 : I64 old) :
    Calls Tryd.prog 99 #[.pointer (some ⟨b, o, none⟩), .int .i64 id, .int .i64 old] w fun e w' => e = .returned (.tuple #[]) ∧ JPush w w' base b o ao log (revokeLine id old) := by
  have HC := hide (JC.mk h h1 h2 h3 h4 h5)
  have l1 := itoa_le q1
  have l2 := itoa_le q2
  clear h h1 h2 h3 h4 h5
  go_enter Tryd.func99, Tryd.ntmps99
  go_wp2_with fail
  refine (jBegin_any base b o ao cap log id ⟨#[114, 101, 118, 111, 107, 101]⟩ _ HC.out (by omega) q1 (by decide)).mono ?_
  rintro e w1 ⟨rfl, p⟩
  obtain ⟨a1, c1, HC1, k⟩ := HC.out.push p
  have K1 := hide k
  clear k p
  go_wp2_with fail
  refine (jNumber_any base b o a1 c1 _ old _ HC1 (by simp [beginL]; omega) q2).mono ?_
  rintro e w2 ⟨rfl, p⟩
  obtain ⟨a2, c2, HC2, k⟩ := HC1.push p
  have K2 := hide k
  clear k p
  go_wp2_with fail
  refine (jEnd_any base b o a2 c2 _ _ HC2 (by simp [beginL, tenL]; omega)).mono ?_
  rintro e w5 ⟨rfl, p⟩
  have HF := hide (K1.out _ _ (K2.out _ _ p))
  clear p
  go_wp2_with fail
  go_end0
  exact ⟨rfl, HF.out⟩

set_option maxHeartbeats 800000 in
set_option maxRecDepth 100000 in
theorem jPublish_any (id : Int) (pack : ByteArray) (v : Int) (w : World) (h : JAt w base b o ao cap log) (h1 : ¬ blockOf ao b) (h2 : base ≤ w.heap.size) (h3 : TabOk w) (h4 : tabB < base) (h5 : tabB < b) (hl : log.length ≤ 80000000000000)
    (q1 : I64 id) (q2 : pack.size ≤ 4) (q3 : I64 v) :
    Calls Tryd.prog 94 #[.pointer (some ⟨b, o, none⟩), .int .i64 id, .string pack, .int .i64 v] w fun e w' => e = .returned (.tuple #[]) ∧ JPush w w' base b o ao log (publishLine id pack.data.toList v) := by
  have HC := hide (JC.mk h h1 h2 h3 h4 h5)
  have l1 := itoa_le q1
  have l3 := itoa_le q3
  have l2 : pack.data.toList.length ≤ 4 := by simpa using q2
  clear h h1 h2 h3 h4 h5
  go_enter Tryd.func94, Tryd.ntmps94
  go_wp2_with fail
  refine (jBegin_any base b o ao cap log id ⟨#[112, 117, 98, 108, 105, 115, 104]⟩ _ HC.out (by omega) q1 (by decide)).mono ?_
  rintro e w1 ⟨rfl, p⟩
  obtain ⟨a1, c1, HC1, k⟩ := HC.out.push p
  have K1 := hide k
  clear k p
  go_wp2_with fail
  refine (jWord_any base b o a1 c1 _ pack _ HC1 (by simp only [beginL, List.length_append, List.length_cons, List.length_nil]; omega) (by omega)).mono ?_
  rintro e w2 ⟨rfl, p⟩
  obtain ⟨a2, c2, HC2, k⟩ := HC1.push p
  have K2 := hide k
  clear k p
  go_wp2_with fail
  refine (jNumber_any base b o a2 c2 _ v _ HC2 (by simp only [beginL, sayL, List.length_append, List.length_cons, List.length_nil]; omega) q3).mono ?_
  rintro e w3 ⟨rfl, p⟩
  obtain ⟨a3, c3, HC3, k⟩ := HC2.push p
  have K3 := hide k
  clear k p
  go_wp2_with fail
  refine (jEnd_any base b o a3 c3 _ _ HC3 (by simp only [beginL, sayL, tenL, List.length_append, List.length_cons, List.length_nil]; omega)).mono ?_
  rintro e w5 ⟨rfl, p⟩
  have HF := hide (K1.out _ _ (K2.out _ _ (K3.out _ _ p)))
  clear p
  go_wp2_with fail
  go_end0
  exact ⟨rfl, HF.out⟩

set_option maxHeartbeats 800000 in
set_option maxRecDepth 100000 in
theorem jYank_any (id : Int) (pack : ByteArray) (v : Int) (back : Bool) (w : World) (h : JAt w base b o ao cap log) (h1 : ¬ blockOf ao b) (h2 : base ≤ w.heap.size) (h3 : TabOk w) (h4 : tabB < base) (h5 : tabB < b) (hl : log.length ≤ 80000000000000)
    (q1 : I64 id) (q2 : pack.size ≤ 4) (q3 : I64 v) :
    Calls Tryd.prog 101 #[.pointer (some ⟨b, o, none⟩), .int .i64 id, .string pack, .int .i64 v, .bool back] w fun e w' => e = .returned (.tuple #[]) ∧ JPush w w' base b o ao log (yankLine id pack.data.toList v (!back)) := by
  have HC := hide (JC.mk h h1 h2 h3 h4 h5)
  have l1 := itoa_le q1
  have l3 := itoa_le q3
  have l2 : pack.data.toList.length ≤ 4 := by simpa using q2
  clear h h1 h2 h3 h4 h5
  cases back with
  | false =>
    go_enter Tryd.func101, Tryd.ntmps101
    go_wp2_with fail
    refine (jBegin_any base b o ao cap log id ⟨#[121, 97, 110, 107]⟩ _ HC.out (by omega) q1 (by decide)).mono ?_
    rintro e w1 ⟨rfl, p⟩
    obtain ⟨a1, c1, HC1, k⟩ := HC.out.push p
    have K1 := hide k
    clear k p
    go_wp2_with fail
    refine (jWord_any base b o a1 c1 _ pack _ HC1 (by simp only [beginL, List.length_append, List.length_cons, List.length_nil]; omega) (by omega)).mono ?_
    rintro e w2 ⟨rfl, p⟩
    obtain ⟨a2, c2, HC2, k⟩ := HC1.push p
    have K2 := hide k
    clear k p
    go_wp2_with fail
    refine (jNumber_any base b o a2 c2 _ v _ HC2 (by simp only [beginL, sayL, List.length_append, List.length_cons, List.length_nil]; omega) q3).mono ?_
    rintro e w3 ⟨rfl, p⟩
    obtain ⟨a3, c3, HC3, k⟩ := HC2.push p
    have K3 := hide k
    clear k p
    go_wp2_with fail
    refine (jEnd_any base b o a3 c3 _ _ HC3 (by simp only [beginL, sayL, tenL, List.length_append, List.length_cons, List.length_nil]; omega)).mono ?_
    rintro e w5 ⟨rfl, p⟩
    have HF := hide (K1.out _ _ (K2.out _ _ (K3.out _ _ p)))
    clear p
    go_wp2_with fail
    go_end0
    exact ⟨rfl, HF.out⟩
  | true =>
    go_enter Tryd.func101, Tryd.ntmps101
    go_wp2_with fail
    refine (jBegin_any base b o ao cap log id ⟨#[98, 97, 99, 107]⟩ _ HC.out (by omega) q1 (by decide)).mono ?_
    rintro e w1 ⟨rfl, p⟩
    obtain ⟨a1, c1, HC1, k⟩ := HC.out.push p
    have K1 := hide k
    clear k p
    go_wp2_with fail
    refine (jWord_any base b o a1 c1 _ pack _ HC1 (by simp only [beginL, List.length_append, List.length_cons, List.length_nil]; omega) (by omega)).mono ?_
    rintro e w2 ⟨rfl, p⟩
    obtain ⟨a2, c2, HC2, k⟩ := HC1.push p
    have K2 := hide k
    clear k p
    go_wp2_with fail
    refine (jNumber_any base b o a2 c2 _ v _ HC2 (by simp only [beginL, sayL, List.length_append, List.length_cons, List.length_nil]; omega) q3).mono ?_
    rintro e w3 ⟨rfl, p⟩
    obtain ⟨a3, c3, HC3, k⟩ := HC2.push p
    have K3 := hide k
    clear k p
    go_wp2_with fail
    refine (jEnd_any base b o a3 c3 _ _ HC3 (by simp only [beginL, sayL, tenL, List.length_append, List.length_cons, List.length_nil]; omega)).mono ?_
    rintro e w5 ⟨rfl, p⟩
    have HF := hide (K1.out _ _ (K2.out _ _ (K3.out _ _ p)))
    clear p
    go_wp2_with fail
    go_end0
    exact ⟨rfl, HF.out⟩

set_option maxHeartbeats 800000 in
set_option maxRecDepth 100000 in
theorem jGrant_any (id : Int) (pack to : ByteArray) (w : World) (h : JAt w base b o ao cap log) (h1 : ¬ blockOf ao b) (h2 : base ≤ w.heap.size) (h3 : TabOk w) (h4 : tabB < base) (h5 : tabB < b) (hl : log.length ≤ 80000000000000)
    (q1 : I64 id) (q2 : pack.size ≤ 4) (q3 : to.size ≤ 4) :
    Calls Tryd.prog 52 #[.pointer (some ⟨b, o, none⟩), .int .i64 id, .string pack, .string to] w fun e w' => e = .returned (.tuple #[]) ∧ JPush w w' base b o ao log (grantLine id pack.data.toList to.data.toList) := by
  have HC := hide (JC.mk h h1 h2 h3 h4 h5)
  have l1 := itoa_le q1
  have l2 : pack.data.toList.length ≤ 4 := by simpa using q2
  have l3 : to.data.toList.length ≤ 4 := by simpa using q3
  clear h h1 h2 h3 h4 h5
  go_enter Tryd.func52, Tryd.ntmps52
  go_wp2_with fail
  refine (jBegin_any base b o ao cap log id ⟨#[103, 114, 97, 110, 116]⟩ _ HC.out (by omega) q1 (by decide)).mono ?_
  rintro e w1 ⟨rfl, p⟩
  obtain ⟨a1, c1, HC1, k⟩ := HC.out.push p
  have K1 := hide k
  clear k p
  go_wp2_with fail
  refine (jWord_any base b o a1 c1 _ pack _ HC1 (by simp only [beginL, List.length_append, List.length_cons, List.length_nil]; omega) (by omega)).mono ?_
  rintro e w2 ⟨rfl, p⟩
  obtain ⟨a2, c2, HC2, k⟩ := HC1.push p
  have K2 := hide k
  clear k p
  go_wp2_with fail
  refine (jWord_any base b o a2 c2 _ to _ HC2 (by simp only [beginL, sayL, List.length_append, List.length_cons, List.length_nil]; omega) (by omega)).mono ?_
  rintro e w3 ⟨rfl, p⟩
  obtain ⟨a3, c3, HC3, k⟩ := HC2.push p
  have K3 := hide k
  clear k p
  go_wp2_with fail
  refine (jEnd_any base b o a3 c3 _ _ HC3 (by simp only [beginL, sayL, List.length_append, List.length_cons, List.length_nil]; omega)).mono ?_
  rintro e w5 ⟨rfl, p⟩
  have HF := hide (K1.out _ _ (K2.out _ _ (K3.out _ _ p)))
  clear p
  go_wp2_with fail
  go_end0
  exact ⟨rfl, HF.out⟩

end

end Go.Proofs.YtgcldedkempjhaaDoor
