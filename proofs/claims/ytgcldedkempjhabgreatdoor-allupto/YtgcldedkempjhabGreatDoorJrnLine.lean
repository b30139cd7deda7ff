/-
  journal.Journal: begin, number, word, end; Mint, Revoke, Publish, Yank, Grant.
-/
import Derived.Test.YtgcldedkempjhabGreatDoorJrnMem
import Derived.Test.YtgcldedkempjhabGreatDoorLay
import Derived.Test.YtgcldedkempjhabGreatDoorWords
import Derived.Lib.ItoaLen
import Derived.Lib.AppendIntMem
namespace Go.Proofs.YtgcldedkempjhabGreatDoor
section
open Go.RowKit

def I64 (n : Int) : Prop := -9223372036854775808 ≤ n ∧ n ≤ 9223372036854775807

theorem i64_small {n : Int} (h : 1 ≤ n ∧ n ≤ 3) : I64 n := ⟨by omega, by omega⟩
theorem i64_nine {n : Int} (h : 1 ≤ n ∧ n ≤ 9) : I64 n := ⟨by omega, by omega⟩

def beginL (id : Int) (deed : List UInt8) : List UInt8 := Lib.itoa id ++ (58 :: deed)
def tenL (n : Int) : List UInt8 := 32 :: Lib.itoa n
def sayL (s : List UInt8) : List UInt8 := 32 :: s

def mintLine (id fresh role till : Int) : List UInt8 := beginL id [109, 105, 110, 116] ++ (tenL fresh ++ (tenL role ++ (tenL till ++ [59])))
def revokeLine (id old : Int) : List UInt8 := beginL id [114, 101, 118, 111, 107, 101] ++ (tenL old ++ [59])
def publishLine (id : Int) (pack : List UInt8) (v : Int) : List UInt8 := beginL id [112, 117, 98, 108, 105, 115, 104] ++ (sayL pack ++ (tenL v ++ [59]))
def yankLine (id : Int) (pack : List UInt8) (v : Int) (off : Bool) : List UInt8 := beginL id (if off then [121, 97, 110, 107] else [98, 97, 99, 107]) ++ (sayL pack ++ (tenL v ++ [59]))
def grantLine (id : Int) (pack to : List UInt8) : List UInt8 := beginL id [103, 114, 97, 110, 116] ++ (sayL pack ++ (sayL to ++ [59]))

theorem itoa_le {n : Int} (h : I64 n) : (Lib.itoa n).length ≤ 21 := Lib.itoa_length_le n h.1 h.2

theorem say_len {s : ByteArray} (h : wordF s = true) : s.size ≤ 4 := by
  simp [wordF] at h
  exact h.1.2

theorem say_list {s : ByteArray} (h : wordF s = true) : s.data.toList.length ≤ 4 := by
  have := say_len h
  simpa using this

theorem mintLine_le {id fresh role till : Int} (h1 : I64 id) (h2 : I64 fresh) (h3 : I64 role) (h4 : I64 till) : (mintLine id fresh role till).length ≤ 120 := by
  have := itoa_le h1
  have := itoa_le h2
  have := itoa_le h3
  have := itoa_le h4
  simp only [mintLine, beginL, tenL, List.length_append, List.length_cons, List.length_nil]
  omega

theorem revokeLine_le {id old : Int} (h1 : I64 id) (h2 : I64 old) : (revokeLine id old).length ≤ 120 := by
  have := itoa_le h1
  have := itoa_le h2
  simp only [revokeLine, beginL, tenL, List.length_append, List.length_cons, List.length_nil]
  omega

theorem publishLine_le {id v : Int} {pack : ByteArray} (h1 : I64 id) (h2 : wordF pack = true) (h3 : I64 v) : (publishLine id pack.data.toList v).length ≤ 120 := by
  have := itoa_le h1
  have := itoa_le h3
  have := say_list h2
  simp only [publishLine, beginL, tenL, sayL, List.length_append, List.length_cons, List.length_nil]
  omega

theorem yankLine_le {id v : Int} {pack : ByteArray} {off : Bool} (h1 : I64 id) (h2 : wordF pack = true) (h3 : I64 v) : (yankLine id pack.data.toList v off).length ≤ 120 := by
  have := itoa_le h1
  have := itoa_le h3
  have := say_list h2
  cases off <;> simp only [yankLine, beginL, tenL, sayL, List.length_append, List.length_cons, List.length_nil, if_true, if_false, Bool.false_eq_true] <;> omega

theorem grantLine_le {id : Int} {pack to : ByteArray} (h1 : I64 id) (h2 : wordF pack = true) (h3 : wordF to = true) : (grantLine id pack.data.toList to.data.toList).length ≤ 120 := by
  have := itoa_le h1
  have := say_list h2
  have := say_list h3
  simp only [grantLine, beginL, sayL, List.length_append, List.length_cons, List.length_nil]
  omega

/-- strconv.Itoa, of any number. -/
theorem itoa_any (n : Int) (h : I64 n) (w : World) (ht : TabOk w) :
    Calls Tryz.prog 98 #[.int .i64 n] w fun e w' => e = .returned (.string ⟨(Lib.itoa n).toArray⟩) ∧ Below w.heap.size w w' := by
  refine (Any.strconv_Itoa Tryz.laysM171 n h.1 h.2 w ?_).mono ?_
  · obtain ⟨t, fr, h⟩ := ht
    unfold Lib.TabIs World.var?
    rw [show Tryz.prog.globalNamed _ = some 0 by kernel_rfl]
    simp only [Option.bind_some, h]
  · rintro e w' ⟨rfl, k, os, rfl⟩
    exact ⟨rfl, Lib.below_grow _ _ (Nat.le_refl _) _ _⟩

/-- A journal, and what its calls lean on. -/
structure JC (w : World) (base b o : Nat) (ao : Option Addr) (cap : Nat) (log : List UInt8) : Prop where
  at_ : JAt w base b o ao cap log
  nb : ¬ blockOf ao b
  sz : base ≤ w.heap.size
  tab : TabOk w
  t1 : tabB < base
  t2 : tabB < b

section
variable {w w' w1 : World} {base b o : Nat} {ao : Option Addr} {cap : Nat} {log news : List UInt8}

theorem JC.below (h : JC w base b o ao cap log) (hb : Below w.heap.size w w') : JC w' base b o ao cap log :=
  ⟨⟨(hb.cell (p := ⟨b, o, none⟩) h.at_.lt).trans h.at_.c, (World.frozen?_of_block (hb.block _ h.at_.lt)).trans h.at_.f, ownsRow_keep' h.at_.own hb⟩, h.nb, Nat.le_trans h.sz hb.size, h.tab.below hb, h.t1, h.t2⟩

theorem JC.push (h : JC w base b o ao cap log) (p : JPush w w' base b o ao log news) :
    ∃ ao' cap', JC w' base b o ao' cap' (log ++ news) ∧ ∀ w'' n2, JPush w' w'' base b o ao' (log ++ news) n2 → JPush w w'' base b o ao log (news ++ n2) := by
  have htab := p.tab h.at_ h.tab h.t1 h.t2
  have hsz := p.size
  obtain ⟨ao', cap', hj, hc, hao⟩ := p
  refine ⟨ao', cap', ⟨hj, fun hb => ?_, Nat.le_trans h.sz hsz, htab, h.t1, h.t2⟩, fun w'' n2 p2 => JPush.trans hj hc hao p2⟩
  have := h.at_.lt
  exact (hao b hb).elim h.nb (fun h => by omega)

theorem JPush.behind (hb : Below w.heap.size w w1) (p : JPush w1 w' base b o ao log news) : JPush w w' base b o ao log news := by
  obtain ⟨ao', cap', hj, hc, hao⟩ := p
  have hs : w1.heap.size ≤ w'.heap.size := by simpa [World.setCell] using hc.size
  have hs0 := hb.size
  refine ⟨ao', cap', hj, ⟨hc.os.trans hb.os, hc.tape.trans hb.tape, hc.output.trans hb.output, ?_, ?_⟩, fun k hk => (hao k hk).imp id (fun h => by omega)⟩
  · simp only [World.setCell, Array.size_modify]; omega
  · intro k hk hn
    have hk' : k < w.heap.size := by simpa [World.setCell] using hk
    rw [hc.block k (by simp only [World.setCell, Array.size_modify]; omega) hn]
    exact heap_setCell_congr (hb.block k hk') _ _

end

theorem jlaid {w w1 : World} {base b o : Nat} {ao ao' : Option Addr} {cap cap' : Nat} {log : List UInt8} {s : ByteArray} (h : JC w base b o ao cap log)
    (hown : w1.ownsRow base 5 1 (.slice ao' (log.length + s.size) cap') (log.length + s.size) (bCells log ++ Lib.strCells s)) (hgrow : w.grownBy w1 (Value.ownBlock (.slice ao log.length cap)))
    (hnew : ∀ k, blockOf ao' k → Value.ownBlock (.slice ao log.length cap) = some k ∨ w.heap.size ≤ k) : JPush w (w1.setCell ⟨b, o, none⟩ (.slice ao' (log.length + s.size) cap')) base b o ao log s.data.toList := by
  have hlt := h.at_.lt
  have hl : (log ++ s.data.toList).length = log.length + s.size := by simp
  have hkb : w1.heap[b]? = w.heap[b]? := hgrow.block b hlt (fun e => h.nb (row_of e.symm))
  have hao : ∀ k, blockOf ao' k → blockOf ao k ∨ w.heap.size ≤ k := fun k hk => (hnew k hk).imp row_of id
  have hnb : ¬ blockOf ao' b := fun hk => (hao b hk).elim h.nb (fun h => by omega)
  refine ⟨ao', cap', ⟨?_, ?_, ?_⟩, ?_, hao⟩
  · rw [cell_setCell_same ((World.cell?_of_block (a := ⟨b, o, none⟩) hkb).trans h.at_.c), hl]
  · rw [frozen_setCell]; exact (World.frozen?_of_block hkb).trans h.at_.f
  · rw [hl, bCells_append, ← bCells_str]
    exact ownsRow_setCell_other hown hnb _
  · rw [hl]
    refine ⟨hgrow.os, hgrow.tape, hgrow.output, by simpa [World.setCell] using hgrow.size, fun k hk hn => ?_⟩
    exact heap_setCell_congr (hgrow.block k (by simpa [World.setCell] using hk) (fun e => hn (row_of e.symm))) _ _

theorem Tryz.infoByte : (Tryz.prog.info? 5).map (fun i => (i.zero, i.size, i.bytes)) = some (some (.int .u8 0), 1, 1) := by kernel_rfl

set_option maxHeartbeats 800000 in
set_option maxRecDepth 100000 in
theorem jLay_any (base b o : Nat) (ao : Option Addr) (cap : Nat) (log : List UInt8) (s : ByteArray) (w : World) (h : JC w base b o ao cap log) (hl : log.length + s.size ≤ 100000000000000) :
    Calls Tryz.prog 109 #[.pointer (some ⟨b, o, none⟩), .string s] w fun e w' => e = .returned (.tuple #[]) ∧ JPush w w' base b o ao log s.data.toList := by
  have c := h.at_.c
  have hf := h.at_.f
  have hlt := h.at_.lt
  have HC := hide h
  have hown := h.at_.own
  have hsz := h.sz
  obtain ⟨i0, ti, hz0, hz1, hz2⟩ := info_parts Tryz.infoByte
  clear h
  have B1 : log.length + s.size ≤ maxLen := by unfold maxLen; omega
  go_enter Tryz.func109, Tryz.ntmps109
  go_wp2_with (at_builtin; refine wpList_append_own_string2 _ rfl (.tmp 8) (.tmp 9) 81 9 rfl base 5 i0 Tryz.underlying81 Tryz.underlying9 ti hz0 hz1 hz2 (.slice ao log.length cap) log.length (bCells log) rfl hown s rfl B1 (by omega) hsz ?_)
  intro ao' cap' w1 hown1 hgrow hnew
  have hkb : w1.heap[b]? = w.heap[b]? := hgrow.block b hlt (fun e => HC.out.nb (row_of e.symm))
  have k2 := (World.cell?_of_block (a := ⟨b, o, none⟩) hkb).trans c
  have kf := (World.frozen?_of_block (a := ⟨b, o, none⟩) hkb).trans hf
  have HP := hide (show JPush w (w1.setCell ⟨b, o, none⟩ (.slice ao' (log.length + s.size) cap')) base b o ao log s.data.toList from jlaid HC.out hown1 hgrow hnew)
  clear hown1 hgrow hnew hkb hown
  go_wp2_with fail
  go_end0
  exact ⟨rfl, HP.out⟩

end

section
open Go.RowKit

theorem itoaB_len (n : Int) : (⟨(Lib.itoa n).toArray⟩ : ByteArray).data.toList.length = (Lib.itoa n).length := rfl

theorem size_list (l : List UInt8) : (⟨l.toArray⟩ : ByteArray).size = l.length := by simp [ByteArray.size]

set_option maxHeartbeats 800000 in
set_option maxRecDepth 100000 in
theorem jBegin_any (base b o : Nat) (ao : Option Addr) (cap : Nat) (log : List UInt8) (id : Int) (deed : ByteArray) (w : World) (h : JC w base b o ao cap log) (hl : log.length ≤ 90000000000000) (hid : I64 id) (hd : deed.size ≤ 100) :
    Calls Tryz.prog 87 #[.pointer (some ⟨b, o, none⟩), .int .i64 id, .string deed] w fun e w' => e = .returned (.tuple #[]) ∧ JPush w w' base b o ao log (beginL id deed.data.toList) := by
  have hi := itoa_le hid
  have HI := hide (itoa_any id hid w h.tab)
  have HC := hide h
  have hsz := size_list (Lib.itoa id)
  clear h
  go_enter Tryz.func87, Tryz.ntmps87
  go_wp2_with fail
  refine HI.out.mono ?_
  rintro e w1 ⟨rfl, hb⟩
  have HC1 := HC.out.below hb
  go_wp2_with fail
  refine (jLay_any base b o ao cap log _ _ HC1 (by omega)).mono ?_
  rintro e w2 ⟨rfl, p1⟩
  obtain ⟨a2, c2, HC2, k2⟩ := HC1.push p1
  have K2 := hide k2
  clear k2 p1
  go_wp2_with fail
  refine (jLay_any base b o a2 c2 _ ⟨#[58]⟩ _ HC2 (by rw [List.length_append, itoaB_len]; show _ + 1 ≤ _; omega)).mono ?_
  rintro e w3 ⟨rfl, p2⟩
  obtain ⟨a3, c3, HC3, k3⟩ := HC2.push p2
  have K3 := hide k3
  clear k3 p2
  go_wp2_with fail
  refine (jLay_any base b o a3 c3 _ deed _ HC3 (by rw [List.length_append, List.length_append, itoaB_len]; show _ + 1 + _ ≤ _; omega)).mono ?_
  rintro e w4 ⟨rfl, p3⟩
  have HF := hide (JPush.behind hb (K2.out _ _ (K3.out _ _ p3)))
  clear p3
  go_wp2_with fail
  go_end0
  exact ⟨rfl, HF.out⟩

set_option maxHeartbeats 800000 in
set_option maxRecDepth 100000 in
theorem jWord_any (base b o : Nat) (ao : Option Addr) (cap : Nat) (log : List UInt8) (s : ByteArray) (w : World) (h : JC w base b o ao cap log) (hl : log.length ≤ 90000000000000) (hd : s.size ≤ 100) :
    Calls Tryz.prog 94 #[.pointer (some ⟨b, o, none⟩), .string s] w fun e w' => e = .returned (.tuple #[]) ∧ JPush w w' base b o ao log (sayL s.data.toList) := by
  have HC := hide h
  clear h
  go_enter Tryz.func94, Tryz.ntmps94
  go_wp2_with fail
  refine (jLay_any base b o ao cap log ⟨#[32]⟩ _ HC.out (by simp [ByteArray.size]; omega)).mono ?_
  rintro e w2 ⟨rfl, p1⟩
  obtain ⟨a2, c2, HC2, k2⟩ := HC.out.push p1
  have K2 := hide k2
  clear k2 p1
  go_wp2_with fail
  refine (jLay_any base b o a2 c2 _ s _ HC2 (by rw [List.length_append]; show _ + 1 + _ ≤ _; omega)).mono ?_
  rintro e w3 ⟨rfl, p2⟩
  have HF := hide (K2.out _ _ p2)
  clear p2
  go_wp2_with fail
  go_end0
  exact ⟨rfl, HF.out⟩

set_option maxHeartbeats 800000 in
set_option maxRecDepth 100000 in
theorem jNumber_any (base b o : Nat) (ao : Option Addr) (cap : Nat) (log : List UInt8) (n : Int) (w : World) (h : JC w base b o ao cap log) (hl : log.length ≤ 90000000000000) (hn : I64 n) :
    Calls Tryz.prog 88 #[.pointer (some ⟨b, o, none⟩), .int .i64 n] w fun e w' => e = .returned (.tuple #[]) ∧ JPush w w' base b o ao log (tenL n) := by
  have hi := itoa_le hn
  have HI := hide (itoa_any n hn w h.tab)
  have HC := hide h
  have hsz := size_list (Lib.itoa n)
  clear h
  go_enter Tryz.func88, Tryz.ntmps88
  go_wp2_with fail
  refine HI.out.mono ?_
  rintro e w1 ⟨rfl, hb⟩
  have HC1 := HC.out.below hb
  go_wp2_with fail
  refine (jWord_any base b o ao cap log _ _ HC1 hl (by omega)).mono ?_
  rintro e w2 ⟨rfl, p1⟩
  have HF := hide (JPush.behind hb p1)
  clear p1
  go_wp2_with fail
  go_end0
  exact ⟨rfl, HF.out⟩

set_option maxHeartbeats 800000 in
theorem jEnd_any (base b o : Nat) (ao : Option Addr) (cap : Nat) (log : List UInt8) (w : World) (h : JC w base b o ao cap log) (hl : log.length ≤ 90000000000000) :
    Calls Tryz.prog 89 #[.pointer (some ⟨b, o, none⟩)] w fun e w' => e = .returned (.tuple #[]) ∧ JPush w w' base b o ao log [59] := by
  go_enter Tryz.func89, Tryz.ntmps89
  go_wp2_with fail
  refine (jLay_any base b o ao cap log ⟨#[59]⟩ _ h (by simp [ByteArray.size]; omega)).mono ?_
  rintro e w2 ⟨rfl, p1⟩
  go_wp2_with fail
  go_end0
  exact ⟨rfl, p1⟩

section
variable (base b o : Nat) (ao : Option Addr) (cap : Nat) (log : List UInt8)

set_option maxHeartbeats 800000 in
set_option maxRecDepth 100000 in
theorem jMint_any (id fresh role till : Int) (w : World) (h : JAt w base b o ao cap log) (h1 : ¬ blockOf ao b) (h2 : base ≤ w.heap.size) (h3 : TabOk w) (h4 : tabB < base) (h5 : tabB < b) (hl : log.length ≤ 80000000000000)
    (q1 : I64 id) (q2 : I64 fresh) (q3 : I64 role) (q4 : I64 till) :
    Calls Tryz.prog 49 #[.pointer (some ⟨b, o, none⟩), .int .i64 id, .int .i64 fresh, .int .i64 role, .int .i64 till] w fun e w' => e = .returned (.tuple #[]) ∧ JPush w w' base b o ao log (mintLine id fresh role till) := by
  have HC := hide (JC.mk h h1 h2 h3 h4 h5)
  have l1 := itoa_le q1
  have l2 := itoa_le q2
  have l3 := itoa_le q3
  have l4 := itoa_le q4
  clear h h1 h2 h3 h4 h5
  go_enter Tryz.func49, Tryz.ntmps49
  go_wp2_with fail
  refine (jBegin_any base b o ao cap log id ⟨#[109, 105, 110, 116]⟩ _ HC.out (by omega) q1 (by decide)).mono ?_
  rintro e w1 ⟨rfl, p⟩
  obtain ⟨a1, c1, HC1, k⟩ := HC.out.push p
  have K1 := hide k
  clear k p
  go_wp2_with fail
  refine (jNumber_any base b o a1 c1 _ fresh _ HC1 (by simp [beginL]; omega) q2).mono ?_
  rintro e w2 ⟨rfl, p⟩
  obtain ⟨a2, c2, HC2, k⟩ := HC1.push p
  have K2 := hide k
  clear k p
  go_wp2_with fail
  refine (jNumber_any base b o a2 c2 _ role _ HC2 (by simp [beginL, tenL]; omega) q3).mono ?_
  rintro e w3 ⟨rfl, p⟩
  obtain ⟨a3, c3, HC3, k⟩ := HC2.push p
  have K3 := hide k
  clear k p
  go_wp2_with fail
  refine (jNumber_any base b o a3 c3 _ till _ HC3 (by simp [beginL, tenL]; omega) q4).mono ?_
  rintro e w4 ⟨rfl, p⟩
  obtain ⟨a4, c4, HC4, k⟩ := HC3.push p
  have K4 := hide k
  clear k p
  go_wp2_with fail
  refine (jEnd_any base b o a4 c4 _ _ HC4 (by simp [beginL, tenL]; omega)).mono ?_
  rintro e w5 ⟨rfl, p⟩
  have HF := hide (K1.out _ _ (K2.out _ _ (K3.out _ _ (K4.out _ _ p))))
  clear p
  go_wp2_with fail
  go_end0
  exact ⟨rfl, HF.out⟩

set_option maxHeartbeats 800000 in
set_option maxRecDepth 100000 in
theorem jRevoke_any (id old : Int) (w : World) (h : JAt w base b o ao cap log) (h1 : ¬ blockOf ao b) (h2 : base ≤ w.heap.size) (h3 : TabOk w) (h4 : tabB < base) (h5 : tabB < b) (hl : log.length ≤ 80000000000000)
    (q1 : I64 id) (q2 : I64 old) :
    Calls Tryz.prog 54 #[.pointer (some ⟨b, o, none⟩), .int .i64 id, .int .i64 old] w fun e w' => e = .returned (.tuple #[]) ∧ JPush w w' base b o ao log (revokeLine id old) := by
  have HC := hide (JC.mk h h1 h2 h3 h4 h5)
  have l1 := itoa_le q1
  have l2 := itoa_le q2
  clear h h1 h2 h3 h4 h5
  go_enter Tryz.func54, Tryz.ntmps54
  go_wp2_with fail
  refine (jBegin_any base b o ao cap log id ⟨#[114, 101, 118, 111, 107, 101]⟩ _ HC.out (by omega) q1 (by decide)).mono ?_
  rintro e w1 ⟨rfl, p⟩
  obtain ⟨a1, c1, HC1, k⟩ := HC.out.push p
  have K1 := hide k
  clear k p
  go_wp2_with fail
  refine (jNumber_any base b o a1 c1 _ old _ HC1 (by simp [beginL]; omega) q2).mono ?_
  rintro e w2 ⟨rfl, p⟩
  obtain ⟨a2, c2, HC2, k⟩ := HC1.push p
  have K2 := hide k
  clear k p
  go_wp2_with fail
  refine (jEnd_any base b o a2 c2 _ _ HC2 (by simp [beginL, tenL]; omega)).mono ?_
  rintro e w5 ⟨rfl, p⟩
  have HF := hide (K1.out _ _ (K2.out _ _ p))
  clear p
  go_wp2_with fail
  go_end0
  exact ⟨rfl, HF.out⟩

set_option maxHeartbeats 800000 in
set_option maxRecDepth 100000 in
theorem jPublish_any (id : Int) (pack : ByteArray) (v : Int) (w : World) (h : JAt w base b o ao cap log) (h1 : ¬ blockOf ao b) (h2 : base ≤ w.heap.size) (h3 : TabOk w) (h4 : tabB < base) (h5 : tabB < b) (hl : log.length ≤ 80000000000000)
    (q1 : I64 id) (q2 : pack.size ≤ 4) (q3 : I64 v) :
    Calls Tryz.prog 60 #[.pointer (some ⟨b, o, none⟩), .int .i64 id, .string pack, .int .i64 v] w fun e w' => e = .returned (.tuple #[]) ∧ JPush w w' base b o ao log (publishLine id pack.data.toList v) := by
  have HC := hide (JC.mk h h1 h2 h3 h4 h5)
  have l1 := itoa_le q1
  have l3 := itoa_le q3
  have l2 : pack.data.toList.length ≤ 4 := by simpa using q2
  clear h h1 h2 h3 h4 h5
  go_enter Tryz.func60, Tryz.ntmps60
  go_wp2_with fail
  refine (jBegin_any base b o ao cap log id ⟨#[112, 117, 98, 108, 105, 115, 104]⟩ _ HC.out (by omega) q1 (by decide)).mono ?_
  rintro e w1 ⟨rfl, p⟩
  obtain ⟨a1, c1, HC1, k⟩ := HC.out.push p
  have K1 := hide k
  clear k p
  go_wp2_with fail
  refine (jWord_any base b o a1 c1 _ pack _ HC1 (by simp only [beginL, List.length_append, List.length_cons, List.length_nil]; omega) (by omega)).mono ?_
  rintro e w2 ⟨rfl, p⟩
  obtain ⟨a2, c2, HC2, k⟩ := HC1.push p
  have K2 := hide k
  clear k p
  go_wp2_with fail
  refine (jNumber_any base b o a2 c2 _ v _ HC2 (by simp only [beginL, sayL, List.length_append, List.length_cons, List.length_nil]; omega) q3).mono ?_
  rintro e w3 ⟨rfl, p⟩
  obtain ⟨a3, c3, HC3, k⟩ := HC2.push p
  have K3 := hide k
  clear k p
  go_wp2_with fail
  refine (jEnd_any base b o a3 c3 _ _ HC3 (by simp only [beginL, sayL, tenL, List.length_append, List.length_cons, List.length_nil]; omega)).mono ?_
  rintro e w5 ⟨rfl, p⟩
  have HF := hide (K1.out _ _ (K2.out _ _ (K3.out _ _ p)))
  clear p
  go_wp2_with fail
  go_end0
  exact ⟨rfl, HF.out⟩

set_option maxHeartbeats 800000 in
set_option maxRecDepth 100000 in
theorem jYank_any (id : Int) (pack : ByteArray) (v : Int) (back : Bool) (w : World) (h : JAt w base b o ao cap log) (h1 : ¬ blockOf ao b) (h2 : base ≤ w.heap.size) (h3 : TabOk w) (h4 : tabB < base) (h5 : tabB < b) (hl : log.length ≤ 80000000000000)
    (q1 : I64 id) (q2 : pack.size ≤ 4) (q3 : I64 v) :
    Calls Tryz.prog 63 #[.pointer (some ⟨b, o, none⟩), .int .i64 id, .string pack, .int .i64 v, .bool back] w fun e w' => e = .returned (.tuple #[]) ∧ JPush w w' base b o ao log (yankLine id pack.data.toList v (!back)) := by
  have HC := hide (JC.mk h h1 h2 h3 h4 h5)
  have l1 := itoa_le q1
  have l3 := itoa_le q3
  have l2 : pack.data.toList.length ≤ 4 := by simpa using q2
  clear h h1 h2 h3 h4 h5
  cases back with
  | false =>
    go_enter Tryz.func63, Tryz.ntmps63
    go_wp2_with fail
    refine (jBegin_any base b o ao cap log id ⟨#[121, 97, 110, 107]⟩ _ HC.out (by omega) q1 (by decide)).mono ?_
    rintro e w1 ⟨rfl, p⟩
    obtain ⟨a1, c1, HC1, k⟩ := HC.out.push p
    have K1 := hide k
    clear k p
    go_wp2_with fail
    refine (jWord_any base b o a1 c1 _ pack _ HC1 (by simp only [beginL, List.length_append, List.length_cons, List.length_nil]; omega) (by omega)).mono ?_
    rintro e w2 ⟨rfl, p⟩
    obtain ⟨a2, c2, HC2, k⟩ := HC1.push p
    have K2 := hide k
    clear k p
    go_wp2_with fail
    refine (jNumber_any base b o a2 c2 _ v _ HC2 (by simp only [beginL, sayL, List.length_append, List.length_cons, List.length_nil]; omega) q3).mono ?_
    rintro e w3 ⟨rfl, p⟩
    obtain ⟨a3, c3, HC3, k⟩ := HC2.push p
    have K3 := hide k
    clear k p
    go_wp2_with fail
    refine (jEnd_any base b o a3 c3 _ _ HC3 (by simp only [beginL, sayL, tenL, List.length_append, List.length_cons, List.length_nil]; omega)).mono ?_
    rintro e w5 ⟨rfl, p⟩
    have HF := hide (K1.out _ _ (K2.out _ _ (K3.out _ _ p)))
    clear p
    go_wp2_with fail
    go_end0
    exact ⟨rfl, HF.out⟩
  | true =>
    go_enter Tryz.func63, Tryz.ntmps63
    go_wp2_with fail
    refine (jBegin_any base b o ao cap log id ⟨#[98, 97, 99, 107]⟩ _ HC.out (by omega) q1 (by decide)).mono ?_
    rintro e w1 ⟨rfl, p⟩
    obtain ⟨a1, c1, HC1, k⟩ := HC.out.push p
    have K1 := hide k
    clear k p
    go_wp2_with fail
    refine (jWord_any base b o a1 c1 _ pack _ HC1 (by simp only [beginL, List.length_append, List.length_cons, List.length_nil]; omega) (by omega)).mono ?_
    rintro e w2 ⟨rfl, p⟩
    obtain ⟨a2, c2, HC2, k⟩ := HC1.push p
    have K2 := hide k
    clear k p
    go_wp2_with fail
    refine (jNumber_any base b o a2 c2 _ v _ HC2 (by simp only [beginL, sayL, List.length_append, List.length_cons, List.length_nil]; omega) q3).mono ?_
    rintro e w3 ⟨rfl, p⟩
    obtain ⟨a3, c3, HC3, k⟩ := HC2.push p
    have K3 := hide k
    clear k p
    go_wp2_with fail
    refine (jEnd_any base b o a3 c3 _ _ HC3 (by simp only [beginL, sayL, tenL, List.length_append, List.length_cons, List.length_nil]; omega)).mono ?_
    rintro e w5 ⟨rfl, p⟩
    have HF := hide (K1.out _ _ (K2.out _ _ (K3.out _ _ p)))
    clear p
    go_wp2_with fail
    go_end0
    exact ⟨rfl, HF.out⟩

set_option maxHeartbeats 800000 in
set_option maxRecDepth 100000 in
theorem jGrant_any (id : Int) (pack to : ByteArray) (w : World) (h : JAt w base b o ao cap log) (h1 : ¬ blockOf ao b) (h2 : base ≤ w.heap.size) (h3 : TabOk w) (h4 : tabB < base) (h5 : tabB < b) (hl : log.length ≤ 80000000000000)
    (q1 : I64 id) (q2 : pack.size ≤ 4) (q3 : to.size ≤ 4) :
    Calls Tryz.prog 67 #[.pointer (some ⟨b, o, none⟩), .int .i64 id, .string pack, .string to] w fun e w' => e = .returned (.tuple #[]) ∧ JPush w w' base b o ao log (grantLine id pack.data.toList to.data.toList) := by
  have HC := hide (JC.mk h h1 h2 h3 h4 h5)
  have l1 := itoa_le q1
  have l2 : pack.data.toList.length ≤ 4 := by simpa using q2
  have l3 : to.data.toList.length ≤ 4 := by simpa using q3
  clear h h1 h2 h3 h4 h5
  go_enter Tryz.func67, Tryz.ntmps67
  go_wp2_with fail
  refine (jBegin_any base b o ao cap log id ⟨#[103, 114, 97, 110, 116]⟩ _ HC.out (by omega) q1 (by decide)).mono ?_
  rintro e w1 ⟨rfl, p⟩
  obtain ⟨a1, c1, HC1, k⟩ := HC.out.push p
  have K1 := hide k
  clear k p
  go_wp2_with fail
  refine (jWord_any base b o a1 c1 _ pack _ HC1 (by simp only [beginL, List.length_append, List.length_cons, List.length_nil]; omega) (by omega)).mono ?_
  rintro e w2 ⟨rfl, p⟩
  obtain ⟨a2, c2, HC2, k⟩ := HC1.push p
  have K2 := hide k
  clear k p
  go_wp2_with fail
  refine (jWord_any base b o a2 c2 _ to _ HC2 (by simp only [beginL, sayL, List.length_append, List.length_cons, List.length_nil]; omega) (by omega)).mono ?_
  rintro e w3 ⟨rfl, p⟩
  obtain ⟨a3, c3, HC3, k⟩ := HC2.push p
  have K3 := hide k
  clear k p
  go_wp2_with fail
  refine (jEnd_any base b o a3 c3 _ _ HC3 (by simp only [beginL, sayL, List.length_append, List.length_cons, List.length_nil]; omega)).mono ?_
  rintro e w5 ⟨rfl, p⟩
  have HF := hide (K1.out _ _ (K2.out _ _ (K3.out _ _ p)))
  clear p
  go_wp2_with fail
  go_end0
  exact ⟨rfl, HF.out⟩

end

end

end Go.Proofs.YtgcldedkempjhabGreatDoor
