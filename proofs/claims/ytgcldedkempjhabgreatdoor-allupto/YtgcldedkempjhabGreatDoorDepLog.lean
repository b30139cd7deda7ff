/-
  journal.Journal: Text, Sum; depot.Depot: Log, Head.
-/
import Derived.Test.YtgcldedkempjhabGreatDoorDepShow
import Derived.Lib.BufferRead
import Derived.Laws.BitsAllLaws
namespace Go.Proofs.YtgcldedkempjhabGreatDoor
open Go.RowKit

theorem bCells_flat (l : List UInt8) : bCells l = l.flatMap fun b : UInt8 => [Value.int .u8 b.toNat] := by
  induction l with
  | nil => rfl
  | cons x t ih =>
    rw [List.flatMap_cons, ← ih]
    rfl

theorem log_cell {w : World} {base : Nat} {ao : Option Addr} {cap : Nat} {log : List UInt8} (ho : w.ownsRow base 5 1 (.slice ao log.length cap) log.length (bCells log)) (k : Nat) (hk : k < log.length) : ∃ g, ao = some ⟨g, 0, none⟩ ∧ g < w.heap.size ∧ w.cell? ⟨g, k, none⟩ = some (.int .u8 log[k].toNat) := by
  rw [bCells_flat] at ho
  obtain ⟨g, hg, hlt, _, hc, _⟩ := row_cell (n := 1) (f := fun b : UInt8 => [Value.int .u8 b.toNat]) (l := log) (fun _ => rfl) ho k hk
  refine ⟨g, hg, hlt, ?_⟩
  have := hc 0 _ rfl
  rwa [Nat.mul_one, Nat.add_zero] at this

theorem log_conv {w : World} {base b o : Nat} {ao : Option Addr} {cap : Nat} {log : List UInt8} (h : JAt w base b o ao cap log) : (convert 81 9 (.slice ao log.length cap)).run Tryz.prog w = .ok (.string ⟨log.toArray⟩) w := by
  cases ao with
  | none =>
    cases log with
    | nil => exact Lib.run_convert_nil_bytes (P := Tryz.prog) w 81 9 5 cap Tryz.underlying81 Tryz.underlying5 Tryz.underlying9
    | cons x t =>
      obtain ⟨g, hg, _⟩ := log_cell h.own 0 (by simp)
      cases hg
  | some a =>
    refine run_convert_bytes_back (P := Tryz.prog) w 81 9 5 a cap log Tryz.underlying81 Tryz.underlying5 Tryz.underlying9 (fun j hj => ?_)
    obtain ⟨g, hg, _, hc⟩ := log_cell h.own j hj
    injection hg with hg
    subst hg
    have hadd : (⟨g, 0, none⟩ : Addr).add j = ⟨g, j, none⟩ := by unfold Addr.add; split <;> simp_all
    rw [hadd, hc]

set_option maxHeartbeats 400000 in
theorem text_any (base b o : Nat) (ao : Option Addr) (cap : Nat) (log : List UInt8) (w : World) (hr : JAt w base b o ao cap log) :
    Calls Tryz.prog 81 #[.pointer (some ⟨b, o, none⟩)] w fun e w' => e = .returned (.string ⟨log.toArray⟩) ∧ w' = w := by
  have c := hr.c
  have hcv := log_conv hr
  go_enter Tryz.func81, Tryz.ntmps81
  go_wp2
  go_ret
  exact ⟨rfl, rfl⟩

/-- The sum of a text, one byte more. -/
def sumStep (v : Nat) (b : UInt8) : Nat := (v ^^^ b.toNat) * 16777619 % 4294967296
def sumF (l : List UInt8) : Nat := l.foldl sumStep 2166136261

theorem sumStep_lt (v : Nat) (b : UInt8) : sumStep v b < 4294967296 := by
  unfold sumStep
  generalize v ^^^ b.toNat = x
  omega

theorem i64_xor_nat (a b : Nat) (ha : a < 4294967296) (hb : b < 4294967296) : bits .xor .i64 (a : Int) (b : Int) = ((a ^^^ b : Nat) : Int) ∧ a ^^^ b < 4294967296 := by
  have hx : a ^^^ b < 2 ^ 32 := Nat.xor_lt_two_pow (by omega) (by omega)
  have hx' : a ^^^ b < 4294967296 := hx
  refine ⟨?_, hx'⟩
  show IntKind.i64.wrap ((BitVec.ofInt 64 (a : Int) ^^^ BitVec.ofInt 64 (b : Int)).toNat : Int) = _
  rw [BitVec.toNat_xor, ofInt_u64 a (by omega), ofInt_u64 b (by omega)]
  generalize a ^^^ b = x at *
  simp [IntKind.wrap, IntKind.bits, IntKind.signed]
  omega

/-- The program's step of the sum is the document's. -/
theorem sum_step (v : Nat) (b : UInt8) (hv : v < 4294967296) : (wrap64 (bits .xor .i64 (v : Int) (b.toNat : Int) * 16777619)).tmod 4294967296 = (sumStep v b : Int) := by
  have hb : b.toNat < 256 := b.toNat_lt
  obtain ⟨h1, h2⟩ := i64_xor_nat v b.toNat hv (by omega)
  rw [h1]
  unfold sumStep
  generalize v ^^^ b.toNat = x at *
  have h3 : wrap64 ((x : Int) * 16777619) = ((x * 16777619 : Nat) : Int) := by unfold wrap64; omega
  rw [h3, Int.tmod_eq_emod_of_nonneg (by omega)]
  omega

theorem sumF_take (l : List UInt8) (k : Nat) (hk : k < l.length) : sumF (l.take (k + 1)) = sumStep (sumF (l.take k)) l[k] := by
  unfold sumF
  rw [List.take_succ_eq_append_getElem hk, List.foldl_append, List.foldl_cons, List.foldl_nil]

theorem sumF_nil (l : List UInt8) : sumF (l.take 0) = 2166136261 := by
  unfold sumF
  rw [List.take_zero, List.foldl_nil]

theorem sumF_lt (l : List UInt8) (k : Nat) (hk : k ≤ l.length) : sumF (l.take k) < 4294967296 := by
  cases k with
  | zero => rw [sumF_nil]; omega
  | succ k => rw [sumF_take l k hk]; exact sumStep_lt _ _

set_option maxHeartbeats 1600000 in
set_option maxRecDepth 100000 in
theorem sum_any (base b o : Nat) (ao : Option Addr) (cap : Nat) (log : List UInt8) (w : World) (hr : JAt w base b o ao cap log) (hl : log.length ≤ 4611686018427387000) :
    Calls Tryz.prog 83 #[.pointer (some ⟨b, o, none⟩)] w fun e w' => e = .returned (.int .i64 (sumF log)) ∧ Below w.heap.size w w' := by
  have HR := hide hr
  clear hr
  go_enter Tryz.func83, Tryz.ntmps83
  go_wp2_with fail
  go_loopw [3, 4] (fun v i wr => ∃ k : Nat, k ≤ log.length ∧ i = .int .i64 k ∧ v = .int .i64 (sumF (log.take k)) ∧ Below w.heap.size w wr) (fun _ i _ => log.length - (intOf i).toNat)
  case atStart => exact ⟨0, Nat.zero_le _, rfl, by rw [sumF_nil]; rfl, Below.refl _ _⟩
  case round =>
    obtain ⟨k, hk, rfl, rfl, hb⟩ := hrel
    have c := (hb.cell (p := ⟨b, o, none⟩) HR.out.lt).trans HR.out.c
    have hJ := ownsRow_keep' HR.out.own hb
    by_cases hlt : k < log.length
    · obtain ⟨g, rfl, hglt, hc⟩ := log_cell hJ k hlt
      have hv := sumF_lt log k hk
      have hnx := sumF_take log k hlt
      have hby : log[k].toNat < 256 := log[k].toNat_lt
      have HST := hide (sum_step _ log[k] hv)
      rw [← hnx] at HST
      clear hJ hnx
      generalize sumF (log.take k) = v at *
      generalize hq : sumF (log.take (k + 1)) = q at *
      have HQ := hide hq
      generalize log[k] = y at *
      clear hq
      go_wp2_with fail
      go_roundw
      case rel => exact ⟨k + 1, hlt, by go_num, by rw [HST.out, HQ.out], hb⟩
      case measure => simp [intOf] <;> omega
    · obtain rfl : k = log.length := by omega
      rw [List.take_length]
      clear hJ
      go_wp2_with fail
      go_ret
      exact ⟨rfl, hb⟩

theorem lines_le {P : PDep} (h : Lens P) {x : PHse} (hx : x ∈ P.hs) : x.lines ≤ 34 := by
  have h1 := h.t x hx
  have h2 := h.e x hx
  have h3 := h.g x hx
  have h4 := List.length_filter_le (fun t : Tok => t.gone) x.toks
  unfold PHse.lines
  omega

def dlogP (P : PDep) (house : ByteArray) (id : Int) : ByteArray × Int :=
  if workF (heldF P house id) 3 = 0 then (⟨(((hseF P.hs house).map PHse.log).getD []).toArray⟩, 0) else (⟨#[]⟩, workF (heldF P house id) 3)

def dheadP (P : PDep) (house : ByteArray) (id : Int) : Int × Int :=
  if workF (heldF P house id) 3 = 0 then (sumF (((hseF P.hs house).map PHse.log).getD []), 0) else (0, workF (heldF P house id) 3)

set_option maxHeartbeats 800000 in
set_option maxRecDepth 100000 in
theorem log_any (db : Nat) (D : DepD) (house : ByteArray) (id : Int) (w : World) (hr : DepAt w db D) :
    Calls Tryz.prog 36 #[.pointer (some ⟨db, 0, none⟩), .string house, .int .i64 id] w fun e w' => e = .returned (.tuple #[.string (dlogP D.pure house id).1, .int .i64 (dlogP D.pure house id).2]) ∧ Below w.heap.size w w' := by
  unfold dlogP
  by_cases h0 : workF (heldF D.pure house id) 3 = 0
  · rw [if_pos h0]
    rcases hse_cases D house with ⟨i, hi, hf, hx⟩ | ⟨_, hno⟩
    · rw [hx]
      simp only [Option.map_some, Option.getD_some, Hse.pure]
      obtain ⟨g, hg, hglt, _⟩ := hr.house i hi
      have HM := hide (mayWork_yes db D house id 3 w hr h0 i hi hf g hg)
      have HT := hide (show ∀ W, DepAt W db D → Calls Tryz.prog 81 #[.pointer (some ⟨g, i * 5 + 4, none⟩)] W fun e w' => e = .returned (.string ⟨D.hs[i].log.toArray⟩) ∧ w' = W from fun W hW => by
        obtain ⟨g2, hg2, _, _, _, _, _, _, hJ, _⟩ := hW.house i hi
        rw [hg] at hg2
        injection hg2 with hg2
        injection hg2 with hg2
        subst hg2
        exact text_any (db + 1) g (i * 5 + 4) _ _ _ W hJ)
      have HR := hide hr
      clear hr h0 hf hx
      generalize D.hs[i].log = lg at *
      go_enter Tryz.func36, Tryz.ntmps36
      go_wp2_with fail
      refine HM.out.mono ?_
      rintro e w1 ⟨rfl, hb1⟩
      go_wp2_with fail
      refine (HT.out w1 (HR.out.below hb1)).mono ?_
      rintro e w2 ⟨rfl, h⟩
      subst h
      go_wp2_with fail
      go_ret2
      exact ⟨rfl, hb1⟩
    · obtain ⟨_, x, hx⟩ := held_house h0
      rw [hno] at hx
      cases hx
  · rw [if_neg h0]
    have HM := hide (mayWork_no db D house id 3 w hr _ rfl h0)
    generalize workF (heldF D.pure house id) 3 = E at *
    have hz : (E == 0) = false := by rw [beq_eq_false_iff_ne]; exact h0
    have hz' : (E != 0) = true := by rw [bne, hz]; rfl
    clear hr
    go_enter Tryz.func36, Tryz.ntmps36
    go_wp2_with fail
    refine HM.out.mono ?_
    rintro e w1 ⟨rfl, hb1⟩
    go_wp2_with fail
    go_ret2
    exact ⟨rfl, hb1⟩

set_option maxHeartbeats 800000 in
set_option maxRecDepth 100000 in
theorem head_any (db : Nat) (D : DepD) (house : ByteArray) (id : Int) (w : World) (hr : DepAt w db D) :
    Calls Tryz.prog 38 #[.pointer (some ⟨db, 0, none⟩), .string house, .int .i64 id] w fun e w' => e = .returned (.tuple #[.int .i64 (dheadP D.pure house id).1, .int .i64 (dheadP D.pure house id).2]) ∧ Below w.heap.size w w' := by
  unfold dheadP
  by_cases h0 : workF (heldF D.pure house id) 3 = 0
  · rw [if_pos h0]
    rcases hse_cases D house with ⟨i, hi, hf, hx⟩ | ⟨_, hno⟩
    · rw [hx]
      simp only [Option.map_some, Option.getD_some, Hse.pure]
      obtain ⟨g, hg, hglt, _⟩ := hr.house i hi
      have hll : D.hs[i].log.length ≤ 4611686018427387000 := by
        have h1 := hr.lens.l D.hs[i].pure (List.mem_map_of_mem (List.getElem_mem hi))
        have h2 := hr.lens.y
        have h3 := lines_le hr.lens (x := D.hs[i].pure) (List.mem_map_of_mem (List.getElem_mem hi))
        simp only [Hse.pure] at h1 h3
        omega
      have HM := hide (mayWork_yes db D house id 3 w hr h0 i hi hf g hg)
      have HT := hide (show ∀ W, DepAt W db D → Calls Tryz.prog 83 #[.pointer (some ⟨g, i * 5 + 4, none⟩)] W fun e w' => e = .returned (.int .i64 (sumF D.hs[i].log)) ∧ Below W.heap.size W w' from fun W hW => by
        obtain ⟨g2, hg2, _, _, _, _, _, _, hJ, _⟩ := hW.house i hi
        rw [hg] at hg2
        injection hg2 with hg2
        injection hg2 with hg2
        subst hg2
        exact sum_any (db + 1) g (i * 5 + 4) _ _ _ W hJ hll)
      have HR := hide hr
      clear hr h0 hf hx hll
      generalize D.hs[i].log = lg at *
      go_enter Tryz.func38, Tryz.ntmps38
      go_wp2_with fail
      refine HM.out.mono ?_
      rintro e w1 ⟨rfl, hb1⟩
      go_wp2_with fail
      refine (HT.out w1 (HR.out.below hb1)).mono ?_
      rintro e w2 ⟨rfl, hb2⟩
      go_wp2_with fail
      go_ret2
      exact ⟨rfl, below_call hb1 hb2⟩
    · obtain ⟨_, x, hx⟩ := held_house h0
      rw [hno] at hx
      cases hx
  · rw [if_neg h0]
    have HM := hide (mayWork_no db D house id 3 w hr _ rfl h0)
    generalize workF (heldF D.pure house id) 3 = E at *
    have hz : (E == 0) = false := by rw [beq_eq_false_iff_ne]; exact h0
    have hz' : (E != 0) = true := by rw [bne, hz]; rfl
    clear hr
    go_enter Tryz.func38, Tryz.ntmps38
    go_wp2_with fail
    refine HM.out.mono ?_
    rintro e w1 ⟨rfl, hb1⟩
    go_wp2_with fail
    go_ret2
    exact ⟨rfl, hb1⟩

end Go.Proofs.YtgcldedkempjhabGreatDoor
