/-
  depotref: number, sum, line, log, Log, Head.
-/
import Derived.Test.YtgcldedkempjhabGreatDoorTwo
import Derived.Test.YtgcldedkempjhabGreatDoorDepLog
import Derived.Lib.ItoaLen
import Derived.Deep.RegionHeld3
import Derived.BigQuiet
namespace Go.Proofs.YtgcldedkempjhabGreatDoor
open Go.RowKit

abbrev tensK : ByteArray := ⟨#[48, 49, 50, 51, 52, 53, 54, 55, 56, 57]⟩

theorem tens_at {n : Nat} (h : n < 10) : tensK.extract n (n + 1) = ⟨#[UInt8.ofNat (48 + n)]⟩ := by
  have hv : n = 0 ∨ n = 1 ∨ n = 2 ∨ n = 3 ∨ n = 4 ∨ n = 5 ∨ n = 6 ∨ n = 7 ∨ n = 8 ∨ n = 9 := by omega
  rcases hv with rfl | rfl | rfl | rfl | rfl | rfl | rfl | rfl | rfl | rfl <;> rfl

def numS (n : Nat) : ByteArray := ⟨(Lib.decDigits n).toArray⟩

theorem numS_one {n : Nat} (h : n < 10) : numS n = tensK.extract n (n + 1) := by
  rw [tens_at h]
  unfold numS
  rw [Lib.decDigits_one h]

theorem numS_more {n : Nat} (h : ¬ n < 10) : numS n = numS (n / 10) ++ tensK.extract (n % 10) (n % 10 + 1) := by
  rw [tens_at (Nat.mod_lt _ (by decide))]
  unfold numS
  rw [Lib.decDigits, dif_neg h]
  apply ByteArray.ext
  simp

theorem numS_size {n : Nat} (h : n ≤ 9223372036854775807) : (numS n).size ≤ 21 := by
  have := Lib.itoa_length_le (n : Int) (by omega) (by omega)
  rw [Lib.itoa_nonneg] at this
  unfold numS
  show (Lib.decDigits n).toArray.size ≤ 21
  rw [List.size_toArray]
  exact this

set_option maxHeartbeats 1600000 in
set_option maxRecDepth 100000 in
theorem number_any (n : Nat) : n ≤ 9223372036854775807 → ∀ w : World, Calls Tryz.prog 74 #[.int .i64 (n : Int)] w fun e w' => e = .returned (.string (numS n)) ∧ Below w.heap.size w w' := by
  induction n using Nat.strongRecOn with
  | _ n ih =>
    intro hn w
    by_cases h : n < 10
    · have h' : (n : Int) < 10 := by omega
      have h0 : (0 : Int) ≤ (n : Int) := by omega
      rw [numS_one h]
      clear ih
      go_enter Tryz.func74, Tryz.ntmps74
      go_wp2
      go_ret
      exact ⟨rfl, Below.refl _ _⟩
    · have h' : ¬ (n : Int) < 10 := by omega
      have hq : (n : Int).tdiv 10 = ((n / 10 : Nat) : Int) := by rw [Int.tdiv_eq_ediv_of_nonneg (by omega)]; omega
      have hm : (n : Int).tmod 10 = ((n % 10 : Nat) : Int) := by rw [Int.tmod_eq_emod_of_nonneg (by omega)]; omega
      have IH := hide (ih (n / 10) (by omega) (by omega))
      have hs := numS_size (n := n / 10) (by omega)
      have HE := hide (numS_more h)
      have hr : n % 10 < 10 := Nat.mod_lt _ (by decide)
      have hql : n / 10 ≤ 9223372036854775807 := by omega
      generalize n / 10 = q at *
      generalize n % 10 = r at *
      have hr0 : (0 : Int) ≤ (r : Int) := by omega
      have hr1 : (r : Int) < 10 := by omega
      have hr2 : (r : Int) + 1 ≤ 10 := by omega
      have hr3 : (r : Int) ≤ (r : Int) + 1 := by omega
      have hr4 : (0 : Int) ≤ (r : Int) + 1 := by omega
      have hw1 : IntKind.i64.wrap ((r : Int) + 1) = (r : Int) + 1 := by rw [IntKind.wrap_i64]; omega
      have hz : (tensK.extract r (r + 1)).size = 1 := by rw [tens_at hr]; rfl
      have m2 : ¬ 9223372036854775807 < (numS q).size + 1 := by omega
      have hwq : IntKind.i64.wrap (q : Int) = (q : Int) := by rw [IntKind.wrap_i64]; omega
      generalize numS q = sq at *
      clear ih
      go_enter Tryz.func74, Tryz.ntmps74
      go_wp2_with fail
      go_region_held3 (fun _ => True) (exact trivial) ((go_at_call 74; (try rw [hwq]); refine (IH.out _).mono ?_; rintro e w2 ⟨rfl, hbb⟩))
      all_goals
        go_wp2_with fail
        go_ret
        exact ⟨by rw [HE.out]; rfl, ⟨hbb.os, hbb.tape, hbb.output, hbb.size, hbb.block⟩⟩

theorem u32_step (v : Nat) (b : UInt8) (hv : v < 4294967296) : bits .xor .u32 (v : Int) (b.toNat : Int) * 16777619 % 4294967296 = (sumStep v b : Int) := by
  have hb : b.toNat < 256 := b.toNat_lt
  rw [u32_xor_nat v b.toNat hv (by omega)]
  unfold sumStep
  generalize v ^^^ b.toNat = x at *
  omega

set_option maxHeartbeats 800000 in
set_option maxRecDepth 100000 in
theorem rsum_any (s : ByteArray) (w : World) (hs : s.size ≤ 4611686018427387000) :
    Calls Tryz.prog 84 #[.string s] w fun e w' => e = .returned (.int .i64 (sumF s.data.toList)) ∧ Below w.heap.size w w' := by
  have hsz : s.data.toList.length = s.size := by simp
  go_enter Tryz.func84, Tryz.ntmps84
  go_wp2_with fail
  go_loopw [3, 4] (fun v i wr => ∃ k : Nat, k ≤ s.size ∧ i = .int .i64 k ∧ v = .int .u32 (sumF (s.data.toList.take k)) ∧ Below w.heap.size w wr) (fun _ i _ => s.size - (intOf i).toNat)
  case atStart => exact ⟨0, Nat.zero_le _, rfl, by rw [sumF_nil]; rfl, Below.refl _ _⟩
  case round =>
    obtain ⟨k, hk, rfl, rfl, hb⟩ := hrel
    have hv := sumF_lt s.data.toList k (by omega)
    by_cases hlt : k < s.size
    · have hnx := sumF_take s.data.toList k (by omega)
      have hby : s[k].toNat < 256 := s[k].toNat_lt
      have HST := hide (u32_step _ s[k] hv)
      have hkk : s.data.toList[k] = s[k] := rfl
      rw [hkk] at hnx
      rw [← hnx] at HST
      clear hnx hkk
      generalize sumF (s.data.toList.take k) = v at *
      generalize hq : sumF (s.data.toList.take (k + 1)) = q at *
      have HQ := hide hq
      clear hq
      go_wp2_with fail
      go_roundw
      case rel => exact ⟨k + 1, hlt, by go_num, by rw [HST.out, HQ.out], hb⟩
      case measure => simp [intOf] <;> omega
    · obtain rfl : k = s.size := by omega
      rw [List.take_of_length_le (by omega)] at hv ⊢
      generalize hq : sumF s.data.toList = v at *
      have HQ := hide hq
      clear hq
      go_wp2_with fail
      go_ret
      exact ⟨by rw [HQ.out]; rfl, hb⟩

/-- A number, 0 or above, in tens. -/
def numI (n : Int) : ByteArray := numS n.toNat

theorem numI_any (n : Int) (h : Up n) (w : World) : Calls Tryz.prog 74 #[.int .i64 n] w fun e w' => e = .returned (.string (numI n)) ∧ Below w.heap.size w w' := by
  have := number_any n.toNat (by have := h.2; omega) w
  rw [Int.toNat_of_nonneg h.1] at this
  exact this

theorem numI_size {n : Int} (h : Up n) : (numI n).size ≤ 21 := numS_size (by have := h.2; omega)

/-- A box of its own, kept while others are made. -/
structure BoxR (w w' : World) (o : Obj) : Prop where
  box : w'.heap[w.heap.size]? = some o
  bel : Below w.heap.size w w'

theorem BoxR.step {w W V w2 : World} {o : Obj} (h : BoxR w W o) (hb : Below V.heap.size V w2) (h0 : V.heap = W.heap) (h1 : V.os = W.os) (h2 : V.tape = W.tape) (h3 : V.output = W.output) : BoxR w w2 o := by
  have hlt : w.heap.size < W.heap.size := (Array.getElem?_eq_some_iff.1 h.box).1
  have hb' : Below W.heap.size W w2 := ⟨hb.os.trans h1, hb.tape.trans h2, hb.output.trans h3, by rw [← h0]; exact hb.size, fun k hk => by rw [hb.block k (by rw [h0]; exact hk), h0]⟩
  exact ⟨(hb'.block _ hlt).trans h.box, below_call h.bel hb'⟩

abbrev deedV (x : Deed) : Array Value := #[.string x.kind, .string x.house, .int .i64 x.who, .string x.pack, .string x.to, .int .i64 x.num, .int .i64 x.role, .int .i64 x.till, .string x.wants]

set_option maxHeartbeats 1600000 in
set_option maxRecDepth 100000 in
theorem line_mint (kind house : ByteArray) (who : Int) (pack to : ByteArray) (num role till : Int) (wants : ByteArray) (w : World) (u1 : Up who) (u2 : Up num) (u3 : Up role) (u4 : Up till) (hk : kind.size ≤ 100) (q1 : (kind.toList == [109, 105, 110, 116]) = true) :
    Calls Tryz.prog 108 #[.agg (deedV ⟨kind, house, who, pack, to, num, role, till, wants⟩)] w fun e w' =>
      e = .returned (.string (numI who ++ ⟨#[58]⟩ ++ kind ++ ⟨#[32]⟩ ++ numI num ++ ⟨#[32]⟩ ++ numI role ++ ⟨#[32]⟩ ++ numI till ++ ⟨#[59]⟩)) ∧ Below w.heap.size w w' := by
  have s1 := numI_size u1
  have s2 := numI_size u2
  have s3 := numI_size u3
  have s4 := numI_size u4
  have HG := hide (show ∀ n, Up n → ∀ W, Calls Tryz.prog 74 #[.int .i64 n] W fun e w' => e = .returned (.string (numI n)) ∧ Below W.heap.size W w' from numI_any)
  have hx : BoxR w (w.alloc (.cells (deedV ⟨kind, house, who, pack, to, num, role, till, wants⟩) 93)) (.cells (deedV ⟨kind, house, who, pack, to, num, role, till, wants⟩) 93 (0, 0)) := ⟨heap_alloc_new w _, (Below.refl _ _).alloc (Nat.le_refl _) _⟩
  have m1 : ¬ 9223372036854775807 < (numI who).size + 1 := by omega
  have m2 : ¬ 9223372036854775807 < (numI who).size + 1 + kind.size := by omega
  have m3 : ¬ 9223372036854775807 < (numI who).size + 1 + kind.size + 1 := by omega
  have m4 : ¬ 9223372036854775807 < (numI who).size + 1 + kind.size + 1 + (numI num).size := by omega
  have m5 : ¬ 9223372036854775807 < (numI who).size + 1 + kind.size + 1 + (numI num).size + 1 := by omega
  have m6 : ¬ 9223372036854775807 < (numI who).size + 1 + kind.size + 1 + (numI num).size + 1 + (numI role).size := by omega
  have m7 : ¬ 9223372036854775807 < (numI who).size + 1 + kind.size + 1 + (numI num).size + 1 + (numI role).size + 1 := by omega
  have m8 : ¬ 9223372036854775807 < (numI who).size + 1 + kind.size + 1 + (numI num).size + 1 + (numI role).size + 1 + (numI till).size := by omega
  have m9 : ¬ 9223372036854775807 < (numI who).size + 1 + kind.size + 1 + (numI num).size + 1 + (numI role).size + 1 + (numI till).size + 1 := by omega
  go_enter Tryz.func108, Tryz.ntmps108
  go_wp2_with fail
  go_region_held3 (fun W => W.cell? ⟨w.heap.size, 0, none⟩ = some (.string kind) ∧ W.cell? ⟨w.heap.size, 2, none⟩ = some (.int .i64 who)) (exact ⟨(cell_of_heap hx.box 0).trans rfl, (cell_of_heap hx.box 2).trans rfl⟩) (first
    | ((go_at_call 74; refine (HG.out _ ?_ _).mono ?_; exact u1; rintro e w4 ⟨rfl, hbb⟩; have hx := hx.step hbb rfl rfl rfl rfl; clear hbb)))
  all_goals
    have o0 : w4.cell? ⟨w.heap.size, 0, none⟩ = some (.string kind) := (cell_of_heap hx.box 0).trans rfl
    have hlt : w.heap.size < w4.heap.size := (Array.getElem?_eq_some_iff.1 hx.box).1
    go_wp2_with fail
    go_region_held3 (fun W => W.cell? ⟨w.heap.size, 5, none⟩ = some (.int .i64 num) ∧ W.cell? ⟨w.heap.size, 6, none⟩ = some (.int .i64 role) ∧ W.cell? ⟨w.heap.size, 7, none⟩ = some (.int .i64 till)) (exact ⟨(cell_of_heap hx.box 5).trans rfl, (cell_of_heap hx.box 6).trans rfl, (cell_of_heap hx.box 7).trans rfl⟩) (first
      | ((go_at_call 74; refine (HG.out _ ?_ _).mono ?_; (first | exact u2 | exact u3 | exact u4); rintro e w5 ⟨rfl, hbb⟩; have hx := hx.step hbb rfl rfl rfl rfl; clear hbb)))
  all_goals
    go_wp2_with fail
    go_ret
    exact ⟨rfl, hx.bel⟩

set_option maxHeartbeats 1600000 in
set_option maxRecDepth 100000 in
theorem line_revoke (kind house : ByteArray) (who : Int) (pack to : ByteArray) (num role till : Int) (wants : ByteArray) (w : World) (u1 : Up who) (u2 : Up num) (hk : kind.size ≤ 100) (q1 : (kind.toList == [109, 105, 110, 116]) = false) (q2 : (kind.toList == [114, 101, 118, 111, 107, 101]) = true) :
    Calls Tryz.prog 108 #[.agg (deedV ⟨kind, house, who, pack, to, num, role, till, wants⟩)] w fun e w' =>
      e = .returned (.string (numI who ++ ⟨#[58]⟩ ++ kind ++ ⟨#[32]⟩ ++ numI num ++ ⟨#[59]⟩)) ∧ Below w.heap.size w w' := by
  have s1 := numI_size u1
  have s2 := numI_size u2
  have HG := hide (show ∀ n, Up n → ∀ W, Calls Tryz.prog 74 #[.int .i64 n] W fun e w' => e = .returned (.string (numI n)) ∧ Below W.heap.size W w' from numI_any)
  have hx : BoxR w (w.alloc (.cells (deedV ⟨kind, house, who, pack, to, num, role, till, wants⟩) 93)) (.cells (deedV ⟨kind, house, who, pack, to, num, role, till, wants⟩) 93 (0, 0)) := ⟨heap_alloc_new w _, (Below.refl _ _).alloc (Nat.le_refl _) _⟩
  have m1 : ¬ 9223372036854775807 < (numI who).size + 1 := by omega
  have m2 : ¬ 9223372036854775807 < (numI who).size + 1 + kind.size := by omega
  have m3 : ¬ 9223372036854775807 < (numI who).size + 1 + kind.size + 1 := by omega
  have m4 : ¬ 9223372036854775807 < (numI who).size + 1 + kind.size + 1 + (numI num).size := by omega
  have m5 : ¬ 9223372036854775807 < (numI who).size + 1 + kind.size + 1 + (numI num).size + 1 := by omega
  go_enter Tryz.func108, Tryz.ntmps108
  go_wp2_with fail
  go_region_held3 (fun W => W.cell? ⟨w.heap.size, 0, none⟩ = some (.string kind) ∧ W.cell? ⟨w.heap.size, 2, none⟩ = some (.int .i64 who)) (exact ⟨(cell_of_heap hx.box 0).trans rfl, (cell_of_heap hx.box 2).trans rfl⟩) (first
    | ((go_at_call 74; refine (HG.out _ ?_ _).mono ?_; exact u1; rintro e w4 ⟨rfl, hbb⟩; have hx := hx.step hbb rfl rfl rfl rfl; clear hbb)))
  all_goals
    have o0 : w4.cell? ⟨w.heap.size, 0, none⟩ = some (.string kind) := (cell_of_heap hx.box 0).trans rfl
    have o5 : w4.cell? ⟨w.heap.size, 5, none⟩ = some (.int .i64 num) := (cell_of_heap hx.box 5).trans rfl
    have hlt : w.heap.size < w4.heap.size := (Array.getElem?_eq_some_iff.1 hx.box).1
    go_wp2_with fail
    refine (HG.out _ u2 _).mono ?_
    rintro e w5 ⟨rfl, hbb⟩
    have hx := hx.step hbb rfl rfl rfl rfl
    clear hbb
    go_wp2_with fail
    go_ret
    exact ⟨rfl, hx.bel⟩

set_option maxHeartbeats 1600000 in
set_option maxRecDepth 100000 in
theorem line_grant (kind house : ByteArray) (who : Int) (pack to : ByteArray) (num role till : Int) (wants : ByteArray) (w : World) (u1 : Up who) (hk : kind.size + pack.size + to.size ≤ 4611686018427387000) (q1 : (kind.toList == [109, 105, 110, 116]) = false) (q2 : (kind.toList == [114, 101, 118, 111, 107, 101]) = false) (q3 : (kind.toList == [103, 114, 97, 110, 116]) = true) :
    Calls Tryz.prog 108 #[.agg (deedV ⟨kind, house, who, pack, to, num, role, till, wants⟩)] w fun e w' =>
      e = .returned (.string (numI who ++ ⟨#[58]⟩ ++ kind ++ ⟨#[32]⟩ ++ pack ++ ⟨#[32]⟩ ++ to ++ ⟨#[59]⟩)) ∧ Below w.heap.size w w' := by
  have s1 := numI_size u1
  have HG := hide (show ∀ n, Up n → ∀ W, Calls Tryz.prog 74 #[.int .i64 n] W fun e w' => e = .returned (.string (numI n)) ∧ Below W.heap.size W w' from numI_any)
  have hx : BoxR w (w.alloc (.cells (deedV ⟨kind, house, who, pack, to, num, role, till, wants⟩) 93)) (.cells (deedV ⟨kind, house, who, pack, to, num, role, till, wants⟩) 93 (0, 0)) := ⟨heap_alloc_new w _, (Below.refl _ _).alloc (Nat.le_refl _) _⟩
  have m1 : ¬ 9223372036854775807 < (numI who).size + 1 := by omega
  have m2 : ¬ 9223372036854775807 < (numI who).size + 1 + kind.size := by omega
  have m3 : ¬ 9223372036854775807 < (numI who).size + 1 + kind.size + 1 := by omega
  have m4 : ¬ 9223372036854775807 < (numI who).size + 1 + kind.size + 1 + pack.size := by omega
  have m5 : ¬ 9223372036854775807 < (numI who).size + 1 + kind.size + 1 + pack.size + 1 := by omega
  have m6 : ¬ 9223372036854775807 < (numI who).size + 1 + kind.size + 1 + pack.size + 1 + to.size := by omega
  have m7 : ¬ 9223372036854775807 < (numI who).size + 1 + kind.size + 1 + pack.size + 1 + to.size + 1 := by omega
  go_enter Tryz.func108, Tryz.ntmps108
  go_wp2_with fail
  go_region_held3 (fun W => W.cell? ⟨w.heap.size, 0, none⟩ = some (.string kind) ∧ W.cell? ⟨w.heap.size, 2, none⟩ = some (.int .i64 who)) (exact ⟨(cell_of_heap hx.box 0).trans rfl, (cell_of_heap hx.box 2).trans rfl⟩) (first
    | ((go_at_call 74; refine (HG.out _ ?_ _).mono ?_; exact u1; rintro e w4 ⟨rfl, hbb⟩; have hx := hx.step hbb rfl rfl rfl rfl; clear hbb)))
  all_goals
    have o0 : w4.cell? ⟨w.heap.size, 0, none⟩ = some (.string kind) := (cell_of_heap hx.box 0).trans rfl
    have o3 : w4.cell? ⟨w.heap.size, 3, none⟩ = some (.string pack) := (cell_of_heap hx.box 3).trans rfl
    have o4 : w4.cell? ⟨w.heap.size, 4, none⟩ = some (.string to) := (cell_of_heap hx.box 4).trans rfl
    have hlt : w.heap.size < w4.heap.size := (Array.getElem?_eq_some_iff.1 hx.box).1
    go_wp2_with fail
    go_ret
    exact ⟨rfl, hx.bel⟩

set_option maxHeartbeats 1600000 in
set_option maxRecDepth 100000 in
theorem line_other (kind house : ByteArray) (who : Int) (pack to : ByteArray) (num role till : Int) (wants : ByteArray) (w : World) (u1 : Up who) (u2 : Up num) (hk : kind.size + pack.size ≤ 4611686018427387000) (q1 : (kind.toList == [109, 105, 110, 116]) = false) (q2 : (kind.toList == [114, 101, 118, 111, 107, 101]) = false) (q3 : (kind.toList == [103, 114, 97, 110, 116]) = false) :
    Calls Tryz.prog 108 #[.agg (deedV ⟨kind, house, who, pack, to, num, role, till, wants⟩)] w fun e w' =>
      e = .returned (.string (numI who ++ ⟨#[58]⟩ ++ kind ++ ⟨#[32]⟩ ++ pack ++ ⟨#[32]⟩ ++ numI num ++ ⟨#[59]⟩)) ∧ Below w.heap.size w w' := by
  have s1 := numI_size u1
  have s2 := numI_size u2
  have HG := hide (show ∀ n, Up n → ∀ W, Calls Tryz.prog 74 #[.int .i64 n] W fun e w' => e = .returned (.string (numI n)) ∧ Below W.heap.size W w' from numI_any)
  have hx : BoxR w (w.alloc (.cells (deedV ⟨kind, house, who, pack, to, num, role, till, wants⟩) 93)) (.cells (deedV ⟨kind, house, who, pack, to, num, role, till, wants⟩) 93 (0, 0)) := ⟨heap_alloc_new w _, (Below.refl _ _).alloc (Nat.le_refl _) _⟩
  have m1 : ¬ 9223372036854775807 < (numI who).size + 1 := by omega
  have m2 : ¬ 9223372036854775807 < (numI who).size + 1 + kind.size := by omega
  have m3 : ¬ 9223372036854775807 < (numI who).size + 1 + kind.size + 1 := by omega
  have m4 : ¬ 9223372036854775807 < (numI who).size + 1 + kind.size + 1 + pack.size := by omega
  have m5 : ¬ 9223372036854775807 < (numI who).size + 1 + kind.size + 1 + pack.size + 1 := by omega
  have m6 : ¬ 9223372036854775807 < (numI who).size + 1 + kind.size + 1 + pack.size + 1 + (numI num).size := by omega
  have m7 : ¬ 9223372036854775807 < (numI who).size + 1 + kind.size + 1 + pack.size + 1 + (numI num).size + 1 := by omega
  go_enter Tryz.func108, Tryz.ntmps108
  go_wp2_with fail
  go_region_held3 (fun W => W.cell? ⟨w.heap.size, 0, none⟩ = some (.string kind) ∧ W.cell? ⟨w.heap.size, 2, none⟩ = some (.int .i64 who)) (exact ⟨(cell_of_heap hx.box 0).trans rfl, (cell_of_heap hx.box 2).trans rfl⟩) (first
    | ((go_at_call 74; refine (HG.out _ ?_ _).mono ?_; exact u1; rintro e w4 ⟨rfl, hbb⟩; have hx := hx.step hbb rfl rfl rfl rfl; clear hbb)))
  all_goals
    have o0 : w4.cell? ⟨w.heap.size, 0, none⟩ = some (.string kind) := (cell_of_heap hx.box 0).trans rfl
    have hlt : w.heap.size < w4.heap.size := (Array.getElem?_eq_some_iff.1 hx.box).1
    go_wp2_with fail
    go_region_held3 (fun W => W.cell? ⟨w.heap.size, 3, none⟩ = some (.string pack) ∧ W.cell? ⟨w.heap.size, 5, none⟩ = some (.int .i64 num)) (exact ⟨(cell_of_heap hx.box 3).trans rfl, (cell_of_heap hx.box 5).trans rfl⟩) (first
      | ((go_at_call 74; refine (HG.out _ ?_ _).mono ?_; exact u2; rintro e w5 ⟨rfl, hbb⟩; have hx := hx.step hbb rfl rfl rfl rfl; clear hbb)))
  all_goals
    go_wp2_with fail
    go_ret
    exact ⟨rfl, hx.bel⟩

theorem numI_bytes {n : Int} (h : Up n) : bytes (numI n) = Lib.itoa n := by
  have : n = ((n.toNat : Nat) : Int) := (Int.toNat_of_nonneg h.1).symm
  rw [this, Lib.itoa_nonneg]
  rfl

def lineS (x : Deed) : ByteArray := ⟨(lineD x).toArray⟩

theorem bytes_lineS (x : Deed) : bytes (lineS x) = lineD x := by simp [bytes, lineS]

theorem kind_size {k : ByteArray} {l : List UInt8} (h : (k.toList == l) = true) : k.size = l.length := by
  rw [beq_iff_eq, toList_bytes] at h
  rw [← h, bytes_length]

theorem line_any (x : Deed) (w : World) (hu : DeedUp x) (hl : (lineD x).length ≤ 4611686018427387000) :
    Calls Tryz.prog 108 #[.agg (deedV x)] w fun e w' => e = .returned (.string (lineS x)) ∧ Below w.heap.size w w' := by
  obtain ⟨kind, house, who, pack, to, num, role, till, wants⟩ := x
  obtain ⟨u1, u2, u3, u4⟩ := hu
  simp only at u1 u2 u3 u4
  have d0 : kMint.toList = [109, 105, 110, 116] := by rw [ByteArray.toList_eq]
  have d1 : kRevoke.toList = [114, 101, 118, 111, 107, 101] := by rw [ByteArray.toList_eq]
  have d2 : kGrant.toList = [103, 114, 97, 110, 116] := by rw [ByteArray.toList_eq]
  have e1 := numI_bytes u1
  have e2 := numI_bytes u2
  have e3 := numI_bytes u3
  have e4 := numI_bytes u4
  have b1 : bytes (⟨#[58]⟩ : ByteArray) = [58] := rfl
  have b2 : bytes (⟨#[32]⟩ : ByteArray) = [32] := rfl
  have b3 : bytes (⟨#[59]⟩ : ByteArray) = [59] := rfl
  have bk : kind.data.toList = bytes kind := rfl
  have bp : pack.data.toList = bytes pack := rfl
  have bt : to.data.toList = bytes to := rfl
  cases q1 : (kind.toList == [109, 105, 110, 116]) with
  | true =>
    refine (line_mint kind house who pack to num role till wants w u1 u2 u3 u4 (by rw [kind_size q1]; decide) q1).mono ?_
    rintro e w' ⟨rfl, hb⟩
    refine ⟨?_, hb⟩
    congr 2
    apply bytes_inj
    rw [bytes_lineS]
    unfold lineD
    rw [d0, q1, if_pos rfl]
    have hk : bytes kind = [109, 105, 110, 116] := by rw [← toList_bytes]; exact beq_iff_eq.1 q1
    simp only [bytes_append, e1, e2, e3, e4, b1, b2, b3, hk, mintLine, beginL, tenL]
    simp
  | false =>
    cases q2 : (kind.toList == [114, 101, 118, 111, 107, 101]) with
    | true =>
      refine (line_revoke kind house who pack to num role till wants w u1 u2 (by rw [kind_size q2]; decide) q1 q2).mono ?_
      rintro e w' ⟨rfl, hb⟩
      refine ⟨?_, hb⟩
      congr 2
      apply bytes_inj
      rw [bytes_lineS]
      unfold lineD
      rw [d0, q1, if_neg (by decide), d1, q2, if_pos rfl]
      have hk : bytes kind = [114, 101, 118, 111, 107, 101] := by rw [← toList_bytes]; exact beq_iff_eq.1 q2
      simp only [bytes_append, e1, e2, b1, b2, b3, hk, revokeLine, beginL, tenL]
      simp
    | false =>
      cases q3 : (kind.toList == [103, 114, 97, 110, 116]) with
      | true =>
        have hlen : kind.size + pack.size + to.size ≤ 4611686018427387000 := by
          unfold lineD at hl
          rw [d0, q1, if_neg (by decide), d1, q2, if_neg (by decide), d2, q3, if_pos rfl] at hl
          simp only [grantLine, beginL, sayL, List.length_append, List.length_cons, List.length_nil, bp, bt, bytes_length] at hl
          have := kind_size q3
          simp at this
          omega
        refine (line_grant kind house who pack to num role till wants w u1 hlen q1 q2 q3).mono ?_
        rintro e w' ⟨rfl, hb⟩
        refine ⟨?_, hb⟩
        congr 2
        apply bytes_inj
        rw [bytes_lineS]
        unfold lineD
        rw [d0, q1, if_neg (by decide), d1, q2, if_neg (by decide), d2, q3, if_pos rfl]
        have hk : bytes kind = [103, 114, 97, 110, 116] := by rw [← toList_bytes]; exact beq_iff_eq.1 q3
        simp only [bytes_append, e1, b1, b2, b3, hk, bp, bt, grantLine, beginL, sayL]
        simp
      | false =>
        have hlen : kind.size + pack.size ≤ 4611686018427387000 := by
          unfold lineD at hl
          rw [d0, q1, if_neg (by decide), d1, q2, if_neg (by decide), d2, q3, if_neg (by decide)] at hl
          simp only [beginL, sayL, tenL, List.length_append, List.length_cons, List.length_nil, bk, bp, bytes_length] at hl
          omega
        refine (line_other kind house who pack to num role till wants w u1 u2 hlen q1 q2 q3).mono ?_
        rintro e w' ⟨rfl, hb⟩
        refine ⟨?_, hb⟩
        congr 2
        apply bytes_inj
        rw [bytes_lineS]
        unfold lineD
        rw [d0, q1, if_neg (by decide), d1, q2, if_neg (by decide), d2, q3, if_neg (by decide)]
        simp only [bytes_append, e1, e2, b1, b2, b3, bk, bp, beginL, sayL, tenL]
        simp

def logS (ds : List Deed) (nm : ByteArray) : ByteArray := ⟨(logD ds nm).toArray⟩

theorem logD_take (ds : List Deed) (nm : ByteArray) (k : Nat) (hk : k < ds.length) : logD (ds.take (k + 1)) nm = logD (ds.take k) nm ++ if logP nm ds[k] = true then lineD ds[k] else [] := by
  rw [List.take_succ_eq_append_getElem hk, logD_snoc]

theorem logD_le (ds : List Deed) (nm : ByteArray) (k : Nat) : (logD (ds.take k) nm).length ≤ (logD ds nm).length := by
  have e : logD ds nm = logD (ds.take k) nm ++ logD (ds.drop k) nm := by
    unfold logD
    rw [← List.flatMap_append, ← List.filter_append, List.take_append_drop]
  rw [e, List.length_append]
  omega

theorem logS_step (ds : List Deed) (nm : ByteArray) (k : Nat) (hk : k < ds.length) : logS (ds.take (k + 1)) nm = if logP nm ds[k] = true then logS (ds.take k) nm ++ lineS ds[k] else logS (ds.take k) nm := by
  unfold logS
  rw [logD_take ds nm k hk]
  split
  · apply bytes_inj
    rw [bytes_append]
    simp [bytes, lineS]
  · rw [List.append_nil]

theorem logS_size (ds : List Deed) (nm : ByteArray) : (logS ds nm).size = (logD ds nm).length := by simp [logS, ByteArray.size]

theorem lineS_size (x : Deed) : (lineS x).size = (lineD x).length := by simp [lineS, ByteArray.size]

set_option maxHeartbeats 1600000 in
set_option maxRecDepth 100000 in
theorem rlog_any (rb : Nat) (root time : Int) (ao : Option Addr) (cap : Nat) (ds : List Deed) (house : ByteArray) (w : World)
    (hr : RefAt w rb root time ao cap ds) (hlen : ds.length ≤ 1000000000000) (hu : ∀ x ∈ ds, DeedWrit x) (hl : (logD ds house).length ≤ 4611686018427387000) :
    Calls Tryz.prog 82 #[.pointer (some ⟨rb, 0, none⟩), .string house] w fun e w' => e = .returned (.string (logS ds house)) ∧ Below w.heap.size w w' := by
  have c2 := hr.c2
  have hrb := hr.lt
  have HR := hide hr
  have HU := hide hu
  clear hr hu
  go_enter Tryz.func82, Tryz.ntmps82
  go_wp2_with fail
  go_loopw [5, 6, 7] (fun s i _ wr => ∃ k : Nat, k ≤ ds.length ∧ i = .int .i64 k ∧ s = .string (logS (ds.take k) house) ∧ Below w.heap.size w wr) (fun _ i _ _ => ds.length - (intOf i).toNat)
  case atStart => exact ⟨0, Nat.zero_le _, rfl, rfl, Below.refl _ _⟩
  case round =>
    obtain ⟨k, hk, rfl, rfl, hb⟩ := hrel
    have c2' := (hb.cell (p := ⟨rb, 2, none⟩) hrb).trans c2
    by_cases hlt : k < ds.length
    · have HS := hide (logS_step ds house k hlt)
      obtain ⟨g, rfl, hg, hx⟩ := HR.out.deed k hlt
      have hd := hx.below hb hg
      have hs1 := logS_size (ds.take k) house
      have hs2 := logS_size (ds.take (k + 1)) house
      have hs3 := logD_le ds house (k + 1)
      have hs4 := logD_le ds house k
      have hs5 := lineS_size ds[k]
      have HUX := hide (HU.out ds[k] (List.getElem_mem hlt)).1
      have hlog := HS.out
      clear hx
      generalize hS0 : logS (ds.take k) house = S0 at *
      generalize hS1 : logS (ds.take (k + 1)) house = S1 at *
      have HS1 := hide hS1
      clear hS0 hS1 HS
      have hP : logP house ds[k] = (ds[k].house.toList == house.toList && !(ds[k].kind.toList == kFound.toList) && !(ds[k].kind.toList == kFeed.toList)) := rfl
      have d0 : kFound.toList = [102, 111, 117, 110, 100] := by rw [ByteArray.toList_eq]
      have d1 : kFeed.toList = [102, 101, 101, 100] := by rw [ByteArray.toList_eq]
      rw [d0, d1] at hP
      rw [d0] at HUX
      clear d0 d1
      have HL := hide (show DeedUp ds[k] → (lineD ds[k]).length ≤ 4611686018427387000 → ∀ W, Calls Tryz.prog 108 #[.agg (deedV ds[k])] W fun e w' => e = .returned (.string (lineS ds[k])) ∧ Below W.heap.size W w' from fun h1 h2 W => line_any ds[k] W h1 h2)
      generalize lineS ds[k] = LN at *
      generalize (lineD ds[k]).length = ln at *
      generalize ds[k] = x at *
      obtain ⟨kind, xh, who, pack, to, num, role, till, wants⟩ := x
      obtain ⟨d0, d1, d2, d3, d4, d5, d6, d7, d8⟩ := hd
      simp only at d0 d1 d2 d3 d4 d5 d6 d7 d8 hP HUX
      cases p1 : (xh.toList == house.toList) with
      | false =>
        rw [p1] at hP
        simp only [Bool.false_and] at hP
        rw [hP] at hlog
        have HF := hide (show S1 = S0 from hlog)
        clear hP hlog HL HUX
        go_wp2_with fail
        go_roundw
        case rel => exact ⟨k + 1, by omega, by go_num, by rw [HS1.out, HF.out], hb.alloc hb.size _⟩
        case measure => simp [intOf] <;> omega
      | true =>
        cases p2 : (kind.toList == [102, 111, 117, 110, 100]) with
        | true =>
          rw [p1, p2] at hP
          simp only [Bool.not_true, Bool.and_false, Bool.false_and] at hP
          rw [hP] at hlog
          have HF := hide (show S1 = S0 from hlog)
          have p2' : (kind.toList != [102, 111, 117, 110, 100]) = false := by rw [bne, p2]; rfl
          clear hP hlog HL HUX
          go_wp2_with fail
          go_roundw
          case rel => exact ⟨k + 1, by omega, by go_num, by rw [HS1.out, HF.out], hb.alloc hb.size _⟩
          case measure => simp [intOf] <;> omega
        | false =>
          have p2' : (kind.toList != [102, 111, 117, 110, 100]) = true := by rw [bne, p2]; rfl
          cases p3 : (kind.toList == [102, 101, 101, 100]) with
          | true =>
            rw [p1, p2, p3] at hP
            simp only [Bool.not_true, Bool.and_false] at hP
            rw [hP] at hlog
            have HF := hide (show S1 = S0 from hlog)
            have p3' : (kind.toList != [102, 101, 101, 100]) = false := by rw [bne, p3]; rfl
            clear hP hlog HL HUX
            go_wp2_with fail
            go_roundw
            case rel => exact ⟨k + 1, by omega, by go_num, by rw [HS1.out, HF.out], hb.alloc hb.size _⟩
            case measure => simp [intOf] <;> omega
          | false =>
            have p3' : (kind.toList != [102, 101, 101, 100]) = true := by rw [bne, p3]; rfl
            rw [p1, p2, p3] at hP
            simp only [Bool.not_false, Bool.and_true] at hP
            rw [hP] at hlog
            have HF := hide (show S1 = S0 ++ LN from hlog)
            have hsum : S1.size = S0.size + LN.size := by rw [HF.out, ByteArray.size_append]
            have HLN := hide (HL.out (by
              rcases HUX.out with h | h
              · rw [p2] at h; cases h
              · exact h) (by omega))
            have m1 : ¬ 9223372036854775807 < S0.size + LN.size := by omega
            clear hP hlog HL HUX
            go_wp2_with fail
            refine (HLN.out _).mono ?_
            rintro e w2 ⟨rfl, hb2⟩
            have hb3 := below_alloc_call hb hb2
            go_wp2_with fail
            go_roundw
            case rel => exact ⟨k + 1, by omega, by go_num, by rw [HS1.out, HF.out], hb3⟩
            case measure => simp [intOf] <;> omega
    · obtain rfl : k = ds.length := by omega
      rw [List.take_length]
      go_wp2_with fail
      go_ret
      exact ⟨rfl, hb⟩

def logE (r : Int) (ds : List Deed) (house : ByteArray) : ByteArray × Int := if r = 0 then (⟨#[]⟩, 3) else if r = 3 then (logS ds house, 0) else (⟨#[]⟩, 4)

def headE (r : Int) (ds : List Deed) (house : ByteArray) : Int × Int := if r = 0 then (0, 3) else if r = 3 then (sumF (logD ds house), 0) else (0, 4)

set_option maxHeartbeats 800000 in
set_option maxRecDepth 100000 in
theorem rLog_any (rb : Nat) (root time : Int) (ao : Option Addr) (cap : Nat) (ds : List Deed) (house : ByteArray) (id : Int) (w : World)
    (hr : RefAt w rb root time ao cap ds) (hlen : ds.length ≤ 1000000000000) (hu : ∀ x ∈ ds, DeedWrit x) (hl : (logD ds house).length ≤ 4611686018427387000) (r1 : ByteArray) (r2 : Int) (hE : (r1, r2) = logE (roleF root time ds house id) ds house) :
    Calls Tryz.prog 37 #[.pointer (some ⟨rb, 0, none⟩), .string house, .int .i64 id] w fun e w' => e = .returned (.tuple #[.string r1, .int .i64 r2]) ∧ Below w.heap.size w w' := by
  have Hr := hide (role_any rb root time ao cap ds house id w hr hlen)
  have HL := hide (fun W h => rlog_any rb root time ao cap ds house W h hlen hu hl)
  have HR := hide hr
  clear hr hu
  unfold logE at hE
  generalize roleF root time ds house id = r at *
  by_cases h0 : r = 0
  · rw [if_pos h0] at hE
    simp only [Prod.mk.injEq] at hE
    obtain ⟨rfl, rfl⟩ := hE
    have z0 : (r == 0) = true := by rw [h0]; rfl
    clear h0
    go_enter Tryz.func37, Tryz.ntmps37
    go_wp2_with fail
    refine Hr.out.mono ?_
    rintro e w1 ⟨rfl, hb1⟩
    go_wp2_with fail
    go_ret2
    exact ⟨rfl, hb1⟩
  · rw [if_neg h0] at hE
    have z0 : (r == 0) = false := beq_eq_false_iff_ne.2 h0
    by_cases h3 : r = 3
    · rw [if_pos h3] at hE
      simp only [Prod.mk.injEq] at hE
      obtain ⟨rfl, rfl⟩ := hE
      have z3 : (r != 3) = false := by rw [h3]; rfl
      clear h0 h3
      go_enter Tryz.func37, Tryz.ntmps37
      go_wp2_with fail
      refine Hr.out.mono ?_
      rintro e w1 ⟨rfl, hb1⟩
      go_wp2_with fail
      refine (HL.out w1 (HR.out.below hb1)).mono ?_
      rintro e w2 ⟨rfl, hb2⟩
      go_wp2_with fail
      go_ret2
      exact ⟨rfl, below_call hb1 hb2⟩
    · rw [if_neg h3] at hE
      simp only [Prod.mk.injEq] at hE
      obtain ⟨rfl, rfl⟩ := hE
      have z3 : (r != 3) = true := bne_iff_ne.2 h3
      clear h0 h3
      go_enter Tryz.func37, Tryz.ntmps37
      go_wp2_with fail
      refine Hr.out.mono ?_
      rintro e w1 ⟨rfl, hb1⟩
      go_wp2_with fail
      go_ret2
      exact ⟨rfl, hb1⟩

set_option maxHeartbeats 800000 in
set_option maxRecDepth 100000 in
theorem rHead_any (rb : Nat) (root time : Int) (ao : Option Addr) (cap : Nat) (ds : List Deed) (house : ByteArray) (id : Int) (w : World)
    (hr : RefAt w rb root time ao cap ds) (hlen : ds.length ≤ 1000000000000) (hu : ∀ x ∈ ds, DeedWrit x) (hl : (logD ds house).length ≤ 4611686018427387000) (r1 r2 : Int) (hE : (r1, r2) = headE (roleF root time ds house id) ds house) :
    Calls Tryz.prog 39 #[.pointer (some ⟨rb, 0, none⟩), .string house, .int .i64 id] w fun e w' => e = .returned (.tuple #[.int .i64 r1, .int .i64 r2]) ∧ Below w.heap.size w w' := by
  have Hr := hide (fun q1 q2 h => rLog_any rb root time ao cap ds house id w hr hlen hu hl q1 q2 h)
  have HSM := hide (fun W => rsum_any (logS ds house) W (by rw [logS_size]; exact hl))
  have hsum : (logS ds house).data.toList = logD ds house := by simp [logS]
  rw [hsum] at HSM
  clear hr hu hsum
  unfold headE at hE
  unfold logE at Hr
  generalize roleF root time ds house id = r at *
  by_cases h0 : r = 0
  · rw [if_pos h0] at hE Hr
    simp only [Prod.mk.injEq] at hE
    obtain ⟨rfl, rfl⟩ := hE
    clear h0
    go_enter Tryz.func39, Tryz.ntmps39
    go_wp2_with fail
    refine (Hr.out _ _ rfl).mono ?_
    rintro e w1 ⟨rfl, hb1⟩
    go_wp2_with fail
    go_ret2
    exact ⟨rfl, hb1⟩
  · rw [if_neg h0] at hE Hr
    by_cases h3 : r = 3
    · rw [if_pos h3] at hE Hr
      simp only [Prod.mk.injEq] at hE
      obtain ⟨rfl, rfl⟩ := hE
      clear h0 h3
      go_enter Tryz.func39, Tryz.ntmps39
      go_wp2_with fail
      refine (Hr.out _ _ rfl).mono ?_
      rintro e w1 ⟨rfl, hb1⟩
      go_wp2_with fail
      refine (HSM.out w1).mono ?_
      rintro e w2 ⟨rfl, hb2⟩
      go_wp2_with fail
      go_ret2
      exact ⟨rfl, below_call hb1 hb2⟩
    · rw [if_neg h3] at hE Hr
      simp only [Prod.mk.injEq] at hE
      obtain ⟨rfl, rfl⟩ := hE
      clear h0 h3
      go_enter Tryz.func39, Tryz.ntmps39
      go_wp2_with fail
      refine (Hr.out _ _ rfl).mono ?_
      rintro e w1 ⟨rfl, hb1⟩
      go_wp2_with fail
      go_ret2
      exact ⟨rfl, hb1⟩

end Go.Proofs.YtgcldedkempjhabGreatDoor
