/-
  depotlaw: a script of steps of all stages.
-/
import Derived.Test.YtgcldedkempjhabGreatDoorLawPlay
import Derived.Test.YtgcldedkempjhabGreatDoorLawAsk
namespace Go.Proofs.YtgcldedkempjhabGreatDoor
open Go.RowKit

theorem asks_any (base wb db rb : Nat) (root : Int) (n : Nat) (x : OpD) (w : World) (hI : Inv w base wb db rb root n false) (hf : n ≤ 100000000000) (h1 : 12 ≤ x.kind) (h2 : x.kind ≤ 14) (hs : x.s.size ≤ 1000000000 ∧ x.t.size ≤ 1000000000) :
    Calls Tryz.prog 11 #[.pointer (some ⟨wb, 0, none⟩), .agg (opV x.kind x.house x.id x.s x.t x.a x.b x.c)] w fun e w' => e = .returned (.bool true) ∧ Inv w' base wb db rb root (n + 1) false ∧ Below base w w' := by
  have hk : x.kind = 12 ∨ x.kind = 13 ∨ x.kind = 14 := by omega
  rcases hk with h | h | h <;> rw [h]
  · exact asks_resolve base wb db rb root n false _ _ _ _ _ _ _ w hI (Or.inr hf) hs.1 hs.2
  · exact asks_log base wb db rb root n false _ _ _ _ _ _ _ w hI (Or.inr hf)
  · exact asks_head base wb db rb root n false _ _ _ _ _ _ _ w hI (Or.inr hf)

set_option maxHeartbeats 800000 in
set_option maxRecDepth 100000 in
theorem step14 (base wb db rb : Nat) (root : Int) (n : Nat) (x : OpD) (w : World) (hI : Inv w base wb db rb root n false) (hf : n ≤ 100000000000) (hbase : base ≤ w.heap.size) (h2 : x.kind ≤ 14) (ha : OpOk false x) :
    Calls Tryz.prog 8 #[.pointer (some ⟨wb, 0, none⟩), .agg (opV x.kind x.house x.id x.s x.t x.a x.b x.c)] w fun e w' => e = .returned (.bool true) ∧ Inv w' base wb db rb root (n + 1) false ∧ Below base w w' := by
  by_cases h11 : x.kind ≤ 11
  · exact step_any base wb db rb root n false x w hI (Or.inr hf) hbase (Or.inr ⟨rfl, h11⟩) ha
  · have hs := ha.2.resolve_left (by decide)
    have hb0 : Below w.heap.size w (w.alloc (.cells (opV x.kind x.house x.id x.s x.t x.a x.b x.c) 37)) := (Below.refl _ _).alloc (Nat.le_refl _) _
    have h1 : ¬ x.kind < 1 := by omega
    have h3 : ¬ 14 < x.kind := by omega
    have h6 : ¬ x.kind ≤ 6 := by omega
    clear ha
    go_enter Tryz.func8, Tryz.ntmps8
    go_wp2_with fail
    refine (asks_any base wb db rb root n x _ (hI.below hb0) hf (by omega) h2 hs).mono ?_
    rintro e w1 ⟨rfl, hI1, hB1⟩
    go_wp2_with fail
    go_ret
    exact ⟨rfl, hI1, (hb0.mono hbase).trans hB1⟩

set_option maxHeartbeats 1600000 in
set_option maxRecDepth 100000 in
theorem plays14 (root : Int) (so : Option Addr) (len cap : Nat) (f : Nat → OpD) (up lo hi : Int) (w : World) (htab : TabOk w) (h : 1 ≤ root) (hlen : len ≤ 9223372036854775807) (hup : up ≤ 14) (hfew : len ≤ 100000000)
    (hscr : ∀ i, i < len → ∃ g o, so = some ⟨g, o, none⟩ ∧ g < w.heap.size ∧ OpAt w g (o + i * 8) (f i) ∧ OpOk false (f i)) :
    Calls Tryz.prog 4 #[.int .i64 root, .slice so len cap, .int .i64 up, .int .i64 lo, .int .i64 hi] w fun e w' => e = .returned (.bool true) ∧ Below w.heap.size w w' := by
  have HS := hide hscr
  have HU := hide hup
  have HF := hide hfew
  clear hscr hup hfew
  go_enter Tryz.func4, Tryz.ntmps4
  go_wp2_with fail
  refine (new_yes root _ h htab).mono ?_
  rintro e w1 ⟨rfl, hD1, hB1⟩
  go_wp2_with fail
  refine (rnew_yes root _ h).mono ?_
  rintro e w2 ⟨rfl, hR2, hB2⟩
  go_wp2_with fail
  refine (num_any _ _).mono ?_
  rintro e w3 ⟨rfl, hh⟩
  subst hh
  have hI0 := hide (inv_start 0 false (by omega) hD1 hR2 hB2)
  have hB0 : Below w.heap.size w (w3.alloc (.cells #[.pointer (some ⟨w.heap.size, 0, none⟩), .pointer (some ⟨w1.heap.size, 0, none⟩)] 35)) :=
    (hB1.trans (hB2.mono hB1.size)).alloc (Nat.le_trans hB1.size hB2.size) _
  clear hD1 hR2 hB1 hB2
  go_wp2_with fail
  go_loopw [16, 17, 18] (fun i _ _ wr => ∃ k : Nat, k ≤ len ∧ i = .int .i64 k ∧ Inv wr w.heap.size w3.heap.size w.heap.size w1.heap.size root k false ∧ Below w.heap.size w wr) (fun i _ _ _ => len - (intOf i).toNat)
  case atStart => exact ⟨0, Nat.zero_le _, rfl, hI0.out, hB0⟩
  case round =>
    obtain ⟨k, hk, rfl, hI, hb⟩ := hrel
    clear hI0 hB0
    by_cases hlt : k < len
    · obtain ⟨g, o, rfl, hg, hop, ha⟩ := HS.out k hlt
      obtain ⟨d0, d1, d2, d3, d4, d5, d6, d7⟩ := hop.below hb hg
      have HO := hide hop
      have HA := hide ha
      clear hop ha
      generalize f k = x at *
      by_cases hk6 : x.kind ≤ up
      · have HK := hide (show x.kind ≤ 14 by have := HU.out; omega)
        have HF2 := hide (show k ≤ 100000000000 by have := HF.out; omega)
        go_wp2_with fail
        refine (step14 w.heap.size w3.heap.size w.heap.size w1.heap.size root k x _ (hI.below ((Below.refl _ _).alloc (Nat.le_refl _) _)) HF2.out (by have := hb.size; simp; omega) HK.out HA.out).mono ?_
        rintro e w5 ⟨rfl, hI5, hB5⟩
        go_wp2_with fail
        go_roundw
        case rel => exact ⟨k + 1, by omega, by go_num, hI5, (hb.alloc hb.size _).trans hB5⟩
        case measure => simp [intOf] <;> omega
      · go_wp2_with fail
        go_roundw
        case rel => exact ⟨k + 1, by omega, by go_num, (hI.below ((Below.refl _ _).alloc (Nat.le_refl _) _)).more, hb.alloc hb.size _⟩
        case measure => simp [intOf] <;> omega
    · go_wp2_with fail
      go_ret
      exact ⟨rfl, hb⟩

end Go.Proofs.YtgcldedkempjhabGreatDoor
