/-
  depotlaw: a script of steps of stage 1.
-/
import Derived.Test.YtdddbinlkljbcaaLawTok
namespace Go.Proofs.Ytdddbinlkljbcaa
open Go.RowKit

structure OpD where
  kind : Int
  house : ByteArray
  id : Int
  s : ByteArray
  t : ByteArray
  a : Int
  b : Int
  c : Int

structure OpAt (w : World) (g o : Nat) (x : OpD) : Prop where
  d0 : w.cell? ⟨g, o, none⟩ = some (.int .i64 x.kind)
  d1 : w.cell? ⟨g, o + 1, none⟩ = some (.string x.house)
  d2 : w.cell? ⟨g, o + 2, none⟩ = some (.int .i64 x.id)
  d3 : w.cell? ⟨g, o + 3, none⟩ = some (.string x.s)
  d4 : w.cell? ⟨g, o + 4, none⟩ = some (.string x.t)
  d5 : w.cell? ⟨g, o + 5, none⟩ = some (.int .i64 x.a)
  d6 : w.cell? ⟨g, o + 6, none⟩ = some (.int .i64 x.b)
  d7 : w.cell? ⟨g, o + 7, none⟩ = some (.int .i64 x.c)

theorem OpAt.below {w w' : World} {B g o : Nat} {x : OpD} (h : OpAt w g o x) (hb : Below B w w') (hg : g < B) : OpAt w' g o x :=
  ⟨(hb.cell (p := ⟨g, _, none⟩) hg).trans h.d0, (hb.cell (p := ⟨g, _, none⟩) hg).trans h.d1, (hb.cell (p := ⟨g, _, none⟩) hg).trans h.d2, (hb.cell (p := ⟨g, _, none⟩) hg).trans h.d3,
    (hb.cell (p := ⟨g, _, none⟩) hg).trans h.d4, (hb.cell (p := ⟨g, _, none⟩) hg).trans h.d5, (hb.cell (p := ⟨g, _, none⟩) hg).trans h.d6, (hb.cell (p := ⟨g, _, none⟩) hg).trans h.d7⟩

theorem tokens_any (base wb db rb : Nat) (root : Int) (x : OpD) (w : World) (hI : Inv w base wb db rb root) (h1 : 1 ≤ x.kind) (h2 : x.kind ≤ 6) (ha : x.a ≤ 9223372036854775807) :
    Calls Try.prog 27 #[.pointer (some ⟨wb, 0, none⟩), .agg (opV x.kind x.house x.id x.s x.t x.a x.b x.c)] w fun e w' => e = .returned (.bool true) ∧ Inv w' base wb db rb root ∧ Below base w w' := by
  have hk : x.kind = 1 ∨ x.kind = 2 ∨ x.kind = 3 ∨ x.kind = 4 ∨ x.kind = 5 ∨ x.kind = 6 := by omega
  rcases hk with h | h | h | h | h | h <;> rw [h]
  · by_cases h0 : x.a < 0
    · exact tokens_tick_no base wb db rb root _ _ _ _ _ _ _ w hI h0
    · exact tokens_tick base wb db rb root _ _ _ _ _ _ _ w hI (by omega) ha
  · exact tokens_clock base wb db rb root _ _ _ _ _ _ _ w hI
  · exact tokens_may base wb db rb root _ _ _ _ _ _ _ w hI
  · exact tokens_found base wb db rb root _ _ _ _ _ _ _ w hI
  · exact tokens_mint base wb db rb root _ _ _ _ _ _ _ w hI
  · exact tokens_revoke base wb db rb root _ _ _ _ _ _ _ w hI

set_option maxHeartbeats 800000 in
set_option maxRecDepth 100000 in
theorem step_any (base wb db rb : Nat) (root : Int) (x : OpD) (w : World) (hI : Inv w base wb db rb root) (hbase : base ≤ w.heap.size) (h2 : x.kind ≤ 6) (ha : x.a ≤ 9223372036854775807) :
    Calls Try.prog 12 #[.pointer (some ⟨wb, 0, none⟩), .agg (opV x.kind x.house x.id x.s x.t x.a x.b x.c)] w fun e w' => e = .returned (.bool true) ∧ Inv w' base wb db rb root ∧ Below base w w' := by
  have hb0 : Below w.heap.size w (w.alloc (.cells (opV x.kind x.house x.id x.s x.t x.a x.b x.c) 52)) := (Below.refl _ _).alloc (Nat.le_refl _) _
  by_cases h1 : x.kind < 1
  · go_enter Try.func12, Try.ntmps12
    go_wp2_with fail
    go_ret
    exact ⟨rfl, hI.below hb0, hb0.mono hbase⟩
  · have h3 : ¬ 14 < x.kind := by omega
    go_enter Try.func12, Try.ntmps12
    go_wp2_with fail
    refine (tokens_any base wb db rb root x _ (hI.below hb0) (by omega) h2 ha).mono ?_
    rintro e w1 ⟨rfl, hI1, hB1⟩
    go_wp2_with fail
    go_ret
    exact ⟨rfl, hI1, (hb0.mono hbase).trans hB1⟩

set_option maxHeartbeats 800000 in
set_option maxRecDepth 100000 in
theorem plays_no (root : Int) (v : Value) (w : World) (h : root < 1) :
    Calls Try.prog 5 #[.int .i64 root, v, .int .i64 6, .int .i64 1, .int .i64 6] w fun e w' => e = .returned (.bool true) ∧ Below w.heap.size w w' := by
  go_enter Try.func5, Try.ntmps5
  go_wp2_with fail
  refine (new_no root _ h).mono ?_
  rintro e w1 ⟨rfl, hh⟩
  subst hh
  go_wp2_with fail
  refine (rnew_no root _ h).mono ?_
  rintro e w1 ⟨rfl, hh⟩
  subst hh
  go_wp2_with fail
  refine (num_any _ _).mono ?_
  rintro e w1 ⟨rfl, hh⟩
  subst hh
  go_wp2_with fail
  go_ret
  exact ⟨rfl, Below.refl _ _⟩

theorem inv_start {w w1 w3 : World} {root : Int} (hD : DepAt w1 w.heap.size root 0 none 0 []) (hR : RefAt w3 w1.heap.size root 0 none 0 []) (hB2 : Below w1.heap.size w1 w3) :
    Inv (w3.alloc (.cells #[.pointer (some ⟨w.heap.size, 0, none⟩), .pointer (some ⟨w1.heap.size, 0, none⟩)] 50)) w.heap.size w3.heap.size w.heap.size w1.heap.size root := by
  have h1 := hD.lt
  have h2 := hR.lt
  have h3 := hB2.size
  have hn := heap_alloc_new w3 (.cells #[.pointer (some ⟨w.heap.size, 0, none⟩), .pointer (some ⟨w1.heap.size, 0, none⟩)] 50)
  have hd : ∀ k, DepFoot w.heap.size none [] k → k = w.heap.size := by
    intro k hk
    rcases hk with rfl | ⟨a, e, _⟩ | ⟨i, hi, _⟩
    · rfl
    · cases e
    · simp at hi
  have hr : ∀ k, RefFoot w1.heap.size none k → k = w1.heap.size := by
    intro k hk
    rcases hk with rfl | ⟨a, e, _⟩
    · rfl
    · cases e
  refine ⟨0, none, 0, [], none, 0, [], ⟨(cell_of_heap hn 0).trans rfl, (cell_of_heap hn 1).trans rfl, (hD.below hB2).below ((Below.refl _ _).alloc (Nat.le_refl _) _), hR.below ((Below.refl _ _).alloc (Nat.le_refl _) _), ?_, ?_, ?_, ?_, ?_, ?_⟩, Sim.start, by decide, by decide⟩
  · intro k hk hk'
    have := hd k hk
    have := hr k hk'
    omega
  · intro hk; have := hd _ hk; omega
  · intro hk; have := hr _ hk; omega
  · intro k hk; have := hd k hk; omega
  · intro k hk; have := hr k hk; omega
  · simp; omega

set_option maxHeartbeats 1600000 in
set_option maxRecDepth 100000 in
theorem plays_yes (root : Int) (so : Option Addr) (len cap : Nat) (f : Nat → OpD) (w : World) (h : 1 ≤ root) (hlen : len ≤ 9223372036854775807)
    (hscr : ∀ i, i < len → ∃ g o, so = some ⟨g, o, none⟩ ∧ g < w.heap.size ∧ OpAt w g (o + i * 8) (f i) ∧ (f i).a ≤ 9223372036854775807) :
    Calls Try.prog 5 #[.int .i64 root, .slice so len cap, .int .i64 6, .int .i64 1, .int .i64 6] w fun e w' => e = .returned (.bool true) ∧ Below w.heap.size w w' := by
  have HS := hide hscr
  clear hscr
  go_enter Try.func5, Try.ntmps5
  go_wp2_with fail
  refine (new_yes root _ h).mono ?_
  rintro e w1 ⟨rfl, hD1, hB1⟩
  go_wp2_with fail
  refine (rnew_yes root _ h).mono ?_
  rintro e w2 ⟨rfl, hR2, hB2⟩
  go_wp2_with fail
  refine (num_any _ _).mono ?_
  rintro e w3 ⟨rfl, hh⟩
  subst hh
  have hI0 := hide (inv_start hD1 hR2 hB2)
  have hB0 : Below w.heap.size w (w3.alloc (.cells #[.pointer (some ⟨w.heap.size, 0, none⟩), .pointer (some ⟨w1.heap.size, 0, none⟩)] 50)) :=
    (hB1.trans (hB2.mono hB1.size)).alloc (Nat.le_trans hB1.size hB2.size) _
  clear hD1 hR2 hB1 hB2
  go_wp2_with fail
  go_loopw [16, 17, 18] (fun i _ _ wr => ∃ k : Nat, k ≤ len ∧ i = .int .i64 k ∧ Inv wr w.heap.size w3.heap.size w.heap.size w1.heap.size root ∧ Below w.heap.size w wr) (fun i _ _ _ => len - (intOf i).toNat)
  case atStart => exact ⟨0, Nat.zero_le _, rfl, hI0.out, hB0⟩
  case round =>
    obtain ⟨k, hk, rfl, hI, hb⟩ := hrel
    clear hI0 hB0
    by_cases hlt : k < len
    · obtain ⟨g, o, rfl, hg, hop, ha⟩ := HS.out k hlt
      obtain ⟨d0, d1, d2, d3, d4, d5, d6, d7⟩ := hop.below hb hg
      have HO := hide hop
      clear hop
      generalize f k = x at *
      by_cases hk6 : x.kind ≤ 6
      · go_wp2_with fail
        refine (step_any w.heap.size w3.heap.size w.heap.size w1.heap.size root x _ (hI.below ((Below.refl _ _).alloc (Nat.le_refl _) _)) (by have := hb.size; simp; omega) hk6 ha).mono ?_
        rintro e w5 ⟨rfl, hI5, hB5⟩
        go_wp2_with fail
        go_roundw
        case rel => exact ⟨k + 1, by omega, by go_num, hI5, (hb.alloc hb.size _).trans hB5⟩
        case measure => simp [intOf] <;> omega
      · go_wp2_with fail
        go_roundw
        case rel => exact ⟨k + 1, by omega, by go_num, hI.below ((Below.refl _ _).alloc (Nat.le_refl _) _), hb.alloc hb.size _⟩
        case measure => simp [intOf] <;> omega
    · go_wp2_with fail
      go_ret
      exact ⟨rfl, hb⟩

set_option maxHeartbeats 400000 in
theorem tokensLaw_any (root : Int) (so : Option Addr) (len cap : Nat) (f : Nat → OpD) (w : World) (hlen : len ≤ 9223372036854775807)
    (hscr : ∀ i, i < len → ∃ g o, so = some ⟨g, o, none⟩ ∧ g < w.heap.size ∧ OpAt w g (o + i * 8) (f i) ∧ (f i).a ≤ 9223372036854775807) :
    Calls Try.prog 3 #[.int .i64 root, .slice so len cap] w fun e w' => e = .returned (.bool true) ∧ Below w.heap.size w w' := by
  have HC := hide (show Calls Try.prog 5 #[.int .i64 root, .slice so len cap, .int .i64 6, .int .i64 1, .int .i64 6] w fun e w' => e = .returned (.bool true) ∧ Below w.heap.size w w' from by
    by_cases h : 1 ≤ root
    · exact plays_yes root so len cap f w h hlen hscr
    · exact plays_no root _ w (by omega))
  clear hscr
  go_enter Try.func3, Try.ntmps3
  go_wp2_with fail
  refine HC.out.mono ?_
  rintro e w1 ⟨rfl, hb⟩
  go_wp2_with fail
  go_ret
  exact ⟨rfl, hb⟩

end Go.Proofs.Ytdddbinlkljbcaa
