/-
  depotlaw: a script of steps of stages 1 and 2.
-/
import Derived.Test.YtgcldedkempjhabGreatDoorLawPack
namespace Go.Proofs.YtgcldedkempjhabGreatDoor
open Go.RowKit

structure OpD where
  kind : Int
  house : ByteArray
  id : Int
  s : ByteArray
  t : ByteArray
  a : Int
  b : Int
  c : Int

structure OpAt (w : World) (g o : Nat) (x : OpD) : Prop where
  d0 : w.cell? ⟨g, o, none⟩ = some (.int .i64 x.kind)
  d1 : w.cell? ⟨g, o + 1, none⟩ = some (.string x.house)
  d2 : w.cell? ⟨g, o + 2, none⟩ = some (.int .i64 x.id)
  d3 : w.cell? ⟨g, o + 3, none⟩ = some (.string x.s)
  d4 : w.cell? ⟨g, o + 4, none⟩ = some (.string x.t)
  d5 : w.cell? ⟨g, o + 5, none⟩ = some (.int .i64 x.a)
  d6 : w.cell? ⟨g, o + 6, none⟩ = some (.int .i64 x.b)
  d7 : w.cell? ⟨g, o + 7, none⟩ = some (.int .i64 x.c)

theorem OpAt.below {w w' : World} {B g o : Nat} {x : OpD} (h : OpAt w g o x) (hb : Below B w w') (hg : g < B) : OpAt w' g o x :=
  ⟨(hb.cell (p := ⟨g, _, none⟩) hg).trans h.d0, (hb.cell (p := ⟨g, _, none⟩) hg).trans h.d1, (hb.cell (p := ⟨g, _, none⟩) hg).trans h.d2, (hb.cell (p := ⟨g, _, none⟩) hg).trans h.d3,
    (hb.cell (p := ⟨g, _, none⟩) hg).trans h.d4, (hb.cell (p := ⟨g, _, none⟩) hg).trans h.d5, (hb.cell (p := ⟨g, _, none⟩) hg).trans h.d6, (hb.cell (p := ⟨g, _, none⟩) hg).trans h.d7⟩

/-- What is asked of a step's arguments: with tk none of stage 2 is played; else its texts are no greater than any machine's. -/
def OpInt (x : OpD) : Prop := I64 x.id ∧ I64 x.a ∧ I64 x.b ∧ I64 x.c

def OpOk (tk : Bool) (x : OpD) : Prop := OpInt x ∧ (tk = true ∨ (x.s.size ≤ 1000000000 ∧ x.t.size ≤ 1000000000))

theorem tokens_any (base wb db rb : Nat) (root : Int) (n : Nat) (tk : Bool) (x : OpD) (w : World) (hI : Inv w base wb db rb root n tk) (hf : tk = true ∨ n ≤ 100000000000) (h1 : 1 ≤ x.kind) (h2 : x.kind ≤ 6) (ha : OpInt x) :
    Calls Tryz.prog 9 #[.pointer (some ⟨wb, 0, none⟩), .agg (opV x.kind x.house x.id x.s x.t x.a x.b x.c)] w fun e w' => e = .returned (.bool true) ∧ Inv w' base wb db rb root (n + 1) tk ∧ Below base w w' := by
  have hk : x.kind = 1 ∨ x.kind = 2 ∨ x.kind = 3 ∨ x.kind = 4 ∨ x.kind = 5 ∨ x.kind = 6 := by omega
  rcases hk with h | h | h | h | h | h <;> rw [h]
  · by_cases h0 : x.a < 0
    · exact tokens_tick_no base wb db rb root n tk _ _ _ _ _ _ _ w hI hf h0
    · exact tokens_tick base wb db rb root n tk _ _ _ _ _ _ _ w hI hf (by omega) ha.2.1.2
  · exact tokens_clock base wb db rb root n tk _ _ _ _ _ _ _ w hI
  · exact tokens_may base wb db rb root n tk _ _ _ _ _ _ _ w hI hf
  · exact tokens_found base wb db rb root n tk _ _ _ _ _ _ _ w hI hf
  · exact tokens_mint base wb db rb root n tk _ _ _ _ _ _ _ w hI hf ha.1 ha.2.2.1 ha.2.2.2
  · exact tokens_revoke base wb db rb root n tk _ _ _ _ _ _ _ w hI hf ha.1 ha.2.1

theorem packs_any (base wb db rb : Nat) (root : Int) (n : Nat) (x : OpD) (w : World) (hI : Inv w base wb db rb root n false) (hf : n ≤ 100000000000) (h1 : 7 ≤ x.kind) (h2 : x.kind ≤ 11) (hs : x.s.size ≤ 1000000000 ∧ x.t.size ≤ 1000000000) (ha : OpInt x) :
    Calls Tryz.prog 10 #[.pointer (some ⟨wb, 0, none⟩), .agg (opV x.kind x.house x.id x.s x.t x.a x.b x.c)] w fun e w' => e = .returned (.bool true) ∧ Inv w' base wb db rb root (n + 1) false ∧ Below base w w' := by
  have hk : x.kind = 7 ∨ x.kind = 8 ∨ x.kind = 9 ∨ x.kind = 10 ∨ x.kind = 11 := by omega
  rcases hk with h | h | h | h | h <;> rw [h]
  · exact packs_feed base wb db rb root n false _ _ _ _ _ _ _ w hI (Or.inr hf) hs.1 hs.2
  · exact packs_publish base wb db rb root n false _ _ _ _ _ _ _ w hI (Or.inr hf) hs.1 hs.2 ha.1
  · exact packs_yank base wb db rb root n false _ _ _ _ _ _ _ w hI (Or.inr hf) hs.1 hs.2 ha.1 ha.2.1
  · exact packs_grant base wb db rb root n false _ _ _ _ _ _ _ w hI (Or.inr hf) hs.1 hs.2 ha.1
  · exact packs_show base wb db rb root n false _ _ _ _ _ _ _ w hI (Or.inr hf) hs.1 hs.2

theorem Inv.more {w : World} {base wb db rb : Nat} {root : Int} {n : Nat} {tk : Bool} (h : Inv w base wb db rb root n tk) : Inv w base wb db rb root (n + 1) tk := by
  obtain ⟨D, ao, cap, ds, h1, h2, h3, h4, h5⟩ := h
  exact ⟨D, ao, cap, ds, h1, h2, h3, by omega, h5⟩

set_option maxHeartbeats 800000 in
set_option maxRecDepth 100000 in
theorem step_any (base wb db rb : Nat) (root : Int) (n : Nat) (tk : Bool) (x : OpD) (w : World) (hI : Inv w base wb db rb root n tk) (hf : tk = true ∨ n ≤ 100000000000) (hbase : base ≤ w.heap.size) (h2 : x.kind ≤ 6 ∨ (tk = false ∧ x.kind ≤ 11)) (ha : OpOk tk x) :
    Calls Tryz.prog 8 #[.pointer (some ⟨wb, 0, none⟩), .agg (opV x.kind x.house x.id x.s x.t x.a x.b x.c)] w fun e w' => e = .returned (.bool true) ∧ Inv w' base wb db rb root (n + 1) tk ∧ Below base w w' := by
  have hb0 : Below w.heap.size w (w.alloc (.cells (opV x.kind x.house x.id x.s x.t x.a x.b x.c) 37)) := (Below.refl _ _).alloc (Nat.le_refl _) _
  by_cases h1 : x.kind < 1
  · go_enter Tryz.func8, Tryz.ntmps8
    go_wp2_with fail
    go_ret
    exact ⟨rfl, (hI.below hb0).more, hb0.mono hbase⟩
  · by_cases h6 : x.kind ≤ 6
    · have h3 : ¬ 14 < x.kind := by omega
      clear h2
      go_enter Tryz.func8, Tryz.ntmps8
      go_wp2_with fail
      refine (tokens_any base wb db rb root n tk x _ (hI.below hb0) hf (by omega) h6 ha.1).mono ?_
      rintro e w1 ⟨rfl, hI1, hB1⟩
      go_wp2_with fail
      go_ret
      exact ⟨rfl, hI1, (hb0.mono hbase).trans hB1⟩
    · obtain ⟨htk, h11⟩ := h2.resolve_left h6
      subst htk
      have hf' : n ≤ 100000000000 := hf.resolve_left (by decide)
      have hs := ha.2.resolve_left (by decide)
      have hints := ha.1
      have h3 : ¬ 14 < x.kind := by omega
      clear h2 hf ha
      go_enter Tryz.func8, Tryz.ntmps8
      go_wp2_with fail
      refine (packs_any base wb db rb root n x _ (hI.below hb0) hf' (by omega) h11 hs hints).mono ?_
      rintro e w1 ⟨rfl, hI1, hB1⟩
      go_wp2_with fail
      go_ret
      exact ⟨rfl, hI1, (hb0.mono hbase).trans hB1⟩

set_option maxHeartbeats 800000 in
set_option maxRecDepth 100000 in
theorem plays_no (root : Int) (v : Value) (up lo hi : Int) (w : World) (h : root < 1) :
    Calls Tryz.prog 4 #[.int .i64 root, v, .int .i64 up, .int .i64 lo, .int .i64 hi] w fun e w' => e = .returned (.bool true) ∧ Below w.heap.size w w' := by
  go_enter Tryz.func4, Tryz.ntmps4
  go_wp2_with fail
  refine (new_no root _ h).mono ?_
  rintro e w1 ⟨rfl, hh⟩
  subst hh
  go_wp2_with fail
  refine (rnew_no root _ h).mono ?_
  rintro e w1 ⟨rfl, hh⟩
  subst hh
  go_wp2_with fail
  refine (num_any _ _).mono ?_
  rintro e w1 ⟨rfl, hh⟩
  subst hh
  go_wp2_with fail
  go_ret
  exact ⟨rfl, Below.refl _ _⟩

theorem fresh_foot {db : Nat} {root : Int} {k : Nat} (h : DepFoot db (freshD root) k) : k = db := by
  rcases h with rfl | ⟨a, e, _⟩ | ⟨q, r, hq, hk⟩ | ⟨e, he, _⟩
  · rfl
  · cases e
  · match q, hq with
    | none, hq =>
      injection hq with hq
      subst hq
      obtain ⟨a, e, _⟩ := hk
      cases e
    | some (f, i), hq => simp [DepD.row] at hq
  · rcases he with he | ⟨x, hx, _⟩
    · cases he
    · cases hx

theorem inv_start {w w1 w3 : World} {root : Int} (n : Nat) (tk : Bool) (hroot : 0 ≤ root) (hD : DepAt w1 w.heap.size (freshD root)) (hR : RefAt w3 w1.heap.size root 0 none 0 []) (hB2 : Below w1.heap.size w1 w3) :
    Inv (w3.alloc (.cells #[.pointer (some ⟨w.heap.size, 0, none⟩), .pointer (some ⟨w1.heap.size, 0, none⟩)] 35)) w.heap.size w3.heap.size w.heap.size w1.heap.size root n tk := by
  have h1 := hD.lt
  have h2 := hR.lt
  have h3 := hB2.size
  have hn := heap_alloc_new w3 (.cells #[.pointer (some ⟨w.heap.size, 0, none⟩), .pointer (some ⟨w1.heap.size, 0, none⟩)] 35)
  have hr : ∀ k, RefFoot w1.heap.size none k → k = w1.heap.size := by
    intro k hk
    rcases hk with rfl | ⟨a, e, _⟩
    · rfl
    · cases e
  refine ⟨freshD root, none, 0, [], ⟨(cell_of_heap hn 0).trans rfl, (cell_of_heap hn 1).trans rfl, (hD.below hB2).below ((Below.refl _ _).alloc (Nat.le_refl _) _), hR.below ((Below.refl _ _).alloc (Nat.le_refl _) _), rfl, ?_, ?_, ?_, ?_, ?_, ?_, hD.tlt⟩, Sim.start root 0, ⟨by simp, by simp⟩, by simp, fun _ => rfl, hroot, fun _ h => by cases h⟩
  · intro k hk hk'
    have := fresh_foot hk
    have := hr k hk'
    omega
  · intro hk; have := fresh_foot hk; omega
  · intro hk; have := hr _ hk; omega
  · intro k hk; have := fresh_foot hk; omega
  · intro k hk; have := hr k hk; omega
  · simp; omega

set_option maxHeartbeats 1600000 in
set_option maxRecDepth 100000 in
theorem plays_yes (root : Int) (so : Option Addr) (len cap : Nat) (f : Nat → OpD) (up lo hi : Int) (tk : Bool) (w : World) (htab : TabOk w) (h : 1 ≤ root) (hlen : len ≤ 9223372036854775807) (hup : up ≤ 6 ∨ (tk = false ∧ up ≤ 11)) (hfew : tk = true ∨ len ≤ 100000000)
    (hscr : ∀ i, i < len → ∃ g o, so = some ⟨g, o, none⟩ ∧ g < w.heap.size ∧ OpAt w g (o + i * 8) (f i) ∧ OpOk tk (f i)) :
    Calls Tryz.prog 4 #[.int .i64 root, .slice so len cap, .int .i64 up, .int .i64 lo, .int .i64 hi] w fun e w' => e = .returned (.bool true) ∧ Below w.heap.size w w' := by
  have HS := hide hscr
  have HU := hide hup
  have HF := hide hfew
  clear hscr hup hfew
  go_enter Tryz.func4, Tryz.ntmps4
  go_wp2_with fail
  refine (new_yes root _ h htab).mono ?_
  rintro e w1 ⟨rfl, hD1, hB1⟩
  go_wp2_with fail
  refine (rnew_yes root _ h).mono ?_
  rintro e w2 ⟨rfl, hR2, hB2⟩
  go_wp2_with fail
  refine (num_any _ _).mono ?_
  rintro e w3 ⟨rfl, hh⟩
  subst hh
  have hI0 := hide (inv_start 0 tk (by omega) hD1 hR2 hB2)
  have hB0 : Below w.heap.size w (w3.alloc (.cells #[.pointer (some ⟨w.heap.size, 0, none⟩), .pointer (some ⟨w1.heap.size, 0, none⟩)] 35)) :=
    (hB1.trans (hB2.mono hB1.size)).alloc (Nat.le_trans hB1.size hB2.size) _
  clear hD1 hR2 hB1 hB2
  go_wp2_with fail
  go_loopw [16, 17, 18] (fun i _ _ wr => ∃ k : Nat, k ≤ len ∧ i = .int .i64 k ∧ Inv wr w.heap.size w3.heap.size w.heap.size w1.heap.size root k tk ∧ Below w.heap.size w wr) (fun i _ _ _ => len - (intOf i).toNat)
  case atStart => exact ⟨0, Nat.zero_le _, rfl, hI0.out, hB0⟩
  case round =>
    obtain ⟨k, hk, rfl, hI, hb⟩ := hrel
    clear hI0 hB0
    by_cases hlt : k < len
    · obtain ⟨g, o, rfl, hg, hop, ha⟩ := HS.out k hlt
      obtain ⟨d0, d1, d2, d3, d4, d5, d6, d7⟩ := hop.below hb hg
      have HO := hide hop
      have HA := hide ha
      clear hop ha
      generalize f k = x at *
      by_cases hk6 : x.kind ≤ up
      · have HK := hide (show x.kind ≤ 6 ∨ (tk = false ∧ x.kind ≤ 11) from HU.out.elim (fun h => Or.inl (by omega)) (fun h => Or.inr ⟨h.1, by omega⟩))
        have HF2 := hide (show tk = true ∨ k ≤ 100000000000 from HF.out.elim Or.inl (fun h => Or.inr (by omega)))
        go_wp2_with fail
        refine (step_any w.heap.size w3.heap.size w.heap.size w1.heap.size root k tk x _ (hI.below ((Below.refl _ _).alloc (Nat.le_refl _) _)) HF2.out (by have := hb.size; simp; omega) HK.out HA.out).mono ?_
        rintro e w5 ⟨rfl, hI5, hB5⟩
        go_wp2_with fail
        go_roundw
        case rel => exact ⟨k + 1, by omega, by go_num, hI5, (hb.alloc hb.size _).trans hB5⟩
        case measure => simp [intOf] <;> omega
      · go_wp2_with fail
        go_roundw
        case rel => exact ⟨k + 1, by omega, by go_num, (hI.below ((Below.refl _ _).alloc (Nat.le_refl _) _)).more, hb.alloc hb.size _⟩
        case measure => simp [intOf] <;> omega
    · go_wp2_with fail
      go_ret
      exact ⟨rfl, hb⟩

end Go.Proofs.YtgcldedkempjhabGreatDoor
