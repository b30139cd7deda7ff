/-
  depotkeep: need, needs.
-/
import Derived.Test.YtgcldedkempjhaaDoorShopB
import Derived.Test.YtgcldedkempjhaaDoorWntB
import Derived.BigRegion
namespace Go.Proofs.YtgcldedkempjhaaDoor
open Go.RowKit

/-- A want, raw. -/
structure RNd where
  n : Int
  lo : Int
  hi : Int

abbrev rndV (x : RNd) : Array Value := #[.int .i64 x.n, .int .i64 x.lo, .int .i64 x.hi]

structure RNdOk (x : RNd) : Prop where
  a1 : -9223372036854775808 ≤ x.n
  a2 : x.n ≤ 9223372036854775807
  b1 : -9223372036854775808 ≤ x.lo
  b2 : x.lo ≤ 9223372036854775807
  c1 : -9223372036854775808 ≤ x.hi
  c2 : x.hi ≤ 9223372036854775807

structure RNdAt (w : World) (g o : Nat) (x : RNd) : Prop where
  d0 : w.cell? ⟨g, o, none⟩ = some (.int .i64 x.n)
  d1 : w.cell? ⟨g, o + 1, none⟩ = some (.int .i64 x.lo)
  d2 : w.cell? ⟨g, o + 2, none⟩ = some (.int .i64 x.hi)

/-- Within the bounds. -/
def ndOf (x : RNd) : Nd := ⟨pickN x.n 6, 1 + pickN x.lo 9, 1 + pickN x.lo 9 + pickN x.hi (10 - (1 + pickN x.lo 9))⟩

structure NdOk (x : Nd) : Prop where
  n : x.n < 6
  lo : 1 ≤ x.lo
  le : x.lo ≤ x.hi
  hi : x.hi ≤ 9

theorem ndOf_ok (x : RNd) : NdOk (ndOf x) := by
  have h1 := pickN_lt x.n (n := 6) (by decide)
  have h2 := pickN_lt x.lo (n := 9) (by decide)
  have h3 := pickN_lt x.hi (n := 10 - (1 + pickN x.lo 9)) (by omega)
  exact ⟨h1, by show 1 ≤ 1 + pickN x.lo 9; omega, by show 1 + pickN x.lo 9 ≤ 1 + pickN x.lo 9 + _; omega, by show 1 + pickN x.lo 9 + _ ≤ 9; omega⟩

def Nd.cells (x : Nd) : List Value := [.int .i64 x.n, .int .i64 x.lo, .int .i64 x.hi]

abbrev ndV (x : Nd) : Array Value := #[.int .i64 x.n, .int .i64 x.lo, .int .i64 x.hi]

def ndsCells (l : List Nd) : List Value := l.flatMap Nd.cells

theorem pickI_any (c m : Int) (w : World) (h1 : -9223372036854775808 ≤ c) (h2 : c ≤ 9223372036854775807) (hn : 0 < m) (hn9 : m ≤ 9) :
    Calls Tryd.prog 16 #[.int .i64 c, .int .i64 m] w fun e w' => e = .returned (.int .i64 (pickN c m.toNat : Nat)) ∧ w' = w := by
  have h := pickN_any c m.toNat w h1 h2 (by omega) (by omega)
  rwa [show ((m.toNat : Nat) : Int) = m by omega] at h

set_option maxHeartbeats 1600000 in
theorem need_any (x : RNd) (hx : RNdOk x) (w : World) :
    Calls Tryd.prog 53 #[.agg (rndV x)] w fun e w' => e = .returned (.agg (ndV (ndOf x))) ∧ Below w.heap.size w w' := by
  obtain ⟨a1, a2, b1, b2, c1, c2⟩ := hx
  have h2 := pickN_lt x.lo (n := 9) (by decide)
  have h3 := pickN_lt x.hi (n := 10 - (1 + pickN x.lo 9)) (by omega)
  have HR := hide (show ∀ v, v = Value.agg #[.int .i64 (pickN x.n 6 : Nat), .int .i64 (1 + (pickN x.lo 9 : Nat)), .int .i64 (1 + (pickN x.lo 9 : Nat) + (pickN x.hi (10 - (1 + (pickN x.lo 9 : Int))).toNat : Nat))] → Ending.returned v = .returned (.agg (ndV (ndOf x))) by
    intro v hv
    rw [hv, show (10 - (1 + (pickN x.lo 9 : Int))).toNat = 10 - (1 + pickN x.lo 9) by omega]
    simp [ndOf, ndV])
  have h3' : pickN x.hi (10 - (1 + (pickN x.lo 9 : Int))).toNat ≤ 9 := by
    rw [show (10 - (1 + (pickN x.lo 9 : Int))).toNat = 10 - (1 + pickN x.lo 9) by omega]; omega
  clear h3
  have HL := hide (fun W => pickN_any x.lo 9 W b1 b2 (by decide) (by decide))
  go_enter Tryd.func53, Tryd.ntmps53
  go_wp2_with fail
  refine (HL.out _).mono ?_
  rintro e w1 ⟨rfl, hw⟩
  subst hw
  generalize pickN x.lo 9 = pl at *
  have hw10 : IntKind.i64.wrap (10 - (1 + (pl : Int))) = 10 - (1 + (pl : Int)) := by rw [IntKind.wrap_i64]; omega
  have hw19 : IntKind.i64.wrap (1 + (pl : Int) + (pickN x.hi (10 - (1 + (pl : Int))).toNat : Nat)) = 1 + (pl : Int) + (pickN x.hi (10 - (1 + (pl : Int))).toNat : Nat) := by rw [IntKind.wrap_i64]; omega
  go_wp2_with fail
  go_region_with (go_at_call 16; (try rw [hw10]); refine (pickI_any _ _ _ ?_ ?_ ?_ ?_).mono ?_; omega; omega; omega; omega; rintro e w2 ⟨rfl, hw⟩; subst hw)
  all_goals
    go_wp2_with fail
    exact bodyPost_ret (v := .agg #[.int .i64 (pickN x.n 6 : Nat), .int .i64 (1 + (pl : Nat)), .int .i64 (1 + (pl : Nat) + (pickN x.hi (10 - (1 + (pl : Int))).toNat : Nat))]) (by simp [results, Tryd.results53, go_sem]) rfl ⟨HR.out _ rfl, below_drawn (((Below.refl _ _).alloc (Nat.le_refl _) _).alloc (by simp) _) 1⟩

theorem Tryd.infoNeed : (Tryd.prog.info? 62).map (fun i => (i.zero, i.size, i.bytes)) = some (some (.agg #[.int .i64 0, .int .i64 0, .int .i64 0]), 3, 24) := by kernel_rfl

/-- A row of raw wants: the first six of them. -/
def RNds (w : World) (so : Option Addr) (len : Nat) (f : Nat → RNd) : Prop :=
  ∀ i, i < len → i < 6 → ∃ g o, so = some ⟨g, o, none⟩ ∧ g < w.heap.size ∧ RNdAt w g (o + i * 3) (f i) ∧ RNdOk (f i)

theorem RNdAt.keep {w w' : World} {g o : Nat} {x : RNd} (h : RNdAt w g o x) (hk : w'.heap[g]? = w.heap[g]?) : RNdAt w' g o x :=
  ⟨(World.cell?_of_block hk).trans h.d0, (World.cell?_of_block hk).trans h.d1, (World.cell?_of_block hk).trans h.d2⟩

/-- The wants within the bounds. -/
def ndsOf (len : Nat) (f : Nat → RNd) : List Nd := (List.range (min len 6)).map fun i => ndOf (f i)

def ndsTo (f : Nat → RNd) (k : Nat) : List Nd := (List.range k).map fun i => ndOf (f i)

theorem ndsTo_succ (f : Nat → RNd) (k : Nat) : ndsTo f (k + 1) = ndsTo f k ++ [ndOf (f k)] := by
  unfold ndsTo; rw [List.range_succ, List.map_append]; rfl

theorem heap1_new (w : World) (o : Obj) : (w.alloc o).heap[w.heap.size]? = some o := by simp [World.alloc, -World.alloc_eq]

set_option maxHeartbeats 1600000 in
theorem needs_any (so : Option Addr) (len cap : Nat) (f : Nat → RNd) (w : World) (hlen : len ≤ 9223372036854775807) (hf : RNds w so len f) :
    Calls Tryd.prog 19 #[.slice so len cap] w fun e w' => ∃ ao c, e = .returned (.slice ao (ndsOf len f).length c) ∧ w'.ownsRow w.heap.size 62 3 (.slice ao (ndsOf len f).length c) (ndsOf len f).length (ndsCells (ndsOf len f)) ∧ Below w.heap.size w w' := by
  obtain ⟨i0, ti, hz0, hz1, hz2⟩ := info_parts Tryd.infoNeed
  have HF := hide hf
  clear hf
  go_enter Tryd.func19, Tryd.ntmps19
  go_wp2_with fail
  go_loopw [3, 4] (fun v i wr => ∃ (k : Nat) (ao : Option Addr) (cp : Nat), v = .slice ao k cp ∧ k ≤ min len 6 ∧ i = .int .i64 k ∧ wr.ownsRow w.heap.size 62 3 (.slice ao k cp) k (ndsCells (ndsTo f k)) ∧ Below w.heap.size w wr) (fun _ i _ => 6 - (intOf i).toNat)
  case atStart => exact ⟨0, none, 0, rfl, Nat.zero_le _, rfl, World.ownsRow_nil _ _ _ _, Below.refl _ _⟩
  case round =>
    obtain ⟨k, ao, cp, rfl, hk, rfl, hown, hb⟩ := hrel
    by_cases hlt : k < len ∧ k < 6
    · obtain ⟨hl1, hl2⟩ := hlt
      obtain ⟨g, o, rfl, hg, hx, hok⟩ := HF.out k hl1 hl2
      have hx' := hx.keep (hb.block g hg)
      have d0 := hx'.d0
      have d1 := hx'.d1
      have d2 := hx'.d2
      have HP := hide (fun W => need_any (f k) hok W)
      have HS := hide (ndsTo_succ f k)
      clear hx hx' hok
      generalize ndOf (f k) = y at *
      have hl1' : (k : Int) < (len : Int) := by omega
      have hl2' : (k : Int) < 6 := by omega
      go_wp2_with fail
      refine (HP.out _).mono ?_
      rintro e w1 ⟨rfl, hb1⟩
      have hb2 := below_call hb hb1
      have hown1 := ownsRow_keep' hown hb1
      clear HP d0 d1 d2
      go_wp2_with (at_builtin; refine wpList_append_own2 _ rfl (.tmp 15) (.tmp 21) 49 rfl w.heap.size 62 i0 (.agg #[.int .i64 0, .int .i64 0, .int .i64 0]) 3 24 Tryd.underlying49 ti hz0 hz1 hz2 rfl (by decide) _ k (ndsCells (ndsTo f k)) rfl (hown1.alloc _) ⟨w1.heap.size, 0, none⟩ 1 1 y.cells rfl rfl (news_at (t := 62) (fr := (0, 0)) (heap1_new w1 _)) ?_ (by unfold maxLen; omega) (by omega) ?_ (by omega) ?_)
      · intro u hu
        simp [Nd.cells] at hu
        rcases hu with rfl | rfl | rfl <;> rfl
      · have := hb2.size; simp; omega
      · intro g' cap' w2 hown2 hgrow _
        have hb3 : Below w.heap.size w w2 := (hb2.alloc hb2.size _).grown hgrow (by have := hb2.size; simp; omega) (fun k' hk' => (hown1.lt k' hk').1)
        have HO := hide hown2
        clear hown hown1 hown2 hgrow hb hb1 hb2
        go_wp2_with fail
        go_roundw
        case rel => exact ⟨k + 1, some ⟨g', 0, none⟩, cap', rfl, by omega, by go_num, by rw [HS.out]; simpa [ndsCells] using HO.out, hb3⟩
        case measure => simp [intOf] <;> omega
    · have HE := hide (show k = (ndsOf len f).length by unfold ndsOf; simp; omega)
      have HE2 := hide (show ndsTo f k = ndsOf len f by unfold ndsOf ndsTo; rw [show k = min len 6 by omega])
      by_cases hl1 : k < len
      · have hl2' : ¬ (k : Int) < 6 := by omega
        have hl1' : (k : Int) < (len : Int) := by omega
        go_wp2_with fail
        go_ret
        exact ⟨ao, cp, by rw [← HE.out]; rfl, by rw [← HE.out, ← HE2.out]; exact hown, hb⟩
      · have hl1' : ¬ (k : Int) < (len : Int) := by omega
        go_wp2_with fail
        go_ret
        exact ⟨ao, cp, by rw [← HE.out]; rfl, by rw [← HE.out, ← HE2.out]; exact hown, hb⟩

end Go.Proofs.YtgcldedkempjhaaDoor
