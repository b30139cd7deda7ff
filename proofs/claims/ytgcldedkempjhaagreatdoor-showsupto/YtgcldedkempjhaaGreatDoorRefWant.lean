/-
  depotref: want, Wants.
-/
import Derived.Test.YtgcldedkempjhaaGreatDoorRefPackC
import Derived.Test.YtgcldedkempjhaaGreatDoorNames
import Derived.Test.YtgcldedkempjhaaGreatDoorBaseRow
import Derived.BigRegion
namespace Go.Proofs.YtgcldedkempjhaaGreatDoor
open Go.RowKit

theorem dwantF_two {s a b : ByteArray} (h : cutF s 32 = [a, b]) : dwantF s = if b.size = 3 ∧ byteAt b 1 = 45 ∧ nameF a = true ∧ 1 ≤ byteAt b 0 - 48 ∧ byteAt b 2 - 48 ≤ 9 ∧ byteAt b 0 - 48 ≤ byteAt b 2 - 48 then some ⟨a, byteAt b 0 - 48, byteAt b 2 - 48⟩ else none := by
  unfold dwantF
  rw [h]

theorem below_set3' {B : Nat} {w wr : World} (hb : Below B w wr) {b : Nat} (h : B ≤ b) (v0 v1 v2 : Value) :
    Below B w (((wr.setCell ⟨b, 0, none⟩ v0).setCell ⟨b, 1, none⟩ v1).setCell ⟨b, 2, none⟩ v2) :=
  ((hb.setCell h _).setCell h _).setCell h _

/-- What want answers. -/
def WantedAs (s : ByteArray) (e : Ending) : Prop := ∃ x : WantD, e = .returned (.tuple #[.agg #[.string x.name, .int .i64 x.lo, .int .i64 x.hi], .bool (dwantF s).isSome]) ∧ ∀ y, dwantF s = some y → x = y

set_option maxHeartbeats 4000000 in
set_option maxRecDepth 100000 in
theorem want_try (s a b : ByteArray) (w : World) (hs : s.size ≤ 1000000000) (hc : cutF s 32 = [a, b]) (ha : a.size ≤ 1000000000) (h3 : b.size = 3) (h45 : ((b[1].toNat : Int) != 45) = false) :
    Calls Tryz.prog 108 #[.string s] w fun e w' => WantedAs s e ∧ Below w.heap.size w w' := by
  have Hc := hide (fun W => cut_any s 32 W hs)
  rw [hc] at Hc
  have Hn := hide (fun W => name_any a W ha)
  have u0 : (b[0].toNat : Int) ≤ 255 := by have := b[0].toNat_lt; omega
  have u2 : (b[2].toNat : Int) ≤ 255 := by have := b[2].toNat_lt; omega
  have v0 : 0 ≤ (b[0].toNat : Int) := Int.natCast_nonneg _
  have v2 : 0 ≤ (b[2].toNat : Int) := Int.natCast_nonneg _
  have HD := hide (show dwantF s = if nameF a = true ∧ 1 ≤ (b[0].toNat : Int) - 48 ∧ (b[2].toNat : Int) - 48 ≤ 9 ∧ (b[0].toNat : Int) - 48 ≤ (b[2].toNat : Int) - 48 then some ⟨a, (b[0].toNat : Int) - 48, (b[2].toNat : Int) - 48⟩ else none by
    rw [dwantF_two hc, byteAt_lt b 0 (by omega), byteAt_lt b 1 (by omega), byteAt_lt b 2 (by omega)]
    have h45' : (b[1].toNat : Int) = 45 := by simpa using h45
    simp [h3, h45'])
  have q0 : wrap64 (b[0].toNat : Int) = (b[0].toNat : Int) := by unfold wrap64; omega
  have q2 : wrap64 (b[2].toNat : Int) = (b[2].toNat : Int) := by unfold wrap64; omega
  have q0' : wrap64 ((b[0].toNat : Int) - 48) = (b[0].toNat : Int) - 48 := by unfold wrap64; omega
  have q2' : wrap64 ((b[2].toNat : Int) - 48) = (b[2].toNat : Int) - 48 := by unfold wrap64; omega
  have HQ := hide (And.intro q0 (And.intro q2 (And.intro q0' q2')))
  clear hc q0 q2 q0' q2' u0 u2 v0 v2
  have hb0 : Below w.heap.size w (w.alloc (.cells #[.string ⟨#[]⟩, .int .i64 0, .int .i64 0] 161)) := (Below.refl _ _).alloc (Nat.le_refl _) _
  go_enter Tryz.func108, Tryz.ntmps108
  go_wp2_with fail
  refine (Hc.out _).mono ?_
  rintro e w1 ⟨g, cp, rfl, hown, hb⟩
  have hglt : g < w1.heap.size := (hown.lt g rfl).2
  have d0 := str_cell hown 0 (by simp)
  have d1 := str_cell hown 1 (by simp)
  simp only [List.getElem_cons_zero, List.getElem_cons_succ] at d0 d1
  have hlt1 : w.heap.size < w1.heap.size := new_lt hb
  have hb1 := below_call hb0 hb
  have hres1 : w1.heap[w.heap.size]? = some (.cells #[.string ⟨#[]⟩, .int .i64 0, .int .i64 0] 161 (0, 0)) := by rw [hb.block w.heap.size (by simp)]; exact heap_alloc_new w _
  go_wp2_with fail
  go_region
  rw [HQ.out.1, HQ.out.2.1, HQ.out.2.2.1, HQ.out.2.2.2]
  clear HQ d0 d1 hown hb hb0
  generalize (b[0].toNat : Int) - 48 = lo at *
  generalize (b[2].toNat : Int) - 48 = hi at *
  have hb2 : Below w1.heap.size w1 ((w1.alloc (.cells #[.string a, .int .i64 lo, .int .i64 hi] 161)).drew) := below_drawn ((Below.refl _ _).alloc (Nat.le_refl _) _) 1
  have hnew : ((w1.alloc (.cells #[.string a, .int .i64 lo, .int .i64 hi] 161)).drew).heap[w1.heap.size]? = some (.cells #[.string a, .int .i64 lo, .int .i64 hi] 161 (0, 0)) := heap_alloc_new w1 _
  have hsz : ((w1.alloc (.cells #[.string a, .int .i64 lo, .int .i64 hi] 161)).drew).heap.size = w1.heap.size + 1 := by simp [World.drew]
  go_wp2_with fail
  refine (Hn.out _).mono ?_
  rintro e w2 ⟨rfl, hb3⟩
  have hlt2 : w1.heap.size < w2.heap.size := by have := hb3.size; omega
  have hb4 := below_call (below_call hb1 hb2) hb3
  have hres2 : w2.heap[w.heap.size]? = some (.cells #[.string ⟨#[]⟩, .int .i64 0, .int .i64 0] 161 (0, 0)) := by
    rw [hb3.block w.heap.size (by omega), hb2.block w.heap.size hlt1]; exact hres1
  have hat : w2.heap[w1.heap.size]? = some (.cells #[.string a, .int .i64 lo, .int .i64 hi] 161 (0, 0)) := by rw [hb3.block w1.heap.size (by omega)]; exact hnew
  have r0 : w2.cell? ⟨w.heap.size, 0, none⟩ = some _ := (cell_of_heap hres2 0).trans rfl
  have r1 : w2.cell? ⟨w.heap.size, 1, none⟩ = some _ := (cell_of_heap hres2 1).trans rfl
  have r2 : w2.cell? ⟨w.heap.size, 2, none⟩ = some _ := (cell_of_heap hres2 2).trans rfl
  have rf0 : w2.frozen? ⟨w.heap.size, 0, none⟩ = false := frozen_of_heap hres2 0
  have rf1 : w2.frozen? ⟨w.heap.size, 1, none⟩ = false := frozen_of_heap hres2 1
  have rf2 : w2.frozen? ⟨w.heap.size, 2, none⟩ = false := frozen_of_heap hres2 2
  have a0 : w2.cell? ⟨w1.heap.size, 0, none⟩ = some (.string a) := (cell_of_heap hat 0).trans rfl
  have a1 : w2.cell? ⟨w1.heap.size, 1, none⟩ = some (.int .i64 lo) := (cell_of_heap hat 1).trans rfl
  have a2 : w2.cell? ⟨w1.heap.size, 2, none⟩ = some (.int .i64 hi) := (cell_of_heap hat 2).trans rfl
  have hne : w1.heap.size ≠ w.heap.size := by omega
  clear hres1 hres2 hat hnew hb1 hb2 hb3 hsz Hn Hc
  generalize nameF a = nm at *
  have key : ∀ x, WantedAs s (.returned (.tuple #[.agg #[.string a, .int .i64 lo, .int .i64 hi], .bool x])) ↔ x = (dwantF s).isSome := by
    intro x
    constructor
    · rintro ⟨y, e, _⟩
      injection e with e
      injection e with e
      simp at e
      exact e.2
    · rintro rfl
      refine ⟨⟨a, lo, hi⟩, rfl, fun y hy => ?_⟩
      rw [HD.out] at hy
      split at hy
      · injection hy
      · cases hy
  have KEY := hide key
  clear key
  have hcases : (nm = false) ∨ (nm = true ∧ ¬ 1 ≤ lo) ∨ (nm = true ∧ 1 ≤ lo ∧ ¬ hi ≤ 9) ∨ (nm = true ∧ 1 ≤ lo ∧ hi ≤ 9 ∧ ¬ lo ≤ hi) ∨ (nm = true ∧ 1 ≤ lo ∧ hi ≤ 9 ∧ lo ≤ hi) := by
    cases nm with
    | false => exact Or.inl rfl
    | true => simp; omega
  rcases hcases with rfl | ⟨rfl, t1⟩ | ⟨rfl, t1, t2⟩ | ⟨rfl, t1, t2, t3⟩ | ⟨rfl, t1, t2, t3⟩
  · have HX := hide (show false = (dwantF s).isSome by rw [HD.out]; simp)
    go_wp2_with fail
    go_region
    go_wp2_with fail
    refine bodyPost_ret (v := .tuple #[.agg #[.string a, .int .i64 lo, .int .i64 hi], .bool false]) (by simp [results, Tryz.results108, go_sem, r0, r1, r2]) rfl ⟨(KEY.out _).2 HX.out, ?_⟩
    exact below_drawn (below_set3' hb4 (Nat.le_refl _) _ _ _) 1
  · have HX := hide (show false = (dwantF s).isSome by rw [HD.out]; rw [if_neg (fun h => t1 h.2.1)]; rfl)
    have k1 : ((1 : Int) ≤ lo) = False := eq_false t1
    go_wp2_with fail
    go_region
    go_wp2_with fail
    refine bodyPost_ret (v := .tuple #[.agg #[.string a, .int .i64 lo, .int .i64 hi], .bool false]) (by simp [results, Tryz.results108, go_sem, r0, r1, r2]) rfl ⟨(KEY.out _).2 HX.out, ?_⟩
    exact below_drawn (below_set3' hb4 (Nat.le_refl _) _ _ _) 1
  · have HX := hide (show false = (dwantF s).isSome by rw [HD.out]; rw [if_neg (fun h => t2 h.2.2.1)]; rfl)
    have k1 : (hi ≤ (9 : Int)) = False := eq_false t2
    go_wp2_with fail
    go_region
    go_wp2_with fail
    refine bodyPost_ret (v := .tuple #[.agg #[.string a, .int .i64 lo, .int .i64 hi], .bool false]) (by simp [results, Tryz.results108, go_sem, r0, r1, r2]) rfl ⟨(KEY.out _).2 HX.out, ?_⟩
    exact below_drawn (below_set3' hb4 (Nat.le_refl _) _ _ _) 1
  · have HX := hide (show false = (dwantF s).isSome by rw [HD.out]; rw [if_neg (fun h => t3 h.2.2.2)]; rfl)
    have k1 : (lo ≤ hi) = False := eq_false t3
    go_wp2_with fail
    go_region
    go_wp2_with fail
    refine bodyPost_ret (v := .tuple #[.agg #[.string a, .int .i64 lo, .int .i64 hi], .bool false]) (by simp [results, Tryz.results108, go_sem, r0, r1, r2]) rfl ⟨(KEY.out _).2 HX.out, ?_⟩
    exact below_drawn (below_set3' hb4 (Nat.le_refl _) _ _ _) 1
  · have HX := hide (show true = (dwantF s).isSome by rw [HD.out]; rw [if_pos ⟨rfl, t1, t2, t3⟩]; rfl)
    go_wp2_with fail
    go_region
    go_wp2_with fail
    refine bodyPost_ret (v := .tuple #[.agg #[.string a, .int .i64 lo, .int .i64 hi], .bool true]) (by simp [results, Tryz.results108, go_sem, r0, r1, r2]) rfl ⟨(KEY.out _).2 HX.out, ?_⟩
    exact below_drawn (below_set3' hb4 (Nat.le_refl _) _ _ _) 1

end Go.Proofs.YtgcldedkempjhaaGreatDoor
