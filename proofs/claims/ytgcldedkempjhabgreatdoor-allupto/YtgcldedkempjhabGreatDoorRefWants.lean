/-
  depotref: want where it is none; Wants.
-/
import Derived.Test.YtgcldedkempjhabGreatDoorRefPackC
import Derived.Test.YtgcldedkempjhabGreatDoorWords
import Derived.Test.YtgcldedkempjhabGreatDoorBaseRow
import Derived.BigRegion
namespace Go.Proofs.YtgcldedkempjhabGreatDoor
section
open Go.RowKit

theorem dwantF_two {s a b : ByteArray} (h : cutF s 32 = [a, b]) : dwantF s = if b.size = 3 ∧ byteAt b 1 = 45 ∧ nameF a = true ∧ 1 ≤ byteAt b 0 - 48 ∧ byteAt b 2 - 48 ≤ 9 ∧ byteAt b 0 - 48 ≤ byteAt b 2 - 48 then some ⟨a, byteAt b 0 - 48, byteAt b 2 - 48⟩ else none := by
  unfold dwantF
  rw [h]

theorem below_set3' {B : Nat} {w wr : World} (hb : Below B w wr) {b : Nat} (h : B ≤ b) (v0 v1 v2 : Value) :
    Below B w (((wr.setCell ⟨b, 0, none⟩ v0).setCell ⟨b, 1, none⟩ v1).setCell ⟨b, 2, none⟩ v2) :=
  ((hb.setCell h _).setCell h _).setCell h _

/-- What want answers. -/
def WantedAs (s : ByteArray) (e : Ending) : Prop := ∃ x : WantD, e = .returned (.tuple #[.agg #[.string x.name, .int .i64 x.lo, .int .i64 x.hi], .bool (dwantF s).isSome]) ∧ ∀ y, dwantF s = some y → x = y

set_option maxHeartbeats 4000000 in
set_option maxRecDepth 100000 in
theorem want_try (s a b : ByteArray) (w : World) (hs : s.size ≤ 1000000000) (hc : cutF s 32 = [a, b]) (ha : a.size ≤ 1000000000) (h3 : b.size = 3) (h45 : ((b[1].toNat : Int) != 45) = false) :
    Calls Tryz.prog 104 #[.string s] w fun e w' => WantedAs s e ∧ Below w.heap.size w w' := by
  have Hc := hide (fun W => cut_any s 32 W hs)
  rw [hc] at Hc
  have Hn := hide (fun W => name_any a W ha)
  have u0 : (b[0].toNat : Int) ≤ 255 := by have := b[0].toNat_lt; omega
  have u2 : (b[2].toNat : Int) ≤ 255 := by have := b[2].toNat_lt; omega
  have v0 : 0 ≤ (b[0].toNat : Int) := Int.natCast_nonneg _
  have v2 : 0 ≤ (b[2].toNat : Int) := Int.natCast_nonneg _
  have HD := hide (show dwantF s = if nameF a = true ∧ 1 ≤ (b[0].toNat : Int) - 48 ∧ (b[2].toNat : Int) - 48 ≤ 9 ∧ (b[0].toNat : Int) - 48 ≤ (b[2].toNat : Int) - 48 then some ⟨a, (b[0].toNat : Int) - 48, (b[2].toNat : Int) - 48⟩ else none by
    rw [dwantF_two hc, byteAt_lt b 0 (by omega), byteAt_lt b 1 (by omega), byteAt_lt b 2 (by omega)]
    have h45' : (b[1].toNat : Int) = 45 := by simpa using h45
    simp [h3, h45'])
  have q0 : wrap64 (b[0].toNat : Int) = (b[0].toNat : Int) := by unfold wrap64; omega
  have q2 : wrap64 (b[2].toNat : Int) = (b[2].toNat : Int) := by unfold wrap64; omega
  have q0' : wrap64 ((b[0].toNat : Int) - 48) = (b[0].toNat : Int) - 48 := by unfold wrap64; omega
  have q2' : wrap64 ((b[2].toNat : Int) - 48) = (b[2].toNat : Int) - 48 := by unfold wrap64; omega
  have HQ := hide (And.intro q0 (And.intro q2 (And.intro q0' q2')))
  clear hc q0 q2 q0' q2' u0 u2 v0 v2
  have hb0 : Below w.heap.size w (w.alloc (.cells #[.string ⟨#[]⟩, .int .i64 0, .int .i64 0] 161)) := (Below.refl _ _).alloc (Nat.le_refl _) _
  go_enter Tryz.func104, Tryz.ntmps104
  go_wp2_with fail
  refine (Hc.out _).mono ?_
  rintro e w1 ⟨g, cp, rfl, hown, hb⟩
  have hglt : g < w1.heap.size := (hown.lt g rfl).2
  have d0 := str_cell hown 0 (by simp)
  have d1 := str_cell hown 1 (by simp)
  simp only [List.getElem_cons_zero, List.getElem_cons_succ] at d0 d1
  have hlt1 : w.heap.size < w1.heap.size := new_lt hb
  have hb1 := below_call hb0 hb
  have hres1 : w1.heap[w.heap.size]? = some (.cells #[.string ⟨#[]⟩, .int .i64 0, .int .i64 0] 161 (0, 0)) := by rw [hb.block w.heap.size (by simp)]; exact heap_alloc_new w _
  go_wp2_with fail
  go_region
  rw [HQ.out.1, HQ.out.2.1, HQ.out.2.2.1, HQ.out.2.2.2]
  clear HQ d0 d1 hown hb hb0
  generalize (b[0].toNat : Int) - 48 = lo at *
  generalize (b[2].toNat : Int) - 48 = hi at *
  have hb2 : Below w1.heap.size w1 ((w1.alloc (.cells #[.string a, .int .i64 lo, .int .i64 hi] 161)).drew) := below_drawn ((Below.refl _ _).alloc (Nat.le_refl _) _) 1
  have hnew : ((w1.alloc (.cells #[.string a, .int .i64 lo, .int .i64 hi] 161)).drew).heap[w1.heap.size]? = some (.cells #[.string a, .int .i64 lo, .int .i64 hi] 161 (0, 0)) := heap_alloc_new w1 _
  have hsz : ((w1.alloc (.cells #[.string a, .int .i64 lo, .int .i64 hi] 161)).drew).heap.size = w1.heap.size + 1 := by simp [World.drew]
  go_wp2_with fail
  refine (Hn.out _).mono ?_
  rintro e w2 ⟨rfl, hb3⟩
  have hlt2 : w1.heap.size < w2.heap.size := by have := hb3.size; omega
  have hb4 := below_call (below_call hb1 hb2) hb3
  have hres2 : w2.heap[w.heap.size]? = some (.cells #[.string ⟨#[]⟩, .int .i64 0, .int .i64 0] 161 (0, 0)) := by
    rw [hb3.block w.heap.size (by omega), hb2.block w.heap.size hlt1]; exact hres1
  have hat : w2.heap[w1.heap.size]? = some (.cells #[.string a, .int .i64 lo, .int .i64 hi] 161 (0, 0)) := by rw [hb3.block w1.heap.size (by omega)]; exact hnew
  have r0 : w2.cell? ⟨w.heap.size, 0, none⟩ = some _ := (cell_of_heap hres2 0).trans rfl
  have r1 : w2.cell? ⟨w.heap.size, 1, none⟩ = some _ := (cell_of_heap hres2 1).trans rfl
  have r2 : w2.cell? ⟨w.heap.size, 2, none⟩ = some _ := (cell_of_heap hres2 2).trans rfl
  have rf0 : w2.frozen? ⟨w.heap.size, 0, none⟩ = false := frozen_of_heap hres2 0
  have rf1 : w2.frozen? ⟨w.heap.size, 1, none⟩ = false := frozen_of_heap hres2 1
  have rf2 : w2.frozen? ⟨w.heap.size, 2, none⟩ = false := frozen_of_heap hres2 2
  have a0 : w2.cell? ⟨w1.heap.size, 0, none⟩ = some (.string a) := (cell_of_heap hat 0).trans rfl
  have a1 : w2.cell? ⟨w1.heap.size, 1, none⟩ = some (.int .i64 lo) := (cell_of_heap hat 1).trans rfl
  have a2 : w2.cell? ⟨w1.heap.size, 2, none⟩ = some (.int .i64 hi) := (cell_of_heap hat 2).trans rfl
  have hne : w1.heap.size ≠ w.heap.size := by omega
  clear hres1 hres2 hat hnew hb1 hb2 hb3 hsz Hn Hc
  generalize nameF a = nm at *
  have key : ∀ x, WantedAs s (.returned (.tuple #[.agg #[.string a, .int .i64 lo, .int .i64 hi], .bool x])) ↔ x = (dwantF s).isSome := by
    intro x
    constructor
    · rintro ⟨y, e, _⟩
      injection e with e
      injection e with e
      simp at e
      exact e.2
    · rintro rfl
      refine ⟨⟨a, lo, hi⟩, rfl, fun y hy => ?_⟩
      rw [HD.out] at hy
      split at hy
      · injection hy
      · cases hy
  have KEY := hide key
  clear key
  have hcases : (nm = false) ∨ (nm = true ∧ ¬ 1 ≤ lo) ∨ (nm = true ∧ 1 ≤ lo ∧ ¬ hi ≤ 9) ∨ (nm = true ∧ 1 ≤ lo ∧ hi ≤ 9 ∧ ¬ lo ≤ hi) ∨ (nm = true ∧ 1 ≤ lo ∧ hi ≤ 9 ∧ lo ≤ hi) := by
    cases nm with
    | false => exact Or.inl rfl
    | true => simp; omega
  rcases hcases with rfl | ⟨rfl, t1⟩ | ⟨rfl, t1, t2⟩ | ⟨rfl, t1, t2, t3⟩ | ⟨rfl, t1, t2, t3⟩
  · have HX := hide (show false = (dwantF s).isSome by rw [HD.out]; simp)
    go_wp2_with fail
    go_region
    go_wp2_with fail
    refine bodyPost_ret (v := .tuple #[.agg #[.string a, .int .i64 lo, .int .i64 hi], .bool false]) (by simp [results, Tryz.results104, go_sem, r0, r1, r2]) rfl ⟨(KEY.out _).2 HX.out, ?_⟩
    exact below_drawn (below_set3' hb4 (Nat.le_refl _) _ _ _) 1
  · have HX := hide (show false = (dwantF s).isSome by rw [HD.out]; rw [if_neg (fun h => t1 h.2.1)]; rfl)
    have k1 : ((1 : Int) ≤ lo) = False := eq_false t1
    go_wp2_with fail
    go_region
    go_wp2_with fail
    refine bodyPost_ret (v := .tuple #[.agg #[.string a, .int .i64 lo, .int .i64 hi], .bool false]) (by simp [results, Tryz.results104, go_sem, r0, r1, r2]) rfl ⟨(KEY.out _).2 HX.out, ?_⟩
    exact below_drawn (below_set3' hb4 (Nat.le_refl _) _ _ _) 1
  · have HX := hide (show false = (dwantF s).isSome by rw [HD.out]; rw [if_neg (fun h => t2 h.2.2.1)]; rfl)
    have k1 : (hi ≤ (9 : Int)) = False := eq_false t2
    go_wp2_with fail
    go_region
    go_wp2_with fail
    refine bodyPost_ret (v := .tuple #[.agg #[.string a, .int .i64 lo, .int .i64 hi], .bool false]) (by simp [results, Tryz.results104, go_sem, r0, r1, r2]) rfl ⟨(KEY.out _).2 HX.out, ?_⟩
    exact below_drawn (below_set3' hb4 (Nat.le_refl _) _ _ _) 1
  · have HX := hide (show false = (dwantF s).isSome by rw [HD.out]; rw [if_neg (fun h => t3 h.2.2.2)]; rfl)
    have k1 : (lo ≤ hi) = False := eq_false t3
    go_wp2_with fail
    go_region
    go_wp2_with fail
    refine bodyPost_ret (v := .tuple #[.agg #[.string a, .int .i64 lo, .int .i64 hi], .bool false]) (by simp [results, Tryz.results104, go_sem, r0, r1, r2]) rfl ⟨(KEY.out _).2 HX.out, ?_⟩
    exact below_drawn (below_set3' hb4 (Nat.le_refl _) _ _ _) 1
  · have HX := hide (show true = (dwantF s).isSome by rw [HD.out]; rw [if_pos ⟨rfl, t1, t2, t3⟩]; rfl)
    go_wp2_with fail
    go_region
    go_wp2_with fail
    refine bodyPost_ret (v := .tuple #[.agg #[.string a, .int .i64 lo, .int .i64 hi], .bool true]) (by simp [results, Tryz.results104, go_sem, r0, r1, r2]) rfl ⟨(KEY.out _).2 HX.out, ?_⟩
    exact below_drawn (below_set3' hb4 (Nat.le_refl _) _ _ _) 1

end

section
open Go.RowKit

theorem wanted_no {s : ByteArray} (h : dwantF s = none) : WantedAs s (.returned (.tuple #[.agg #[.string ⟨#[]⟩, .int .i64 0, .int .i64 0], .bool false])) :=
  ⟨⟨⟨#[]⟩, 0, 0⟩, by rw [h]; rfl, fun y hy => by rw [h] at hy; cases hy⟩

set_option maxHeartbeats 800000 in
set_option maxRecDepth 100000 in
theorem want_len (s : ByteArray) (w : World) (hs : s.size ≤ 1000000000) (h2 : (((cutF s 32).length : Int) != 2) = true) :
    Calls Tryz.prog 104 #[.string s] w fun e w' => WantedAs s e ∧ Below w.heap.size w w' := by
  have Hc := hide (fun W => cut_any s 32 W hs)
  have HD := hide (show dwantF s = none by
    unfold dwantF
    split
    · rename_i a b he
      rw [he] at h2
      simp at h2
    · rfl)
  generalize cutF s 32 = l at *
  have hb0 : Below w.heap.size w (w.alloc (.cells #[.string ⟨#[]⟩, .int .i64 0, .int .i64 0] 161)) := (Below.refl _ _).alloc (Nat.le_refl _) _
  go_enter Tryz.func104, Tryz.ntmps104
  go_wp2_with fail
  refine (Hc.out _).mono ?_
  rintro e w1 ⟨g, cp, rfl, hown, hb⟩
  have hlt1 : w.heap.size < w1.heap.size := new_lt hb
  have hb1 := below_call hb0 hb
  have hres1 : w1.heap[w.heap.size]? = some (.cells #[.string ⟨#[]⟩, .int .i64 0, .int .i64 0] 161 (0, 0)) := by rw [hb.block w.heap.size (by simp)]; exact heap_alloc_new w _
  have r0 : w1.cell? ⟨w.heap.size, 0, none⟩ = some _ := (cell_of_heap hres1 0).trans rfl
  have r1 : w1.cell? ⟨w.heap.size, 1, none⟩ = some _ := (cell_of_heap hres1 1).trans rfl
  have r2 : w1.cell? ⟨w.heap.size, 2, none⟩ = some _ := (cell_of_heap hres1 2).trans rfl
  have rf := frozen_of_heap hres1
  clear hown hb hb0 hres1 Hc
  go_wp2_with fail
  refine bodyPost_ret (v := .tuple #[.agg #[.string ⟨#[]⟩, .int .i64 0, .int .i64 0], .bool false]) (by simp [results, Tryz.results104, go_sem, r0, r1, r2]) rfl ⟨wanted_no HD.out, ?_⟩
  exact below_set3' hb1 (Nat.le_refl _) _ _ _

set_option maxHeartbeats 800000 in
set_option maxRecDepth 100000 in
theorem want_bad (s a b : ByteArray) (w : World) (hs : s.size ≤ 1000000000) (hc : cutF s 32 = [a, b]) (hbad : b.size ≠ 3 ∨ ∃ h : 1 < b.size, ((b[1].toNat : Int) != 45) = true) :
    Calls Tryz.prog 104 #[.string s] w fun e w' => WantedAs s e ∧ Below w.heap.size w w' := by
  have Hc := hide (fun W => cut_any s 32 W hs)
  have HD := hide (show dwantF s = none by
    rw [dwantF_two hc, if_neg]
    rintro ⟨h1, h2, _⟩
    rcases hbad with h | ⟨h, h'⟩
    · exact h h1
    · rw [byteAt_lt b 1 h] at h2
      rw [h2] at h'
      simp at h')
  rw [hc] at Hc
  have hb0 : Below w.heap.size w (w.alloc (.cells #[.string ⟨#[]⟩, .int .i64 0, .int .i64 0] 161)) := (Below.refl _ _).alloc (Nat.le_refl _) _
  by_cases h3 : b.size = 3
  · obtain ⟨h1, h45⟩ := hbad.resolve_left (fun h => h h3)
    go_enter Tryz.func104, Tryz.ntmps104
    go_wp2_with fail
    refine (Hc.out _).mono ?_
    rintro e w1 ⟨g, cp, rfl, hown, hb⟩
    have d0 := str_cell hown 0 (by simp)
    have d1 := str_cell hown 1 (by simp)
    simp only [List.getElem_cons_zero, List.getElem_cons_succ] at d0 d1
    have hlt1 : w.heap.size < w1.heap.size := new_lt hb
    have hb1 := below_call hb0 hb
    have hres1 : w1.heap[w.heap.size]? = some (.cells #[.string ⟨#[]⟩, .int .i64 0, .int .i64 0] 161 (0, 0)) := by rw [hb.block w.heap.size (by simp)]; exact heap_alloc_new w _
    have r0 : w1.cell? ⟨w.heap.size, 0, none⟩ = some _ := (cell_of_heap hres1 0).trans rfl
    have r1 : w1.cell? ⟨w.heap.size, 1, none⟩ = some _ := (cell_of_heap hres1 1).trans rfl
    have r2 : w1.cell? ⟨w.heap.size, 2, none⟩ = some _ := (cell_of_heap hres1 2).trans rfl
    have rf := frozen_of_heap hres1
    clear hown hb hb0 hres1 Hc
    go_wp2_with fail
    refine bodyPost_ret (v := .tuple #[.agg #[.string ⟨#[]⟩, .int .i64 0, .int .i64 0], .bool false]) (by simp [results, Tryz.results104, go_sem, r0, r1, r2]) rfl ⟨wanted_no HD.out, ?_⟩
    exact below_set3' hb1 (Nat.le_refl _) _ _ _
  · have h3' : ((b.size : Int) != 3) = true := by rw [bne_iff_ne]; omega
    go_enter Tryz.func104, Tryz.ntmps104
    go_wp2_with fail
    refine (Hc.out _).mono ?_
    rintro e w1 ⟨g, cp, rfl, hown, hb⟩
    have d0 := str_cell hown 0 (by simp)
    have d1 := str_cell hown 1 (by simp)
    simp only [List.getElem_cons_zero, List.getElem_cons_succ] at d0 d1
    have hlt1 : w.heap.size < w1.heap.size := new_lt hb
    have hb1 := below_call hb0 hb
    have hres1 : w1.heap[w.heap.size]? = some (.cells #[.string ⟨#[]⟩, .int .i64 0, .int .i64 0] 161 (0, 0)) := by rw [hb.block w.heap.size (by simp)]; exact heap_alloc_new w _
    have r0 : w1.cell? ⟨w.heap.size, 0, none⟩ = some _ := (cell_of_heap hres1 0).trans rfl
    have r1 : w1.cell? ⟨w.heap.size, 1, none⟩ = some _ := (cell_of_heap hres1 1).trans rfl
    have r2 : w1.cell? ⟨w.heap.size, 2, none⟩ = some _ := (cell_of_heap hres1 2).trans rfl
    have rf := frozen_of_heap hres1
    clear hown hb hb0 hres1 Hc hbad
    go_wp2_with fail
    refine bodyPost_ret (v := .tuple #[.agg #[.string ⟨#[]⟩, .int .i64 0, .int .i64 0], .bool false]) (by simp [results, Tryz.results104, go_sem, r0, r1, r2]) rfl ⟨wanted_no HD.out, ?_⟩
    exact below_set3' hb1 (Nat.le_refl _) _ _ _

theorem cutF_size (s : ByteArray) (c : Int) (x : ByteArray) (h : x ∈ cutF s c) : x.size ≤ s.size := by
  have hto : ∀ k, k ≤ s.size → ∀ x ∈ (cutTo s c k).1, x.size ≤ s.size := by
    intro k
    induction k with
    | zero => intro _ x hx; cases hx
    | succ k ih =>
      intro hk x hx
      have e : cutTo s c (k + 1) = if (byteAt s k == c) = true then ((cutTo s c k).1 ++ [s.extract (cutTo s c k).2 k], k + 1) else cutTo s c k := rfl
      rw [e] at hx
      split at hx
      · rcases List.mem_append.1 hx with hx | hx
        · exact ih (by omega) x hx
        · simp at hx; subst hx; rw [ByteArray.size_extract]; omega
      · exact ih (by omega) x hx
  rcases List.mem_append.1 h with h | h
  · exact hto s.size (Nat.le_refl _) x h
  · simp at h; subst h; rw [ByteArray.size_extract]; omega

theorem want_any (s : ByteArray) (w : World) (hs : s.size ≤ 1000000000) :
    Calls Tryz.prog 104 #[.string s] w fun e w' => WantedAs s e ∧ Below w.heap.size w w' := by
  by_cases h2 : (cutF s 32).length = 2
  · match hl : cutF s 32, h2 with
    | [a, b], _ =>
      have ha := cutF_size s 32 a (by rw [hl]; simp)
      by_cases h3 : b.size = 3
      · cases h45 : ((b[1].toNat : Int) != 45) with
        | true => exact want_bad s a b w hs hl (Or.inr ⟨by omega, h45⟩)
        | false => exact want_try s a b w hs hl (by omega) h3 h45
      · exact want_bad s a b w hs hl (Or.inl h3)
  · exact want_len s w hs (by rw [bne_iff_ne]; omega)

theorem dwant_none (s : ByteArray) (w : World) (hs : s.size ≤ 1000000000) (h : wantF s = none) :
    Calls Tryz.prog 104 #[.string s] w fun e w' => (∃ x : WantD, e = .returned (.tuple #[.agg #[.string x.name, .int .i64 x.lo, .int .i64 x.hi], .bool false])) ∧ Below w.heap.size w w' := by
  refine (want_any s w hs).mono ?_
  rintro e w' ⟨⟨x, rfl, _⟩, hb⟩
  rw [want_eq, h]
  exact ⟨⟨x, rfl⟩, hb⟩

theorem dwant_some (s : ByteArray) (w : World) (hs : s.size ≤ 1000000000) (a : WantD) (h : wantF s = some a) :
    Calls Tryz.prog 104 #[.string s] w fun e w' => e = .returned (.tuple #[.agg #[.string a.name, .int .i64 a.lo, .int .i64 a.hi], .bool true]) ∧ Below w.heap.size w w' := by
  refine (want_any s w hs).mono ?_
  rintro e w' ⟨⟨x, rfl, hx⟩, hb⟩
  have := hx a (by rw [want_eq, h])
  subst this
  rw [want_eq, h]
  exact ⟨rfl, hb⟩

theorem Tryz.infoDWant : (Tryz.prog.info? 161).map (fun i => (i.zero, i.size, i.bytes)) = some (some (.agg #[.string ⟨#[]⟩, .int .i64 0, .int .i64 0]), 3, 32) := by kernel_rfl

def dwantCells (x : WantD) : List Value := [.string x.name, .int .i64 x.lo, .int .i64 x.hi]
def dwantsCells (ws : List WantD) : List Value := ws.flatMap dwantCells

/-- What Wants answers. -/
def DWantsAs (w w' : World) (s : ByteArray) (e : Ending) : Prop :=
  ∃ ao n cap, e = .returned (.tuple #[.slice ao n cap, .bool (wantsF s).isSome]) ∧ ∀ ws, wantsF s = some ws → n = ws.length ∧ w'.ownsRow w.heap.size 161 3 (.slice ao ws.length cap) ws.length (dwantsCells ws)

theorem dwants_no {w w' : World} {s : ByteArray} (h : wantsF s = none) : DWantsAs w w' s (.returned (.tuple #[.slice none 0 0, .bool false])) :=
  ⟨none, 0, 0, by rw [h]; rfl, fun ws hw => by rw [h] at hw; cases hw⟩

theorem mapM_take_succ {l : List ByteArray} {k : Nat} (h : k < l.length) {ws : List WantD} {a : WantD} (hm : (l.take k).mapM wantF = some ws) (ha : wantF l[k] = some a) : (l.take (k + 1)).mapM wantF = some (ws ++ [a]) := by
  rw [List.take_succ_eq_append_getElem h, mapM_snoc, hm, ha]

theorem mapM_take_bad {l : List ByteArray} {k : Nat} (h : k < l.length) (ha : wantF l[k] = none) : l.mapM wantF = none := by
  have e : l = (l.take k ++ [l[k]]) ++ l.drop (k + 1) := by
    rw [← List.take_succ_eq_append_getElem h, List.take_append_drop]
  rw [e]
  refine mapM_none_append _ _ _ ?_
  rw [mapM_snoc, ha]
  cases (l.take k).mapM wantF <;> rfl

set_option maxHeartbeats 1600000 in
set_option maxRecDepth 100000 in
theorem wants_any (s : ByteArray) (w : World) (hs : s.size ≤ 1000000000) :
    Calls Tryz.prog 78 #[.string s] w fun e w' => DWantsAs w w' s e ∧ Below w.heap.size w w' := by
  cases he : s.toList.isEmpty with
  | true =>
    have HW := hide (show wantsF s = some [] by unfold wantsF; rw [he]; rfl)
    go_enter Tryz.func78, Tryz.ntmps78
    go_wp2_with fail
    go_ret2
    refine ⟨⟨none, 0, 0, by rw [HW.out]; rfl, fun ws' hw => ?_⟩, Below.refl _ _⟩
    rw [HW.out] at hw
    injection hw with hw
    subst hw
    exact ⟨rfl, World.ownsRow_nil _ _ _ _⟩
  | false =>
    have Hc := hide (cut_any s 44 w hs)
    have HSZ := hide (fun x hx => cutF_size s 44 x hx)
    have HW := hide (show wantsF s = if (cutF s 44).length ≤ 6 then (cutF s 44).mapM wantF else none by unfold wantsF; rw [he]; rfl)
    generalize cutF s 44 = l at *
    obtain ⟨i0, ti, hz0, hz1, hz2⟩ := info_parts Tryz.infoDWant
    go_enter Tryz.func78, Tryz.ntmps78
    go_wp2_with fail
    refine Hc.out.mono ?_
    rintro e w1 ⟨g, cap, rfl, hrow, hb1⟩
    have hglt : g < w1.heap.size := (hrow.lt g rfl).2
    by_cases h6 : 6 < l.length
    · have HN := hide (show wantsF s = none by rw [HW.out, if_neg (by omega)])
      go_wp2_with fail
      go_ret2
      exact ⟨dwants_no HN.out, hb1⟩
    · have HW2 := hide (show wantsF s = l.mapM wantF by rw [HW.out, if_pos (by omega)])
      clear HW Hc he
      go_wp2_with fail
      go_loopw [4, 6, 7, 8] (fun v i _ _ wr => ∃ (k : Nat) (ws : List WantD) (ao : Option Addr) (cp : Nat), v = .slice ao ws.length cp ∧ k ≤ l.length ∧ i = .int .i64 k ∧ (l.take k).mapM wantF = some ws ∧ ws.length = k ∧ wr.ownsRow w.heap.size 161 3 (.slice ao ws.length cp) ws.length (dwantsCells ws) ∧ Below w.heap.size w wr ∧ wr.ownsRow w.heap.size 9 1 (.slice (some ⟨g, 0, none⟩) l.length cap) l.length (strs l)) (fun _ i _ _ _ => l.length - (intOf i).toNat)
      case atStart => exact ⟨0, [], none, 0, rfl, Nat.zero_le _, rfl, by simp, rfl, World.ownsRow_nil _ _ _ _, hb1, hrow⟩
      case round =>
        obtain ⟨k, ws, ao, cp, rfl, hk, rfl, hm, hlw, hown, hb, hro⟩ := hrel
        have HL := hide hlw
        have hl6 : ws.length ≤ 6 := by omega
        clear hlw
        by_cases hlt : k < l.length
        · have d0 := str_cell hro k hlt
          have hsz : l[k].size ≤ 1000000000 := Nat.le_trans (HSZ.out l[k] (List.getElem_mem _)) hs
          cases hx : wantF l[k] with
          | none =>
            have HN := hide (show wantsF s = none by rw [HW2.out]; exact mapM_take_bad hlt hx)
            have HP := hide (fun W => dwant_none l[k] W hsz hx)
            clear hx hm
            go_wp2_with fail
            refine (HP.out _).mono ?_
            rintro e w2 ⟨⟨x, rfl⟩, hb2⟩
            have hb3 := below_call hb hb2
            go_wp2_with fail
            go_ret2
            exact ⟨dwants_no HN.out, hb3.alloc hb3.size _⟩
          | some a =>
            have HG := hide (mapM_take_succ hlt hm hx)
            have HP := hide (fun W => dwant_some l[k] W hsz a hx)
            clear hx hm
            go_wp2_with fail
            refine (HP.out _).mono ?_
            rintro e w2 ⟨rfl, hb2⟩
            have hb3 := below_call hb hb2
            have hown1 := ownsRow_keep' hown hb2
            have hro1 := ownsRow_keep' hro hb2
            have HAP := hide (show ∀ j, blockOf ao j → ¬ blockOf (some ⟨g, 0, none⟩) j from fun j h1 h2 => blocks_apart hown1 hro1 (by decide) h1 h2)
            clear HP d0
            go_wp2_with (at_builtin; refine wpList_append_own2 _ rfl (.tmp 33) (.tmp 35) 123 rfl w.heap.size 161 i0 (.agg #[.string ⟨#[]⟩, .int .i64 0, .int .i64 0]) 3 32 Tryz.underlying123 ti hz0 hz1 hz2 rfl (by decide) _ ws.length (dwantsCells ws) rfl ((hown1.alloc _).alloc _) ⟨w2.heap.size + 1, 0, none⟩ 1 1 (dwantCells a) rfl rfl (news_at (t := 161) (fr := (0, 0)) (heap2_new w2 _ _)) ?_ (by unfold maxLen; omega) (by omega) ?_ (by omega) ?_)
            · intro u hu
              simp [dwantCells] at hu
              rcases hu with rfl | rfl | rfl <;> rfl
            · have := hb3.size; simp; omega
            · intro g' cap' w3 hown2 hgrow _
              have hb4 : Below w.heap.size w w3 := ((hb3.alloc hb3.size _).alloc (by have := hb3.size; simp; omega) _).grown hgrow (by have := hb3.size; simp; omega) (fun k' hk' => (hown1.lt k' hk').1)
              have hro2 : w3.ownsRow w.heap.size 9 1 (.slice (some ⟨g, 0, none⟩) l.length cap) l.length (strs l) := by
                refine ownsRow_keep ((hro1.alloc _).alloc _) (fun j hj => hgrow.block j ?_ ?_)
                · have := (blockOf_lt hro1 hj).2; simp; omega
                · intro e
                  exact HAP.out j (row_of e.symm) hj
              have HO := hide hown2
              clear hown hown1 hown2 hgrow hb hb2 hb3 hro hro1
              go_wp2_with fail
              go_roundw
              case rel => exact ⟨k + 1, ws ++ [a], some ⟨g', 0, none⟩, cap', by simp, by omega, by go_num, HG.out, by simp; exact HL.out, by simpa [dwantsCells, dwantCells] using HO.out, hb4, hro2⟩
              case measure => simp [intOf] <;> omega
        · have HF := hide (show wantsF s = some ws by rw [HW2.out, ← hm, List.take_of_length_le (by omega)])
          clear hm
          go_wp2_with fail
          go_ret2
          refine ⟨⟨_, ws.length, cp, by rw [HF.out]; rfl, fun ws' hw => ?_⟩, hb⟩
          rw [HF.out] at hw
          injection hw with hw
          subst hw
          exact ⟨rfl, hown⟩

end

end Go.Proofs.YtgcldedkempjhabGreatDoor
