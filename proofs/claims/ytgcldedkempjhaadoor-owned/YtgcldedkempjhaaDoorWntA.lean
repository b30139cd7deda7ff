/-
  wants: digit, parseOne.
-/
import Derived.Test.YtgcldedkempjhaaDoorWords
import Derived.Lib.ConvBytes
import Derived.Laws.IdiomStrings
namespace Go.Proofs.YtgcldedkempjhaaDoor
open Go.RowKit

theorem copied (name : ByteArray) (w : World) : ∃ wb cp, (convert 9 103 (.string name)).run Tryd.prog w = .ok (.slice (some ⟨w.heap.size, 0, none⟩) name.size cp) wb ∧
    (convert 103 9 (.slice (some ⟨w.heap.size, 0, none⟩) name.size cp)).run Tryd.prog wb = .ok (.string name) wb ∧ Below w.heap.size w wb ∧ w.heap.size < wb.heap.size := by
  have h1 := Lib.run_convert_string_bytes (P := Tryd.prog) w 9 103 5 name Tryd.underlying9 Tryd.underlying103 Tryd.underlying5
  refine ⟨_, _, h1, ?_, ⟨?_, ?_, ?_, ?_, ?_⟩, ?_⟩
  · have h2 := run_convert_bytes_back (P := Tryd.prog) (Lib.bytesWorld w 5 name) 103 9 5 ⟨w.heap.size, 0, none⟩ (grownCap w name.size 0 5) name.data.toList Tryd.underlying103 Tryd.underlying5 Tryd.underlying9 ?_
    · exact h2
    · intro j hj
      have hadd : (⟨w.heap.size, 0, none⟩ : Addr).add j = ⟨w.heap.size, j, none⟩ := by unfold Addr.add; split <;> simp_all
      rw [hadd, Lib.bytesWorld_cell w 5 name j (by simpa using hj), List.getD_eq_getElem?_getD, List.getElem?_eq_getElem hj]
      rfl
  · rfl
  · rfl
  · rfl
  · rw [Lib.bytesWorld_size]; omega
  · intro k hk; exact Lib.bytesWorld_at_old w _ name k hk
  · rw [Lib.bytesWorld_size]; omega

set_option maxHeartbeats 400000 in
theorem digit_any (b : Int) (w : World) (h0 : 0 ≤ b) (h1 : b ≤ 255) :
    Calls Tryd.prog 113 #[.int .u8 b] w fun e w' => e = .returned (.int .i64 (digF b)) ∧ w' = w := by
  by_cases h : b < 49 ∨ 57 < b
  · have HF := hide (show digF b = 0 by unfold digF; rw [if_pos h])
    have H := hide h
    clear h
    go_enter Tryd.func113, Tryd.ntmps113
    go_wp2
    all_goals first | (go_ret; exact ⟨ret_int HF.out.symm, rfl⟩) | (exfalso; have := H.out; omega)
  · have HF := hide (show digF b = b - 48 by unfold digF; rw [if_neg h])
    have h2 : 49 ≤ b := by omega
    have h3 : b ≤ 57 := by omega
    clear h
    go_enter Tryd.func113, Tryd.ntmps113
    go_wp2
    go_ret
    exact ⟨ret_int HF.out.symm, rfl⟩

/-- One want as the program hands it on. -/
def wantCells (x : WantD) : List Value := [.string x.name, .int .i64 x.lo, .int .i64 x.hi]

def noWant : WantD := ⟨⟨#[]⟩, 0, 0⟩

def wantOr (o : Option WantD) : WantD := o.getD noWant

set_option maxHeartbeats 400000 in
theorem parseOne_short (s : ByteArray) (w : World) (hs : s.size < 4) :
    Calls Tryd.prog 103 #[.string s] w fun e w' => e = .returned (.tuple #[.agg (wantCells noWant).toArray, .bool false]) ∧ Below w.heap.size w w' := by
  go_enter Tryd.func103, Tryd.ntmps103
  go_wp2
  refine bodyPost_ret (v := .tuple #[.agg (wantCells noWant).toArray, .bool false]) (by simp [results, Tryd.results103, go_sem, wantCells, noWant]) rfl ⟨rfl, (Below.refl _ _).alloc (Nat.le_refl _) _⟩

theorem below_set3 {B : Nat} {w wr : World} (hb : Below B w wr) {b : Nat} (h : B ≤ b) (v0 v1 v2 : Value) :
    Below B w (((wr.setCell ⟨b, 0, none⟩ v0).setCell ⟨b, 1, none⟩ v1).setCell ⟨b, 2, none⟩ v2) :=
  ((hb.setCell h _).setCell h _).setCell h _

set_option maxHeartbeats 800000 in
set_option maxRecDepth 100000 in
theorem parseOne_long (s : ByteArray) (n : Nat) (w : World) (hn : s.size = n + 4) (hs : s.size ≤ 4611686018427387904) :
    Calls Tryd.prog 103 #[.string s] w fun e w' => e = .returned (.tuple #[.agg (wantCells (wantOr (wantF s))).toArray, .bool (wantF s).isSome]) ∧ Below w.heap.size w w' := by
  have HF := hide (show wantF s = if (s[n].toNat : Int) ≠ 32 ∨ (s[n + 2].toNat : Int) ≠ 45 then none else if digF (s[n + 1].toNat : Int) < 1 ∨ digF (s[n + 3].toNat : Int) < digF (s[n + 1].toNat : Int) then none else if nameF (s.extract 0 n) then some ⟨s.extract 0 n, digF (s[n + 1].toNat : Int), digF (s[n + 3].toNat : Int)⟩ else none by
    unfold wantF
    have e : s.size - 4 = n := by omega
    rw [if_neg (by omega), e, byteAt_lt s n (by omega), byteAt_lt s (n + 1) (by omega), byteAt_lt s (n + 2) (by omega), byteAt_lt s (n + 3) (by omega)])
  have u1 : (s[n + 1].toNat : Int) ≤ 255 := by have := s[n + 1].toNat_lt; omega
  have u3 : (s[n + 3].toNat : Int) ≤ 255 := by have := s[n + 3].toNat_lt; omega
  have Hd1 := hide (fun W => digit_any (s[n + 1].toNat : Int) W (Int.natCast_nonneg _) u1)
  have Hd3 := hide (fun W => digit_any (s[n + 3].toNat : Int) W (Int.natCast_nonneg _) u3)
  have Hnm := hide (fun W => isName_any (s.extract 0 n) W (by rw [ByteArray.size_extract]; omega))
  generalize digF (s[n + 1].toNat : Int) = d1 at *
  generalize digF (s[n + 3].toNat : Int) = d3 at *
  clear u1 u3
  go_enter Tryd.func103, Tryd.ntmps103
  go_wp2_with fail
  · have hnone : wantF s = none := by
      rw [HF.out, if_pos]
      have : (s[n + 2].toNat : Int) ≠ 45 := by rcases ‹(n : Int) < 0 ∨ _› with h | h; omega; simpa using h
      exact Or.inr this
    rw [hnone]
    refine bodyPost_ret (v := .tuple #[.agg (wantCells noWant).toArray, .bool false]) (by simp [results, Tryd.results103, go_sem, wantCells, noWant]) rfl ⟨rfl, (Below.refl _ _).alloc (Nat.le_refl _) _⟩
  · have H1 := hide (show ¬ ((s[n].toNat : Int) ≠ 32 ∨ (s[n + 2].toNat : Int) ≠ 45) by simp_all)
    refine (Hd1.out _).mono ?_
    rintro e w1 ⟨rfl, h⟩
    subst h
    go_wp2_with fail
    refine (Hd3.out _).mono ?_
    rintro e w1 ⟨rfl, h⟩
    subst h
    go_wp2_with fail
    · have hnone : wantF s = none := by rw [HF.out, if_neg H1.out, if_pos (by omega)]
      rw [hnone]
      refine bodyPost_ret (v := .tuple #[.agg (wantCells noWant).toArray, .bool false]) (by simp [results, Tryd.results103, go_sem, wantCells, noWant]) rfl ⟨rfl, (Below.refl _ _).alloc (Nat.le_refl _) _⟩
    · have H2 := hide (show ¬ (d1 < 1 ∨ d3 < d1) by omega)
      refine (Hnm.out _).mono ?_
      rintro e w2 ⟨rfl, hb⟩
      have hlt : w.heap.size < w2.heap.size := new_lt hb
      have hb2 : Below w.heap.size w w2 := below_alloc_call (Below.refl _ _) hb
      have hres : w2.heap[w.heap.size]? = some (.cells (wantCells noWant).toArray 164 (0, 0)) := by rw [hb.block w.heap.size (by simp)]; exact heap_alloc_new w _
      cases hnm : nameF (s.extract 0 n) with
      | false =>
        have hnone : wantF s = none := by rw [HF.out, if_neg H1.out, if_neg H2.out, hnm]; rfl
        have HR := hide hnone
        clear hnone hnm
        have r0 : w2.cell? ⟨w.heap.size, 0, none⟩ = some _ := (cell_of_heap hres 0).trans rfl
        have r1 : w2.cell? ⟨w.heap.size, 1, none⟩ = some _ := (cell_of_heap hres 1).trans rfl
        have r2 : w2.cell? ⟨w.heap.size, 2, none⟩ = some _ := (cell_of_heap hres 2).trans rfl
        have rf := frozen_of_heap hres
        clear Hd1 Hd3 Hnm HF
        go_wp2_with fail
        rw [HR.out]
        refine bodyPost_ret (v := .tuple #[.agg (wantCells noWant).toArray, .bool false]) (by simp [results, Tryd.results103, go_sem, wantCells, noWant, r0, r1, r2]) rfl ⟨rfl, ?_⟩
        exact below_set3 hb2 (Nat.le_refl _) _ _ _
      | true =>
        have hsome : wantF s = some ⟨s.extract 0 n, d1, d3⟩ := by rw [HF.out, if_neg H1.out, if_neg H2.out, hnm]; rfl
        have HR := hide hsome
        clear hsome hnm Hd1 Hd3 Hnm HF
        generalize s.extract 0 n = nm at *
        obtain ⟨wb, cp, k1, k2, hbw, hszb⟩ := copied nm w2
        have hb3 := below_call hb2 hbw
        have hres' : wb.heap[w.heap.size]? = some (.cells (wantCells noWant).toArray 164 (0, 0)) := by rw [hbw.block w.heap.size hlt]; exact hres
        have r0 : wb.cell? ⟨w.heap.size, 0, none⟩ = some _ := (cell_of_heap hres' 0).trans rfl
        have r1 : wb.cell? ⟨w.heap.size, 1, none⟩ = some _ := (cell_of_heap hres' 1).trans rfl
        have r2 : wb.cell? ⟨w.heap.size, 2, none⟩ = some _ := (cell_of_heap hres' 2).trans rfl
        have rf := frozen_of_heap hres'
        go_wp2_with fail
        rw [HR.out]
        refine bodyPost_ret (v := .tuple #[.agg (wantCells ⟨nm, d1, d3⟩).toArray, .bool true]) (by simp [results, Tryd.results103, go_sem, wantCells, r0, r1, r2]) rfl ⟨rfl, ?_⟩
        exact below_set3 hb3 (Nat.le_refl _) _ _ _
    · have hnone : wantF s = none := by rw [HF.out, if_neg H1.out, if_pos (by omega)]
      rw [hnone]
      refine bodyPost_ret (v := .tuple #[.agg (wantCells noWant).toArray, .bool false]) (by simp [results, Tryd.results103, go_sem, wantCells, noWant]) rfl ⟨rfl, (Below.refl _ _).alloc (Nat.le_refl _) _⟩
  · have hnone : wantF s = none := by rw [HF.out, if_pos]; simp_all
    rw [hnone]
    refine bodyPost_ret (v := .tuple #[.agg (wantCells noWant).toArray, .bool false]) (by simp [results, Tryd.results103, go_sem, wantCells, noWant]) rfl ⟨rfl, (Below.refl _ _).alloc (Nat.le_refl _) _⟩

theorem parseOne_any (s : ByteArray) (w : World) (hs : s.size ≤ 4611686018427387904) :
    Calls Tryd.prog 103 #[.string s] w fun e w' => e = .returned (.tuple #[.agg (wantCells (wantOr (wantF s))).toArray, .bool (wantF s).isSome]) ∧ Below w.heap.size w w' := by
  by_cases h : s.size < 4
  · have : wantF s = none := by unfold wantF; rw [if_pos h]
    rw [this]
    exact parseOne_short s w h
  · exact parseOne_long s (s.size - 4) w (by omega) hs

theorem parseOne_none (s : ByteArray) (w : World) (hs : s.size ≤ 4611686018427387904) (h : wantF s = none) :
    Calls Tryd.prog 103 #[.string s] w fun e w' => e = .returned (.tuple #[.agg #[.string ⟨#[]⟩, .int .i64 0, .int .i64 0], .bool false]) ∧ Below w.heap.size w w' := by
  have := parseOne_any s w hs
  rw [h] at this
  exact this

theorem parseOne_some (s : ByteArray) (w : World) (hs : s.size ≤ 4611686018427387904) (a : WantD) (h : wantF s = some a) :
    Calls Tryd.prog 103 #[.string s] w fun e w' => e = .returned (.tuple #[.agg #[.string a.name, .int .i64 a.lo, .int .i64 a.hi], .bool true]) ∧ Below w.heap.size w w' := by
  have := parseOne_any s w hs
  rw [h] at this
  exact this

end Go.Proofs.YtgcldedkempjhaaDoor
