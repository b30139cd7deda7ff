/-
  depot.Depot: whose a name is, who sees it, Show.
-/
import Derived.Test.YtgcldedkempjhaaDoorDepPack
import Derived.Test.YtgcldedkempjhaaDoorShelfTell
namespace Go.Proofs.YtgcldedkempjhaaDoor
open Go.RowKit

/-- Whose a name is, and the label there. -/
def placeF (P : PDep) (name : ByteArray) : Option PHse × ByteArray :=
  if (splitF name).2.2 = true then
    match hseF P.hs (splitF name).1 with
    | some h => (some h, (splitF name).2.1)
    | none => (none, name)
  else (none, name)

set_option maxHeartbeats 800000 in
set_option maxRecDepth 100000 in
theorem placeOf_house (db : Nat) (D : DepD) (name a b : ByteArray) (w : World) (hr : DepAt w db D) (hs : name.size ≤ 4611686018427387000) (hsp : splitF name = (a, b, true)) (i : Nat) (hi : i < D.hs.length) (hf : FirstH D.hs a i) (g : Nat) (hg : D.ho = some ⟨g, 0, none⟩) :
    Calls Tryd.prog 92 #[.pointer (some ⟨db, 0, none⟩), .string name] w fun e w' => e = .returned (.agg #[.pointer (some ⟨g, i * 5, none⟩), .pointer (some ⟨g, i * 5 + 2, none⟩), .string b]) ∧ Below w.heap.size w w' := by
  have Hs := hide (fun W => split_any name W (by omega))
  rw [hsp] at Hs
  have Hf := hide (fun W h => depFind_some db D a W h i hi hf g hg)
  clear hsp hf
  have hb0 : Below w.heap.size w (w.alloc (.cells #[.pointer none, .pointer none, .string ⟨#[]⟩] 120)) := (Below.refl _ _).alloc (Nat.le_refl _) _
  go_enter Tryd.func92, Tryd.ntmps92
  go_wp2_with fail
  refine (Hs.out _).mono ?_
  rintro e w1 ⟨rfl, hb⟩
  have hlt : w.heap.size < w1.heap.size := new_lt hb
  have hb1 : Below w.heap.size w w1 := below_alloc_call (Below.refl _ _) hb
  have hres : w1.heap[w.heap.size]? = some (.cells #[.pointer none, .pointer none, .string ⟨#[]⟩] 120 (0, 0)) := by rw [hb.block w.heap.size (by simp)]; exact heap_alloc_new w _
  have r0 : w1.cell? ⟨w.heap.size, 0, none⟩ = some _ := (cell_of_heap hres 0).trans rfl
  have r1 : w1.cell? ⟨w.heap.size, 1, none⟩ = some _ := (cell_of_heap hres 1).trans rfl
  have r2 : w1.cell? ⟨w.heap.size, 2, none⟩ = some _ := (cell_of_heap hres 2).trans rfl
  have rf := frozen_of_heap hres
  go_wp2_with fail
  refine (Hf.out _ (hr.below hb1)).mono ?_
  rintro e w2 ⟨rfl, h⟩
  subst h
  go_wp2_with fail
  refine bodyPost_ret (v := .agg #[.pointer (some ⟨g, i * 5, none⟩), .pointer (some ⟨g, i * 5 + 2, none⟩), .string b]) (by simp [results, Tryd.results92, go_sem, r0, r1, r2]) rfl ⟨rfl, ?_⟩
  exact below_set3 hb1 (Nat.le_refl _) _ _ _

set_option maxHeartbeats 800000 in
set_option maxRecDepth 100000 in
theorem placeOf_pub (db : Nat) (D : DepD) (name : ByteArray) (w : World) (hr : DepAt w db D) (hs : name.size ≤ 4611686018427387000) (hno : (splitF name).2.2 = false ∨ ∀ j, (hj : j < D.hs.length) → (D.hs[j].name.toList == (splitF name).1.toList) = false) :
    Calls Tryd.prog 92 #[.pointer (some ⟨db, 0, none⟩), .string name] w fun e w' => e = .returned (.agg #[.pointer none, .pointer (some ⟨db, 3, none⟩), .string name]) ∧ Below w.heap.size w w' := by
  have Hs := hide (fun W => split_any name W (by omega))
  generalize splitF name = p at *
  obtain ⟨a, b, c⟩ := p
  simp only at hno
  cases c with
  | false =>
    clear hno
    go_enter Tryd.func92, Tryd.ntmps92
    go_wp2_with fail
    refine (Hs.out _).mono ?_
    rintro e w1 ⟨rfl, hb⟩
    have hlt : w.heap.size < w1.heap.size := new_lt hb
    have hb1 : Below w.heap.size w w1 := below_alloc_call (Below.refl _ _) hb
    have hres : w1.heap[w.heap.size]? = some (.cells #[.pointer none, .pointer none, .string ⟨#[]⟩] 120 (0, 0)) := by rw [hb.block w.heap.size (by simp)]; exact heap_alloc_new w _
    have r0 : w1.cell? ⟨w.heap.size, 0, none⟩ = some _ := (cell_of_heap hres 0).trans rfl
    have r1 : w1.cell? ⟨w.heap.size, 1, none⟩ = some _ := (cell_of_heap hres 1).trans rfl
    have r2 : w1.cell? ⟨w.heap.size, 2, none⟩ = some _ := (cell_of_heap hres 2).trans rfl
    have rf := frozen_of_heap hres
    go_wp2_with fail
    refine bodyPost_ret (v := .agg #[.pointer none, .pointer (some ⟨db, 3, none⟩), .string name]) (by simp [results, Tryd.results92, go_sem, r0, r1, r2]) rfl ⟨rfl, ?_⟩
    exact below_set3 hb1 (Nat.le_refl _) _ _ _
  | true =>
    have Hf := hide (fun W h => depFind_none db D a W h (hno.resolve_left (by decide)))
    clear hno
    go_enter Tryd.func92, Tryd.ntmps92
    go_wp2_with fail
    refine (Hs.out _).mono ?_
    rintro e w1 ⟨rfl, hb⟩
    have hlt : w.heap.size < w1.heap.size := new_lt hb
    have hb1 : Below w.heap.size w w1 := below_alloc_call (Below.refl _ _) hb
    have hres : w1.heap[w.heap.size]? = some (.cells #[.pointer none, .pointer none, .string ⟨#[]⟩] 120 (0, 0)) := by rw [hb.block w.heap.size (by simp)]; exact heap_alloc_new w _
    have r0 : w1.cell? ⟨w.heap.size, 0, none⟩ = some _ := (cell_of_heap hres 0).trans rfl
    have r1 : w1.cell? ⟨w.heap.size, 1, none⟩ = some _ := (cell_of_heap hres 1).trans rfl
    have r2 : w1.cell? ⟨w.heap.size, 2, none⟩ = some _ := (cell_of_heap hres 2).trans rfl
    have rf := frozen_of_heap hres
    go_wp2_with fail
    refine (Hf.out _ (hr.below hb1)).mono ?_
    rintro e w2 ⟨rfl, h⟩
    subst h
    go_wp2_with fail
    refine bodyPost_ret (v := .agg #[.pointer none, .pointer (some ⟨db, 3, none⟩), .string name]) (by simp [results, Tryd.results92, go_sem, r0, r1, r2]) rfl ⟨rfl, ?_⟩
    exact below_set3 hb1 (Nat.le_refl _) _ _ _

set_option maxHeartbeats 400000 in
theorem isOpen_pub (p : Value) (l house : ByteArray) (w : World) :
    Calls Tryd.prog 93 #[.agg #[.pointer none, p, .string l], .string house] w fun e w' => e = .returned (.bool true) ∧ Below w.heap.size w w' := by
  go_enter Tryd.func93, Tryd.ntmps93
  go_wp2_with fail
  go_ret
  exact ⟨rfl, (Below.refl _ _).alloc (Nat.le_refl _) _⟩

theorem BookAt.same {w w' : World} {base b o : Nat} {ao : Option Addr} {cap : Nat} {gs : List Grt} (h : BookAt w base b o ao cap gs) (hh : w'.heap = w.heap) : BookAt w' base b o ao cap gs :=
  ⟨(World.cell?_of_block (by rw [hh])).trans h.c, (World.frozen?_of_block (by rw [hh])).trans h.f, ownsRow_keep h.own (fun _ _ => by rw [hh])⟩

set_option maxHeartbeats 800000 in
set_option maxRecDepth 100000 in
theorem isOpen_house (db : Nat) (D : DepD) (i : Nat) (hi : i < D.hs.length) (g : Nat) (hg : D.ho = some ⟨g, 0, none⟩) (p : Value) (l house : ByteArray) (w : World) (hr : DepAt w db D) :
    Calls Tryd.prog 93 #[.agg #[.pointer (some ⟨g, i * 5, none⟩), p, .string l], .string house] w fun e w' => e = .returned (.bool (D.hs[i].name.toList == house.toList || grtF D.hs[i].grs l house)) ∧ Below w.heap.size w w' := by
  have hb0 : Below w.heap.size w (w.alloc (.cells #[.pointer (some ⟨g, i * 5, none⟩), p, .string l] 120)) := (Below.refl _ _).alloc (Nat.le_refl _) _
  have hr0 := hr.below hb0
  have hgl := hr.glen i hi
  obtain ⟨g2, hg2, hglt, hdg, d0, _, _, hbk, _⟩ := hr0.house i hi
  rw [hg] at hg2
  injection hg2 with hg2
  injection hg2 with hg2
  subst hg2
  obtain ⟨g3, hg3, hglt3, _, d0', _⟩ := hr.house i hi
  rw [hg] at hg3
  injection hg3 with hg3
  injection hg3 with hg3
  subst hg3
  cases ht : (D.hs[i].name.toList == house.toList) with
  | true =>
    go_enter Tryd.func93, Tryd.ntmps93
    go_wp2_with fail
    go_ret
    exact ⟨rfl, hb0⟩
  | false =>
    have Hc := hide (fun (W : World) (hbw : BookAt W (db + 1) g (i * 5 + 3) D.hs[i].gao D.hs[i].gcap D.hs[i].grs) => bookHas_any (db + 1) g (i * 5 + 3) D.hs[i].gao D.hs[i].gcap D.hs[i].grs l house W hbw (by omega))
    go_enter Tryd.func93, Tryd.ntmps93
    go_wp2_with fail
    go_region_with (go_at_call 79; refine (Hc.out _ ?_).mono ?_; exact hbk.same rfl; rintro e w2 ⟨rfl, hh⟩)
    all_goals
      subst hh
      go_wp2_with fail
      go_ret
      exact ⟨rfl, below_drawn hb0 _⟩

set_option maxHeartbeats 400000 in
theorem whose_pub (p : Value) (l : ByteArray) (w : World) :
    Calls Tryd.prog 64 #[.agg #[.pointer none, p, .string l]] w fun e w' => e = .returned (.string ⟨#[112, 117, 98, 108, 105, 99]⟩) ∧ Below w.heap.size w w' := by
  go_enter Tryd.func64, Tryd.ntmps64
  go_wp2_with fail
  go_ret
  exact ⟨rfl, (Below.refl _ _).alloc (Nat.le_refl _) _⟩

set_option maxHeartbeats 400000 in
theorem whose_house (db : Nat) (D : DepD) (i : Nat) (hi : i < D.hs.length) (g : Nat) (hg : D.ho = some ⟨g, 0, none⟩) (p : Value) (l : ByteArray) (w : World) (hr : DepAt w db D) :
    Calls Tryd.prog 64 #[.agg #[.pointer (some ⟨g, i * 5, none⟩), p, .string l]] w fun e w' => e = .returned (.string D.hs[i].name) ∧ Below w.heap.size w w' := by
  obtain ⟨g3, hg3, hglt3, _, d0', _⟩ := hr.house i hi
  rw [hg] at hg3
  injection hg3 with hg3
  injection hg3 with hg3
  subst hg3
  go_enter Tryd.func64, Tryd.ntmps64
  go_wp2_with fail
  go_ret
  exact ⟨rfl, (Below.refl _ _).alloc (Nat.le_refl _) _⟩

end Go.Proofs.YtgcldedkempjhaaDoor
