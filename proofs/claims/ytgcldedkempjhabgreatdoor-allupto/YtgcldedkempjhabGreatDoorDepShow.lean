/-
  depot.Depot: seen, Show.
-/
import Derived.Test.YtgcldedkempjhabGreatDoorDepPack
import Derived.Test.YtgcldedkempjhabGreatDoorShelfTell
namespace Go.Proofs.YtgcldedkempjhabGreatDoor
section
open Go.RowKit

/-- Whose a name is, and the label there. -/
def placeF (P : PDep) (name : ByteArray) : Option PHse × ByteArray :=
  if (splitF name).2.2 = true then
    match hseF P.hs (splitF name).1 with
    | some h => (some h, (splitF name).2.1)
    | none => (none, name)
  else (none, name)

set_option maxHeartbeats 800000 in
set_option maxRecDepth 100000 in
theorem placeOf_house (db : Nat) (D : DepD) (name a b : ByteArray) (w : World) (hr : DepAt w db D) (hs : name.size ≤ 4611686018427387000) (hsp : splitF name = (a, b, true)) (i : Nat) (hi : i < D.hs.length) (hf : FirstH D.hs a i) (g : Nat) (hg : D.ho = some ⟨g, 0, none⟩) :
    Calls Tryz.prog 96 #[.pointer (some ⟨db, 0, none⟩), .string name] w fun e w' => e = .returned (.agg #[.pointer (some ⟨g, i * 5, none⟩), .pointer (some ⟨g, i * 5 + 2, none⟩), .string b]) ∧ Below w.heap.size w w' := by
  have Hs := hide (fun W => split_any name W (by omega))
  rw [hsp] at Hs
  have Hf := hide (fun W h => depFind_some db D a W h i hi hf g hg)
  clear hsp hf
  have hb0 : Below w.heap.size w (w.alloc (.cells #[.pointer none, .pointer none, .string ⟨#[]⟩] 113)) := (Below.refl _ _).alloc (Nat.le_refl _) _
  go_enter Tryz.func96, Tryz.ntmps96
  go_wp2_with fail
  refine (Hs.out _).mono ?_
  rintro e w1 ⟨rfl, hb⟩
  have hlt : w.heap.size < w1.heap.size := new_lt hb
  have hb1 : Below w.heap.size w w1 := below_alloc_call (Below.refl _ _) hb
  have hres : w1.heap[w.heap.size]? = some (.cells #[.pointer none, .pointer none, .string ⟨#[]⟩] 113 (0, 0)) := by rw [hb.block w.heap.size (by simp)]; exact heap_alloc_new w _
  have r0 : w1.cell? ⟨w.heap.size, 0, none⟩ = some _ := (cell_of_heap hres 0).trans rfl
  have r1 : w1.cell? ⟨w.heap.size, 1, none⟩ = some _ := (cell_of_heap hres 1).trans rfl
  have r2 : w1.cell? ⟨w.heap.size, 2, none⟩ = some _ := (cell_of_heap hres 2).trans rfl
  have rf := frozen_of_heap hres
  go_wp2_with fail
  refine (Hf.out _ (hr.below hb1)).mono ?_
  rintro e w2 ⟨rfl, h⟩
  subst h
  go_wp2_with fail
  refine bodyPost_ret (v := .agg #[.pointer (some ⟨g, i * 5, none⟩), .pointer (some ⟨g, i * 5 + 2, none⟩), .string b]) (by simp [results, Tryz.results96, go_sem, r0, r1, r2]) rfl ⟨rfl, ?_⟩
  exact below_set3 hb1 (Nat.le_refl _) _ _ _

set_option maxHeartbeats 800000 in
set_option maxRecDepth 100000 in
theorem placeOf_pub (db : Nat) (D : DepD) (name : ByteArray) (w : World) (hr : DepAt w db D) (hs : name.size ≤ 4611686018427387000) (hno : (splitF name).2.2 = false ∨ ∀ j, (hj : j < D.hs.length) → (D.hs[j].name.toList == (splitF name).1.toList) = false) :
    Calls Tryz.prog 96 #[.pointer (some ⟨db, 0, none⟩), .string name] w fun e w' => e = .returned (.agg #[.pointer none, .pointer (some ⟨db, 3, none⟩), .string name]) ∧ Below w.heap.size w w' := by
  have Hs := hide (fun W => split_any name W (by omega))
  generalize splitF name = p at *
  obtain ⟨a, b, c⟩ := p
  simp only at hno
  cases c with
  | false =>
    clear hno
    go_enter Tryz.func96, Tryz.ntmps96
    go_wp2_with fail
    refine (Hs.out _).mono ?_
    rintro e w1 ⟨rfl, hb⟩
    have hlt : w.heap.size < w1.heap.size := new_lt hb
    have hb1 : Below w.heap.size w w1 := below_alloc_call (Below.refl _ _) hb
    have hres : w1.heap[w.heap.size]? = some (.cells #[.pointer none, .pointer none, .string ⟨#[]⟩] 113 (0, 0)) := by rw [hb.block w.heap.size (by simp)]; exact heap_alloc_new w _
    have r0 : w1.cell? ⟨w.heap.size, 0, none⟩ = some _ := (cell_of_heap hres 0).trans rfl
    have r1 : w1.cell? ⟨w.heap.size, 1, none⟩ = some _ := (cell_of_heap hres 1).trans rfl
    have r2 : w1.cell? ⟨w.heap.size, 2, none⟩ = some _ := (cell_of_heap hres 2).trans rfl
    have rf := frozen_of_heap hres
    go_wp2_with fail
    refine bodyPost_ret (v := .agg #[.pointer none, .pointer (some ⟨db, 3, none⟩), .string name]) (by simp [results, Tryz.results96, go_sem, r0, r1, r2]) rfl ⟨rfl, ?_⟩
    exact below_set3 hb1 (Nat.le_refl _) _ _ _
  | true =>
    have Hf := hide (fun W h => depFind_none db D a W h (hno.resolve_left (by decide)))
    clear hno
    go_enter Tryz.func96, Tryz.ntmps96
    go_wp2_with fail
    refine (Hs.out _).mono ?_
    rintro e w1 ⟨rfl, hb⟩
    have hlt : w.heap.size < w1.heap.size := new_lt hb
    have hb1 : Below w.heap.size w w1 := below_alloc_call (Below.refl _ _) hb
    have hres : w1.heap[w.heap.size]? = some (.cells #[.pointer none, .pointer none, .string ⟨#[]⟩] 113 (0, 0)) := by rw [hb.block w.heap.size (by simp)]; exact heap_alloc_new w _
    have r0 : w1.cell? ⟨w.heap.size, 0, none⟩ = some _ := (cell_of_heap hres 0).trans rfl
    have r1 : w1.cell? ⟨w.heap.size, 1, none⟩ = some _ := (cell_of_heap hres 1).trans rfl
    have r2 : w1.cell? ⟨w.heap.size, 2, none⟩ = some _ := (cell_of_heap hres 2).trans rfl
    have rf := frozen_of_heap hres
    go_wp2_with fail
    refine (Hf.out _ (hr.below hb1)).mono ?_
    rintro e w2 ⟨rfl, h⟩
    subst h
    go_wp2_with fail
    refine bodyPost_ret (v := .agg #[.pointer none, .pointer (some ⟨db, 3, none⟩), .string name]) (by simp [results, Tryz.results96, go_sem, r0, r1, r2]) rfl ⟨rfl, ?_⟩
    exact below_set3 hb1 (Nat.le_refl _) _ _ _

set_option maxHeartbeats 400000 in
theorem isOpen_pub (p : Value) (l house : ByteArray) (w : World) :
    Calls Tryz.prog 97 #[.agg #[.pointer none, p, .string l], .string house] w fun e w' => e = .returned (.bool true) ∧ Below w.heap.size w w' := by
  go_enter Tryz.func97, Tryz.ntmps97
  go_wp2_with fail
  go_ret
  exact ⟨rfl, (Below.refl _ _).alloc (Nat.le_refl _) _⟩

theorem BookAt.same {w w' : World} {base b o : Nat} {ao : Option Addr} {cap : Nat} {gs : List Grt} (h : BookAt w base b o ao cap gs) (hh : w'.heap = w.heap) : BookAt w' base b o ao cap gs :=
  ⟨(World.cell?_of_block (by rw [hh])).trans h.c, (World.frozen?_of_block (by rw [hh])).trans h.f, ownsRow_keep h.own (fun _ _ => by rw [hh])⟩

set_option maxHeartbeats 800000 in
set_option maxRecDepth 100000 in
theorem isOpen_house (db : Nat) (D : DepD) (i : Nat) (hi : i < D.hs.length) (g : Nat) (hg : D.ho = some ⟨g, 0, none⟩) (p : Value) (l house : ByteArray) (w : World) (hr : DepAt w db D) :
    Calls Tryz.prog 97 #[.agg #[.pointer (some ⟨g, i * 5, none⟩), p, .string l], .string house] w fun e w' => e = .returned (.bool (D.hs[i].name.toList == house.toList || grtF D.hs[i].grs l house)) ∧ Below w.heap.size w w' := by
  have hb0 : Below w.heap.size w (w.alloc (.cells #[.pointer (some ⟨g, i * 5, none⟩), p, .string l] 113)) := (Below.refl _ _).alloc (Nat.le_refl _) _
  have hr0 := hr.below hb0
  have hgl := hr.glen i hi
  obtain ⟨g2, hg2, hglt, hdg, d0, _, _, hbk, _⟩ := hr0.house i hi
  rw [hg] at hg2
  injection hg2 with hg2
  injection hg2 with hg2
  subst hg2
  obtain ⟨g3, hg3, hglt3, _, d0', _⟩ := hr.house i hi
  rw [hg] at hg3
  injection hg3 with hg3
  injection hg3 with hg3
  subst hg3
  cases ht : (D.hs[i].name.toList == house.toList) with
  | true =>
    go_enter Tryz.func97, Tryz.ntmps97
    go_wp2_with fail
    go_ret
    exact ⟨rfl, hb0⟩
  | false =>
    have Hc := hide (fun (W : World) (hbw : BookAt W (db + 1) g (i * 5 + 3) D.hs[i].gao D.hs[i].gcap D.hs[i].grs) => bookHas_any (db + 1) g (i * 5 + 3) D.hs[i].gao D.hs[i].gcap D.hs[i].grs l house W hbw (by omega))
    go_enter Tryz.func97, Tryz.ntmps97
    go_wp2_with fail
    go_region_with (go_at_call 95; refine (Hc.out _ ?_).mono ?_; exact hbk.same rfl; rintro e w2 ⟨rfl, hh⟩)
    all_goals
      subst hh
      go_wp2_with fail
      go_ret
      exact ⟨rfl, below_drawn hb0 _⟩

set_option maxHeartbeats 400000 in
theorem whose_pub (p : Value) (l : ByteArray) (w : World) :
    Calls Tryz.prog 72 #[.agg #[.pointer none, p, .string l]] w fun e w' => e = .returned (.string ⟨#[112, 117, 98, 108, 105, 99]⟩) ∧ Below w.heap.size w w' := by
  go_enter Tryz.func72, Tryz.ntmps72
  go_wp2_with fail
  go_ret
  exact ⟨rfl, (Below.refl _ _).alloc (Nat.le_refl _) _⟩

set_option maxHeartbeats 400000 in
theorem whose_house (db : Nat) (D : DepD) (i : Nat) (hi : i < D.hs.length) (g : Nat) (hg : D.ho = some ⟨g, 0, none⟩) (p : Value) (l : ByteArray) (w : World) (hr : DepAt w db D) :
    Calls Tryz.prog 72 #[.agg #[.pointer (some ⟨g, i * 5, none⟩), p, .string l]] w fun e w' => e = .returned (.string D.hs[i].name) ∧ Below w.heap.size w w' := by
  obtain ⟨g3, hg3, hglt3, _, d0', _⟩ := hr.house i hi
  rw [hg] at hg3
  injection hg3 with hg3
  injection hg3 with hg3
  subst hg3
  go_enter Tryz.func72, Tryz.ntmps72
  go_wp2_with fail
  go_ret
  exact ⟨rfl, (Below.refl _ _).alloc (Nat.le_refl _) _⟩

end

section
open Go.RowKit

set_option maxHeartbeats 1600000 in
set_option maxRecDepth 100000 in
theorem seen_gen (db : Nat) (D : DepD) (house name : ByteArray) (oo : Option Addr) (sp : Addr) (l : ByteArray) (op hs : Bool) (w : World) (hr : DepAt w db D)
    (H1 : ∀ W, DepAt W db D → Calls Tryz.prog 96 #[.pointer (some ⟨db, 0, none⟩), .string name] W fun e w' => e = .returned (.agg #[.pointer oo, .pointer (some sp), .string l]) ∧ Below W.heap.size W w')
    (H2 : ∀ W, DepAt W db D → Calls Tryz.prog 97 #[.agg #[.pointer oo, .pointer (some sp), .string l], .string house] W fun e w' => e = .returned (.bool op) ∧ Below W.heap.size W w')
    (H3 : ∀ W, DepAt W db D → Calls Tryz.prog 65 #[.pointer (some sp), .string l] W fun e w' => e = .returned (.bool hs) ∧ w' = W) :
    Calls Tryz.prog 70 #[.pointer (some ⟨db, 0, none⟩), .string house, .string name] w fun e w' =>
      e = .returned (.tuple #[.agg (if op && hs then #[.pointer oo, .pointer (some sp), .string l] else #[.pointer none, .pointer none, .string ⟨#[]⟩]), .bool (op && hs)]) ∧ Below w.heap.size w w' := by
  have H1 := hide H1
  have H2 := hide H2
  have H3 := hide H3
  rename_i K1 K2 K3
  clear K1 K2 K3
  have hb0 : Below w.heap.size w (w.alloc (.cells #[.pointer none, .pointer none, .string ⟨#[]⟩] 113)) := (Below.refl _ _).alloc (Nat.le_refl _) _
  go_enter Tryz.func70, Tryz.ntmps70
  go_wp2_with fail
  refine (H1.out _ (hr.below hb0)).mono ?_
  rintro e w1 ⟨rfl, hb⟩
  have hlt : w.heap.size < w1.heap.size := new_lt hb
  have hb1 : Below w.heap.size w w1 := below_alloc_call (Below.refl _ _) hb
  have hres : w1.heap[w.heap.size]? = some (.cells #[.pointer none, .pointer none, .string ⟨#[]⟩] 113 (0, 0)) := by rw [hb.block w.heap.size (by simp)]; exact heap_alloc_new w _
  have hb2 : Below w1.heap.size w1 (w1.alloc (.cells #[.pointer oo, .pointer (some sp), .string l] 113)) := (Below.refl _ _).alloc (Nat.le_refl _) _
  have hb3 := below_call hb1 hb2
  have hnew := heap_alloc_new w1 (.cells #[.pointer oo, .pointer (some sp), .string l] 113)
  go_wp2_with fail
  refine (H2.out _ (hr.below hb3)).mono ?_
  rintro e w2 ⟨rfl, hb4⟩
  have hb5 := below_call hb3 hb4
  have hlt1 : w1.heap.size < w2.heap.size := new_lt hb4
  have hres2 : w2.heap[w.heap.size]? = some (.cells #[.pointer none, .pointer none, .string ⟨#[]⟩] 113 (0, 0)) := by
    rw [hb4.block w.heap.size (by simp; omega), hb2.block w.heap.size hlt]; exact hres
  have hat : w2.heap[w1.heap.size]? = some (.cells #[.pointer oo, .pointer (some sp), .string l] 113 (0, 0)) := by
    rw [hb4.block w1.heap.size (by simp)]; exact hnew
  have r0 : w2.cell? ⟨w.heap.size, 0, none⟩ = some _ := (cell_of_heap hres2 0).trans rfl
  have r1 : w2.cell? ⟨w.heap.size, 1, none⟩ = some _ := (cell_of_heap hres2 1).trans rfl
  have r2 : w2.cell? ⟨w.heap.size, 2, none⟩ = some _ := (cell_of_heap hres2 2).trans rfl
  have rf := frozen_of_heap hres2
  have a0 : w2.cell? ⟨w1.heap.size, 0, none⟩ = some (.pointer oo) := (cell_of_heap hat 0).trans rfl
  have a1 : w2.cell? ⟨w1.heap.size, 1, none⟩ = some (.pointer (some sp)) := (cell_of_heap hat 1).trans rfl
  have a2 : w2.cell? ⟨w1.heap.size, 2, none⟩ = some (.string l) := (cell_of_heap hat 2).trans rfl
  clear hnew hres hb hb0 hb2 hb4 hres2 hat H1 H2
  cases op with
  | false =>
    go_wp2_with fail
    refine bodyPost_ret (v := .tuple #[.agg #[.pointer none, .pointer none, .string ⟨#[]⟩], .bool false]) (by simp [results, Tryz.results70, go_sem, r0, r1, r2]) rfl ⟨rfl, ?_⟩
    exact below_set3 hb5 (Nat.le_refl _) _ _ _
  | true =>
    go_wp2_with fail
    refine (H3.out _ (hr.below hb5)).mono ?_
    rintro e w3 ⟨rfl, h⟩
    subst h
    cases hs with
    | false =>
      go_wp2_with fail
      refine bodyPost_ret (v := .tuple #[.agg #[.pointer none, .pointer none, .string ⟨#[]⟩], .bool false]) (by simp [results, Tryz.results70, go_sem, r0, r1, r2]) rfl ⟨rfl, ?_⟩
      exact below_set3 hb5 (Nat.le_refl _) _ _ _
    | true =>
      go_wp2_with fail
      refine bodyPost_ret (v := .tuple #[.agg #[.pointer oo, .pointer (some sp), .string l], .bool true]) (by simp [results, Tryz.results70, go_sem, r0, r1, r2]) rfl ⟨rfl, ?_⟩
      exact below_set3 hb5 (Nat.le_refl _) _ _ _

set_option maxHeartbeats 1600000 in
set_option maxRecDepth 100000 in
theorem show_gen (db : Nat) (D : DepD) (house : ByteArray) (id : Int) (name : ByteArray) (oo : Option Addr) (sp : Addr) (l : ByteArray) (sees : Bool) (tl wn : ByteArray) (w : World) (hr : DepAt w db D) (hs : name.size ≤ 4611686018427387000) (ht : tl.size ≤ 100) (hw : wn.size ≤ 100) (h0 : (heldF D.pure house id == 0) = false) (hn : nameF name = true)
    (H1 : ∀ W, DepAt W db D → Calls Tryz.prog 70 #[.pointer (some ⟨db, 0, none⟩), .string house, .string name] W fun e w' => e = .returned (.tuple #[.agg (if sees then #[.pointer oo, .pointer (some sp), .string l] else #[.pointer none, .pointer none, .string ⟨#[]⟩]), .bool sees]) ∧ Below W.heap.size W w')
    (H2 : ∀ W, DepAt W db D → Calls Tryz.prog 71 #[.pointer (some sp), .string l] W fun e w' => e = .returned (.string tl) ∧ w' = W)
    (H3 : ∀ W, DepAt W db D → Calls Tryz.prog 72 #[.agg #[.pointer oo, .pointer (some sp), .string l]] W fun e w' => e = .returned (.string wn) ∧ Below W.heap.size W w') :
    Calls Tryz.prog 32 #[.pointer (some ⟨db, 0, none⟩), .string house, .int .i64 id, .string name] w fun e w' =>
      e = .returned (.tuple #[.string (if sees then wn ++ ⟨#[58]⟩ ++ tl else ⟨#[]⟩), .int .i64 (if sees then 0 else 7)]) ∧ Below w.heap.size w w' := by
  have G1 := hide H1
  have G2 := hide H2
  have G3 := hide H3
  have Hh := hide (held_any db D house id w hr)
  have Hn := hide (fun W => isName_any name W (by omega))
  have HN := hide hn
  clear H1 H2 H3 hn
  generalize heldF D.pure house id = r at *
  go_enter Tryz.func32, Tryz.ntmps32
  go_wp2_with fail
  refine Hh.out.mono ?_
  rintro e w1 ⟨rfl, hb1⟩
  go_wp2_with fail
  refine (Hn.out _).mono ?_
  rintro e w2 ⟨rfl, hb2⟩
  rw [HN.out]
  have hb := below_call hb1 hb2
  go_wp2_with fail
  refine (G1.out _ (hr.below hb)).mono ?_
  rintro e w3 ⟨rfl, hb3⟩
  have hb4 := below_call hb hb3
  clear hb1 hb2 hb hb3 Hh Hn G1
  cases sees with
  | false =>
    go_wp2_with fail
    go_ret2
    exact ⟨rfl, hb4.alloc hb4.size _⟩
  | true =>
    have hb5 : Below w.heap.size w (w3.alloc (.cells #[.pointer oo, .pointer (some sp), .string l] 113)) := hb4.alloc hb4.size _
    simp only [if_true]
    go_wp2_with fail
    refine (G2.out _ (hr.below hb5)).mono ?_
    rintro e w4 ⟨rfl, h⟩
    subst h
    go_wp2_with fail
    refine (G3.out _ (hr.below hb5)).mono ?_
    rintro e w5 ⟨rfl, hb6⟩
    go_wp2_with fail
    go_ret2
    exact ⟨rfl, below_call hb5 hb6⟩

set_option maxHeartbeats 800000 in
set_option maxRecDepth 100000 in
theorem show_no (db : Nat) (D : DepD) (house : ByteArray) (id : Int) (name : ByteArray) (w : World) (hr : DepAt w db D) (hs : name.size ≤ 4611686018427387000) (E : Int) (hE : E = if (heldF D.pure house id == 0) = true then 3 else 2) (hno : (heldF D.pure house id == 0) = true ∨ nameF name = false) :
    Calls Tryz.prog 32 #[.pointer (some ⟨db, 0, none⟩), .string house, .int .i64 id, .string name] w fun e w' => e = .returned (.tuple #[.string ⟨#[]⟩, .int .i64 E]) ∧ Below w.heap.size w w' := by
  have Hh := hide (held_any db D house id w hr)
  have Hn := hide (fun W => isName_any name W (by omega))
  generalize heldF D.pure house id = r at *
  cases h0 : (r == 0) with
  | true =>
    have hE' : E = 3 := by rw [hE, h0]; rfl
    subst hE'
    clear hE hno
    go_enter Tryz.func32, Tryz.ntmps32
    go_wp2_with fail
    refine Hh.out.mono ?_
    rintro e w1 ⟨rfl, hb1⟩
    go_wp2_with fail
    go_ret2
    exact ⟨rfl, hb1⟩
  | false =>
    have hE' : E = 2 := by rw [hE, h0]; rfl
    subst hE'
    have HN := hide (hno.resolve_left (by rw [h0]; decide))
    clear hE hno
    go_enter Tryz.func32, Tryz.ntmps32
    go_wp2_with fail
    refine Hh.out.mono ?_
    rintro e w1 ⟨rfl, hb1⟩
    go_wp2_with fail
    refine (Hn.out _).mono ?_
    rintro e w2 ⟨rfl, hb2⟩
    rw [HN.out]
    go_wp2_with fail
    go_ret2
    exact ⟨rfl, below_call hb1 hb2⟩

def ptell (es : List PEd) (label : ByteArray) : Nat → ByteArray
  | 0 => ⟨#[]⟩
  | k + 1 => match pedF es label ((k : Int) + 1) with
    | none => ptell es label k
    | some e => (if (ptell es label k).toList.isEmpty then ptell es label k else ptell es label k ++ ⟨#[44]⟩) ++ digitS (k + 1) ++ (if e.off then ⟨#[42]⟩ else ⟨#[]⟩)

theorem tellTo_pure (es : List Ed) (label : ByteArray) (k : Nat) : ptell (es.map Ed.pure) label k = tellTo es label k := by
  induction k with
  | zero => rfl
  | succ k ih =>
    unfold ptell tellTo
    rw [edF_pure, ih]
    cases edF es label ((k : Int) + 1) with
    | none => rfl
    | some e => rfl

def pubWord : ByteArray := ⟨#[112, 117, 98, 108, 105, 99]⟩

def dshowP (P : PDep) (house : ByteArray) (id : Int) (name : ByteArray) : ByteArray × Int :=
  if (heldF P house id == 0) = true then (⟨#[]⟩, 3) else if nameF name = false then (⟨#[]⟩, 2) else
  match placeF P name with
  | (some h, l) => if ((h.name.toList == house.toList) || grtF h.grs l house) && phas h.eds l then (h.name ++ ⟨#[58]⟩ ++ ptell h.eds l 9, 0) else (⟨#[]⟩, 7)
  | (none, l) => if phas P.pub l then (pubWord ++ ⟨#[58]⟩ ++ ptell P.pub l 9, 0) else (⟨#[]⟩, 7)

theorem word_size {s : ByteArray} (h : wordF s = true) : s.size ≤ 4 := by
  unfold wordF at h
  simp at h
  omega

theorem show_any (db : Nat) (D : DepD) (house : ByteArray) (id : Int) (name : ByteArray) (w : World) (hr : DepAt w db D) (hs : name.size ≤ 4611686018427387000) :
    Calls Tryz.prog 32 #[.pointer (some ⟨db, 0, none⟩), .string house, .int .i64 id, .string name] w fun e w' =>
      e = .returned (.tuple #[.string (dshowP D.pure house id name).1, .int .i64 (dshowP D.pure house id name).2]) ∧ Below w.heap.size w w' := by
  cases h0 : (heldF D.pure house id == 0) with
  | true =>
    have e : dshowP D.pure house id name = (⟨#[]⟩, 3) := by unfold dshowP; rw [if_pos h0]
    rw [e]
    exact show_no db D house id name w hr hs 3 (by rw [h0]; rfl) (Or.inl h0)
  | false =>
    cases hn : nameF name with
    | false =>
      have e : dshowP D.pure house id name = (⟨#[]⟩, 2) := by unfold dshowP; rw [if_neg (by rw [h0]; decide), if_pos hn]
      rw [e]
      exact show_no db D house id name w hr hs 2 (by rw [h0]; rfl) (Or.inr hn)
    | true =>
      have e0 : dshowP D.pure house id name = match placeF D.pure name with
        | (some h, l) => if ((h.name.toList == house.toList) || grtF h.grs l house) && phas h.eds l then (h.name ++ ⟨#[58]⟩ ++ ptell h.eds l 9, 0) else (⟨#[]⟩, 7)
        | (none, l) => if phas D.pure.pub l then (pubWord ++ ⟨#[58]⟩ ++ ptell D.pure.pub l 9, 0) else (⟨#[]⟩, 7) := by
        unfold dshowP; rw [if_neg (by rw [h0]; decide), if_neg (by rw [hn]; decide)]
      have houseCase : ∀ (a b : ByteArray) (i : Nat) (hi : i < D.hs.length), splitF name = (a, b, true) → FirstH D.hs a i → hseF D.pure.hs a = some D.hs[i].pure →
          Calls Tryz.prog 32 #[.pointer (some ⟨db, 0, none⟩), .string house, .int .i64 id, .string name] w fun e w' =>
            e = .returned (.tuple #[.string (dshowP D.pure house id name).1, .int .i64 (dshowP D.pure house id name).2]) ∧ Below w.heap.size w w' := by
        intro a b i hi hsp hf h3
        obtain ⟨g, hg, _⟩ := hr.house i hi
        have hp : placeF D.pure name = (some D.hs[i].pure, b) := by unfold placeF; rw [hsp]; simp only [if_true]; rw [h3]
        have hel := hr.elen i hi
        have hsh : ∀ W, DepAt W db D → ShelfAt W (db + 1) g (i * 5 + 2) D.hs[i].eao D.hs[i].ecap D.hs[i].eds := by
          intro W hW
          obtain ⟨g2, hg2, _, _, _, _, hsh, _⟩ := hW.house i hi
          rw [hg] at hg2
          injection hg2 with hg2
          injection hg2 with hg2
          subst hg2
          exact hsh
        have hgen := show_gen db D house id name (some ⟨g, i * 5, none⟩) ⟨g, i * 5 + 2, none⟩ b ((D.hs[i].name.toList == house.toList || grtF D.hs[i].grs b house) && hasE D.hs[i].eds b) (tellTo D.hs[i].eds b 9) D.hs[i].name w hr hs
          (Nat.le_trans (tellTo_size _ _ _) (by decide)) (Nat.le_trans (word_size (hr.lens.w D.hs[i].pure (List.mem_map_of_mem (List.getElem_mem hi)))) (by decide)) h0 hn
          (fun W hW => seen_gen db D house name (some ⟨g, i * 5, none⟩) ⟨g, i * 5 + 2, none⟩ b _ _ W hW (fun V hV => placeOf_house db D name a b V hV hs hsp i hi hf g hg) (fun V hV => isOpen_house db D i hi g hg _ b house V hV) (fun V hV => shelfHas_any (db + 1) g (i * 5 + 2) _ _ _ b V (hsh V hV) (by omega)))
          (fun W hW => shelfTell_any (db + 1) g (i * 5 + 2) _ _ _ b W (hsh W hW) (by omega)) (fun W hW => whose_house db D i hi g hg _ b W hW)
        refine hgen.mono ?_
        rintro e w' ⟨rfl, hb⟩
        refine ⟨?_, hb⟩
        rw [e0, hp]
        simp only [Hse.pure, hasE_pure, tellTo_pure]
        cases ((D.hs[i].name.toList == house.toList || grtF D.hs[i].grs b house) && hasE D.hs[i].eds b) <;> rfl
      have pubCase : placeF D.pure name = (none, name) → ((splitF name).2.2 = false ∨ ∀ j, (hj : j < D.hs.length) → (D.hs[j].name.toList == (splitF name).1.toList) = false) →
          Calls Tryz.prog 32 #[.pointer (some ⟨db, 0, none⟩), .string house, .int .i64 id, .string name] w fun e w' =>
            e = .returned (.tuple #[.string (dshowP D.pure house id name).1, .int .i64 (dshowP D.pure house id name).2]) ∧ Below w.heap.size w w' := by
        intro hp hno
        have hpl := hr.plen
        have hgen := show_gen db D house id name none ⟨db, 3, none⟩ name (true && hasE D.pub name) (tellTo D.pub name 9) pubWord w hr hs
          (Nat.le_trans (tellTo_size _ _ _) (by decide)) (by decide) h0 hn
          (fun W hW => seen_gen db D house name none ⟨db, 3, none⟩ name _ _ W hW (fun V hV => placeOf_pub db D name V hV hs hno) (fun V hV => isOpen_pub _ name house V) (fun V hV => shelfHas_any (db + 1) db 3 _ _ _ name V hV.public.1 (by omega)))
          (fun W hW => shelfTell_any (db + 1) db 3 _ _ _ name W hW.public.1 (by omega)) (fun W hW => whose_pub _ name W)
        refine hgen.mono ?_
        rintro e w' ⟨rfl, hb⟩
        refine ⟨?_, hb⟩
        rw [e0, hp]
        simp only [DepD.pure, hasE_pure, tellTo_pure, Bool.true_and]
        cases hasE D.pub name <;> rfl
      cases hc : (splitF name).2.2 with
      | false => exact pubCase (by unfold placeF; rw [hc]; rfl) (Or.inl hc)
      | true =>
        rcases hse_cases D (splitF name).1 with ⟨i, hi, h1, h3⟩ | ⟨h1, h3⟩
        · exact houseCase (splitF name).1 (splitF name).2.1 i hi (by rw [← hc]) h1 h3
        · exact pubCase (by unfold placeF; rw [hc]; simp only [if_true]; rw [h3]) (Or.inr h1)

end

end Go.Proofs.YtgcldedkempjhabGreatDoor
