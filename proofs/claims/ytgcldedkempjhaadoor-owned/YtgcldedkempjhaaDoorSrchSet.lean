/-
  search.Search in memory: what a write of one of its cells leaves; Next.
-/
import Derived.Test.YtgcldedkempjhaaDoorSrchLink
namespace Go.Proofs.YtgcldedkempjhaaDoor
open Go.RowKit

section
variable {w : World} {sb : Nat} {S : SD}

theorem SAt.setList (h : SAt w sb S) (ao : Option Addr) (cap : Nat) (l : List (Wt Nat)) (hrow : LinkRow w (sb + 1) ao cap l) (hsep : ∀ e ∈ S.ents, ∀ v k, blockOf (e.ofr v).ao k → ¬ blockOf ao k) (hl : l.length ≤ 100000) :
    SAt (w.setCell ⟨sb, 0, none⟩ (.slice ao l.length cap)) sb { S with list := l, lao := ao, lcap := cap } := by
  refine ⟨⟨?_, ?_, ?_, ?_, ?_, ?_⟩, ownsRow_setCell_below hrow (Nat.lt_succ_self sb) _, ownsRow_setCell_below h.nown (Nat.lt_succ_self sb) _, fun e he v => ownsRow_setCell_below (h.wown e he v) (Nat.lt_succ_self sb) _, hsep, hl, h.nl⟩
  · rw [cell_setCell_same h.head.c0]
  · rw [cell_setCell_ne (by omega)]; exact h.head.c1
  · rw [cell_setCell_ne (by omega)]; exact h.head.c2
  · rw [cell_setCell_ne (by omega)]; exact h.head.c3
  · rw [cell_setCell_ne (by omega)]; exact h.head.c4
  · intro j; rw [frozen_setCell]; exact h.head.f j

theorem SAt.setTold (h : SAt w sb S) (n : Nat) : SAt (w.setCell ⟨sb, 3, none⟩ (.int .i64 n)) sb { S with told := n } := by
  refine ⟨⟨?_, ?_, ?_, ?_, ?_, ?_⟩, ownsRow_setCell_below h.lown (Nat.lt_succ_self sb) _, ownsRow_setCell_below h.nown (Nat.lt_succ_self sb) _, fun e he v => ownsRow_setCell_below (h.wown e he v) (Nat.lt_succ_self sb) _, h.sep, h.ll, h.nl⟩
  · rw [cell_setCell_ne (by omega)]; exact h.head.c0
  · rw [cell_setCell_ne (by omega)]; exact h.head.c1
  · rw [cell_setCell_ne (by omega)]; exact h.head.c2
  · rw [cell_setCell_same h.head.c3]
  · rw [cell_setCell_ne (by omega)]; exact h.head.c4
  · intro j; rw [frozen_setCell]; exact h.head.f j

theorem SAt.setLeft (h : SAt w sb S) (n : Int) : SAt (w.setCell ⟨sb, 4, none⟩ (.int .i64 n)) sb { S with left := n } := by
  refine ⟨⟨?_, ?_, ?_, ?_, ?_, ?_⟩, ownsRow_setCell_below h.lown (Nat.lt_succ_self sb) _, ownsRow_setCell_below h.nown (Nat.lt_succ_self sb) _, fun e he v => ownsRow_setCell_below (h.wown e he v) (Nat.lt_succ_self sb) _, h.sep, h.ll, h.nl⟩
  · rw [cell_setCell_ne (by omega)]; exact h.head.c0
  · rw [cell_setCell_ne (by omega)]; exact h.head.c1
  · rw [cell_setCell_ne (by omega)]; exact h.head.c2
  · rw [cell_setCell_ne (by omega)]; exact h.head.c3
  · rw [cell_setCell_same h.head.c4]
  · intro j; rw [frozen_setCell]; exact h.head.f j

/-- A write into the names' row leaves the rest. -/
theorem SAt.setNames (h : SAt w sb S) {g : Nat} (hg : S.nao = some ⟨g, 0, none⟩) (j : Nat) (u : Value) {i : Nat} (_hi : i < S.ents.length) (x : Ent) (hx : entsCells (S.ents.set i x) = (entsCells S.ents).set j u)
    (hw : ∀ v, LinkRow w (sb + 1) (x.ofr v).ao (x.ofr v).cap (x.ofr v).list ∧ ∀ k, blockOf (x.ofr v).ao k → ¬ blockOf S.lao k) : SAt (w.setCell ⟨g, j, none⟩ u) sb { S with ents := S.ents.set i x } := by
  have hgb : blockOf S.nao g := ⟨_, hg, rfl⟩
  have hgs := blockOf_lt h.nown hgb
  have far : ∀ {ao : Option Addr} {cap : Nat} {l : List (Wt Nat)}, LinkRow w (sb + 1) ao cap l → LinkRow (w.setCell ⟨g, j, none⟩ u) (sb + 1) ao cap l := fun ho =>
    ownsRow_setCell_other ho (a := ⟨g, j, none⟩) (fun hk => blocks_apart h.nown ho (by decide) hgb hk) _
  have h0 : (w.setCell ⟨g, j, none⟩ u).heap[sb]? = w.heap[sb]? := Below.heap_setCell _ _ _ _ (by show sb ≠ g; omega)
  have hh := h.head.keep h0
  refine ⟨⟨hh.c0, hh.c1, ?_, hh.c3, hh.c4, hh.f⟩, far h.lown, ?_, ?_, ?_, h.ll, by simpa using h.nl⟩
  · simp only [List.length_set]; exact hh.c2
  · simp only [List.length_set]
    rw [hx]
    have ho := h.nown
    rw [hg] at ho ⊢
    exact ownsRow_set ho _ _
  · intro e he v
    rcases List.mem_or_eq_of_mem_set he with he | rfl
    · exact far (h.wown e he v)
    · exact far (hw v).1
  · intro e he v
    rcases List.mem_or_eq_of_mem_set he with he | rfl
    · exact h.sep e he v
    · exact (hw v).2

theorem SAt.setCh (h : SAt w sb S) {g : Nat} (hg : S.nao = some ⟨g, 0, none⟩) {i : Nat} (hi : i < S.ents.length) (n : Nat) :
    SAt (w.setCell ⟨g, i * 22 + 21, none⟩ (.int .i64 n)) sb { S with ents := S.ents.set i { S.ents[i] with ch := n } } := by
  refine h.setNames hg _ _ hi _ (flat_set Ent.cells 22 Ent.cells_length S.ents i 21 _ _ hi (by decide) rfl) (fun v => ⟨h.wown S.ents[i] (List.getElem_mem hi) v, h.sep S.ents[i] (List.getElem_mem hi) v⟩)

end

set_option maxHeartbeats 800000 in
set_option maxRecDepth 100000 in
theorem next_no (sb : Nat) (S : SD) (w : World) (hr : SAt w sb S) (h : S.ents.length ≤ S.told) :
    Calls Tryd.prog 105 #[.pointer (some ⟨sb, 0, none⟩)] w fun e w' => e = .returned (.tuple #[.string ⟨#[]⟩, .bool false]) ∧ Below w.heap.size w w' := by
  have c2 := hr.head.c2
  have c3 := hr.head.c3
  have hb0 : ∀ n, Below w.heap.size w (w.drewN n) := fun n => below_drawn (Below.refl _ _) n
  go_enter Tryd.func105, Tryd.ntmps105
  go_wp2
  go_region
  all_goals
    go_wp2
    go_ret2
    exact ⟨rfl, hb0 _⟩

set_option maxHeartbeats 800000 in
set_option maxRecDepth 100000 in
theorem next_yes (sb : Nat) (S : SD) (w : World) (hr : SAt w sb S) (h : S.told < S.ents.length) :
    Calls Tryd.prog 105 #[.pointer (some ⟨sb, 0, none⟩)] w fun e w' => e = .returned (.tuple #[.string S.ents[S.told].name, .bool true]) ∧ SAt w' sb { S with told := S.told + 1 } ∧ Below sb w w' := by
  have c2 := hr.head.c2
  have c3 := hr.head.c3
  have f3 := hr.head.f 3
  have hn := hr.nl
  have hlt := hr.lt
  obtain ⟨g, hg, hglt, hgs, d0, _⟩ := hr.ent S.told h
  rw [hg] at c2
  have HF := hide (show SAt (w.setCell ⟨sb, 3, none⟩ (.int .i64 ((S.told : Int) + 1))) sb { S with told := S.told + 1 } from hr.setTold (S.told + 1))
  have HB := hide ((Below.refl sb w).setCell (p := ⟨sb, 3, none⟩) (Nat.le_refl _) (.int .i64 ((S.told : Int) + 1)))
  generalize S.ents[S.told].name = nm at *
  clear hr
  go_enter Tryd.func105, Tryd.ntmps105
  go_wp2
  go_region
  all_goals
    go_wp2
    go_region
    all_goals
      go_wp2
      go_ret2
      exact ⟨rfl, HF.out.same rfl, HB.out.os, HB.out.tape, HB.out.output, HB.out.size, HB.out.block⟩

/-- Among the wants that were asked: is there one of just this version? -/
def aloneN (l : List (Wt Nat)) (i : Nat) (v : Int) : Bool := l.any fun x => x.n == i && (x.lo == v && x.hi == v)

set_option maxHeartbeats 800000 in
set_option maxRecDepth 100000 in
theorem alone_any (sb : Nat) (S : SD) (i : Nat) (v : Int) (w : World) (hr : SAt w sb S) (ha : S.asked ≤ S.list.length) :
    Calls Tryd.prog 125 #[.pointer (some ⟨sb, 0, none⟩), .int .i64 i, .int .i64 v] w fun e w' => e = .returned (.bool (aloneN (S.list.take S.asked) i v)) ∧ Below w.heap.size w w' := by
  have HR := hide hr
  have hll := hr.ll
  clear hr
  go_enter Tryd.func125, Tryd.ntmps125
  go_wp2_with fail
  go_loopw [7, 8] (fun x _ wr => ∃ k : Nat, k ≤ S.asked ∧ x = .int .i64 k ∧ aloneN (S.list.take k) i v = false ∧ Below w.heap.size w wr) (fun x _ _ => S.asked - (intOf x).toNat)
  case atStart => exact ⟨0, Nat.zero_le _, rfl, by simp [aloneN], Below.refl _ _⟩
  case round =>
    obtain ⟨k, hk, rfl, hno, hb⟩ := hrel
    have hr := HR.out.below hb
    have c0 := hr.head.c0
    have c1 := hr.head.c1
    by_cases hlt : k < S.asked
    · obtain ⟨g, hg, _, _, d0, d1, d2⟩ := hr.link k (by omega)
      rw [hg] at c0
      have hkl : k < S.list.length := by omega
      have HNX := hide (show ∀ b : Bool, (S.list[k].n == i && (S.list[k].lo == v && S.list[k].hi == v)) = b → aloneN (S.list.take (k + 1)) i v = b from fun b hb => by
        unfold aloneN at hno ⊢
        rw [List.take_succ_eq_append_getElem hkl, List.any_append, hno]
        simpa using hb)
      have HFin := hide (show (S.list[k].n == i && (S.list[k].lo == v && S.list[k].hi == v)) = true → aloneN (S.list.take S.asked) i v = true from fun hb => by
        unfold aloneN
        rw [List.any_eq_true]
        refine ⟨S.list[k], ?_, hb⟩
        rw [List.mem_take_iff_getElem]
        exact ⟨k, by omega, rfl⟩)
      have hb1 := hide (show Below w.heap.size w (wr.alloc (.cells #[.int .i64 S.list[k].n, .int .i64 S.list[k].lo, .int .i64 S.list[k].hi] 185)) from hb.alloc hb.size _)
      generalize S.list[k] = x at *
      clear hno
      by_cases q1 : (x.n : Int) = (i : Int)
      · have q1' : ((x.n : Int) == (i : Int)) = true := by simpa using q1
        have q1n : (x.n == i) = true := beq_iff_eq.2 (by omega)
        by_cases q2 : x.lo = v
        · have q2' : (x.lo == v) = true := by simpa using q2
          by_cases q3 : x.hi = v
          · have q3' : (x.hi == v) = true := by simpa using q3
            have HT := hide (HFin.out (by rw [q1n, q2', q3']; rfl))
            clear HNX HFin q1 q2 q3
            go_wp2_with fail
            go_ret
            exact ⟨ret_bool HT.out.symm, hb1.out⟩
          · have q3' : (x.hi == v) = false := by simpa using q3
            have HN := hide (HNX.out false (by rw [q1n, q2', q3']; rfl))
            clear HNX HFin q1 q2 q3
            go_wp2_with fail
            go_roundw
            case rel => exact ⟨k + 1, by omega, by go_num, HN.out, hb1.out⟩
            case measure => simp [intOf] <;> omega
        · have q2' : (x.lo == v) = false := by simpa using q2
          have HN := hide (HNX.out false (by rw [q1n, q2']; rfl))
          clear HNX HFin q1 q2
          go_wp2_with fail
          go_roundw
          case rel => exact ⟨k + 1, by omega, by go_num, HN.out, hb1.out⟩
          case measure => simp [intOf] <;> omega
      · have q1' : ((x.n : Int) == (i : Int)) = false := by simpa using q1
        have q1n : (x.n == i) = false := beq_eq_false_iff_ne.2 (fun e => q1 (by rw [e]))
        have HN := hide (HNX.out false (by rw [q1n]; rfl))
        clear HNX HFin q1
        go_wp2_with fail
        go_roundw
        case rel => exact ⟨k + 1, by omega, by go_num, HN.out, hb1.out⟩
        case measure => simp [intOf] <;> omega
    · obtain rfl : k = S.asked := by omega
      go_wp2_with fail
      go_ret
      exact ⟨ret_bool hno.symm, hb⟩

theorem flat_set2 {α : Type} (f : α → List Value) (n : Nat) (hf : ∀ x, (f x).length = n) (l : List α) (i j : Nat) (x : α) (u u' : Value) (hi : i < l.length) (hj : j + 1 < n) (hx : f x = ((f l[i]).set j u).set (j + 1) u') : (l.set i x).flatMap f = ((l.flatMap f).set (i * n + j) u).set (i * n + j + 1) u' := by
  induction l generalizing i with
  | nil => simp at hi
  | cons y l ih =>
    have hl := hf y
    cases i with
    | zero =>
      have hx' : f x = ((f y).set j u).set (j + 1) u' := hx
      rw [List.set_cons_zero, List.flatMap_cons, List.flatMap_cons, List.set_append_left _ _ (by rw [hl]; omega), List.set_append_left _ _ (by rw [List.length_set, hl]; omega), hx']
      simp
    | succ i =>
      rw [List.set_cons_succ, List.flatMap_cons, List.flatMap_cons, List.set_append_right _ _ (by rw [hl, Nat.succ_mul]; omega), List.set_append_right _ _ (by rw [hl, Nat.succ_mul]; omega), hl, ih i (by simpa using hi) (by simpa using hx), show (i + 1) * n + j - n = i * n + j from by rw [Nat.succ_mul]; omega, show (i + 1) * n + j + 1 - n = i * n + j + 1 from by rw [Nat.succ_mul]; omega]

/-- What an offer leaves of a search: more names; what is offered of one. -/
def Offered (S S' : SD) (ns : List ByteArray) (i v : Nat) (l : List (Wt Nat)) : Prop :=
  ∃ S1, Grown S S1 ns ∧ ∃ hi : i < S1.ents.length, ∃ ao cap, S' = { S1 with ents := S1.ents.set i (S1.ents[i].offer v ⟨ao, cap, some l⟩) }

theorem SAt.setOffer {w w' : World} {sb : Nat} {S : SD} (h : SAt w sb S) {g : Nat} (hg : S.nao = some ⟨g, 0, none⟩) {i : Nat} (hi : i < S.ents.length) (v : Nat) (hv : v < 10) (o : Ofr) (hrow : LinkRow w (sb + 1) o.ao o.cap o.list) (hsep : ∀ k, blockOf o.ao k → ¬ blockOf S.lao k)
    (hw : w' = (w.setCell ⟨g, i * 22 + 1 + v * 2, none⟩ (.bool o.ws.isSome)).setCell ⟨g, i * 22 + 1 + v * 2 + 1, none⟩ (.slice o.ao o.list.length o.cap)) :
    SAt w' sb { S with ents := S.ents.set i (S.ents[i].offer v o) } := by
  have hgb : blockOf S.nao g := ⟨_, hg, rfl⟩
  have hgs := blockOf_lt h.nown hgb
  subst hw
  have far : ∀ {ao : Option Addr} {cap : Nat} {l : List (Wt Nat)}, LinkRow w (sb + 1) ao cap l → LinkRow ((w.setCell ⟨g, i * 22 + 1 + v * 2, none⟩ (.bool o.ws.isSome)).setCell ⟨g, i * 22 + 1 + v * 2 + 1, none⟩ (.slice o.ao o.list.length o.cap)) (sb + 1) ao cap l := fun ho =>
    ownsRow_setCell_other (ownsRow_setCell_other ho (a := ⟨g, i * 22 + 1 + v * 2, none⟩) (fun hk => blocks_apart h.nown ho (by decide) hgb hk) _) (a := ⟨g, i * 22 + 1 + v * 2 + 1, none⟩) (fun hk => blocks_apart h.nown ho (by decide) hgb hk) _
  have h0 : ((w.setCell ⟨g, i * 22 + 1 + v * 2, none⟩ (.bool o.ws.isSome)).setCell ⟨g, i * 22 + 1 + v * 2 + 1, none⟩ (.slice o.ao o.list.length o.cap)).heap[sb]? = w.heap[sb]? := by
    rw [Below.heap_setCell _ _ _ _ (by show sb ≠ g; omega), Below.heap_setCell _ _ _ _ (by show sb ≠ g; omega)]
  have hh := h.head.keep h0
  have hx : entsCells (S.ents.set i (S.ents[i].offer v o)) = ((entsCells S.ents).set (i * 22 + 1 + v * 2) (.bool o.ws.isSome)).set (i * 22 + 1 + v * 2 + 1) (.slice o.ao o.list.length o.cap) := by
    have e := Ent.cells_offer S.ents[i] v hv o
    have e2 := flat_set2 Ent.cells 22 Ent.cells_length S.ents i (1 + v * 2) _ _ _ hi (by omega) e
    rw [← Nat.add_assoc] at e2
    exact e2
  refine ⟨⟨hh.c0, hh.c1, ?_, hh.c3, hh.c4, hh.f⟩, far h.lown, ?_, ?_, ?_, h.ll, by simpa using h.nl⟩
  · simp only [List.length_set]; exact hh.c2
  · simp only [List.length_set]
    rw [hx]
    have ho := h.nown
    rw [hg] at ho ⊢
    exact ownsRow_set (ownsRow_set ho _ _) _ _
  · intro e he u
    rcases List.mem_or_eq_of_mem_set he with he | rfl
    · exact far (h.wown e he u)
    · unfold Ent.offer
      simp only
      split
      · exact far hrow
      · exact far (h.wown S.ents[i] (List.getElem_mem hi) u)
  · intro e he u
    rcases List.mem_or_eq_of_mem_set he with he | rfl
    · exact h.sep e he u
    · unfold Ent.offer
      simp only
      split
      · exact hsep
      · exact h.sep S.ents[i] (List.getElem_mem hi) u

end Go.Proofs.YtgcldedkempjhaaDoor
