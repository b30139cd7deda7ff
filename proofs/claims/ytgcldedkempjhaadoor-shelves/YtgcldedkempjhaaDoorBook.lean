/-
  depotkeep.Book in memory; find, role, count; what a turn shows.
-/
import Derived.Test.YtgcldedkempjhaaDoorRows
import Derived.Test.YtgcldedkempjhaaDoorBaseRow
import Derived.Deep.QuietTactic
import Derived.BigQuiet
namespace Go.Proofs.YtgcldedkempjhaaDoor
open Go.RowKit

structure Bk where
  house : ByteArray
  id : Int
  role : Int
  till : Int
  gone : Bool

def Bk.cells (x : Bk) : List Value := [.string x.house, .int .i64 x.id, .int .i64 x.role, .int .i64 x.till, .bool x.gone]

def bksCells (bs : List Bk) : List Value := bs.flatMap Bk.cells

/-- The book at block bb. -/
structure KBookAt (w : World) (bb : Nat) (now : Int) (ao : Option Addr) (cap : Nat) (bs : List Bk) : Prop where
  c0 : w.cell? ⟨bb, 0, none⟩ = some (.slice ao bs.length cap)
  c1 : w.cell? ⟨bb, 1, none⟩ = some (.int .i64 now)
  f0 : w.frozen? ⟨bb, 0, none⟩ = false
  f1 : w.frozen? ⟨bb, 1, none⟩ = false
  own : w.ownsRow (bb + 1) 30 5 (.slice ao bs.length cap) bs.length (bksCells bs)
  len : bs.length ≤ 1000

structure BkAt (w : World) (g o : Nat) (x : Bk) : Prop where
  d0 : w.cell? ⟨g, o, none⟩ = some (.string x.house)
  d1 : w.cell? ⟨g, o + 1, none⟩ = some (.int .i64 x.id)
  d2 : w.cell? ⟨g, o + 2, none⟩ = some (.int .i64 x.role)
  d3 : w.cell? ⟨g, o + 3, none⟩ = some (.int .i64 x.till)
  d4 : w.cell? ⟨g, o + 4, none⟩ = some (.bool x.gone)
  f4 : w.frozen? ⟨g, o + 4, none⟩ = false

section
variable {w w' : World} {bb : Nat} {now : Int} {ao : Option Addr} {cap : Nat} {bs : List Bk}

theorem KBookAt.lt (h : KBookAt w bb now ao cap bs) : bb < w.heap.size := World.block_lt_of_cell? w _ h.c0

theorem KBookAt.entry (h : KBookAt w bb now ao cap bs) (k : Nat) (hk : k < bs.length) : ∃ g, ao = some ⟨g, 0, none⟩ ∧ g < w.heap.size ∧ bb < g ∧ BkAt w g (k * 5) bs[k] := by
  rcases h.own.2 with ⟨hn, h0⟩ | ⟨g, cp, cur, hv, hb, hg, _⟩
  · omega
  · have hao : ao = some ⟨g, 0, none⟩ := by injection hv
    have key : ∀ j u, (bs[k]).cells[j]? = some u → w.cell? ⟨g, k * 5 + j, none⟩ = some u := by
      intro j u hu
      have hj : j < 5 := (List.getElem?_eq_some_iff.1 hu).1
      have hget := flat_get Bk.cells 5 (fun _ => rfl) bs k j hk hj
      have := h.own.cells (g := g) (by rw [hao]; rfl) (5 * k + j) u (hget.trans hu)
      rw [← this]
      congr 1
      unfold Addr.add; split <;> simp_all <;> omega
    exact ⟨g, hao, (Array.getElem?_eq_some_iff.1 hg).1, hb, key 0 _ rfl, key 1 _ rfl, key 2 _ rfl, key 3 _ rfl, key 4 _ rfl, frozen_of_heap hg _⟩

def BookFoot (bb : Nat) (ao : Option Addr) (k : Nat) : Prop := k = bb ∨ blockOf ao k

theorem KBookAt.foot (h : KBookAt w bb now ao cap bs) {k : Nat} (hk : BookFoot bb ao k) : bb ≤ k ∧ k < w.heap.size := by
  rcases hk with rfl | ⟨a, rfl, rfl⟩
  · exact ⟨Nat.le_refl _, h.lt⟩
  · have := h.own.lt a.block rfl; omega

theorem KBookAt.keep (h : KBookAt w bb now ao cap bs) (hk : ∀ k, BookFoot bb ao k → w'.heap[k]? = w.heap[k]?) : KBookAt w' bb now ao cap bs := by
  have h0 : w'.heap[bb]? = w.heap[bb]? := hk bb (Or.inl rfl)
  refine ⟨(World.cell?_of_block h0).trans h.c0, (World.cell?_of_block h0).trans h.c1, (World.frozen?_of_block h0).trans h.f0, (World.frozen?_of_block h0).trans h.f1, ⟨h.own.1, ?_⟩, h.len⟩
  rcases h.own.2 with hn | ⟨g, cp, cur, hv, hb, hg, r⟩
  · exact Or.inl hn
  · refine Or.inr ⟨g, cp, cur, hv, hb, ?_, r⟩
    have hao : ao = some ⟨g, 0, none⟩ := by injection hv
    rw [hk g (Or.inr ⟨_, hao, rfl⟩)]; exact hg

theorem KBookAt.below (h : KBookAt w bb now ao cap bs) (hb : Below w.heap.size w w') : KBookAt w' bb now ao cap bs := h.keep fun _ hk => hb.block _ (h.foot hk).2

end

def bookP (house : ByteArray) (id : Int) (x : Bk) : Bool := x.house.toList == house.toList && x.id == id

def bookF (bs : List Bk) (house : ByteArray) (id : Int) : Option Bk := bs.find? (bookP house id)

set_option maxHeartbeats 400000 in
theorem bookFind_some (bb : Nat) (now : Int) (ao : Option Addr) (cap : Nat) (bs : List Bk) (house : ByteArray) (id : Int) (w : World) (hr : KBookAt w bb now ao cap bs)
    (i : Nat) (hi : i < bs.length) (hm : bookP house id bs[i] = true) (hno : ∀ j, (hj : j < bs.length) → j < i → bookP house id bs[j] = false) :
    Calls Tryd.prog 76 #[.pointer (some ⟨bb, 0, none⟩), .string house, .int .i64 id] w fun e w' => e = .returned (.int .i64 i) ∧ w' = w := by
  have c := hr.c0
  have hlen := hr.len
  have HM := hide hm
  have HN := hide hno
  clear hm hno
  go_enter Tryd.func76, Tryd.ntmps76
  go_wp2
  go_loop [7] (fun x => ∃ k : Nat, k ≤ i ∧ x = .int .i64 k) (fun x => bs.length - (intOf x).toNat)
  case atStart => exact ⟨0, Nat.zero_le _, rfl⟩
  case round =>
    obtain ⟨k, hk, rfl⟩ := hrel
    obtain ⟨g, rfl, hg, _, hx⟩ := hr.entry k (by omega)
    have d0 := hx.d0
    have d1 := hx.d1
    by_cases hlt : k < i
    · have H1 := hide (HN.out k (by omega) hlt)
      cases ha : (bs[k].house.toList == house.toList) with
      | false =>
        go_wp2
        go_round
        case rel => exact ⟨k + 1, by omega, by go_num⟩
        case measure => simp [intOf] <;> omega
      | true =>
        have hb : (bs[k].id == id) = false := by have := H1.out; simpa [bookP, ha] using this
        go_wp2
        go_round
        case rel => exact ⟨k + 1, by omega, by go_num⟩
        case measure => simp [intOf] <;> omega
    · obtain rfl : k = i := by omega
      have h1 : (bs[k].house.toList == house.toList) = true := by have := HM.out; simp [bookP] at this; simp [this]
      have h2 : (bs[k].id == id) = true := by have := HM.out; simp [bookP] at this; simp [this]
      go_wp2
      go_ret
      exact ⟨rfl, rfl⟩

set_option maxHeartbeats 400000 in
theorem bookFind_none (bb : Nat) (now : Int) (ao : Option Addr) (cap : Nat) (bs : List Bk) (house : ByteArray) (id : Int) (w : World) (hr : KBookAt w bb now ao cap bs)
    (hno : ∀ j, (hj : j < bs.length) → bookP house id bs[j] = false) :
    Calls Tryd.prog 76 #[.pointer (some ⟨bb, 0, none⟩), .string house, .int .i64 id] w fun e w' => e = .returned (.int .i64 (-1)) ∧ w' = w := by
  have c := hr.c0
  have hlen := hr.len
  have HN := hide hno
  clear hno
  go_enter Tryd.func76, Tryd.ntmps76
  go_wp2
  go_loop [7] (fun x => ∃ k : Nat, k ≤ bs.length ∧ x = .int .i64 k) (fun x => bs.length - (intOf x).toNat)
  case atStart => exact ⟨0, Nat.zero_le _, rfl⟩
  case round =>
    obtain ⟨k, hk, rfl⟩ := hrel
    by_cases hlt : k < bs.length
    · obtain ⟨g, rfl, hg, _, hx⟩ := hr.entry k hlt
      have d0 := hx.d0
      have d1 := hx.d1
      have H1 := hide (HN.out k hlt)
      cases ha : (bs[k].house.toList == house.toList) with
      | false =>
        go_wp2
        go_round
        case rel => exact ⟨k + 1, by omega, by go_num⟩
        case measure => simp [intOf] <;> omega
      | true =>
        have hb : (bs[k].id == id) = false := by have := H1.out; simpa [bookP, ha] using this
        go_wp2
        go_round
        case rel => exact ⟨k + 1, by omega, by go_num⟩
        case measure => simp [intOf] <;> omega
    · go_wp2
      go_ret
      exact ⟨rfl, rfl⟩

def countF (bs : List Bk) (house : ByteArray) : Nat := (bs.filter fun x => x.house.toList == house.toList).length

theorem countF_le (bs : List Bk) (house : ByteArray) : countF bs house ≤ bs.length := List.length_filter_le _ _

theorem countF_take_succ (bs : List Bk) (house : ByteArray) (k : Nat) (h : k < bs.length) :
    countF (bs.take (k + 1)) house = countF (bs.take k) house + if (bs[k].house.toList == house.toList) then 1 else 0 := by
  unfold countF
  rw [List.take_succ_eq_append_getElem h, List.filter_append]
  by_cases hc : (bs[k].house.toList == house.toList) <;> simp [hc]

set_option maxHeartbeats 400000 in
theorem bookCount_any (bb : Nat) (now : Int) (ao : Option Addr) (cap : Nat) (bs : List Bk) (house : ByteArray) (w : World) (hr : KBookAt w bb now ao cap bs) :
    Calls Tryd.prog 77 #[.pointer (some ⟨bb, 0, none⟩), .string house] w fun e w' => e = .returned (.int .i64 (countF bs house)) ∧ w' = w := by
  have c := hr.c0
  have hlen := hr.len
  go_enter Tryd.func77, Tryd.ntmps77
  go_wp2
  go_loop [5, 6] (fun n i => ∃ k : Nat, k ≤ bs.length ∧ i = .int .i64 k ∧ n = .int .i64 (countF (bs.take k) house)) (fun _ i => bs.length - (intOf i).toNat)
  case atStart => exact ⟨0, Nat.zero_le _, rfl, rfl⟩
  case round =>
    obtain ⟨k, hk, rfl, rfl⟩ := hrel
    have hd := countF_le (bs.take k) house
    have hl : (bs.take k).length ≤ k := List.length_take_le _ _
    by_cases hlt : k < bs.length
    · have hsn := hide (countF_take_succ bs house k hlt)
      obtain ⟨g, rfl, _, _, hx⟩ := hr.entry k hlt
      have d0 := hx.d0
      go_wp2
      all_goals
        go_round
        case rel => exact ⟨k + 1, by omega, by go_num, by rw [hsn.out]; simp [*]⟩
        case measure => simp [intOf] <;> omega
    · go_wp2
      go_ret
      exact ⟨ret_int (by rw [List.take_of_length_le (by omega)]), rfl⟩

def bookRole (now : Int) (bs : List Bk) (house : ByteArray) (id : Int) : Int :=
  if house.toList.isEmpty then 4 else
  match bookF bs house id with
  | none => 0
  | some b => if b.gone || decide (b.till ≤ now) then 0 else b.role

set_option maxHeartbeats 400000 in
theorem bookRole_any (bb : Nat) (now : Int) (ao : Option Addr) (cap : Nat) (bs : List Bk) (house : ByteArray) (id : Int) (w : World) (hr : KBookAt w bb now ao cap bs) :
    Calls Tryd.prog 42 #[.pointer (some ⟨bb, 0, none⟩), .string house, .int .i64 id] w fun e w' => e = .returned (.int .i64 (bookRole now bs house id)) ∧ Below w.heap.size w w' := by
  have c0 := hr.c0
  have c1 := hr.c1
  have hlen := hr.len
  cases hemp : house.toList.isEmpty with
  | true =>
    have hfin := hide (show bookRole now bs house id = 4 by simp [bookRole, hemp])
    go_enter Tryd.func42, Tryd.ntmps42
    go_wp2
    go_ret
    exact ⟨ret_int hfin.out.symm, Below.refl _ _⟩
  | false =>
    rcases find_cases (bookP house id) bs with ⟨i, hi, h1, h2, h3⟩ | ⟨h1, h3⟩
    · have Hc := hide (bookFind_some bb now ao cap bs house id w hr i hi h1 h2)
      have HF := hide (show bookRole now bs house id = if bs[i].gone || decide (bs[i].till ≤ now) then 0 else bs[i].role by simp [bookRole, hemp, bookF, h3])
      clear h1 h2 h3
      obtain ⟨g, rfl, hg, _, hx⟩ := hr.entry i hi
      have d2 := hx.d2
      have d3 := hx.d3
      have d4 := hx.d4
      have hneg : decide ((i : Int) < 0) = false := by simp
      cases hgn : bs[i].gone with
      | true =>
        rw [hgn] at d4
        go_enter Tryd.func42, Tryd.ntmps42
        go_wp2_with fail
        refine Hc.out.mono ?_
        rintro e w1 ⟨rfl, h⟩
        subst h
        go_wp2_with fail
        go_quiet (fail)
        go_wp2_with fail
        go_ret
        exact ⟨ret_int (by rw [HF.out]; simp [hgn]), below_drawn (Below.refl _ _) _⟩
      | false =>
        rw [hgn] at d4
        by_cases ht : bs[i].till ≤ now
        · go_enter Tryd.func42, Tryd.ntmps42
          go_wp2_with fail
          refine Hc.out.mono ?_
          rintro e w1 ⟨rfl, h⟩
          subst h
          go_wp2_with fail
          go_quiet (fail)
          go_wp2_with fail
          go_ret
          exact ⟨ret_int (by rw [HF.out]; simp [ht]), below_drawn (Below.refl _ _) _⟩
        · go_enter Tryd.func42, Tryd.ntmps42
          go_wp2_with fail
          refine Hc.out.mono ?_
          rintro e w1 ⟨rfl, h⟩
          subst h
          go_wp2_with fail
          go_quiet (fail)
          go_wp2_with fail
          go_ret
          exact ⟨ret_int (by rw [HF.out, if_neg (by simp [hgn]; omega)]), below_drawn (Below.refl _ _) _⟩
    · have Hc := hide (bookFind_none bb now ao cap bs house id w hr h1)
      have HF := hide (show bookRole now bs house id = 0 by simp [bookRole, hemp, bookF, h3])
      clear h1 h3
      go_enter Tryd.func42, Tryd.ntmps42
      go_wp2_with fail
      refine Hc.out.mono ?_
      rintro e w1 ⟨rfl, h⟩
      subst h
      go_wp2_with fail
      go_quiet (fail)
      go_wp2_with fail
      go_ret
      exact ⟨ret_int HF.out.symm, below_drawn (Below.refl _ _) _⟩

end Go.Proofs.YtgcldedkempjhaaDoor
