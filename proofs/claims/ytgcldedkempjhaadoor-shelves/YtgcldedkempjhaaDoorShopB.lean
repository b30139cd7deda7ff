/-
  depotkeep.Shop in memory; there, count.
-/
import Derived.Test.YtgcldedkempjhaaDoorShopA
namespace Go.Proofs.YtgcldedkempjhaaDoor
open Go.RowKit

/-- A want within the bounds. -/
structure Nd where
  n : Nat
  lo : Nat
  hi : Nat

/-- A version that was let in; wv: its wants' row. -/
structure It where
  n : Nat
  v : Nat
  y : Bool
  wv : Value
  ws : List Nd

def It.cells (x : It) : List Value := [.int .i64 x.n, .int .i64 x.v, .bool x.y, x.wv]

def itCells (is : List It) : List Value := is.flatMap It.cells

/-- The shop at block sb, of the depot at db. -/
structure ShopAt (w : World) (sb db : Nat) (ao : Option Addr) (cap : Nat) (is : List It) : Prop where
  c0 : w.cell? ⟨sb, 0, none⟩ = some (.pointer (some ⟨db, 0, none⟩))
  c1 : w.cell? ⟨sb, 1, none⟩ = some (.slice ao is.length cap)
  f0 : w.frozen? ⟨sb, 0, none⟩ = false
  f1 : w.frozen? ⟨sb, 1, none⟩ = false
  own : w.ownsRow (sb + 1) 65 4 (.slice ao is.length cap) is.length (itCells is)
  len : is.length ≤ 1000

structure ItAt (w : World) (g o : Nat) (x : It) : Prop where
  d0 : w.cell? ⟨g, o, none⟩ = some (.int .i64 x.n)
  d1 : w.cell? ⟨g, o + 1, none⟩ = some (.int .i64 x.v)
  d2 : w.cell? ⟨g, o + 2, none⟩ = some (.bool x.y)

section
variable {w w' : World} {sb db : Nat} {ao : Option Addr} {cap : Nat} {is : List It}

theorem ShopAt.lt (h : ShopAt w sb db ao cap is) : sb < w.heap.size := World.block_lt_of_cell? w _ h.c0

theorem ShopAt.entry (h : ShopAt w sb db ao cap is) (k : Nat) (hk : k < is.length) : ∃ g, ao = some ⟨g, 0, none⟩ ∧ ItAt w g (k * 4) is[k] := by
  obtain ⟨g, hao, _, _, key, _⟩ := row_cell (f := It.cells) (n := 4) (fun _ => rfl) h.own k hk
  exact ⟨g, hao, key 0 _ rfl, key 1 _ rfl, key 2 _ rfl⟩

def ShopFoot (sb : Nat) (ao : Option Addr) (k : Nat) : Prop := k = sb ∨ blockOf ao k

theorem ShopAt.foot (h : ShopAt w sb db ao cap is) {k : Nat} (hk : ShopFoot sb ao k) : sb ≤ k ∧ k < w.heap.size := by
  rcases hk with rfl | ⟨a, rfl, rfl⟩
  · exact ⟨Nat.le_refl _, h.lt⟩
  · have := h.own.lt a.block rfl; omega

theorem ShopAt.keep (h : ShopAt w sb db ao cap is) (hk : ∀ k, ShopFoot sb ao k → w'.heap[k]? = w.heap[k]?) : ShopAt w' sb db ao cap is := by
  have h0 : w'.heap[sb]? = w.heap[sb]? := hk sb (Or.inl rfl)
  exact ⟨(World.cell?_of_block h0).trans h.c0, (World.cell?_of_block h0).trans h.c1, (World.frozen?_of_block h0).trans h.f0, (World.frozen?_of_block h0).trans h.f1, ownsRow_keep h.own fun k q => hk k (Or.inr q), h.len⟩

theorem ShopAt.below (h : ShopAt w sb db ao cap is) (hb : Below w.heap.size w w') : ShopAt w' sb db ao cap is := h.keep fun _ hk => hb.block _ (h.foot hk).2

end

def itP (n v : Nat) (x : It) : Bool := x.n == n && x.v == v

set_option maxHeartbeats 400000 in
theorem there_some (sb db : Nat) (ao : Option Addr) (cap : Nat) (is : List It) (n v : Nat) (w : World) (hr : ShopAt w sb db ao cap is)
    (i : Nat) (hi : i < is.length) (hm : itP n v is[i] = true) (hno : ∀ j, (hj : j < is.length) → j < i → itP n v is[j] = false) :
    Calls Tryd.prog 46 #[.pointer (some ⟨sb, 0, none⟩), .int .i64 n, .int .i64 v] w fun e w' => e = .returned (.int .i64 i) ∧ w' = w := by
  have c := hr.c1
  have hlen := hr.len
  have HM := hide hm
  have HN := hide hno
  clear hm hno
  go_enter Tryd.func46, Tryd.ntmps46
  go_wp2
  go_loop [7] (fun x => ∃ k : Nat, k ≤ i ∧ x = .int .i64 k) (fun x => is.length - (intOf x).toNat)
  case atStart => exact ⟨0, Nat.zero_le _, rfl⟩
  case round =>
    obtain ⟨k, hk, rfl⟩ := hrel
    obtain ⟨g, rfl, hx⟩ := hr.entry k (by omega)
    have d0 := hx.d0
    have d1 := hx.d1
    by_cases hlt : k < i
    · have H1 := hide (HN.out k (by omega) hlt)
      cases ha : (is[k].n == n) with
      | false =>
        have ha' : ((is[k].n : Int) == (n : Int)) = false := by simp at ha ⊢; omega
        go_wp2
        go_round
        case rel => exact ⟨k + 1, by omega, by go_num⟩
        case measure => simp [intOf] <;> omega
      | true =>
        have ha' : ((is[k].n : Int) == (n : Int)) = true := by simp at ha ⊢; omega
        have hb : ((is[k].v : Int) == (v : Int)) = false := by have := H1.out; simp [itP, ha] at this; simp; omega
        go_wp2
        go_round
        case rel => exact ⟨k + 1, by omega, by go_num⟩
        case measure => simp [intOf] <;> omega
    · obtain rfl : k = i := by omega
      have h1 : ((is[k].n : Int) == (n : Int)) = true := by have := HM.out; simp [itP] at this; simp [this]
      have h2 : ((is[k].v : Int) == (v : Int)) = true := by have := HM.out; simp [itP] at this; simp [this]
      go_wp2
      go_ret
      exact ⟨rfl, rfl⟩

set_option maxHeartbeats 400000 in
theorem there_none (sb db : Nat) (ao : Option Addr) (cap : Nat) (is : List It) (n v : Nat) (w : World) (hr : ShopAt w sb db ao cap is)
    (hno : ∀ j, (hj : j < is.length) → itP n v is[j] = false) :
    Calls Tryd.prog 46 #[.pointer (some ⟨sb, 0, none⟩), .int .i64 n, .int .i64 v] w fun e w' => e = .returned (.int .i64 (-1)) ∧ w' = w := by
  have c := hr.c1
  have hlen := hr.len
  have HN := hide hno
  clear hno
  go_enter Tryd.func46, Tryd.ntmps46
  go_wp2
  go_loop [7] (fun x => ∃ k : Nat, k ≤ is.length ∧ x = .int .i64 k) (fun x => is.length - (intOf x).toNat)
  case atStart => exact ⟨0, Nat.zero_le _, rfl⟩
  case round =>
    obtain ⟨k, hk, rfl⟩ := hrel
    by_cases hlt : k < is.length
    · obtain ⟨g, rfl, hx⟩ := hr.entry k hlt
      have d0 := hx.d0
      have d1 := hx.d1
      have H1 := hide (HN.out k hlt)
      cases ha : (is[k].n == n) with
      | false =>
        have ha' : ((is[k].n : Int) == (n : Int)) = false := by simp at ha ⊢; omega
        go_wp2
        go_round
        case rel => exact ⟨k + 1, by omega, by go_num⟩
        case measure => simp [intOf] <;> omega
      | true =>
        have ha' : ((is[k].n : Int) == (n : Int)) = true := by simp at ha ⊢; omega
        have hb : ((is[k].v : Int) == (v : Int)) = false := by have := H1.out; simp [itP, ha] at this; simp; omega
        go_wp2
        go_round
        case rel => exact ⟨k + 1, by omega, by go_num⟩
        case measure => simp [intOf] <;> omega
    · obtain rfl : k = is.length := by omega
      go_wp2
      go_ret
      exact ⟨rfl, rfl⟩

/-- How many versions the public has (own false), or the house. -/
def ownN (own : Bool) (is : List It) : Nat := is.countP fun x => decide (3 ≤ x.n) == own

theorem ownN_snoc (own : Bool) (is : List It) (k : Nat) (hk : k < is.length) : ownN own (is.take (k + 1)) = ownN own (is.take k) + (if (decide (3 ≤ is[k].n) == own) = true then 1 else 0) := by
  unfold ownN
  rw [List.take_add_one, List.getElem?_eq_getElem hk, Option.toList_some, List.countP_append, List.countP_cons, List.countP_nil]
  omega

theorem ownN_le (own : Bool) (is : List It) : ownN own is ≤ is.length := List.countP_le_length

set_option maxHeartbeats 400000 in
theorem count_any (sb db : Nat) (ao : Option Addr) (cap : Nat) (is : List It) (own : Bool) (w : World) (hr : ShopAt w sb db ao cap is) :
    Calls Tryd.prog 78 #[.pointer (some ⟨sb, 0, none⟩), .bool own] w fun e w' => e = .returned (.int .i64 (ownN own is : Nat)) ∧ w' = w := by
  have c := hr.c1
  have hlen := hr.len
  go_enter Tryd.func78, Tryd.ntmps78
  go_wp2
  go_loop [5, 6] (fun y x => ∃ k : Nat, k ≤ is.length ∧ x = .int .i64 k ∧ y = .int .i64 (ownN own (is.take k) : Nat)) (fun _ x => is.length - (intOf x).toNat)
  case atStart => exact ⟨0, Nat.zero_le _, rfl, by simp [ownN]⟩
  case round =>
    obtain ⟨k, hk, rfl, rfl⟩ := hrel
    by_cases hlt : k < is.length
    · obtain ⟨g, rfl, hx⟩ := hr.entry k hlt
      have d0 := hx.d0
      have HS := hide (ownN_snoc own is k hlt)
      have hle : ownN own (is.take k) ≤ 1000 := Nat.le_trans (ownN_le _ _) (by rw [List.length_take]; omega)
      by_cases h3 : 3 ≤ is[k].n
      · have h3' : (3 : Int) ≤ (is[k].n : Int) := by omega
        cases own with
        | true =>
          have HS' := hide (show ownN true (is.take (k + 1)) = ownN true (is.take k) + 1 by rw [HS.out]; simp [h3])
          go_wp2
          go_round
          case rel => exact ⟨k + 1, by omega, by go_num, by rw [HS'.out]; go_num⟩
          case measure => simp [intOf] <;> omega
        | false =>
          have HS' := hide (show ownN false (is.take (k + 1)) = ownN false (is.take k) by rw [HS.out]; simp [h3])
          go_wp2
          go_round
          case rel => exact ⟨k + 1, by omega, by go_num, by rw [HS'.out]⟩
          case measure => simp [intOf] <;> omega
      · have h3' : ¬ (3 : Int) ≤ (is[k].n : Int) := by omega
        cases own with
        | true =>
          have HS' := hide (show ownN true (is.take (k + 1)) = ownN true (is.take k) by rw [HS.out]; simp [h3])
          go_wp2
          go_round
          case rel => exact ⟨k + 1, by omega, by go_num, by rw [HS'.out]⟩
          case measure => simp [intOf] <;> omega
        | false =>
          have HS' := hide (show ownN false (is.take (k + 1)) = ownN false (is.take k) + 1 by rw [HS.out]; simp [h3])
          go_wp2
          go_round
          case rel => exact ⟨k + 1, by omega, by go_num, by rw [HS'.out]; go_num⟩
          case measure => simp [intOf] <;> omega
    · obtain rfl : k = is.length := by omega
      go_wp2
      go_ret
      exact ⟨rfl, rfl⟩

end Go.Proofs.YtgcldedkempjhaaDoor
