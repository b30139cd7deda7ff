/-
  depotkeep: need, needs.
-/
import Derived.Test.YtgcldedkempjhaaDoorTurnA
import Derived.Test.YtgcldedkempjhaaDoorShelfTell
import Derived.Test.YtgcldedkempjhaaDoorWntA
import Derived.Deep.RegionWith
import Derived.Test.YtgcldedkempjhaaDoorWntB
import Derived.BigRegion
namespace Go.Proofs.YtgcldedkempjhaaDoor
section
open Go.RowKit

/-- Which of n things a raw number speaks of. -/
def pickN (c : Int) (n : Nat) : Nat := ((if c < 0 then -(c + 1) else c) % (n : Int)).toNat

theorem pickN_lt (c : Int) {n : Nat} (h : 0 < n) : pickN c n < n := by
  unfold pickN
  have h1 : 0 ≤ (if c < 0 then -(c + 1) else c) % (n : Int) := Int.emod_nonneg _ (by omega)
  have h2 : (if c < 0 then -(c + 1) else c) % (n : Int) < n := Int.emod_lt_of_pos _ (by omega)
  omega

theorem pickN_cast (c : Int) {n : Nat} (h : 0 < n) : ((pickN c n : Nat) : Int) = (if c < 0 then -(c + 1) else c) % (n : Int) := by
  unfold pickN
  have h1 : 0 ≤ (if c < 0 then -(c + 1) else c) % (n : Int) := Int.emod_nonneg _ (by omega)
  omega

theorem tmodN (c : Int) (n : Nat) (h : c < 0) : -(c + 1).tmod n = (-(c + 1)) % n := by
  have h1 : (-(c + 1)).tmod n = (-(c + 1)) % n := Int.tmod_eq_emod_of_nonneg (by omega)
  rw [← h1, Int.neg_tmod]

set_option maxHeartbeats 400000 in
theorem pickN_any (c : Int) (n : Nat) (w : World) (h1 : -9223372036854775808 ≤ c) (h2 : c ≤ 9223372036854775807) (hn : 0 < n) (hn9 : n ≤ 9) :
    Calls Tryd.prog 16 #[.int .i64 c, .int .i64 n] w fun e w' => e = .returned (.int .i64 (pickN c n : Nat)) ∧ w' = w := by
  have hz : ((n : Int) == 0) = false := by simp; omega
  have hz' : ¬ (n : Int) = 0 := by omega
  by_cases h0 : c < 0
  · have hf := hide (show ((pickN c n : Nat) : Int) = (-(c + 1)) % n by rw [pickN_cast c hn]; simp [h0])
    go_enter Tryd.func16, Tryd.ntmps16
    go_wp2
    go_ret
    exact ⟨ret_int (by rw [hf.out]; exact tmodN c n h0), rfl⟩
  · have hf := hide (show ((pickN c n : Nat) : Int) = c % n by rw [pickN_cast c hn]; simp [h0])
    go_enter Tryd.func16, Tryd.ntmps16
    go_wp2
    go_ret
    exact ⟨ret_int (by rw [hf.out]), rfl⟩

/-- The six names. -/
def nameK (n : Nat) : ByteArray :=
  match n with
  | 0 => ⟨#[112]⟩
  | 1 => ⟨#[113]⟩
  | 2 => ⟨#[114]⟩
  | 3 => ⟨#[104, 47, 120]⟩
  | 4 => ⟨#[104, 47, 121]⟩
  | _ => ⟨#[104, 47, 122]⟩

set_option maxHeartbeats 400000 in
theorem nameK_any (n : Nat) (hn : n < 6) (w : World) :
    Calls Tryd.prog 18 #[.int .i64 n] w fun e w' => e = .returned (.string (nameK n)) ∧ Below w.heap.size w w' := by
  have hv : n = 0 ∨ n = 1 ∨ n = 2 ∨ n = 3 ∨ n = 4 ∨ n = 5 := by omega
  rcases hv with rfl | rfl | rfl | rfl | rfl | rfl
  all_goals
    go_enter Tryd.func18, Tryd.ntmps18
    go_wp2
    go_ret
    exact ⟨rfl, (Below.refl _ _).alloc (Nat.le_refl _) _⟩

theorem digit_conv (v : Nat) (hn : v < 10) (w : World) :
    (convert 103 9 (.slice (some ⟨w.heap.size, 0, none⟩) 1 1)).run Tryd.prog (w.alloc (.cells #[.int .u8 (48 + (v : Int))] 5)) = .ok (.string (digitS v)) (w.alloc (.cells #[.int .u8 (48 + (v : Int))] 5)) := by
  refine run_convert_bytes_back (P := Tryd.prog) _ 103 9 5 ⟨w.heap.size, 0, none⟩ 1 [UInt8.ofNat (48 + v)] Tryd.underlying103 Tryd.underlying5 Tryd.underlying9 ?_
  intro j hj
  have hj0 : j = 0 := by simpa using hj
  subst hj0
  have hadd : (⟨w.heap.size, 0, none⟩ : Addr).add 0 = ⟨w.heap.size, 0, none⟩ := by unfold Addr.add; split <;> simp_all
  rw [hadd]
  have h1 : (UInt8.ofNat (48 + v)).toNat = 48 + v := by
    rw [UInt8.toNat_ofNat']; omega
  have hh : (w.alloc (.cells #[.int .u8 (48 + (v : Int))] 5)).heap[w.heap.size]? = some (.cells #[.int .u8 (48 + (v : Int))] 5 (0, 0)) := by simp [World.alloc, -World.alloc_eq]
  rw [cell_of_heap hh]
  show some (Value.int .u8 (48 + (v : Int))) = some (.int .u8 ((UInt8.ofNat (48 + v)).toNat : Int))
  rw [h1, Int.natCast_add]
  rfl

set_option maxHeartbeats 1600000 in
theorem digitK_any (v : Nat) (hn : v < 10) (w : World) :
    Calls Tryd.prog 47 #[.int .i64 v] w fun e w' => e = .returned (.string (digitS v)) ∧ Below w.heap.size w w' := by
  have hc := digit_conv v hn w
  go_enter Tryd.func47, Tryd.ntmps47
  go_wp2
  go_ret
  exact ⟨rfl, (Below.refl _ _).alloc (Nat.le_refl _) _⟩

end

section
open Go.RowKit

/-- A want within the bounds. -/
structure Nd where
  n : Nat
  lo : Nat
  hi : Nat

/-- A version that was let in; wv: its wants' row. -/
structure It where
  n : Nat
  v : Nat
  y : Bool
  wv : Value
  ws : List Nd

def It.cells (x : It) : List Value := [.int .i64 x.n, .int .i64 x.v, .bool x.y, x.wv]

def itCells (is : List It) : List Value := is.flatMap It.cells

/-- The shop at block sb, of the depot at db. -/
structure ShopAt (w : World) (sb db : Nat) (ao : Option Addr) (cap : Nat) (is : List It) : Prop where
  c0 : w.cell? ⟨sb, 0, none⟩ = some (.pointer (some ⟨db, 0, none⟩))
  c1 : w.cell? ⟨sb, 1, none⟩ = some (.slice ao is.length cap)
  f0 : w.frozen? ⟨sb, 0, none⟩ = false
  f1 : w.frozen? ⟨sb, 1, none⟩ = false
  own : w.ownsRow (sb + 1) 65 4 (.slice ao is.length cap) is.length (itCells is)
  len : is.length ≤ 1000

structure ItAt (w : World) (g o : Nat) (x : It) : Prop where
  d0 : w.cell? ⟨g, o, none⟩ = some (.int .i64 x.n)
  d1 : w.cell? ⟨g, o + 1, none⟩ = some (.int .i64 x.v)
  d2 : w.cell? ⟨g, o + 2, none⟩ = some (.bool x.y)

section
variable {w w' : World} {sb db : Nat} {ao : Option Addr} {cap : Nat} {is : List It}

theorem ShopAt.lt (h : ShopAt w sb db ao cap is) : sb < w.heap.size := World.block_lt_of_cell? w _ h.c0

theorem ShopAt.entry (h : ShopAt w sb db ao cap is) (k : Nat) (hk : k < is.length) : ∃ g, ao = some ⟨g, 0, none⟩ ∧ ItAt w g (k * 4) is[k] := by
  obtain ⟨g, hao, _, _, key, _⟩ := row_cell (f := It.cells) (n := 4) (fun _ => rfl) h.own k hk
  exact ⟨g, hao, key 0 _ rfl, key 1 _ rfl, key 2 _ rfl⟩

def ShopFoot (sb : Nat) (ao : Option Addr) (k : Nat) : Prop := k = sb ∨ blockOf ao k

theorem ShopAt.foot (h : ShopAt w sb db ao cap is) {k : Nat} (hk : ShopFoot sb ao k) : sb ≤ k ∧ k < w.heap.size := by
  rcases hk with rfl | ⟨a, rfl, rfl⟩
  · exact ⟨Nat.le_refl _, h.lt⟩
  · have := h.own.lt a.block rfl; omega

theorem ShopAt.keep (h : ShopAt w sb db ao cap is) (hk : ∀ k, ShopFoot sb ao k → w'.heap[k]? = w.heap[k]?) : ShopAt w' sb db ao cap is := by
  have h0 : w'.heap[sb]? = w.heap[sb]? := hk sb (Or.inl rfl)
  exact ⟨(World.cell?_of_block h0).trans h.c0, (World.cell?_of_block h0).trans h.c1, (World.frozen?_of_block h0).trans h.f0, (World.frozen?_of_block h0).trans h.f1, ownsRow_keep h.own fun k q => hk k (Or.inr q), h.len⟩

theorem ShopAt.below (h : ShopAt w sb db ao cap is) (hb : Below w.heap.size w w') : ShopAt w' sb db ao cap is := h.keep fun _ hk => hb.block _ (h.foot hk).2

end

def itP (n v : Nat) (x : It) : Bool := x.n == n && x.v == v

set_option maxHeartbeats 400000 in
theorem there_some (sb db : Nat) (ao : Option Addr) (cap : Nat) (is : List It) (n v : Nat) (w : World) (hr : ShopAt w sb db ao cap is)
    (i : Nat) (hi : i < is.length) (hm : itP n v is[i] = true) (hno : ∀ j, (hj : j < is.length) → j < i → itP n v is[j] = false) :
    Calls Tryd.prog 46 #[.pointer (some ⟨sb, 0, none⟩), .int .i64 n, .int .i64 v] w fun e w' => e = .returned (.int .i64 i) ∧ w' = w := by
  have c := hr.c1
  have hlen := hr.len
  have HM := hide hm
  have HN := hide hno
  clear hm hno
  go_enter Tryd.func46, Tryd.ntmps46
  go_wp2
  go_loop [7] (fun x => ∃ k : Nat, k ≤ i ∧ x = .int .i64 k) (fun x => is.length - (intOf x).toNat)
  case atStart => exact ⟨0, Nat.zero_le _, rfl⟩
  case round =>
    obtain ⟨k, hk, rfl⟩ := hrel
    obtain ⟨g, rfl, hx⟩ := hr.entry k (by omega)
    have d0 := hx.d0
    have d1 := hx.d1
    by_cases hlt : k < i
    · have H1 := hide (HN.out k (by omega) hlt)
      cases ha : (is[k].n == n) with
      | false =>
        have ha' : ((is[k].n : Int) == (n : Int)) = false := by simp at ha ⊢; omega
        go_wp2
        go_round
        case rel => exact ⟨k + 1, by omega, by go_num⟩
        case measure => simp [intOf] <;> omega
      | true =>
        have ha' : ((is[k].n : Int) == (n : Int)) = true := by simp at ha ⊢; omega
        have hb : ((is[k].v : Int) == (v : Int)) = false := by have := H1.out; simp [itP, ha] at this; simp; omega
        go_wp2
        go_round
        case rel => exact ⟨k + 1, by omega, by go_num⟩
        case measure => simp [intOf] <;> omega
    · obtain rfl : k = i := by omega
      have h1 : ((is[k].n : Int) == (n : Int)) = true := by have := HM.out; simp [itP] at this; simp [this]
      have h2 : ((is[k].v : Int) == (v : Int)) = true := by have := HM.out; simp [itP] at this; simp [this]
      go_wp2
      go_ret
      exact ⟨rfl, rfl⟩

set_option maxHeartbeats 400000 in
theorem there_none (sb db : Nat) (ao : Option Addr) (cap : Nat) (is : List It) (n v : Nat) (w : World) (hr : ShopAt w sb db ao cap is)
    (hno : ∀ j, (hj : j < is.length) → itP n v is[j] = false) :
    Calls Tryd.prog 46 #[.pointer (some ⟨sb, 0, none⟩), .int .i64 n, .int .i64 v] w fun e w' => e = .returned (.int .i64 (-1)) ∧ w' = w := by
  have c := hr.c1
  have hlen := hr.len
  have HN := hide hno
  clear hno
  go_enter Tryd.func46, Tryd.ntmps46
  go_wp2
  go_loop [7] (fun x => ∃ k : Nat, k ≤ is.length ∧ x = .int .i64 k) (fun x => is.length - (intOf x).toNat)
  case atStart => exact ⟨0, Nat.zero_le _, rfl⟩
  case round =>
    obtain ⟨k, hk, rfl⟩ := hrel
    by_cases hlt : k < is.length
    · obtain ⟨g, rfl, hx⟩ := hr.entry k hlt
      have d0 := hx.d0
      have d1 := hx.d1
      have H1 := hide (HN.out k hlt)
      cases ha : (is[k].n == n) with
      | false =>
        have ha' : ((is[k].n : Int) == (n : Int)) = false := by simp at ha ⊢; omega
        go_wp2
        go_round
        case rel => exact ⟨k + 1, by omega, by go_num⟩
        case measure => simp [intOf] <;> omega
      | true =>
        have ha' : ((is[k].n : Int) == (n : Int)) = true := by simp at ha ⊢; omega
        have hb : ((is[k].v : Int) == (v : Int)) = false := by have := H1.out; simp [itP, ha] at this; simp; omega
        go_wp2
        go_round
        case rel => exact ⟨k + 1, by omega, by go_num⟩
        case measure => simp [intOf] <;> omega
    · obtain rfl : k = is.length := by omega
      go_wp2
      go_ret
      exact ⟨rfl, rfl⟩

/-- How many versions the public has (own false), or the house. -/
def ownN (own : Bool) (is : List It) : Nat := is.countP fun x => decide (3 ≤ x.n) == own

theorem ownN_snoc (own : Bool) (is : List It) (k : Nat) (hk : k < is.length) : ownN own (is.take (k + 1)) = ownN own (is.take k) + (if (decide (3 ≤ is[k].n) == own) = true then 1 else 0) := by
  unfold ownN
  rw [List.take_add_one, List.getElem?_eq_getElem hk, Option.toList_some, List.countP_append, List.countP_cons, List.countP_nil]
  omega

theorem ownN_le (own : Bool) (is : List It) : ownN own is ≤ is.length := List.countP_le_length

set_option maxHeartbeats 400000 in
theorem count_any (sb db : Nat) (ao : Option Addr) (cap : Nat) (is : List It) (own : Bool) (w : World) (hr : ShopAt w sb db ao cap is) :
    Calls Tryd.prog 78 #[.pointer (some ⟨sb, 0, none⟩), .bool own] w fun e w' => e = .returned (.int .i64 (ownN own is : Nat)) ∧ w' = w := by
  have c := hr.c1
  have hlen := hr.len
  go_enter Tryd.func78, Tryd.ntmps78
  go_wp2
  go_loop [5, 6] (fun y x => ∃ k : Nat, k ≤ is.length ∧ x = .int .i64 k ∧ y = .int .i64 (ownN own (is.take k) : Nat)) (fun _ x => is.length - (intOf x).toNat)
  case atStart => exact ⟨0, Nat.zero_le _, rfl, by simp [ownN]⟩
  case round =>
    obtain ⟨k, hk, rfl, rfl⟩ := hrel
    by_cases hlt : k < is.length
    · obtain ⟨g, rfl, hx⟩ := hr.entry k hlt
      have d0 := hx.d0
      have HS := hide (ownN_snoc own is k hlt)
      have hle : ownN own (is.take k) ≤ 1000 := Nat.le_trans (ownN_le _ _) (by rw [List.length_take]; omega)
      by_cases h3 : 3 ≤ is[k].n
      · have h3' : (3 : Int) ≤ (is[k].n : Int) := by omega
        cases own with
        | true =>
          have HS' := hide (show ownN true (is.take (k + 1)) = ownN true (is.take k) + 1 by rw [HS.out]; simp [h3])
          go_wp2
          go_round
          case rel => exact ⟨k + 1, by omega, by go_num, by rw [HS'.out]; go_num⟩
          case measure => simp [intOf] <;> omega
        | false =>
          have HS' := hide (show ownN false (is.take (k + 1)) = ownN false (is.take k) by rw [HS.out]; simp [h3])
          go_wp2
          go_round
          case rel => exact ⟨k + 1, by omega, by go_num, by rw [HS'.out]⟩
          case measure => simp [intOf] <;> omega
      · have h3' : ¬ (3 : Int) ≤ (is[k].n : Int) := by omega
        cases own with
        | true =>
          have HS' := hide (show ownN true (is.take (k + 1)) = ownN true (is.take k) by rw [HS.out]; simp [h3])
          go_wp2
          go_round
          case rel => exact ⟨k + 1, by omega, by go_num, by rw [HS'.out]⟩
          case measure => simp [intOf] <;> omega
        | false =>
          have HS' := hide (show ownN false (is.take (k + 1)) = ownN false (is.take k) + 1 by rw [HS.out]; simp [h3])
          go_wp2
          go_round
          case rel => exact ⟨k + 1, by omega, by go_num, by rw [HS'.out]; go_num⟩
          case measure => simp [intOf] <;> omega
    · obtain rfl : k = is.length := by omega
      go_wp2
      go_ret
      exact ⟨rfl, rfl⟩

end

section
open Go.RowKit

/-- A want, raw. -/
structure RNd where
  n : Int
  lo : Int
  hi : Int

abbrev rndV (x : RNd) : Array Value := #[.int .i64 x.n, .int .i64 x.lo, .int .i64 x.hi]

structure RNdOk (x : RNd) : Prop where
  a1 : -9223372036854775808 ≤ x.n
  a2 : x.n ≤ 9223372036854775807
  b1 : -9223372036854775808 ≤ x.lo
  b2 : x.lo ≤ 9223372036854775807
  c1 : -9223372036854775808 ≤ x.hi
  c2 : x.hi ≤ 9223372036854775807

structure RNdAt (w : World) (g o : Nat) (x : RNd) : Prop where
  d0 : w.cell? ⟨g, o, none⟩ = some (.int .i64 x.n)
  d1 : w.cell? ⟨g, o + 1, none⟩ = some (.int .i64 x.lo)
  d2 : w.cell? ⟨g, o + 2, none⟩ = some (.int .i64 x.hi)

/-- Within the bounds. -/
def ndOf (x : RNd) : Nd := ⟨pickN x.n 6, 1 + pickN x.lo 9, 1 + pickN x.lo 9 + pickN x.hi (10 - (1 + pickN x.lo 9))⟩

structure NdOk (x : Nd) : Prop where
  n : x.n < 6
  lo : 1 ≤ x.lo
  le : x.lo ≤ x.hi
  hi : x.hi ≤ 9

theorem ndOf_ok (x : RNd) : NdOk (ndOf x) := by
  have h1 := pickN_lt x.n (n := 6) (by decide)
  have h2 := pickN_lt x.lo (n := 9) (by decide)
  have h3 := pickN_lt x.hi (n := 10 - (1 + pickN x.lo 9)) (by omega)
  exact ⟨h1, by show 1 ≤ 1 + pickN x.lo 9; omega, by show 1 + pickN x.lo 9 ≤ 1 + pickN x.lo 9 + _; omega, by show 1 + pickN x.lo 9 + _ ≤ 9; omega⟩

def Nd.cells (x : Nd) : List Value := [.int .i64 x.n, .int .i64 x.lo, .int .i64 x.hi]

abbrev ndV (x : Nd) : Array Value := #[.int .i64 x.n, .int .i64 x.lo, .int .i64 x.hi]

def ndsCells (l : List Nd) : List Value := l.flatMap Nd.cells

theorem pickI_any (c m : Int) (w : World) (h1 : -9223372036854775808 ≤ c) (h2 : c ≤ 9223372036854775807) (hn : 0 < m) (hn9 : m ≤ 9) :
    Calls Tryd.prog 16 #[.int .i64 c, .int .i64 m] w fun e w' => e = .returned (.int .i64 (pickN c m.toNat : Nat)) ∧ w' = w := by
  have h := pickN_any c m.toNat w h1 h2 (by omega) (by omega)
  rwa [show ((m.toNat : Nat) : Int) = m by omega] at h

set_option maxHeartbeats 1600000 in
theorem need_any (x : RNd) (hx : RNdOk x) (w : World) :
    Calls Tryd.prog 53 #[.agg (rndV x)] w fun e w' => e = .returned (.agg (ndV (ndOf x))) ∧ Below w.heap.size w w' := by
  obtain ⟨a1, a2, b1, b2, c1, c2⟩ := hx
  have h2 := pickN_lt x.lo (n := 9) (by decide)
  have h3 := pickN_lt x.hi (n := 10 - (1 + pickN x.lo 9)) (by omega)
  have HR := hide (show ∀ v, v = Value.agg #[.int .i64 (pickN x.n 6 : Nat), .int .i64 (1 + (pickN x.lo 9 : Nat)), .int .i64 (1 + (pickN x.lo 9 : Nat) + (pickN x.hi (10 - (1 + (pickN x.lo 9 : Int))).toNat : Nat))] → Ending.returned v = .returned (.agg (ndV (ndOf x))) by
    intro v hv
    rw [hv, show (10 - (1 + (pickN x.lo 9 : Int))).toNat = 10 - (1 + pickN x.lo 9) by omega]
    simp [ndOf, ndV])
  have h3' : pickN x.hi (10 - (1 + (pickN x.lo 9 : Int))).toNat ≤ 9 := by
    rw [show (10 - (1 + (pickN x.lo 9 : Int))).toNat = 10 - (1 + pickN x.lo 9) by omega]; omega
  clear h3
  have HL := hide (fun W => pickN_any x.lo 9 W b1 b2 (by decide) (by decide))
  go_enter Tryd.func53, Tryd.ntmps53
  go_wp2_with fail
  refine (HL.out _).mono ?_
  rintro e w1 ⟨rfl, hw⟩
  subst hw
  generalize pickN x.lo 9 = pl at *
  have hw10 : IntKind.i64.wrap (10 - (1 + (pl : Int))) = 10 - (1 + (pl : Int)) := by rw [IntKind.wrap_i64]; omega
  have hw19 : IntKind.i64.wrap (1 + (pl : Int) + (pickN x.hi (10 - (1 + (pl : Int))).toNat : Nat)) = 1 + (pl : Int) + (pickN x.hi (10 - (1 + (pl : Int))).toNat : Nat) := by rw [IntKind.wrap_i64]; omega
  go_wp2_with fail
  go_region_with (go_at_call 16; (try rw [hw10]); refine (pickI_any _ _ _ ?_ ?_ ?_ ?_).mono ?_; omega; omega; omega; omega; rintro e w2 ⟨rfl, hw⟩; subst hw)
  all_goals
    go_wp2_with fail
    exact bodyPost_ret (v := .agg #[.int .i64 (pickN x.n 6 : Nat), .int .i64 (1 + (pl : Nat)), .int .i64 (1 + (pl : Nat) + (pickN x.hi (10 - (1 + (pl : Int))).toNat : Nat))]) (by simp [results, Tryd.results53, go_sem]) rfl ⟨HR.out _ rfl, below_drawn (((Below.refl _ _).alloc (Nat.le_refl _) _).alloc (by simp) _) 1⟩

theorem Tryd.infoNeed : (Tryd.prog.info? 62).map (fun i => (i.zero, i.size, i.bytes)) = some (some (.agg #[.int .i64 0, .int .i64 0, .int .i64 0]), 3, 24) := by kernel_rfl

/-- A row of raw wants: the first six of them. -/
def RNds (w : World) (so : Option Addr) (len : Nat) (f : Nat → RNd) : Prop :=
  ∀ i, i < len → i < 6 → ∃ g o, so = some ⟨g, o, none⟩ ∧ g < w.heap.size ∧ RNdAt w g (o + i * 3) (f i) ∧ RNdOk (f i)

theorem RNdAt.keep {w w' : World} {g o : Nat} {x : RNd} (h : RNdAt w g o x) (hk : w'.heap[g]? = w.heap[g]?) : RNdAt w' g o x :=
  ⟨(World.cell?_of_block hk).trans h.d0, (World.cell?_of_block hk).trans h.d1, (World.cell?_of_block hk).trans h.d2⟩

/-- The wants within the bounds. -/
def ndsOf (len : Nat) (f : Nat → RNd) : List Nd := (List.range (min len 6)).map fun i => ndOf (f i)

def ndsTo (f : Nat → RNd) (k : Nat) : List Nd := (List.range k).map fun i => ndOf (f i)

theorem ndsTo_succ (f : Nat → RNd) (k : Nat) : ndsTo f (k + 1) = ndsTo f k ++ [ndOf (f k)] := by
  unfold ndsTo; rw [List.range_succ, List.map_append]; rfl

theorem heap1_new (w : World) (o : Obj) : (w.alloc o).heap[w.heap.size]? = some o := by simp [World.alloc, -World.alloc_eq]

set_option maxHeartbeats 1600000 in
theorem needs_any (so : Option Addr) (len cap : Nat) (f : Nat → RNd) (w : World) (hlen : len ≤ 9223372036854775807) (hf : RNds w so len f) :
    Calls Tryd.prog 19 #[.slice so len cap] w fun e w' => ∃ ao c, e = .returned (.slice ao (ndsOf len f).length c) ∧ w'.ownsRow w.heap.size 62 3 (.slice ao (ndsOf len f).length c) (ndsOf len f).length (ndsCells (ndsOf len f)) ∧ Below w.heap.size w w' := by
  obtain ⟨i0, ti, hz0, hz1, hz2⟩ := info_parts Tryd.infoNeed
  have HF := hide hf
  clear hf
  go_enter Tryd.func19, Tryd.ntmps19
  go_wp2_with fail
  go_loopw [3, 4] (fun v i wr => ∃ (k : Nat) (ao : Option Addr) (cp : Nat), v = .slice ao k cp ∧ k ≤ min len 6 ∧ i = .int .i64 k ∧ wr.ownsRow w.heap.size 62 3 (.slice ao k cp) k (ndsCells (ndsTo f k)) ∧ Below w.heap.size w wr) (fun _ i _ => 6 - (intOf i).toNat)
  case atStart => exact ⟨0, none, 0, rfl, Nat.zero_le _, rfl, World.ownsRow_nil _ _ _ _, Below.refl _ _⟩
  case round =>
    obtain ⟨k, ao, cp, rfl, hk, rfl, hown, hb⟩ := hrel
    by_cases hlt : k < len ∧ k < 6
    · obtain ⟨hl1, hl2⟩ := hlt
      obtain ⟨g, o, rfl, hg, hx, hok⟩ := HF.out k hl1 hl2
      have hx' := hx.keep (hb.block g hg)
      have d0 := hx'.d0
      have d1 := hx'.d1
      have d2 := hx'.d2
      have HP := hide (fun W => need_any (f k) hok W)
      have HS := hide (ndsTo_succ f k)
      clear hx hx' hok
      generalize ndOf (f k) = y at *
      have hl1' : (k : Int) < (len : Int) := by omega
      have hl2' : (k : Int) < 6 := by omega
      go_wp2_with fail
      refine (HP.out _).mono ?_
      rintro e w1 ⟨rfl, hb1⟩
      have hb2 := below_call hb hb1
      have hown1 := ownsRow_keep' hown hb1
      clear HP d0 d1 d2
      go_wp2_with (at_builtin; refine wpList_append_own2 _ rfl (.tmp 15) (.tmp 21) 49 rfl w.heap.size 62 i0 (.agg #[.int .i64 0, .int .i64 0, .int .i64 0]) 3 24 Tryd.underlying49 ti hz0 hz1 hz2 rfl (by decide) _ k (ndsCells (ndsTo f k)) rfl (hown1.alloc _) ⟨w1.heap.size, 0, none⟩ 1 1 y.cells rfl rfl (news_at (t := 62) (fr := (0, 0)) (heap1_new w1 _)) ?_ (by unfold maxLen; omega) (by omega) ?_ (by omega) ?_)
      · intro u hu
        simp [Nd.cells] at hu
        rcases hu with rfl | rfl | rfl <;> rfl
      · have := hb2.size; simp; omega
      · intro g' cap' w2 hown2 hgrow _
        have hb3 : Below w.heap.size w w2 := (hb2.alloc hb2.size _).grown hgrow (by have := hb2.size; simp; omega) (fun k' hk' => (hown1.lt k' hk').1)
        have HO := hide hown2
        clear hown hown1 hown2 hgrow hb hb1 hb2
        go_wp2_with fail
        go_roundw
        case rel => exact ⟨k + 1, some ⟨g', 0, none⟩, cap', rfl, by omega, by go_num, by rw [HS.out]; simpa [ndsCells] using HO.out, hb3⟩
        case measure => simp [intOf] <;> omega
    · have HE := hide (show k = (ndsOf len f).length by unfold ndsOf; simp; omega)
      have HE2 := hide (show ndsTo f k = ndsOf len f by unfold ndsOf ndsTo; rw [show k = min len 6 by omega])
      by_cases hl1 : k < len
      · have hl2' : ¬ (k : Int) < 6 := by omega
        have hl1' : (k : Int) < (len : Int) := by omega
        go_wp2_with fail
        go_ret
        exact ⟨ao, cp, by rw [← HE.out]; rfl, by rw [← HE.out, ← HE2.out]; exact hown, hb⟩
      · have hl1' : ¬ (k : Int) < (len : Int) := by omega
        go_wp2_with fail
        go_ret
        exact ⟨ao, cp, by rw [← HE.out]; rfl, by rw [← HE.out, ← HE2.out]; exact hown, hb⟩

end

end Go.Proofs.YtgcldedkempjhaaDoor
