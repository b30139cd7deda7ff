/-
  depot.Depot in memory; find, held, mayManage, words.IsWord.
-/
import Derived.Test.YtdddbinlkljbcaaRingMint
import Derived.Test.YtdddbinlkljbcaaRefSmall
import Derived.Deep.RegionWith
namespace Go.Proofs.Ytdddbinlkljbcaa
open Go.RowKit

structure Hse where
  name : ByteArray
  toks : List Tok
  ao : Option Addr
  cap : Nat

def Hse.cells (x : Hse) : List Value := [.string x.name, .slice x.ao x.toks.length x.cap]

def hsesCells (hs : List Hse) : List Value := hs.flatMap Hse.cells

theorem hsesCells_get (hs : List Hse) (k j : Nat) (hk : k < hs.length) (hj : j < 2) : (hsesCells hs)[2 * k + j]? = (hs[k]).cells[j]? := by
  induction hs generalizing k with
  | nil => simp at hk
  | cons x hs ih =>
    have hl : x.cells.length = 2 := rfl
    cases k with
    | zero =>
      show (x.cells ++ hsesCells hs)[2 * 0 + j]? = _
      rw [List.getElem?_append_left (by rw [hl]; omega)]
      simp
    | succ k =>
      show (x.cells ++ hsesCells hs)[2 * (k + 1) + j]? = _
      rw [List.getElem?_append_right (by rw [hl]; omega), hl, show 2 * (k + 1) + j - 2 = 2 * k + j from by omega]
      rw [ih k (by simpa using hk)]
      simp

/-- The program's depot at block db. -/
structure DepAt (w : World) (db : Nat) (root clock : Int) (ho : Option Addr) (hcap : Nat) (hs : List Hse) : Prop where
  c0 : w.cell? ⟨db, 0, none⟩ = some (.int .i64 root)
  c1 : w.cell? ⟨db, 1, none⟩ = some (.int .i64 clock)
  c2 : w.cell? ⟨db, 2, none⟩ = some (.slice ho hs.length hcap)
  f1 : w.frozen? ⟨db, 1, none⟩ = false
  f2 : w.frozen? ⟨db, 2, none⟩ = false
  own : w.ownsRow (db + 1) 82 2 (.slice ho hs.length hcap) hs.length (hsesCells hs)
  ring : ∀ i, (hi : i < hs.length) → w.ownsRow (db + 1) 104 4 (.slice hs[i].ao hs[i].toks.length hs[i].cap) hs[i].toks.length (toksCells hs[i].toks)
  sep : ∀ i j, (hi : i < hs.length) → (hj : j < hs.length) → i ≠ j → ∀ k, blockOf hs[i].ao k → ¬ blockOf hs[j].ao k
  len : hs.length ≤ 6
  tlen : ∀ i, (hi : i < hs.length) → hs[i].toks.length ≤ 8

def DepFoot (db : Nat) (ho : Option Addr) (hs : List Hse) (k : Nat) : Prop := k = db ∨ blockOf ho k ∨ ∃ i, ∃ hi : i < hs.length, blockOf hs[i].ao k

section
variable {w w' : World} {db : Nat} {root clock : Int} {ho : Option Addr} {hcap : Nat} {hs : List Hse}

theorem DepAt.lt (h : DepAt w db root clock ho hcap hs) : db < w.heap.size := World.block_lt_of_cell? w _ h.c0

theorem blockOf_lt {base : Nat} {e : TypeId} {size n c m : Nat} {ao : Option Addr} {xs : List Value} (h : w.ownsRow base e size (.slice ao n c) m xs) {k : Nat} (hk : blockOf ao k) : base ≤ k ∧ k < w.heap.size := by
  obtain ⟨a, rfl, rfl⟩ := hk
  exact h.lt a.block rfl

theorem blockOf_heap {base : Nat} {e : TypeId} {size n c m : Nat} {ao : Option Addr} {xs : List Value} (h : w.ownsRow base e size (.slice ao n c) m xs) {k : Nat} (hk : blockOf ao k) : ∃ cur, w.heap[k]? = some (.cells cur e (0, 0)) := by
  obtain ⟨a, rfl, rfl⟩ := hk
  rcases h.2 with ⟨h0, _⟩ | ⟨g, cp, cur, hv, _, hg, _⟩
  · cases h0
  · injection hv with e1 _ _
    injection e1 with e1
    subst e1
    exact ⟨cur, hg⟩

theorem ownsRow_keep {base : Nat} {e : TypeId} {size n c m : Nat} {ao : Option Addr} {xs : List Value} (h : w.ownsRow base e size (.slice ao n c) m xs) (hk : ∀ k, blockOf ao k → w'.heap[k]? = w.heap[k]?) : w'.ownsRow base e size (.slice ao n c) m xs := by
  refine ⟨h.1, ?_⟩
  rcases h.2 with h0 | ⟨g, cp, cur, hv, hb, hg, r⟩
  · exact Or.inl h0
  · refine Or.inr ⟨g, cp, cur, hv, hb, ?_, r⟩
    have hao : ao = some ⟨g, 0, none⟩ := by injection hv
    rw [hk g ⟨_, hao, rfl⟩]; exact hg

theorem DepAt.foot (h : DepAt w db root clock ho hcap hs) {k : Nat} (hk : DepFoot db ho hs k) : db ≤ k ∧ k < w.heap.size := by
  rcases hk with rfl | hk | ⟨i, hi, hk⟩
  · exact ⟨Nat.le_refl _, h.lt⟩
  · have := blockOf_lt h.own hk; omega
  · have := blockOf_lt (h.ring i hi) hk; omega

theorem DepAt.keep (h : DepAt w db root clock ho hcap hs) (hk : ∀ k, DepFoot db ho hs k → w'.heap[k]? = w.heap[k]?) : DepAt w' db root clock ho hcap hs := by
  have h0 : w'.heap[db]? = w.heap[db]? := hk db (Or.inl rfl)
  exact ⟨(World.cell?_of_block h0).trans h.c0, (World.cell?_of_block h0).trans h.c1, (World.cell?_of_block h0).trans h.c2, (World.frozen?_of_block h0).trans h.f1, (World.frozen?_of_block h0).trans h.f2,
    ownsRow_keep h.own (fun k b => hk k (Or.inr (Or.inl b))), fun i hi => ownsRow_keep (h.ring i hi) (fun k b => hk k (Or.inr (Or.inr ⟨i, hi, b⟩))), h.sep, h.len, h.tlen⟩

theorem DepAt.below (h : DepAt w db root clock ho hcap hs) (hb : Below w.heap.size w w') : DepAt w' db root clock ho hcap hs :=
  h.keep fun k hk => hb.block k (h.foot hk).2

theorem DepAt.house (h : DepAt w db root clock ho hcap hs) (i : Nat) (hi : i < hs.length) :
    ∃ g, ho = some ⟨g, 0, none⟩ ∧ g < w.heap.size ∧ db < g ∧ w.cell? ⟨g, i * 2, none⟩ = some (.string hs[i].name) ∧ RingAt w (db + 1) g (i * 2 + 1) hs[i].ao hs[i].cap hs[i].toks ∧ ¬ blockOf hs[i].ao g := by
  rcases h.own.2 with ⟨hn, h0⟩ | ⟨g, cp, cur, hv, hbg, hg, _⟩
  · omega
  · have hao : ho = some ⟨g, 0, none⟩ := by injection hv
    have key : ∀ j u, (hs[i]).cells[j]? = some u → w.cell? ⟨g, i * 2 + j, none⟩ = some u := by
      intro j u hu
      have hj : j < 2 := (List.getElem?_eq_some_iff.1 hu).1
      have hget := hsesCells_get hs i j hi hj
      have := h.own.cells (g := g) (by rw [hao]; rfl) (2 * i + j) u (hget.trans hu)
      rw [← this]
      congr 1
      unfold Addr.add; split <;> simp_all <;> omega
    refine ⟨g, hao, (Array.getElem?_eq_some_iff.1 hg).1, hbg, key 0 _ rfl, ⟨key 1 _ rfl, frozen_of_heap hg _, h.ring i hi⟩, fun hb => ?_⟩
    obtain ⟨cur', hg'⟩ := blockOf_heap (h.ring i hi) hb
    rw [hg] at hg'
    injection hg' with e
    injection e with _ e _
    exact absurd e (by decide)

end

theorem RingAt.same {w w' : World} {base b o : Nat} {ao : Option Addr} {cap : Nat} {ts : List Tok} (h : RingAt w base b o ao cap ts) (hh : w'.heap = w.heap) : RingAt w' base b o ao cap ts :=
  ⟨(World.cell?_of_block (by rw [hh])).trans h.c, (World.frozen?_of_block (by rw [hh])).trans h.f, ownsRow_keep h.own (fun _ _ => by rw [hh])⟩

set_option maxHeartbeats 400000 in
theorem depFind_some (db : Nat) (root clock : Int) (ho : Option Addr) (hcap : Nat) (hs : List Hse) (nm : ByteArray) (w : World) (hr : DepAt w db root clock ho hcap hs)
    (i : Nat) (hi : i < hs.length) (hm : hs[i].name.toList = nm.toList) (hno : ∀ j, (hj : j < hs.length) → j < i → hs[j].name.toList ≠ nm.toList) :
    Calls Try.prog 32 #[.pointer (some ⟨db, 0, none⟩), .string nm] w fun e w' => e = .returned (.int .i64 i) ∧ w' = w := by
  have c := hr.c2
  have hlen := hr.len
  have HM := hide hm
  have HN := hide hno
  clear hm hno
  go_enter Try.func32, Try.ntmps32
  go_wp2
  go_loop [5] (fun x => ∃ k : Nat, k ≤ i ∧ x = .int .i64 k) (fun x => hs.length - (intOf x).toNat)
  case atStart => exact ⟨0, Nat.zero_le _, rfl⟩
  case round =>
    obtain ⟨k, hk, rfl⟩ := hrel
    obtain ⟨g, rfl, hg, _, d0, _, _⟩ := hr.house k (by omega)
    by_cases hlt : k < i
    · have h1 : (hs[k].name.toList == nm.toList) = false := beq_eq_false_iff_ne.2 (HN.out k (by omega) hlt)
      go_wp2
      go_round
      case rel => exact ⟨k + 1, by omega, by go_num⟩
      case measure => simp [intOf] <;> omega
    · obtain rfl : k = i := by omega
      have h1 : (hs[k].name.toList == nm.toList) = true := beq_iff_eq.2 HM.out
      go_wp2
      go_ret
      exact ⟨rfl, rfl⟩

set_option maxHeartbeats 400000 in
theorem depFind_none (db : Nat) (root clock : Int) (ho : Option Addr) (hcap : Nat) (hs : List Hse) (nm : ByteArray) (w : World) (hr : DepAt w db root clock ho hcap hs)
    (hno : ∀ j, (hj : j < hs.length) → hs[j].name.toList ≠ nm.toList) :
    Calls Try.prog 32 #[.pointer (some ⟨db, 0, none⟩), .string nm] w fun e w' => e = .returned (.int .i64 (-1)) ∧ w' = w := by
  have c := hr.c2
  have hlen := hr.len
  have HN := hide hno
  clear hno
  go_enter Try.func32, Try.ntmps32
  go_wp2
  go_loop [5] (fun x => ∃ k : Nat, k ≤ hs.length ∧ x = .int .i64 k) (fun x => hs.length - (intOf x).toNat)
  case atStart => exact ⟨0, Nat.zero_le _, rfl⟩
  case round =>
    obtain ⟨k, hk, rfl⟩ := hrel
    by_cases hlt : k < hs.length
    · obtain ⟨g, rfl, hg, _, d0, _, _⟩ := hr.house k (by omega)
      have h1 : (hs[k].name.toList == nm.toList) = false := beq_eq_false_iff_ne.2 (HN.out k (by omega))
      go_wp2
      go_round
      case rel => exact ⟨k + 1, by omega, by go_num⟩
      case measure => simp [intOf] <;> omega
    · go_wp2
      go_ret
      exact ⟨rfl, rfl⟩

def hseF (hs : List Hse) (nm : ByteArray) : Option Hse := hs.find? fun h => h.name.toList == nm.toList

theorem hse_cases (hs : List Hse) (n : ByteArray) :
    (∃ i, ∃ hi : i < hs.length, hs[i].name.toList = n.toList ∧ (∀ j, (hj : j < hs.length) → j < i → hs[j].name.toList ≠ n.toList) ∧ hseF hs n = some hs[i]) ∨
    ((∀ j, (hj : j < hs.length) → hs[j].name.toList ≠ n.toList) ∧ hseF hs n = none) := by
  induction hs with
  | nil => exact Or.inr ⟨fun j hj => by simp at hj, rfl⟩
  | cons t ts ih =>
    by_cases ht : t.name.toList = n.toList
    · exact Or.inl ⟨0, by simp, by simpa using ht, fun j _ h => by omega, by simp [hseF, ht]⟩
    · have hb : (t.name.toList == n.toList) = false := beq_eq_false_iff_ne.2 ht
      rcases ih with ⟨i, hi, h1, h2, h3⟩ | ⟨h1, h2⟩
      · refine Or.inl ⟨i + 1, by simp; omega, by simpa using h1, ?_, ?_⟩
        · intro j hj hlt
          cases j with
          | zero => simpa using ht
          | succ j => simpa using h2 j (by simpa using hj) (by omega)
        · simp only [hseF, List.find?_cons, hb] at *
          simpa using h3
      · refine Or.inr ⟨?_, ?_⟩
        · intro j hj
          cases j with
          | zero => simpa using ht
          | succ j => simpa using h1 j (by simpa using hj)
        · simp only [hseF, List.find?_cons, hb] at *
          exact h2

def heldF (root clock : Int) (hs : List Hse) (house : ByteArray) (id : Int) : Int :=
  if house.toList.isEmpty then (if id == root then 4 else 0) else
  match hseF hs house with
  | none => 0
  | some h => roleT h.toks id clock

set_option maxHeartbeats 400000 in
theorem held_any (db : Nat) (root clock : Int) (ho : Option Addr) (hcap : Nat) (hs : List Hse) (house : ByteArray) (id : Int) (w : World) (hr : DepAt w db root clock ho hcap hs) :
    Calls Try.prog 30 #[.pointer (some ⟨db, 0, none⟩), .string house, .int .i64 id] w fun e w' =>
      e = .returned (.int .i64 (heldF root clock hs house id)) ∧ Below w.heap.size w w' := by
  have c0 := hr.c0
  have c1 := hr.c1
  have c2 := hr.c2
  have hdb := hr.lt
  have hlen := hr.len
  cases hemp : house.toList.isEmpty with
  | true =>
    cases hid : (id == root) with
    | true =>
      have hfin := hide (show heldF root clock hs house id = 4 by simp [heldF, hemp, hid])
      go_enter Try.func30, Try.ntmps30
      go_wp2
      go_ret
      exact ⟨ret_int hfin.out.symm, Below.refl _ _⟩
    | false =>
      have hfin := hide (show heldF root clock hs house id = 0 by simp [heldF, hemp, hid])
      go_enter Try.func30, Try.ntmps30
      go_wp2
      go_ret
      exact ⟨ret_int hfin.out.symm, Below.refl _ _⟩
  | false =>
    rcases hse_cases hs house with ⟨i, hi, h1, h2, h3⟩ | ⟨h1, h3⟩
    · obtain ⟨g, rfl, hg, _, d0, hring, _⟩ := hr.house i hi
      have hfin := hide (show heldF root clock hs house id = roleT hs[i].toks id clock by simp [heldF, hemp, h3])
      have Hc := hide (depFind_some db root clock _ hcap hs house w hr i hi h1 h2)
      have htl := hr.tlen i hi
      clear h1 h2 h3
      go_enter Try.func30, Try.ntmps30
      go_wp2_with fail
      refine Hc.out.mono ?_
      rintro e w1 ⟨rfl, h⟩
      subst h
      go_wp2_with fail
      go_region_with (go_at_call 57; refine (ringRole_any (db + 1) g (i * 2 + 1) hs[i].ao hs[i].cap hs[i].toks id clock _ ?_ ?_).mono ?_; exact hring.same rfl; omega; rintro e w2 ⟨rfl, hb⟩)
      all_goals
        have hb' : Below w1.heap.size w1 w2 := ⟨hb.os, hb.tape, hb.output, hb.size, hb.block⟩
        clear hb
        go_wp2_with fail
        go_ret
        exact ⟨ret_int hfin.out.symm, hb'⟩
    · have hfin := hide (show heldF root clock hs house id = 0 by simp [heldF, hemp, h3])
      have Hc := hide (depFind_none db root clock ho hcap hs house w hr h1)
      clear h1 h3
      go_enter Try.func30, Try.ntmps30
      go_wp2_with fail
      refine Hc.out.mono ?_
      rintro e w1 ⟨rfl, h⟩
      subst h
      go_wp2_with fail
      go_ret
      exact ⟨ret_int hfin.out.symm, Below.refl _ _⟩

def manageF (r : Int) (same : Bool) : Int := if r == 0 then 3 else if r == 4 then 0 else if r == 3 then (if same then 0 else 4) else 4

set_option maxHeartbeats 400000 in
theorem mayManage_any (db : Nat) (root clock : Int) (ho : Option Addr) (hcap : Nat) (hs : List Hse) (house : ByteArray) (id : Int) (of : ByteArray) (w : World) (hr : DepAt w db root clock ho hcap hs) :
    Calls Try.prog 33 #[.pointer (some ⟨db, 0, none⟩), .string house, .int .i64 id, .string of] w fun e w' =>
      e = .returned (.int .i64 (manageF (heldF root clock hs house id) (house.toList == of.toList))) ∧ Below w.heap.size w w' := by
  have Hc := hide (held_any db root clock ho hcap hs house id w hr)
  generalize heldF root clock hs house id = r at *
  go_enter Try.func33, Try.ntmps33
  go_wp2_with fail
  refine Hc.out.mono ?_
  rintro e w1 ⟨rfl, hb⟩
  go_wp2_with fail
  all_goals
    go_ret
    exact ⟨ret_int (by simp [manageF, *]), hb⟩

set_option maxHeartbeats 400000 in
theorem isWord_any (s : ByteArray) (w : World) :
    Calls Try.prog 31 #[.string s] w fun e w' => e = .returned (.bool (wordF s)) ∧ w' = w := by
  by_cases h1 : s.size < 1
  · have hf := hide (wordF_short s h1)
    go_enter Try.func31, Try.ntmps31
    go_wp2
    go_ret
    exact ⟨ret_bool hf.out.symm, rfl⟩
  · by_cases h2 : 4 < s.size
    · have hf := hide (wordF_long s h2)
      go_enter Try.func31, Try.ntmps31
      go_wp2
      go_ret
      exact ⟨ret_bool hf.out.symm, rfl⟩
    · go_enter Try.func31, Try.ntmps31
      go_wp2
      go_loop [3] (fun i => ∃ k : Nat, k ≤ s.size ∧ i = .int .i64 k ∧ (s.data.toList.take k).all lowB = true) (fun i => s.size - (intOf i).toNat)
      case atStart => exact ⟨0, Nat.zero_le _, rfl, rfl⟩
      case round =>
        obtain ⟨k, hk, rfl, hall⟩ := hrel
        have HA := hide hall
        clear hall
        by_cases hlt : k < s.size
        · have HT := hide (take_snoc s k hlt)
          have HL := hide (lowB_iff s[k])
          have HN := hide (fun h => wordF_no s k hlt h)
          go_wp2
          · go_ret
            exact ⟨ret_bool (HN.out (by rw [← Bool.not_eq_true, HL.out]; omega)).symm, rfl⟩
          · go_round
            case rel => exact ⟨k + 1, by omega, by go_num, by rw [HT.out, List.all_append, HA.out]; simp [HL.out]; omega⟩
            case measure => simp [intOf] <;> omega
          · go_ret
            exact ⟨ret_bool (HN.out (by rw [← Bool.not_eq_true, HL.out]; omega)).symm, rfl⟩
        · go_wp2
          go_ret
          refine ⟨ret_bool ?_, rfl⟩
          have := HA.out
          rw [List.take_of_length_le (by simp; omega)] at this
          simp [wordF, this]; omega

end Go.Proofs.Ytdddbinlkljbcaa
