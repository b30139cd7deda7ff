/-
  depotkeep: line of any turn; told; what a turn lays behind the logs.
-/
import Derived.Test.YtgcldedkempjhaaDoorPlay
import Derived.Deep.DeepCutAuto
import Derived.Test.YtgcldedkempjhaaDoorOpenA
namespace Go.Proofs.YtgcldedkempjhaaDoor
section
open Go.RowKit

set_option maxHeartbeats 1600000 in
set_option maxRecDepth 100000 in
theorem ksum_any (s : ByteArray) (w : World) (hl : s.size ≤ 4611686018427387000) :
    Calls Tryd.prog 32 #[.string s] w fun e w' => e = .returned (.int .i64 (sumF s.data.toList)) ∧ Below w.heap.size w w' := by
  have hsl : s.data.toList.length = s.size := by simp
  go_enter Tryd.func32, Tryd.ntmps32
  go_wp2_with fail
  go_loopw [3, 4] (fun v i wr => ∃ k : Nat, k ≤ s.size ∧ i = .int .i64 k ∧ v = .int .i64 (sumF (s.data.toList.take k)) ∧ Below w.heap.size w wr) (fun _ i _ => s.size - (intOf i).toNat)
  case atStart => exact ⟨0, Nat.zero_le _, rfl, by rw [sumF_nil]; rfl, Below.refl _ _⟩
  case round =>
    obtain ⟨k, hk, rfl, rfl, hb⟩ := hrel
    by_cases hlt : k < s.size
    · have hlt' : k < s.data.toList.length := by omega
      have hv := sumF_lt s.data.toList k (by omega)
      have hnx := sumF_take s.data.toList k hlt'
      have hget : s.data.toList[k] = s[k] := rfl
      have hby : s[k].toNat < 256 := s[k].toNat_lt
      have HST := hide (sum_step _ s.data.toList[k] hv)
      rw [← hnx, hget] at HST
      clear hnx
      generalize sumF (s.data.toList.take k) = v at *
      generalize hq : sumF (s.data.toList.take (k + 1)) = q at *
      have HQ := hide hq
      clear hq
      go_wp2_with fail
      go_roundw
      case rel => exact ⟨k + 1, hlt, by go_num, by rw [HST.out, HQ.out], hb⟩
      case measure => simp [intOf] <;> omega
    · obtain rfl : k = s.size := by omega
      rw [← hsl, List.take_length]
      go_wp2_with fail
      go_ret
      exact ⟨rfl, hb⟩

/-- A number in tens, as a text. -/
def ten (n : Int) : ByteArray := ⟨(Lib.itoa n).toArray⟩

theorem ten_size {n : Int} (h : I64 n) : (ten n).size ≤ 21 := by
  unfold ten
  rw [size_list]
  exact itoa_le h

/-- The line that a turn lays behind a log, as its text is put together; and which house's. -/
def lineW (x : TurnD) : ByteArray × ByteArray :=
  let pre := ten (showsI x.who x.id) ++ ⟨#[58]⟩
  let num := ⟨#[32]⟩ ++ ten x.a
  if x.kind = 2 then (pre ++ ⟨#[109, 105, 110, 116, 32]⟩ ++ ten x.b ++ num ++ ⟨#[32]⟩ ++ ten x.c ++ ⟨#[59]⟩, x.of)
  else if x.kind = 3 then (pre ++ ⟨#[114, 101, 118, 111, 107, 101]⟩ ++ num ++ ⟨#[59]⟩, x.of)
  else if x.kind = 4 then (pre ++ ⟨#[112, 117, 98, 108, 105, 115, 104, 32]⟩ ++ x.s ++ num ++ ⟨#[59]⟩, showsH x.who)
  else if x.kind = 5 then (pre ++ (if (x.b.tmod 2 != 0) = true then ⟨#[98, 97, 99, 107, 32]⟩ else ⟨#[121, 97, 110, 107, 32]⟩) ++ x.s ++ num ++ ⟨#[59]⟩, showsH x.who)
  else if x.kind = 6 then (pre ++ ⟨#[103, 114, 97, 110, 116, 32]⟩ ++ x.s ++ ⟨#[32]⟩ ++ x.t ++ ⟨#[59]⟩, showsH x.who)
  else (⟨#[]⟩, ⟨#[]⟩)

set_option maxHeartbeats 1600000 in
set_option maxRecDepth 100000 in
theorem kline_publish (x : TurnD) (house : ByteArray) (id : Int) (w : World) (htab : TabOk w) (hx : TurnFit x) (hk : x.kind = 4) (e1 : house = showsH x.who) (e2 : id = showsI x.who x.id) :
    Calls Tryd.prog 35 #[.agg (turnV x)] w fun e w' => e = .returned (.tuple #[.string (ten id ++ ⟨#[58]⟩ ++ ⟨#[112, 117, 98, 108, 105, 115, 104, 32]⟩ ++ x.s ++ (⟨#[32]⟩ ++ ten x.a) ++ ⟨#[59]⟩), .string house]) ∧ Below w.heap.size w w' := by
  have hsa := ten_size hx.a
  have hsi : (ten id).size ≤ 21 := ten_size (e2 ▸ shows_i64 x.who hx.id)
  have hss := hx.s
  have hst := hx.t
  have hsb := ten_size hx.b
  have hsc := ten_size hx.c
  have HX := hide hx
  have Hs := hide (fun W => shows_any x house id W hx.who.1 hx.who.2 e1 e2)
  have HI := hide (show ∀ W, TabOk W → Calls Tryd.prog 29 #[.int .i64 id] W fun e w' => e = .returned (.string (ten id)) ∧ Below W.heap.size W w' from fun W h => itoa_any id (e2 ▸ shows_i64 x.who hx.id) W h)
  have HA := hide (show ∀ W, TabOk W → Calls Tryd.prog 29 #[.int .i64 x.a] W fun e w' => e = .returned (.string (ten x.a)) ∧ Below W.heap.size W w' from fun W h => itoa_any x.a (hx.a) W h)
  have HBt := hide (show ∀ W, TabOk W → Calls Tryd.prog 29 #[.int .i64 x.b] W fun e w' => e = .returned (.string (ten x.b)) ∧ Below W.heap.size W w' from fun W h => itoa_any x.b (hx.b) W h)
  have HCt := hide (show ∀ W, TabOk W → Calls Tryd.prog 29 #[.int .i64 x.c] W fun e w' => e = .returned (.string (ten x.c)) ∧ Below W.heap.size W w' from fun W h => itoa_any x.c (hx.c) W h)
  obtain ⟨who, kd, xid, of, s, t, a, b, c⟩ := x
  obtain rfl : kd = 4 := hk
  clear e1 e2 hx
  simp only at hsa hsb hsc hss hst
  generalize ten id = di at *
  generalize ten a = da at *
  generalize ten b = dbb at *
  generalize ten c = dc at *
  go_enter Tryd.func35, Tryd.ntmps35
  go_wp2_with fail
  refine (Hs.out _).mono ?_
  rintro e w1 ⟨rfl, hb1⟩
  have hbx := below_alloc_call (Below.refl _ _) hb1
  have hb0 : w.heap.size < w1.heap.size := new_lt hb1
  have hbox : w1.heap[w.heap.size]? = some (.cells (turnV ⟨who, 4, xid, of, s, t, a, b, c⟩) 32 (0, 0)) := by rw [hb1.block w.heap.size (by simp)]; exact heap_alloc_new w _
  clear hb1
  go_wp2_with fail
  refine (HI.out _ (htab.below hbx)).mono ?_
  rintro e w2 ⟨rfl, hb2⟩
  have hbx2 := below_call hbx hb2
  have hbox2 := (hb2.block _ hb0).trans hbox
  have hb02 : w.heap.size < w2.heap.size := Nat.lt_of_lt_of_le hb0 hb2.size
  have p6 : w2.cell? ⟨w.heap.size, 6, none⟩ = some (.int .i64 a) := (cell_of_heap hbox2 6).trans rfl
  clear hb2 hbox hbx
  go_wp2_with fail
  refine (HA.out _ (htab.below hbx2)).mono ?_
  rintro e w3 ⟨rfl, hb3⟩
  have hbx3 := below_call hbx2 hb3
  have hbox3 := (hb3.block _ hb02).trans hbox2
  have hb03 : w.heap.size < w3.heap.size := Nat.lt_of_lt_of_le hb02 hb3.size
  have HT3 := hide (htab.below hbx3)
  clear hb3 hbox2 hbx2 p6
  have o1 : w3.cell? ⟨w.heap.size, 1, none⟩ = some _ := (cell_of_heap hbox3 1).trans rfl
  have o4 : w3.cell? ⟨w.heap.size, 4, none⟩ = some _ := (cell_of_heap hbox3 4).trans rfl
  go_wp2_with fail
  go_ret2
  exact ⟨rfl, hbx3⟩

set_option maxHeartbeats 1600000 in
set_option maxRecDepth 100000 in
theorem kline_back (x : TurnD) (house : ByteArray) (id : Int) (w : World) (htab : TabOk w) (hx : TurnFit x) (hk : x.kind = 5) (hb : (x.b.tmod 2 != 0) = true) (e1 : house = showsH x.who) (e2 : id = showsI x.who x.id) :
    Calls Tryd.prog 35 #[.agg (turnV x)] w fun e w' => e = .returned (.tuple #[.string (ten id ++ ⟨#[58]⟩ ++ ⟨#[98, 97, 99, 107, 32]⟩ ++ x.s ++ (⟨#[32]⟩ ++ ten x.a) ++ ⟨#[59]⟩), .string house]) ∧ Below w.heap.size w w' := by
  have hsa := ten_size hx.a
  have hsi : (ten id).size ≤ 21 := ten_size (e2 ▸ shows_i64 x.who hx.id)
  have hss := hx.s
  have hst := hx.t
  have hsb := ten_size hx.b
  have hsc := ten_size hx.c
  have HX := hide hx
  have Hs := hide (fun W => shows_any x house id W hx.who.1 hx.who.2 e1 e2)
  have HI := hide (show ∀ W, TabOk W → Calls Tryd.prog 29 #[.int .i64 id] W fun e w' => e = .returned (.string (ten id)) ∧ Below W.heap.size W w' from fun W h => itoa_any id (e2 ▸ shows_i64 x.who hx.id) W h)
  have HA := hide (show ∀ W, TabOk W → Calls Tryd.prog 29 #[.int .i64 x.a] W fun e w' => e = .returned (.string (ten x.a)) ∧ Below W.heap.size W w' from fun W h => itoa_any x.a (hx.a) W h)
  have HBt := hide (show ∀ W, TabOk W → Calls Tryd.prog 29 #[.int .i64 x.b] W fun e w' => e = .returned (.string (ten x.b)) ∧ Below W.heap.size W w' from fun W h => itoa_any x.b (hx.b) W h)
  have HCt := hide (show ∀ W, TabOk W → Calls Tryd.prog 29 #[.int .i64 x.c] W fun e w' => e = .returned (.string (ten x.c)) ∧ Below W.heap.size W w' from fun W h => itoa_any x.c (hx.c) W h)
  obtain ⟨who, kd, xid, of, s, t, a, b, c⟩ := x
  obtain rfl : kd = 5 := hk
  simp only at hb
  clear e1 e2 hx
  simp only at hsa hsb hsc hss hst
  generalize ten id = di at *
  generalize ten a = da at *
  generalize ten b = dbb at *
  generalize ten c = dc at *
  go_enter Tryd.func35, Tryd.ntmps35
  go_wp2_with fail
  refine (Hs.out _).mono ?_
  rintro e w1 ⟨rfl, hb1⟩
  have hbx := below_alloc_call (Below.refl _ _) hb1
  have hb0 : w.heap.size < w1.heap.size := new_lt hb1
  have hbox : w1.heap[w.heap.size]? = some (.cells (turnV ⟨who, 5, xid, of, s, t, a, b, c⟩) 32 (0, 0)) := by rw [hb1.block w.heap.size (by simp)]; exact heap_alloc_new w _
  clear hb1
  go_wp2_with fail
  refine (HI.out _ (htab.below hbx)).mono ?_
  rintro e w2 ⟨rfl, hb2⟩
  have hbx2 := below_call hbx hb2
  have hbox2 := (hb2.block _ hb0).trans hbox
  have hb02 : w.heap.size < w2.heap.size := Nat.lt_of_lt_of_le hb0 hb2.size
  have p6 : w2.cell? ⟨w.heap.size, 6, none⟩ = some (.int .i64 a) := (cell_of_heap hbox2 6).trans rfl
  clear hb2 hbox hbx
  go_wp2_with fail
  refine (HA.out _ (htab.below hbx2)).mono ?_
  rintro e w3 ⟨rfl, hb3⟩
  have hbx3 := below_call hbx2 hb3
  have hbox3 := (hb3.block _ hb02).trans hbox2
  have hb03 : w.heap.size < w3.heap.size := Nat.lt_of_lt_of_le hb02 hb3.size
  have HT3 := hide (htab.below hbx3)
  clear hb3 hbox2 hbx2 p6
  have o1 : w3.cell? ⟨w.heap.size, 1, none⟩ = some _ := (cell_of_heap hbox3 1).trans rfl
  have o4 : w3.cell? ⟨w.heap.size, 4, none⟩ = some _ := (cell_of_heap hbox3 4).trans rfl
  have o7 : w3.cell? ⟨w.heap.size, 7, none⟩ = some _ := (cell_of_heap hbox3 7).trans rfl
  go_wp2_with fail
  go_ret2
  exact ⟨rfl, hbx3⟩

set_option maxHeartbeats 1600000 in
set_option maxRecDepth 100000 in
theorem kline_yank (x : TurnD) (house : ByteArray) (id : Int) (w : World) (htab : TabOk w) (hx : TurnFit x) (hk : x.kind = 5) (hb : (x.b.tmod 2 != 0) = false) (e1 : house = showsH x.who) (e2 : id = showsI x.who x.id) :
    Calls Tryd.prog 35 #[.agg (turnV x)] w fun e w' => e = .returned (.tuple #[.string (ten id ++ ⟨#[58]⟩ ++ ⟨#[121, 97, 110, 107, 32]⟩ ++ x.s ++ (⟨#[32]⟩ ++ ten x.a) ++ ⟨#[59]⟩), .string house]) ∧ Below w.heap.size w w' := by
  have hsa := ten_size hx.a
  have hsi : (ten id).size ≤ 21 := ten_size (e2 ▸ shows_i64 x.who hx.id)
  have hss := hx.s
  have hst := hx.t
  have hsb := ten_size hx.b
  have hsc := ten_size hx.c
  have HX := hide hx
  have Hs := hide (fun W => shows_any x house id W hx.who.1 hx.who.2 e1 e2)
  have HI := hide (show ∀ W, TabOk W → Calls Tryd.prog 29 #[.int .i64 id] W fun e w' => e = .returned (.string (ten id)) ∧ Below W.heap.size W w' from fun W h => itoa_any id (e2 ▸ shows_i64 x.who hx.id) W h)
  have HA := hide (show ∀ W, TabOk W → Calls Tryd.prog 29 #[.int .i64 x.a] W fun e w' => e = .returned (.string (ten x.a)) ∧ Below W.heap.size W w' from fun W h => itoa_any x.a (hx.a) W h)
  have HBt := hide (show ∀ W, TabOk W → Calls Tryd.prog 29 #[.int .i64 x.b] W fun e w' => e = .returned (.string (ten x.b)) ∧ Below W.heap.size W w' from fun W h => itoa_any x.b (hx.b) W h)
  have HCt := hide (show ∀ W, TabOk W → Calls Tryd.prog 29 #[.int .i64 x.c] W fun e w' => e = .returned (.string (ten x.c)) ∧ Below W.heap.size W w' from fun W h => itoa_any x.c (hx.c) W h)
  obtain ⟨who, kd, xid, of, s, t, a, b, c⟩ := x
  obtain rfl : kd = 5 := hk
  simp only at hb
  clear e1 e2 hx
  simp only at hsa hsb hsc hss hst
  generalize ten id = di at *
  generalize ten a = da at *
  generalize ten b = dbb at *
  generalize ten c = dc at *
  go_enter Tryd.func35, Tryd.ntmps35
  go_wp2_with fail
  refine (Hs.out _).mono ?_
  rintro e w1 ⟨rfl, hb1⟩
  have hbx := below_alloc_call (Below.refl _ _) hb1
  have hb0 : w.heap.size < w1.heap.size := new_lt hb1
  have hbox : w1.heap[w.heap.size]? = some (.cells (turnV ⟨who, 5, xid, of, s, t, a, b, c⟩) 32 (0, 0)) := by rw [hb1.block w.heap.size (by simp)]; exact heap_alloc_new w _
  clear hb1
  go_wp2_with fail
  refine (HI.out _ (htab.below hbx)).mono ?_
  rintro e w2 ⟨rfl, hb2⟩
  have hbx2 := below_call hbx hb2
  have hbox2 := (hb2.block _ hb0).trans hbox
  have hb02 : w.heap.size < w2.heap.size := Nat.lt_of_lt_of_le hb0 hb2.size
  have p6 : w2.cell? ⟨w.heap.size, 6, none⟩ = some (.int .i64 a) := (cell_of_heap hbox2 6).trans rfl
  clear hb2 hbox hbx
  go_wp2_with fail
  refine (HA.out _ (htab.below hbx2)).mono ?_
  rintro e w3 ⟨rfl, hb3⟩
  have hbx3 := below_call hbx2 hb3
  have hbox3 := (hb3.block _ hb02).trans hbox2
  have hb03 : w.heap.size < w3.heap.size := Nat.lt_of_lt_of_le hb02 hb3.size
  have HT3 := hide (htab.below hbx3)
  clear hb3 hbox2 hbx2 p6
  have o1 : w3.cell? ⟨w.heap.size, 1, none⟩ = some _ := (cell_of_heap hbox3 1).trans rfl
  have o4 : w3.cell? ⟨w.heap.size, 4, none⟩ = some _ := (cell_of_heap hbox3 4).trans rfl
  have o7 : w3.cell? ⟨w.heap.size, 7, none⟩ = some _ := (cell_of_heap hbox3 7).trans rfl
  go_wp2_with fail
  go_ret2
  exact ⟨rfl, hbx3⟩

set_option maxHeartbeats 1600000 in
set_option maxRecDepth 100000 in
theorem kline_grant (x : TurnD) (house : ByteArray) (id : Int) (w : World) (htab : TabOk w) (hx : TurnFit x) (hk : x.kind = 6) (e1 : house = showsH x.who) (e2 : id = showsI x.who x.id) :
    Calls Tryd.prog 35 #[.agg (turnV x)] w fun e w' => e = .returned (.tuple #[.string (ten id ++ ⟨#[58]⟩ ++ ⟨#[103, 114, 97, 110, 116, 32]⟩ ++ x.s ++ ⟨#[32]⟩ ++ x.t ++ ⟨#[59]⟩), .string house]) ∧ Below w.heap.size w w' := by
  have hsa := ten_size hx.a
  have hsi : (ten id).size ≤ 21 := ten_size (e2 ▸ shows_i64 x.who hx.id)
  have hss := hx.s
  have hst := hx.t
  have hsb := ten_size hx.b
  have hsc := ten_size hx.c
  have HX := hide hx
  have Hs := hide (fun W => shows_any x house id W hx.who.1 hx.who.2 e1 e2)
  have HI := hide (show ∀ W, TabOk W → Calls Tryd.prog 29 #[.int .i64 id] W fun e w' => e = .returned (.string (ten id)) ∧ Below W.heap.size W w' from fun W h => itoa_any id (e2 ▸ shows_i64 x.who hx.id) W h)
  have HA := hide (show ∀ W, TabOk W → Calls Tryd.prog 29 #[.int .i64 x.a] W fun e w' => e = .returned (.string (ten x.a)) ∧ Below W.heap.size W w' from fun W h => itoa_any x.a (hx.a) W h)
  have HBt := hide (show ∀ W, TabOk W → Calls Tryd.prog 29 #[.int .i64 x.b] W fun e w' => e = .returned (.string (ten x.b)) ∧ Below W.heap.size W w' from fun W h => itoa_any x.b (hx.b) W h)
  have HCt := hide (show ∀ W, TabOk W → Calls Tryd.prog 29 #[.int .i64 x.c] W fun e w' => e = .returned (.string (ten x.c)) ∧ Below W.heap.size W w' from fun W h => itoa_any x.c (hx.c) W h)
  obtain ⟨who, kd, xid, of, s, t, a, b, c⟩ := x
  obtain rfl : kd = 6 := hk
  clear e1 e2 hx
  simp only at hsa hsb hsc hss hst
  generalize ten id = di at *
  generalize ten a = da at *
  generalize ten b = dbb at *
  generalize ten c = dc at *
  go_enter Tryd.func35, Tryd.ntmps35
  go_wp2_with fail
  refine (Hs.out _).mono ?_
  rintro e w1 ⟨rfl, hb1⟩
  have hbx := below_alloc_call (Below.refl _ _) hb1
  have hb0 : w.heap.size < w1.heap.size := new_lt hb1
  have hbox : w1.heap[w.heap.size]? = some (.cells (turnV ⟨who, 6, xid, of, s, t, a, b, c⟩) 32 (0, 0)) := by rw [hb1.block w.heap.size (by simp)]; exact heap_alloc_new w _
  clear hb1
  go_wp2_with fail
  refine (HI.out _ (htab.below hbx)).mono ?_
  rintro e w2 ⟨rfl, hb2⟩
  have hbx2 := below_call hbx hb2
  have hbox2 := (hb2.block _ hb0).trans hbox
  have hb02 : w.heap.size < w2.heap.size := Nat.lt_of_lt_of_le hb0 hb2.size
  have p6 : w2.cell? ⟨w.heap.size, 6, none⟩ = some (.int .i64 a) := (cell_of_heap hbox2 6).trans rfl
  clear hb2 hbox hbx
  go_wp2_with fail
  refine (HA.out _ (htab.below hbx2)).mono ?_
  rintro e w3 ⟨rfl, hb3⟩
  have hbx3 := below_call hbx2 hb3
  have hbox3 := (hb3.block _ hb02).trans hbox2
  have hb03 : w.heap.size < w3.heap.size := Nat.lt_of_lt_of_le hb02 hb3.size
  have HT3 := hide (htab.below hbx3)
  clear hb3 hbox2 hbx2 p6
  have o1 : w3.cell? ⟨w.heap.size, 1, none⟩ = some _ := (cell_of_heap hbox3 1).trans rfl
  have o4 : w3.cell? ⟨w.heap.size, 4, none⟩ = some _ := (cell_of_heap hbox3 4).trans rfl
  have o5 : w3.cell? ⟨w.heap.size, 5, none⟩ = some _ := (cell_of_heap hbox3 5).trans rfl
  go_wp2_with fail
  go_ret2
  exact ⟨rfl, hbx3⟩

set_option maxHeartbeats 1600000 in
set_option maxRecDepth 100000 in
theorem kline_revoke (x : TurnD) (house : ByteArray) (id : Int) (w : World) (htab : TabOk w) (hx : TurnFit x) (hk : x.kind = 3) (e1 : house = showsH x.who) (e2 : id = showsI x.who x.id) :
    Calls Tryd.prog 35 #[.agg (turnV x)] w fun e w' => e = .returned (.tuple #[.string (ten id ++ ⟨#[58]⟩ ++ ⟨#[114, 101, 118, 111, 107, 101]⟩ ++ (⟨#[32]⟩ ++ ten x.a) ++ ⟨#[59]⟩), .string x.of]) ∧ Below w.heap.size w w' := by
  have hsa := ten_size hx.a
  have hsi : (ten id).size ≤ 21 := ten_size (e2 ▸ shows_i64 x.who hx.id)
  have hss := hx.s
  have hst := hx.t
  have hsb := ten_size hx.b
  have hsc := ten_size hx.c
  have HX := hide hx
  have Hs := hide (fun W => shows_any x house id W hx.who.1 hx.who.2 e1 e2)
  have HI := hide (show ∀ W, TabOk W → Calls Tryd.prog 29 #[.int .i64 id] W fun e w' => e = .returned (.string (ten id)) ∧ Below W.heap.size W w' from fun W h => itoa_any id (e2 ▸ shows_i64 x.who hx.id) W h)
  have HA := hide (show ∀ W, TabOk W → Calls Tryd.prog 29 #[.int .i64 x.a] W fun e w' => e = .returned (.string (ten x.a)) ∧ Below W.heap.size W w' from fun W h => itoa_any x.a (hx.a) W h)
  have HBt := hide (show ∀ W, TabOk W → Calls Tryd.prog 29 #[.int .i64 x.b] W fun e w' => e = .returned (.string (ten x.b)) ∧ Below W.heap.size W w' from fun W h => itoa_any x.b (hx.b) W h)
  have HCt := hide (show ∀ W, TabOk W → Calls Tryd.prog 29 #[.int .i64 x.c] W fun e w' => e = .returned (.string (ten x.c)) ∧ Below W.heap.size W w' from fun W h => itoa_any x.c (hx.c) W h)
  obtain ⟨who, kd, xid, of, s, t, a, b, c⟩ := x
  obtain rfl : kd = 3 := hk
  clear e1 e2 hx
  simp only at hsa hsb hsc hss hst
  generalize ten id = di at *
  generalize ten a = da at *
  generalize ten b = dbb at *
  generalize ten c = dc at *
  go_enter Tryd.func35, Tryd.ntmps35
  go_wp2_with fail
  refine (Hs.out _).mono ?_
  rintro e w1 ⟨rfl, hb1⟩
  have hbx := below_alloc_call (Below.refl _ _) hb1
  have hb0 : w.heap.size < w1.heap.size := new_lt hb1
  have hbox : w1.heap[w.heap.size]? = some (.cells (turnV ⟨who, 3, xid, of, s, t, a, b, c⟩) 32 (0, 0)) := by rw [hb1.block w.heap.size (by simp)]; exact heap_alloc_new w _
  clear hb1
  go_wp2_with fail
  refine (HI.out _ (htab.below hbx)).mono ?_
  rintro e w2 ⟨rfl, hb2⟩
  have hbx2 := below_call hbx hb2
  have hbox2 := (hb2.block _ hb0).trans hbox
  have hb02 : w.heap.size < w2.heap.size := Nat.lt_of_lt_of_le hb0 hb2.size
  have p6 : w2.cell? ⟨w.heap.size, 6, none⟩ = some (.int .i64 a) := (cell_of_heap hbox2 6).trans rfl
  clear hb2 hbox hbx
  go_wp2_with fail
  refine (HA.out _ (htab.below hbx2)).mono ?_
  rintro e w3 ⟨rfl, hb3⟩
  have hbx3 := below_call hbx2 hb3
  have hbox3 := (hb3.block _ hb02).trans hbox2
  have hb03 : w.heap.size < w3.heap.size := Nat.lt_of_lt_of_le hb02 hb3.size
  have HT3 := hide (htab.below hbx3)
  clear hb3 hbox2 hbx2 p6
  have o1 : w3.cell? ⟨w.heap.size, 1, none⟩ = some _ := (cell_of_heap hbox3 1).trans rfl
  have o3 : w3.cell? ⟨w.heap.size, 3, none⟩ = some _ := (cell_of_heap hbox3 3).trans rfl
  go_wp2_with fail
  go_region
  all_goals
    go_wp2_with fail
    go_ret2
    exact ⟨rfl, below_drawn hbx3 _⟩

/-- A boxed value, as it was made, in a later world. -/
structure BoxOk (w W : World) (b : Nat) (o : Obj) : Prop where
  box : W.heap[b]? = some o
  bel : Below w.heap.size w W
  tab : TabOk W

theorem BoxOk.step {w W W1 w2 : World} {b : Nat} {o : Obj} (h : BoxOk w W b o) (hb : Below W1.heap.size W1 w2) (e1 : W1.heap = W.heap) (e2 : W1.os = W.os) (e3 : W1.tape = W.tape) (e4 : W1.output = W.output) : BoxOk w w2 b o := by
  have hlt : b < W.heap.size := (Array.getElem?_eq_some_iff.1 h.box).1
  have hb1 : Below W.heap.size W w2 := ⟨hb.os.trans e2, hb.tape.trans e3, hb.output.trans e4, by have := hb.size; rw [e1] at this; exact this, fun k hk => (hb.block k (by rw [e1]; exact hk)).trans (by rw [e1])⟩
  exact ⟨(hb1.block b hlt).trans h.box, below_call h.bel hb1, h.tab.below hb1⟩

set_option maxHeartbeats 1600000 in
set_option maxRecDepth 100000 in
theorem kline_mint (x : TurnD) (house : ByteArray) (id : Int) (w : World) (htab : TabOk w) (hx : TurnFit x) (hk : x.kind = 2) (e1 : house = showsH x.who) (e2 : id = showsI x.who x.id) :
    Calls Tryd.prog 35 #[.agg (turnV x)] w fun e w' => e = .returned (.tuple #[.string (ten id ++ ⟨#[58]⟩ ++ ⟨#[109, 105, 110, 116, 32]⟩ ++ ten x.b ++ (⟨#[32]⟩ ++ ten x.a) ++ ⟨#[32]⟩ ++ ten x.c ++ ⟨#[59]⟩), .string x.of]) ∧ Below w.heap.size w w' := by
  have hsa := ten_size hx.a
  have hsi : (ten id).size ≤ 21 := ten_size (e2 ▸ shows_i64 x.who hx.id)
  have hss := hx.s
  have hst := hx.t
  have hsb := ten_size hx.b
  have hsc := ten_size hx.c
  have HX := hide hx
  have Hs := hide (fun W => shows_any x house id W hx.who.1 hx.who.2 e1 e2)
  have HI := hide (show ∀ W, TabOk W → Calls Tryd.prog 29 #[.int .i64 id] W fun e w' => e = .returned (.string (ten id)) ∧ Below W.heap.size W w' from fun W h => itoa_any id (e2 ▸ shows_i64 x.who hx.id) W h)
  have HA := hide (show ∀ W, TabOk W → Calls Tryd.prog 29 #[.int .i64 x.a] W fun e w' => e = .returned (.string (ten x.a)) ∧ Below W.heap.size W w' from fun W h => itoa_any x.a (hx.a) W h)
  have HBt := hide (show ∀ W, TabOk W → Calls Tryd.prog 29 #[.int .i64 x.b] W fun e w' => e = .returned (.string (ten x.b)) ∧ Below W.heap.size W w' from fun W h => itoa_any x.b (hx.b) W h)
  have HCt := hide (show ∀ W, TabOk W → Calls Tryd.prog 29 #[.int .i64 x.c] W fun e w' => e = .returned (.string (ten x.c)) ∧ Below W.heap.size W w' from fun W h => itoa_any x.c (hx.c) W h)
  obtain ⟨who, kd, xid, of, s, t, a, b, c⟩ := x
  obtain rfl : kd = 2 := hk
  clear e1 e2 hx
  simp only at hsa hsb hsc hss hst
  generalize ten id = di at *
  generalize ten a = da at *
  go_enter Tryd.func35, Tryd.ntmps35
  go_wp2_with fail
  refine (Hs.out _).mono ?_
  rintro e w1 ⟨rfl, hb1⟩
  have hbx := below_alloc_call (Below.refl _ _) hb1
  have hb0 : w.heap.size < w1.heap.size := new_lt hb1
  have hbox : w1.heap[w.heap.size]? = some (.cells (turnV ⟨who, 2, xid, of, s, t, a, b, c⟩) 32 (0, 0)) := by rw [hb1.block w.heap.size (by simp)]; exact heap_alloc_new w _
  clear hb1
  go_wp2_with fail
  refine (HI.out _ (htab.below hbx)).mono ?_
  rintro e w2 ⟨rfl, hb2⟩
  have hbx2 := below_call hbx hb2
  have hbox2 := (hb2.block _ hb0).trans hbox
  have hb02 : w.heap.size < w2.heap.size := Nat.lt_of_lt_of_le hb0 hb2.size
  have p6 : w2.cell? ⟨w.heap.size, 6, none⟩ = some (.int .i64 a) := (cell_of_heap hbox2 6).trans rfl
  clear hb2 hbox hbx
  go_wp2_with fail
  refine (HA.out _ (htab.below hbx2)).mono ?_
  rintro e w3 ⟨rfl, hb3⟩
  have hbx3 := below_call hbx2 hb3
  have hbox3 := (hb3.block _ hb02).trans hbox2
  have hb03 : w.heap.size < w3.heap.size := Nat.lt_of_lt_of_le hb02 hb3.size
  have HT3 := hide (htab.below hbx3)
  clear hb3 hbox2 hbx2 p6
  have o1 : w3.cell? ⟨w.heap.size, 1, none⟩ = some _ := (cell_of_heap hbox3 1).trans rfl
  have o3 : w3.cell? ⟨w.heap.size, 3, none⟩ = some (.string of) := (cell_of_heap hbox3 3).trans rfl
  have o7 : w3.cell? ⟨w.heap.size, 7, none⟩ = some (.int .i64 b) := (cell_of_heap hbox3 7).trans rfl
  have o8 : w3.cell? ⟨w.heap.size, 8, none⟩ = some (.int .i64 c) := (cell_of_heap hbox3 8).trans rfl
  have HG := hide (show ∀ n, I64 n → ∀ W, TabOk W → Calls Tryd.prog 29 #[.int .i64 n] W fun e w' => e = .returned (.string (ten n)) ∧ Below W.heap.size W w' from fun n hn W h => itoa_any n hn W h)
  have hIb : I64 b := HX.out.b
  have hIc : I64 c := HX.out.c
  have hx : BoxOk w w3 w.heap.size (.cells (turnV ⟨who, 2, xid, of, s, t, a, b, c⟩) 32 (0, 0)) := ⟨hbox3, hbx3, HT3.out⟩
  have m1 : ¬ 9223372036854775807 < di.size + 1 + 5 := by omega
  have m2 : ¬ 9223372036854775807 < di.size + 1 + 5 + (ten b).size := by omega
  have m3 : ¬ 9223372036854775807 < di.size + 1 + 5 + (ten b).size + (1 + da.size) := by omega
  have m4 : ¬ 9223372036854775807 < di.size + 1 + 5 + (ten b).size + (1 + da.size) + 1 := by omega
  have m5 : ¬ 9223372036854775807 < di.size + 1 + 5 + (ten b).size + (1 + da.size) + 1 + (ten c).size := by omega
  have m6 : ¬ 9223372036854775807 < di.size + 1 + 5 + (ten b).size + (1 + da.size) + 1 + (ten c).size + 1 := by omega
  clear hbox3 hbx3 HT3
  go_wp2_with fail
  go_region_held3 (fun W => W.cell? ⟨w.heap.size, 3, none⟩ = some (.string of) ∧ W.cell? ⟨w.heap.size, 7, none⟩ = some (.int .i64 b) ∧ W.cell? ⟨w.heap.size, 8, none⟩ = some (.int .i64 c)) (exact ⟨(cell_of_heap hx.box 3).trans rfl, (cell_of_heap hx.box 7).trans rfl, (cell_of_heap hx.box 8).trans rfl⟩) (first
    | ((go_at_call 29; refine (HG.out _ ?_ _ ?_).mono ?_; (first | exact hIb | exact hIc); exact hx.tab.keep rfl; rintro e w4 ⟨rfl, hbb⟩; have hx := hx.step hbb rfl rfl rfl rfl; clear hbb)))
  all_goals
    go_wp2_with fail
    go_ret2
    exact ⟨rfl, hx.bel⟩

set_option maxHeartbeats 1600000 in
set_option maxRecDepth 100000 in
theorem kline_none (x : TurnD) (house : ByteArray) (id : Int) (w : World) (htab : TabOk w) (hx : TurnFit x) (k2 : x.kind ≠ 2) (k3 : x.kind ≠ 3) (k4 : x.kind ≠ 4) (k5 : x.kind ≠ 5) (k6 : x.kind ≠ 6) (e1 : house = showsH x.who) (e2 : id = showsI x.who x.id) :
    Calls Tryd.prog 35 #[.agg (turnV x)] w fun e w' => e = .returned (.tuple #[.string ⟨#[]⟩, .string ⟨#[]⟩]) ∧ Below w.heap.size w w' := by
  have hsa := ten_size hx.a
  have hsi : (ten id).size ≤ 21 := ten_size (e2 ▸ shows_i64 x.who hx.id)
  have hss := hx.s
  have hst := hx.t
  have hsb := ten_size hx.b
  have hsc := ten_size hx.c
  have HX := hide hx
  have Hs := hide (fun W => shows_any x house id W hx.who.1 hx.who.2 e1 e2)
  have HI := hide (show ∀ W, TabOk W → Calls Tryd.prog 29 #[.int .i64 id] W fun e w' => e = .returned (.string (ten id)) ∧ Below W.heap.size W w' from fun W h => itoa_any id (e2 ▸ shows_i64 x.who hx.id) W h)
  have HA := hide (show ∀ W, TabOk W → Calls Tryd.prog 29 #[.int .i64 x.a] W fun e w' => e = .returned (.string (ten x.a)) ∧ Below W.heap.size W w' from fun W h => itoa_any x.a (hx.a) W h)
  have HBt := hide (show ∀ W, TabOk W → Calls Tryd.prog 29 #[.int .i64 x.b] W fun e w' => e = .returned (.string (ten x.b)) ∧ Below W.heap.size W w' from fun W h => itoa_any x.b (hx.b) W h)
  have HCt := hide (show ∀ W, TabOk W → Calls Tryd.prog 29 #[.int .i64 x.c] W fun e w' => e = .returned (.string (ten x.c)) ∧ Below W.heap.size W w' from fun W h => itoa_any x.c (hx.c) W h)
  obtain ⟨who, kd, xid, of, s, t, a, b, c⟩ := x
  simp only at k2 k3 k4 k5 k6
  have q2 : (kd == 2) = false := by rw [beq_eq_false_iff_ne]; exact k2
  have q3 : (kd == 3) = false := by rw [beq_eq_false_iff_ne]; exact k3
  have q4 : (kd == 4) = false := by rw [beq_eq_false_iff_ne]; exact k4
  have q5 : (kd == 5) = false := by rw [beq_eq_false_iff_ne]; exact k5
  have q6 : (kd == 6) = false := by rw [beq_eq_false_iff_ne]; exact k6
  clear e1 e2 hx
  simp only at hsa hsb hsc hss hst
  generalize ten id = di at *
  generalize ten a = da at *
  generalize ten b = dbb at *
  generalize ten c = dc at *
  go_enter Tryd.func35, Tryd.ntmps35
  go_wp2_with fail
  refine (Hs.out _).mono ?_
  rintro e w1 ⟨rfl, hb1⟩
  have hbx := below_alloc_call (Below.refl _ _) hb1
  have hb0 : w.heap.size < w1.heap.size := new_lt hb1
  have hbox : w1.heap[w.heap.size]? = some (.cells (turnV ⟨who, kd, xid, of, s, t, a, b, c⟩) 32 (0, 0)) := by rw [hb1.block w.heap.size (by simp)]; exact heap_alloc_new w _
  clear hb1
  go_wp2_with fail
  refine (HI.out _ (htab.below hbx)).mono ?_
  rintro e w2 ⟨rfl, hb2⟩
  have hbx2 := below_call hbx hb2
  have hbox2 := (hb2.block _ hb0).trans hbox
  have hb02 : w.heap.size < w2.heap.size := Nat.lt_of_lt_of_le hb0 hb2.size
  have p6 : w2.cell? ⟨w.heap.size, 6, none⟩ = some (.int .i64 a) := (cell_of_heap hbox2 6).trans rfl
  clear hb2 hbox hbx
  go_wp2_with fail
  refine (HA.out _ (htab.below hbx2)).mono ?_
  rintro e w3 ⟨rfl, hb3⟩
  have hbx3 := below_call hbx2 hb3
  have hbox3 := (hb3.block _ hb02).trans hbox2
  have hb03 : w.heap.size < w3.heap.size := Nat.lt_of_lt_of_le hb02 hb3.size
  have HT3 := hide (htab.below hbx3)
  clear hb3 hbox2 hbx2 p6
  have o1 : w3.cell? ⟨w.heap.size, 1, none⟩ = some _ := (cell_of_heap hbox3 1).trans rfl
  have o4 : w3.cell? ⟨w.heap.size, 4, none⟩ = some _ := (cell_of_heap hbox3 4).trans rfl
  go_wp2_with fail
  go_ret2
  exact ⟨rfl, hbx3⟩

end

section
open Go.RowKit

theorem kline_any (x : TurnD) (w : World) (htab : TabOk w) (hx : TurnFit x) :
    Calls Tryd.prog 35 #[.agg (turnV x)] w fun e w' => e = .returned (.tuple #[.string (lineW x).1, .string (lineW x).2]) ∧ Below w.heap.size w w' := by
  by_cases k2 : x.kind = 2
  · have e : lineW x = (ten (showsI x.who x.id) ++ ⟨#[58]⟩ ++ ⟨#[109, 105, 110, 116, 32]⟩ ++ ten x.b ++ (⟨#[32]⟩ ++ ten x.a) ++ ⟨#[32]⟩ ++ ten x.c ++ ⟨#[59]⟩, x.of) := by simp [lineW, k2]
    rw [e]
    exact kline_mint x _ _ w htab hx k2 rfl rfl
  by_cases k3 : x.kind = 3
  · have e : lineW x = (ten (showsI x.who x.id) ++ ⟨#[58]⟩ ++ ⟨#[114, 101, 118, 111, 107, 101]⟩ ++ (⟨#[32]⟩ ++ ten x.a) ++ ⟨#[59]⟩, x.of) := by simp [lineW, k3]
    rw [e]
    exact kline_revoke x _ _ w htab hx k3 rfl rfl
  by_cases k4 : x.kind = 4
  · have e : lineW x = (ten (showsI x.who x.id) ++ ⟨#[58]⟩ ++ ⟨#[112, 117, 98, 108, 105, 115, 104, 32]⟩ ++ x.s ++ (⟨#[32]⟩ ++ ten x.a) ++ ⟨#[59]⟩, showsH x.who) := by simp [lineW, k4]
    rw [e]
    exact kline_publish x _ _ w htab hx k4 rfl rfl
  by_cases k5 : x.kind = 5
  · cases hb : (x.b.tmod 2 != 0) with
    | true =>
      have e : lineW x = (ten (showsI x.who x.id) ++ ⟨#[58]⟩ ++ ⟨#[98, 97, 99, 107, 32]⟩ ++ x.s ++ (⟨#[32]⟩ ++ ten x.a) ++ ⟨#[59]⟩, showsH x.who) := by simp only [lineW, k5, hb]; rfl
      rw [e]
      exact kline_back x _ _ w htab hx k5 hb rfl rfl
    | false =>
      have e : lineW x = (ten (showsI x.who x.id) ++ ⟨#[58]⟩ ++ ⟨#[121, 97, 110, 107, 32]⟩ ++ x.s ++ (⟨#[32]⟩ ++ ten x.a) ++ ⟨#[59]⟩, showsH x.who) := by simp only [lineW, k5, hb]; rfl
      rw [e]
      exact kline_yank x _ _ w htab hx k5 hb rfl rfl
  by_cases k6 : x.kind = 6
  · have e : lineW x = (ten (showsI x.who x.id) ++ ⟨#[58]⟩ ++ ⟨#[103, 114, 97, 110, 116, 32]⟩ ++ x.s ++ ⟨#[32]⟩ ++ x.t ++ ⟨#[59]⟩, showsH x.who) := by simp [lineW, k6]
    rw [e]
    exact kline_grant x _ _ w htab hx k6 rfl rfl
  · have e : lineW x = (⟨#[]⟩, ⟨#[]⟩) := by simp [lineW, k2, k3, k4, k5, k6]
    rw [e]
    exact kline_none x _ _ w htab hx k2 k3 k4 k5 k6 rfl rfl

/-- A house's log. -/
def logK (P : PDep) (nm : ByteArray) : List UInt8 := ((hseF P.hs nm).map PHse.log).getD []

theorem bytes_add (a b : ByteArray) : (a ++ b).data.toList = a.data.toList ++ b.data.toList := by simp

theorem lines_mint (id b a c : Int) : (ten id ++ ⟨#[58]⟩ ++ ⟨#[109, 105, 110, 116, 32]⟩ ++ ten b ++ (⟨#[32]⟩ ++ ten a) ++ ⟨#[32]⟩ ++ ten c ++ ⟨#[59]⟩ : ByteArray).data.toList = mintLine id b a c := by
  simp [ten, mintLine, beginL, tenL]
theorem lines_revoke (id a : Int) : (ten id ++ ⟨#[58]⟩ ++ ⟨#[114, 101, 118, 111, 107, 101]⟩ ++ (⟨#[32]⟩ ++ ten a) ++ ⟨#[59]⟩ : ByteArray).data.toList = revokeLine id a := by
  simp [ten, revokeLine, beginL, tenL]
theorem lines_publish (id a : Int) (s : ByteArray) : (ten id ++ ⟨#[58]⟩ ++ ⟨#[112, 117, 98, 108, 105, 115, 104, 32]⟩ ++ s ++ (⟨#[32]⟩ ++ ten a) ++ ⟨#[59]⟩ : ByteArray).data.toList = publishLine id s.data.toList a := by
  simp [ten, publishLine, beginL, tenL, sayL]
theorem lines_back (id a : Int) (s : ByteArray) : (ten id ++ ⟨#[58]⟩ ++ ⟨#[98, 97, 99, 107, 32]⟩ ++ s ++ (⟨#[32]⟩ ++ ten a) ++ ⟨#[59]⟩ : ByteArray).data.toList = yankLine id s.data.toList a false := by
  simp [ten, yankLine, beginL, tenL, sayL]
theorem lines_yank (id a : Int) (s : ByteArray) : (ten id ++ ⟨#[58]⟩ ++ ⟨#[121, 97, 110, 107, 32]⟩ ++ s ++ (⟨#[32]⟩ ++ ten a) ++ ⟨#[59]⟩ : ByteArray).data.toList = yankLine id s.data.toList a true := by
  simp [ten, yankLine, beginL, tenL, sayL]
theorem lines_grant (id : Int) (s t : ByteArray) : (ten id ++ ⟨#[58]⟩ ++ ⟨#[103, 114, 97, 110, 116, 32]⟩ ++ s ++ ⟨#[32]⟩ ++ t ++ ⟨#[59]⟩ : ByteArray).data.toList = grantLine id s.data.toList t.data.toList := by
  simp [ten, grantLine, beginL, sayL]

/-- A line more in one house's log. -/
theorem logK_upd {P : PDep} {of nm : ByteArray} {f : PHse → PHse} {l : List UInt8} (hf : ∀ h, (f h).name = h.name) (hl : ∀ h, (f h).log = h.log ++ l) (hnm : (hseF P.hs nm).isSome = true) : logK (P.upd of f) nm = logK P nm ++ (if (of.toList == nm.toList) = true then l else []) := by
  unfold logK
  show ((hseF (updH P.hs of f) nm).map PHse.log).getD [] = _
  rw [hseF_upd P.hs of f hf nm]
  cases hc : (of.toList == nm.toList) with
  | true =>
    rw [if_pos rfl, if_pos rfl, hseF_key P.hs (eq_of_beq hc)]
    cases hx : hseF P.hs nm with
    | none => rw [hx] at hnm; cases hnm
    | some x => simp [hl]
  | false => simp

theorem hseF_some_upd {P : PDep} {of nm : ByteArray} {f : PHse → PHse} (hf : ∀ h, (f h).name = h.name) (hnm : (hseF P.hs nm).isSome = true) : (hseF (P.upd of f).hs nm).isSome = true := by
  show (hseF (updH P.hs of f) nm).isSome = true
  rw [hseF_upd P.hs of f hf nm]
  split
  · rename_i hc
    rw [hseF_key P.hs (eq_of_beq hc)]
    simpa using hnm
  · exact hnm

/-- What a turn lays behind a house's log. -/
def moreL (P : PDep) (x : TurnD) (nm : ByteArray) : List UInt8 := if (callA P x).2.2 = 0 ∧ ((lineW x).2.toList == nm.toList) = true then (lineW x).1.data.toList else []

theorem chain_step (P : PDep) (x : TurnD) (nm : ByteArray) (hnm : (hseF P.hs nm).isSome = true) (hne : nm.toList ≠ []) : logK (callS P x) nm = logK P nm ++ moreL P x nm ∧ (hseF (callS P x).hs nm).isSome = true := by
  unfold callS stepP moreL
  by_cases hE : (callA P x).2.2 = 0
  · rw [if_pos hE]
    simp only [hE, true_and]
    have hq : (([] : List UInt8) == nm.toList) = false := by rw [beq_eq_false_iff_ne]; exact fun h => hne h.symm
    by_cases k2 : x.kind = 2
    · rw [show callQ P x = mintS P x.of (showsI x.who x.id) ⟨x.b, x.a, x.c, false⟩ by simp [callQ, k2], show lineW x = (ten (showsI x.who x.id) ++ ⟨#[58]⟩ ++ ⟨#[109, 105, 110, 116, 32]⟩ ++ ten x.b ++ (⟨#[32]⟩ ++ ten x.a) ++ ⟨#[32]⟩ ++ ten x.c ++ ⟨#[59]⟩, x.of) by simp [lineW, k2]]
      simp only
      rw [lines_mint]
      exact ⟨logK_upd (fun _ => rfl) (fun _ => rfl) hnm, hseF_some_upd (fun _ => rfl) hnm⟩
    by_cases k3 : x.kind = 3
    · rw [show callQ P x = revokeS P x.of (showsI x.who x.id) x.a by simp [callQ, k3], show lineW x = (ten (showsI x.who x.id) ++ ⟨#[58]⟩ ++ ⟨#[114, 101, 118, 111, 107, 101]⟩ ++ (⟨#[32]⟩ ++ ten x.a) ++ ⟨#[59]⟩, x.of) by simp [lineW, k3]]
      simp only
      rw [lines_revoke]
      exact ⟨logK_upd (fun _ => rfl) (fun _ => rfl) hnm, hseF_some_upd (fun _ => rfl) hnm⟩
    by_cases k4 : x.kind = 4
    · rw [show callQ P x = dpublishS P (showsH x.who) (showsI x.who x.id) x.s x.a x.t by simp [callQ, k4], show lineW x = (ten (showsI x.who x.id) ++ ⟨#[58]⟩ ++ ⟨#[112, 117, 98, 108, 105, 115, 104, 32]⟩ ++ x.s ++ (⟨#[32]⟩ ++ ten x.a) ++ ⟨#[59]⟩, showsH x.who) by simp [lineW, k4]]
      simp only
      rw [lines_publish]
      exact ⟨logK_upd (fun _ => rfl) (fun _ => rfl) hnm, hseF_some_upd (fun _ => rfl) hnm⟩
    by_cases k5 : x.kind = 5
    · rw [show callQ P x = dyankS P (showsH x.who) (showsI x.who x.id) x.s x.a (!(x.b.tmod 2 != 0)) by simp [callQ, k5]]
      cases hb : (x.b.tmod 2 != 0) with
      | true =>
        rw [show lineW x = (ten (showsI x.who x.id) ++ ⟨#[58]⟩ ++ ⟨#[98, 97, 99, 107, 32]⟩ ++ x.s ++ (⟨#[32]⟩ ++ ten x.a) ++ ⟨#[59]⟩, showsH x.who) by simp only [lineW, k5, hb]; rfl]
        simp only
        rw [lines_back]
        exact ⟨logK_upd (P := { P with yanks := P.yanks + 1 }) (fun _ => rfl) (fun _ => rfl) hnm, hseF_some_upd (P := { P with yanks := P.yanks + 1 }) (fun _ => rfl) hnm⟩
      | false =>
        rw [show lineW x = (ten (showsI x.who x.id) ++ ⟨#[58]⟩ ++ ⟨#[121, 97, 110, 107, 32]⟩ ++ x.s ++ (⟨#[32]⟩ ++ ten x.a) ++ ⟨#[59]⟩, showsH x.who) by simp only [lineW, k5, hb]; rfl]
        simp only
        rw [lines_yank]
        exact ⟨logK_upd (P := { P with yanks := P.yanks + 1 }) (fun _ => rfl) (fun _ => rfl) hnm, hseF_some_upd (P := { P with yanks := P.yanks + 1 }) (fun _ => rfl) hnm⟩
    by_cases k6 : x.kind = 6
    · rw [show callQ P x = dgrantS P (showsH x.who) (showsI x.who x.id) x.s x.t by simp [callQ, k6], show lineW x = (ten (showsI x.who x.id) ++ ⟨#[58]⟩ ++ ⟨#[103, 114, 97, 110, 116, 32]⟩ ++ x.s ++ ⟨#[32]⟩ ++ x.t ++ ⟨#[59]⟩, showsH x.who) by simp [lineW, k6]]
      simp only
      rw [lines_grant]
      exact ⟨logK_upd (fun _ => rfl) (fun _ => rfl) hnm, hseF_some_upd (fun _ => rfl) hnm⟩
    have el : lineW x = (⟨#[]⟩, ⟨#[]⟩) := by simp [lineW, k2, k3, k4, k5, k6]
    rw [el]
    have hz : ((⟨#[]⟩ : ByteArray).toList == nm.toList) = false := by rw [ByteArray.toList_eq]; exact hq
    simp only [hz, Bool.false_eq_true, if_false, List.append_nil]
    by_cases k1 : x.kind = 1
    · rw [show callQ P x = foundS P x.s by simp [callQ, k1]]
      unfold logK foundS
      simp only [hseF_snoc]
      cases hx : hseF P.hs nm with
      | none => rw [hx] at hnm; cases hnm
      | some y => exact ⟨rfl, rfl⟩
    by_cases k11 : x.kind = 11
    · rw [show callQ P x = dfeedS P x.s x.a x.t by simp [callQ, k11]]
      exact ⟨rfl, hnm⟩
    by_cases k12 : x.kind = 12
    · rw [show callQ P x = { P with clock := tickF P.clock x.a } by simp [callQ, k12]]
      exact ⟨rfl, hnm⟩
    · rw [show callQ P x = P by simp [callQ, k1, k2, k3, k4, k5, k6, k11, k12]]
      exact ⟨rfl, hnm⟩
  · rw [if_neg hE, if_neg (fun hc => hE hc.1), List.append_nil]
    exact ⟨rfl, hnm⟩

set_option maxHeartbeats 800000 in
set_option maxRecDepth 100000 in
theorem told_err (e kind : Int) (log : ByteArray) (w : World) (hE : e ≠ 0) :
    Calls Tryd.prog 34 #[.agg (ansW 0 ⟨#[]⟩ e), .int .i64 kind, .string log] w fun r w' => r = .returned (.bool true) ∧ Below w.heap.size w w' := by
  have hb0 : Below w.heap.size w (w.alloc (.cells (ansW 0 ⟨#[]⟩ e) 35)) := (Below.refl _ _).alloc (Nat.le_refl _) _
  have hz : (e == 0) = false := by rw [beq_eq_false_iff_ne]; exact hE
  have hz' : (e != 0) = true := by rw [bne, hz]; rfl
  go_enter Tryd.func34, Tryd.ntmps34
  go_wp2_with fail
  go_ret
  exact ⟨rfl, hb0⟩

set_option maxHeartbeats 800000 in
set_option maxRecDepth 100000 in
theorem told_log (kind : Int) (log : ByteArray) (w : World) (hk : kind = 9) :
    Calls Tryd.prog 34 #[.agg (ansW 0 log 0), .int .i64 kind, .string log] w fun r w' => r = .returned (.bool true) ∧ Below w.heap.size w w' := by
  have hb0 : Below w.heap.size w (w.alloc (.cells (ansW 0 log 0) 35)) := (Below.refl _ _).alloc (Nat.le_refl _) _
  subst hk
  go_enter Tryd.func34, Tryd.ntmps34
  go_wp2_with fail
  go_ret
  exact ⟨ret_bool (by simp), hb0⟩

set_option maxHeartbeats 800000 in
set_option maxRecDepth 100000 in
theorem told_head (kind : Int) (log : ByteArray) (w : World) (htab : TabOk w) (hl : log.size ≤ 4611686018427387000) (hk : kind = 10) :
    Calls Tryd.prog 34 #[.agg (ansW (sumF log.data.toList) ⟨#[]⟩ 0), .int .i64 kind, .string log] w fun r w' => r = .returned (.bool true) ∧ Below w.heap.size w w' := by
  have HS := hide (fun W => ksum_any log W hl)
  subst hk
  generalize sumF log.data.toList = q at *
  have hb0 : Below w.heap.size w (w.alloc (.cells (ansW q ⟨#[]⟩ 0) 35)) := (Below.refl _ _).alloc (Nat.le_refl _) _
  have hx : BoxOk w (w.alloc (.cells (ansW q ⟨#[]⟩ 0) 35)) w.heap.size (.cells (ansW q ⟨#[]⟩ 0) 35 (0, 0)) := ⟨heap_alloc_new w _, hb0, htab.below hb0⟩
  clear hb0
  go_enter Tryd.func34, Tryd.ntmps34
  go_wp2_with fail
  go_region_held3 (fun W => W.cell? ⟨w.heap.size, 0, none⟩ = some (.int .i64 q)) (exact (cell_of_heap hx.box 0).trans rfl) (first
    | ((go_at_call 32; refine (HS.out _).mono ?_; rintro e w4 ⟨rfl, hbb⟩; have hx := hx.step hbb rfl rfl rfl rfl; clear hbb)))
  all_goals
    go_wp2_with fail
    go_ret
    exact ⟨ret_bool (by simp), hx.bel⟩

end

end Go.Proofs.YtgcldedkempjhaaDoor
