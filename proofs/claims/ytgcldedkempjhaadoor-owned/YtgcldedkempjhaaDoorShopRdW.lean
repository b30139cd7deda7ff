/-
  depotkeep: read: the walk.
-/
import Derived.Test.YtgcldedkempjhaaDoorShopTell
import Derived.Test.YtgcldedkempjhaaDoorShopD
import Derived.BigQuiet
namespace Go.Proofs.YtgcldedkempjhaaDoor
section
open Go.RowKit

abbrev picksV (c : Nat → Nat) : Array Value := #[.int .i64 (c 0), .int .i64 (c 1), .int .i64 (c 2), .int .i64 (c 3), .int .i64 (c 4), .int .i64 (c 5)]

theorem picks_cell {W : World} {b : Nat} {c : Nat → Nat} {t : TypeId} {fr : Nat × Nat} (h : W.heap[b]? = some (.cells (picksV c) t fr)) {n : Nat} (hn : n < 6) : W.cell? ⟨b, n, none⟩ = some (.int .i64 (c n)) := by
  have hv : n = 0 ∨ n = 1 ∨ n = 2 ∨ n = 3 ∨ n = 4 ∨ n = 5 := by omega
  rcases hv with rfl | rfl | rfl | rfl | rfl | rfl
  · exact (cell_of_heap h 0).trans rfl
  · exact (cell_of_heap h 1).trans rfl
  · exact (cell_of_heap h 2).trans rfl
  · exact (cell_of_heap h 3).trans rfl
  · exact (cell_of_heap h 4).trans rfl
  · exact (cell_of_heap h 5).trans rfl

/-- A choice that lies in its own box. -/
structure BoxC (w wr : World) (b : Nat) (c : Nat → Nat) : Prop where
  at_ : wr.heap[b]? = some (.cells (picksV c) 55 (0, 0))
  bel : Below w.heap.size w wr

theorem BoxC.lt {w wr : World} {b : Nat} {c : Nat → Nat} (h : BoxC w wr b c) : b < wr.heap.size := (Array.getElem?_eq_some_iff.1 h.at_).1

theorem BoxC.step {w w1 W w2 : World} {b : Nat} {c : Nat → Nat} (h : BoxC w w1 b c) (hbb : Below W.heap.size W w2) (e1 : W.heap = w1.heap) (e2 : W.os = w1.os) (e3 : W.tape = w1.tape) (e4 : W.output = w1.output) : BoxC w w2 b c :=
  ⟨by rw [hbb.block b (by rw [e1]; exact h.lt), e1]; exact h.at_, below_step h.bel hbb e1 e2 e3 e4⟩

theorem box_new (w : World) (c : Nat → Nat) : BoxC w (w.alloc (.cells (picksV c) 55)) w.heap.size c := ⟨heap1_new w _, (Below.refl _ _).alloc (Nat.le_refl _) _⟩

theorem all_to {α : Type} {p : α → Bool} {l : List α} (h : ∀ j, (hj : j < l.length) → p l[j] = true) : l.all p = true := by
  rw [List.all_eq_true]
  intro x hx
  obtain ⟨j, hj, rfl⟩ := List.getElem_of_mem hx
  exact h j hj

theorem all_not {α : Type} {p : α → Bool} {l : List α} {j : Nat} (hj : j < l.length) (h : p l[j] = false) : l.all p = false := by
  cases ha : l.all p with
  | false => rfl
  | true =>
    rw [List.all_eq_true] at ha
    have := ha l[j] (List.getElem_mem hj)
    rw [h] at this
    cases this

set_option maxHeartbeats 1600000 in
theorem met_any (base : Nat) (ao : Option Addr) (cap : Nat) (l : List Nd) (c : Nat → Nat) (w : World) (own : w.ownsRow base 62 3 (.slice ao l.length cap) l.length (ndsCells l)) (h6 : l.length ≤ 6) (hok : ∀ x ∈ l, NdOk x) (h9 : ∀ n, c n ≤ 9) :
    Calls Tryd.prog 57 #[.slice ao l.length cap, .agg (picksV c)] w fun e w' => e = .returned (.bool (l.all (metN c))) ∧ Below w.heap.size w w' := by
  have HOK := hide hok
  have H9 := hide h9
  have HB := hide (box_new w c)
  clear hok h9
  generalize hn : l.length = n at *
  have HN := hide hn
  clear hn
  go_enter Tryd.func57, Tryd.ntmps57
  go_wp2_with fail
  go_loopw [5, 6] (fun x _ wr => ∃ k : Nat, k ≤ n ∧ x = .int .i64 k ∧ BoxC w wr w.heap.size c ∧ ∀ j, (hj : j < l.length) → j < k → metN c l[j] = true) (fun x _ _ => n - (intOf x).toNat)
  case atStart => exact ⟨0, Nat.zero_le _, rfl, HB.out, fun j _ h => by omega⟩
  case round =>
    obtain ⟨k, hk, rfl, hbox, hall⟩ := hrel
    have HALL := hide hall
    clear HB hall
    by_cases hlt : k < n
    · have hkl : k < l.length := by rw [HN.out]; exact hlt
      obtain ⟨g, rfl, hx0⟩ := nds_entry (l := l) (by rw [HN.out]; exact own) k hkl
      have hk2 : wr.heap[g]? = w.heap[g]? := hbox.bel.block g (World.block_lt_of_cell? w ⟨g, k * 3, none⟩ hx0.d0)
      have d0 := (World.cell?_of_block (a := ⟨g, k * 3, none⟩) hk2).trans hx0.d0
      have d1 := (World.cell?_of_block (a := ⟨g, k * 3 + 1, none⟩) hk2).trans hx0.d1
      have d2 := (World.cell?_of_block (a := ⟨g, k * 3 + 2, none⟩) hk2).trans hx0.d2
      obtain ⟨q1, q2, q3, q4⟩ := HOK.out _ (List.getElem_mem hkl)
      have c1 := picks_cell hbox.at_ q1
      have HM := hide (show metN c l[k] = (decide (l[k].lo ≤ c l[k].n) && decide (c l[k].n ≤ l[k].hi)) from rfl)
      have HNO := hide (fun h => all_not (p := metN c) hkl h)
      have HYES := hide (show metN c l[k] = true → ∀ j, (hj : j < l.length) → j < k + 1 → metN c l[j] = true from fun h j hj hlt => by
        by_cases e : j = k
        · subst e; exact h
        · exact HALL.out j hj (by omega))
      have hcn := H9.out l[k].n
      clear hx0 hk2
      generalize metN c l[k] = m at *
      generalize l[k] = y at *
      generalize c y.n = v at *
      by_cases h1 : v < y.lo
      · have h1' : (v : Int) < (y.lo : Int) := by omega
        have hm : m = false := by rw [HM.out, decide_eq_false (by omega)]; rfl
        go_wp2_with fail
        go_ret
        exact ⟨by rw [HNO.out hm]; rfl, hbox.bel⟩
      · have h1' : decide ((v : Int) < (y.lo : Int)) = false := decide_eq_false (by omega)
        by_cases h2 : y.hi < v
        · have h2' : (y.hi : Int) < (v : Int) := by omega
          have hm : m = false := by rw [HM.out, decide_eq_false (p := v ≤ y.hi) (by omega), Bool.and_false]
          go_wp2_with fail
          go_ret
          exact ⟨by rw [HNO.out hm]; rfl, hbox.bel⟩
        · have h2' : decide ((y.hi : Int) < (v : Int)) = false := decide_eq_false (by omega)
          have hm : m = true := by rw [HM.out, decide_eq_true (p := y.lo ≤ v) (by omega), decide_eq_true (p := v ≤ y.hi) (by omega)]; rfl
          go_wp2_with fail
          go_roundw
          case rel => exact ⟨k + 1, by omega, by go_num, hbox, HYES.out hm⟩
          case measure => simp [intOf] <;> omega
    · obtain rfl : k = n := by omega
      go_wp2_with fail
      go_ret
      exact ⟨by rw [all_to (fun j hj => HALL.out j hj (by rw [← HN.out]; exact hj))]; rfl, hbox.bel⟩

theorem any_yes {α : Type} {p : α → Bool} {l : List α} {j : Nat} (hj : j < l.length) (h : p l[j] = true) : l.any p = true := List.any_eq_true.2 ⟨l[j], List.getElem_mem hj, h⟩

theorem any_no {α : Type} {p : α → Bool} {l : List α} (h : ∀ j, (hj : j < l.length) → p l[j] = false) : l.any p = false := by
  rw [List.any_eq_false]
  intro x hx
  obtain ⟨j, hj, rfl⟩ := List.getElem_of_mem hx
  rw [h j hj]
  decide

def pinP (n v : Nat) (x : Nd) : Bool := x.n == n && (x.lo == v && x.hi == v)

set_option maxHeartbeats 1600000 in
theorem pinned_any (base : Nat) (ao : Option Addr) (cap : Nat) (l : List Nd) (n v : Nat) (w : World) (own : w.ownsRow base 62 3 (.slice ao l.length cap) l.length (ndsCells l)) (h6 : l.length ≤ 6) :
    Calls Tryd.prog 58 #[.slice ao l.length cap, .int .i64 n, .int .i64 v] w fun e w' => e = .returned (.bool (pinB l n v)) ∧ w' = w := by
  have HPB := hide (show pinB l n v = l.any (pinP n v) from rfl)
  rw [HPB.out]
  generalize hn : l.length = m at *
  have HN := hide hn
  clear hn
  go_enter Tryd.func58, Tryd.ntmps58
  go_wp2_with fail
  go_loop [7] (fun x => ∃ k : Nat, k ≤ m ∧ x = .int .i64 k ∧ ∀ j, (hj : j < l.length) → j < k → pinP n v l[j] = false) (fun x => m - (intOf x).toNat)
  case atStart => exact ⟨0, Nat.zero_le _, rfl, fun j _ h => by omega⟩
  case round =>
    obtain ⟨k, hk, rfl, hall⟩ := hrel
    have HALL := hide hall
    clear hall
    by_cases hlt : k < m
    · have hkl : k < l.length := by rw [HN.out]; exact hlt
      obtain ⟨g, rfl, hx0⟩ := nds_entry (l := l) (by rw [HN.out]; exact own) k hkl
      obtain ⟨d0, d1, d2⟩ := hx0
      have HM := hide (show pinP n v l[k] = (l[k].n == n && (l[k].lo == v && l[k].hi == v)) from rfl)
      have HYES := hide (fun h => any_yes (p := pinP n v) hkl h)
      have HNO := hide (show pinP n v l[k] = false → ∀ j, (hj : j < l.length) → j < k + 1 → pinP n v l[j] = false from fun h j hj hlt => by
        by_cases e : j = k
        · subst e; exact h
        · exact HALL.out j hj (by omega))
      generalize pinP n v l[k] = p at *
      generalize l[k] = y at *
      cases h1 : (y.n == n) with
      | false =>
        have h1' : ((y.n : Int) == (n : Int)) = false := by rw [int_beq]; exact h1
        have hp : p = false := by rw [HM.out, h1]; rfl
        clear h1
        go_wp2_with fail
        go_round
        case rel => exact ⟨k + 1, by omega, by go_num, HNO.out hp⟩
        case measure => simp [intOf] <;> omega
      | true =>
        have h1' : ((y.n : Int) == (n : Int)) = true := by rw [int_beq]; exact h1
        cases h2 : (y.lo == v) with
        | false =>
          have h2' : ((y.lo : Int) == (v : Int)) = false := by rw [int_beq]; exact h2
          have hp : p = false := by rw [HM.out, h1, h2]; rfl
          clear h1 h2
          go_wp2_with fail
          go_round
          case rel => exact ⟨k + 1, by omega, by go_num, HNO.out hp⟩
          case measure => simp [intOf] <;> omega
        | true =>
          have h2' : ((y.lo : Int) == (v : Int)) = true := by rw [int_beq]; exact h2
          cases h3 : (y.hi == v) with
          | false =>
            have h3' : ((y.hi : Int) == (v : Int)) = false := by rw [int_beq]; exact h3
            have hp : p = false := by rw [HM.out, h1, h2, h3]; rfl
            clear h1 h2 h3
            go_wp2_with fail
            go_round
            case rel => exact ⟨k + 1, by omega, by go_num, HNO.out hp⟩
            case measure => simp [intOf] <;> omega
          | true =>
            have h3' : ((y.hi : Int) == (v : Int)) = true := by rw [int_beq]; exact h3
            have hp : p = true := by rw [HM.out, h1, h2, h3]; rfl
            clear h1 h2 h3
            go_wp2_with fail
            go_ret
            exact ⟨by rw [HYES.out hp]; rfl, rfl⟩
    · obtain rfl : k = m := by omega
      go_wp2_with fail
      go_ret
      exact ⟨by rw [any_no (fun j hj => HALL.out j hj (by rw [← HN.out]; exact hj))]; rfl, rfl⟩

theorem order_any (i : Nat) (hi : i < 6) (w : World) :
    Calls Tryd.prog 89 #[.int .i64 i] w fun e w' => e = .returned (.int .i64 ((i + 3) % 6 : Nat)) ∧ w' = w := by
  have hv : i = 0 ∨ i = 1 ∨ i = 2 ∨ i = 3 ∨ i = 4 ∨ i = 5 := by omega
  rcases hv with rfl | rfl | rfl | rfl | rfl | rfl
  all_goals
    go_enter Tryd.func89, Tryd.ntmps89
    go_wp2
    go_ret
    exact ⟨rfl, rfl⟩

/-- The text of the first so many of what is chosen. -/
def toldTo (c : Nat → Nat) (k : Nat) : ByteArray := (orderK.take k).foldl (fun t n => if c n = 0 then t else t ++ pieceT n (c n)) ⟨#[]⟩

theorem toldTo_succ (c : Nat → Nat) {k : Nat} (hk : k < 6) : toldTo c (k + 1) = if c ((k + 3) % 6) = 0 then toldTo c k else toldTo c k ++ pieceT ((k + 3) % 6) (c ((k + 3) % 6)) := by
  have hv : k = 0 ∨ k = 1 ∨ k = 2 ∨ k = 3 ∨ k = 4 ∨ k = 5 := by omega
  rcases hv with rfl | rfl | rfl | rfl | rfl | rfl <;> rfl

theorem toldTo_all (c : Nat → Nat) : toldTo c 6 = toldN c := rfl

theorem pieceT_size (n v : Nat) : (pieceT n v).size ≤ 13 := by
  have h1 := nameK_size n
  have h2 : (whoseK n).size ≤ 6 := by unfold whoseK; split <;> decide
  unfold pieceT
  simp only [ByteArray.size_append]
  have z1 : (⟨#[64]⟩ : ByteArray).size = 1 := rfl
  have z2 : (⟨#[35]⟩ : ByteArray).size = 1 := rfl
  have z3 : (⟨#[59]⟩ : ByteArray).size = 1 := rfl
  have z4 : (digitS v).size = 1 := rfl
  omega

theorem toldTo_size (c : Nat → Nat) : ∀ k, k ≤ 6 → (toldTo c k).size ≤ 13 * k := by
  intro k
  induction k with
  | zero => intro _; exact Nat.le_refl _
  | succ k ih =>
    intro hk
    have := ih (by omega)
    rw [toldTo_succ c (by omega)]
    split
    · omega
    · have := pieceT_size ((k + 3) % 6) (c ((k + 3) % 6))
      rw [ByteArray.size_append]
      omega

set_option maxHeartbeats 3200000 in
theorem toldP_any (c : Nat → Nat) (h9 : ∀ n, c n ≤ 9) (w : World) :
    Calls Tryd.prog 56 #[.agg (picksV c)] w fun e w' => e = .returned (.string (toldN c)) ∧ Below w.heap.size w w' := by
  have H9 := hide h9
  have HB := hide (box_new w c)
  have HT := hide (toldTo_all c)
  rw [← HT.out]
  clear h9
  go_enter Tryd.func56, Tryd.ntmps56
  go_wp2_with fail
  go_loopw [3, 4, 5, 6] (fun t x _ _ wr => ∃ k : Nat, k ≤ 6 ∧ x = .int .i64 k ∧ t = .string (toldTo c k) ∧ BoxC w wr w.heap.size c) (fun _ x _ _ _ => 6 - (intOf x).toNat)
  case atStart => exact ⟨0, Nat.zero_le _, rfl, rfl, HB.out⟩
  case round =>
    obtain ⟨k, hk, rfl, rfl, hbox⟩ := hrel
    clear HB
    by_cases hlt : k < 6
    · have hlt' : (k : Int) < 6 := by omega
      have HO := hide (fun W => order_any k hlt W)
      have HS := hide (toldTo_succ c hlt)
      have hts := toldTo_size c k hk
      have hn6 : (k + 3) % 6 < 6 := by omega
      have hn7 : ((((k + 3) % 6 : Nat) : Int)) < 6 := by omega
      have hn8 : (0 : Int) ≤ (((k + 3) % 6 : Nat) : Int) := by omega
      generalize (k + 3) % 6 = n at *
      have c1 := picks_cell hbox.at_ hn6
      have hcn := H9.out n
      have HD := hide (fun W => digitK_any (c n) (by omega) W)
      have HNm := hide (fun W => nameK_any n hn6 W)
      have hns := nameK_size n
      have HP := hide (show pieceT n (c n) = nameK n ++ ⟨#[64]⟩ ++ digitS (c n) ++ ⟨#[35]⟩ ++ whoseK n ++ ⟨#[59]⟩ from rfl)
      have HW := hide (show whoseK n = if 3 ≤ n then kH else pubWord from rfl)
      have hds : (digitS (c n)).size = 1 := rfl
      go_wp2_with fail
      refine (HO.out _).mono ?_
      rintro e w2 ⟨rfl, hw2⟩
      have hw3 := hw2.symm
      subst hw3
      clear hw2 HO
      by_cases h0 : c n = 0
      · have h0' : ((c n : Int) == 0) = true := by rw [h0]; rfl
        have HR := hide (show toldTo c (k + 1) = toldTo c k by rw [HS.out, if_pos h0])
        clear HS h0 HP HW
        generalize toldTo c k = t at *
        generalize c n = v at *
        go_wp2_with fail
        go_roundw
        case rel => exact ⟨k + 1, by omega, by go_num, by rw [HR.out], hbox⟩
        case measure => simp [intOf] <;> omega
      · have h0' : ((c n : Int) == 0) = false := by rw [beq_eq_false_iff_ne]; omega
        have HR0 := hide (show toldTo c (k + 1) = toldTo c k ++ pieceT n (c n) by rw [HS.out, if_neg h0])
        clear HS
        by_cases h3 : 3 ≤ n
        · have h3' : (3 : Int) ≤ (n : Int) := by omega
          have HR := hide (show toldTo c (k + 1) = toldTo c k ++ nameK n ++ ⟨#[64]⟩ ++ digitS (c n) ++ ⟨#[35]⟩ ++ kH ++ ⟨#[59]⟩ by rw [HR0.out, HP.out, HW.out, if_pos h3]; simp only [ByteArray.append_assoc])
          clear HR0 HP HW h0
          generalize toldTo c k = t at *
          generalize nameK n = nm at *
          generalize digitS (c n) = ds at *
          generalize c n = v at *
          have m1 : ¬ 9223372036854775807 < t.size + nm.size := by omega
          have m2 : ¬ 9223372036854775807 < t.size + nm.size + 1 := by omega
          have m3 : ¬ 9223372036854775807 < t.size + nm.size + 1 + 1 := by omega
          have m4 : ¬ 9223372036854775807 < t.size + nm.size + 1 + 1 + 1 := by omega
          have m5 : ¬ 9223372036854775807 < t.size + nm.size + 1 + 1 + 1 + 1 := by omega
          have m6 : ¬ 9223372036854775807 < t.size + nm.size + 1 + 1 + 1 + 1 + 1 := by omega
          go_wp2_with fail
          go_region_held3 (fun W => W.cell? ⟨w.heap.size, n, none⟩ = some (.int .i64 v)) (exact c1) (first
            | ((go_at_call 18; refine (HNm.out _).mono ?_; rintro e w2 ⟨rfl, hbb⟩; have c1 := (World.cell?_of_block (a := ⟨w.heap.size, n, none⟩) (hbb.block w.heap.size (by exact hbox.lt))).trans c1; have hbox := hbox.step hbb rfl rfl rfl rfl; clear hbb))
            | ((go_at_call 47; refine (HD.out _).mono ?_; rintro e w2 ⟨rfl, hbb⟩; have c1 := (World.cell?_of_block (a := ⟨w.heap.size, n, none⟩) (hbb.block w.heap.size (by exact hbox.lt))).trans c1; have hbox := hbox.step hbb rfl rfl rfl rfl; clear hbb)))
          all_goals
            go_wp2_with fail
            go_roundw
            case rel => exact ⟨k + 1, by omega, by go_num, by rw [HR.out], hbox⟩
            case measure => simp [intOf] <;> omega
        · have h3' : ¬ (3 : Int) ≤ (n : Int) := by omega
          have HR := hide (show toldTo c (k + 1) = toldTo c k ++ nameK n ++ ⟨#[64]⟩ ++ digitS (c n) ++ ⟨#[35]⟩ ++ pubWord ++ ⟨#[59]⟩ by rw [HR0.out, HP.out, HW.out, if_neg h3]; simp only [ByteArray.append_assoc])
          clear HR0 HP HW h0
          generalize toldTo c k = t at *
          generalize nameK n = nm at *
          generalize digitS (c n) = ds at *
          generalize c n = v at *
          have m1 : ¬ 9223372036854775807 < t.size + nm.size := by omega
          have m2 : ¬ 9223372036854775807 < t.size + nm.size + 1 := by omega
          have m3 : ¬ 9223372036854775807 < t.size + nm.size + 1 + 1 := by omega
          have m4 : ¬ 9223372036854775807 < t.size + nm.size + 1 + 1 + 1 := by omega
          have m5 : ¬ 9223372036854775807 < t.size + nm.size + 1 + 1 + 1 + 6 := by omega
          have m6 : ¬ 9223372036854775807 < t.size + nm.size + 1 + 1 + 1 + 6 + 1 := by omega
          go_wp2_with fail
          go_region_held3 (fun W => W.cell? ⟨w.heap.size, n, none⟩ = some (.int .i64 v)) (exact c1) (first
            | ((go_at_call 18; refine (HNm.out _).mono ?_; rintro e w2 ⟨rfl, hbb⟩; have c1 := (World.cell?_of_block (a := ⟨w.heap.size, n, none⟩) (hbb.block w.heap.size (by exact hbox.lt))).trans c1; have hbox := hbox.step hbb rfl rfl rfl rfl; clear hbb))
            | ((go_at_call 47; refine (HD.out _).mono ?_; rintro e w2 ⟨rfl, hbb⟩; have c1 := (World.cell?_of_block (a := ⟨w.heap.size, n, none⟩) (hbb.block w.heap.size (by exact hbox.lt))).trans c1; have hbox := hbox.step hbb rfl rfl rfl rfl; clear hbb)))
          all_goals
            go_wp2_with fail
            go_roundw
            case rel => exact ⟨k + 1, by omega, by go_num, by rw [HR.out]; rfl, hbox⟩
            case measure => simp [intOf] <;> omega
    · obtain rfl : k = 6 := by omega
      go_wp2_with fail
      go_ret
      exact ⟨rfl, hbox.bel⟩

end

section
open Go.RowKit

theorem picks_set (c : Nat → Nat) {n : Nat} (hn : n < 6) (v : Nat) : (picksV c).set! n (.int .i64 v) = picksV (setC c n v) := by
  have hv : n = 0 ∨ n = 1 ∨ n = 2 ∨ n = 3 ∨ n = 4 ∨ n = 5 := by omega
  rcases hv with rfl | rfl | rfl | rfl | rfl | rfl <;> simp [setC]

theorem box_set {W : World} {b : Nat} {c : Nat → Nat} {t : TypeId} {fr : Nat × Nat} (h : W.heap[b]? = some (.cells (picksV c) t fr)) {n : Nat} (hn : n < 6) (v : Nat) : (W.setCell ⟨b, n, none⟩ (.int .i64 v)).heap[b]? = some (.cells (picksV (setC c n v)) t fr) := by
  rw [← picks_set c hn v]
  simp [World.setCell, Array.getElem?_modify, h]

/-- A text that is being read. -/
structure RdAt (w wr : World) (s : ByteArray) (c0 : Nat → Nat) (i fr : Nat) (acc : List UInt8) (c : Nat → Nat) : Prop where
  box : wr.heap[w.heap.size + 1]? = some (.cells (picksV c) 55 (0, 0))
  res : wr.heap[w.heap.size]? = some (.cells (picksV fun _ => 0) 55 (0, 0))
  bel : Below w.heap.size w wr
  le : i ≤ s.size
  frle : fr ≤ i
  accis : bytes (s.extract fr i) = acc
  fin : readL ((bytes s).drop i) acc c = c0

theorem drop_at {s : ByteArray} {i : Nat} (h : i < s.size) : (bytes s).drop i = s[i] :: (bytes s).drop (i + 1) := by
  have hl : i < (bytes s).length := by simpa [bytes] using h
  rw [List.drop_eq_getElem_cons hl]
  rfl

theorem extract_next {s : ByteArray} {fr i : Nat} (h : i < s.size) (hf : fr ≤ i) : bytes (s.extract fr (i + 1)) = bytes (s.extract fr i) ++ [s[i]] := by
  unfold bytes
  have hl : i < s.data.toList.length := by simpa using h
  simp only [ByteArray.data_extract, Array.toList_extract, List.extract_eq_take_drop]
  rw [show i + 1 - fr = (i - fr) + 1 by omega, List.take_add_one, List.getElem?_drop, show fr + (i - fr) = i by omega, List.getElem?_eq_getElem hl]
  rfl

theorem extract_none (s : ByteArray) (i : Nat) : bytes (s.extract i i) = [] := by
  unfold bytes
  simp only [ByteArray.data_extract, Array.toList_extract, List.extract_eq_take_drop]
  rw [Nat.sub_self, List.take_zero]

section
variable {w wr : World} {s : ByteArray} {c0 : Nat → Nat} {i fr : Nat} {acc : List UInt8} {c : Nat → Nat}

theorem RdAt.not (h : RdAt w wr s c0 i fr acc c) (hi : i < s.size) (h1 : s[i] ≠ 64) (h2 : s[i] ≠ 59) : RdAt w wr s c0 (i + 1) fr (acc ++ [s[i]]) c := by
  refine ⟨h.box, h.res, h.bel, hi, Nat.le_succ_of_le h.frle, by rw [extract_next hi h.frle, h.accis], ?_⟩
  have := h.fin
  rw [drop_at hi, readL_not h1 h2] at this
  exact this

theorem RdAt.end_ (h : RdAt w wr s c0 i fr acc c) (hi : i < s.size) (h2 : s[i] = 59) : RdAt w wr s c0 (i + 1) (i + 1) [] c := by
  refine ⟨h.box, h.res, h.bel, hi, Nat.le_refl _, ?_, ?_⟩
  · exact extract_none s _
  · have := h.fin
    rw [drop_at hi, h2, readL_end] at this
    exact this

end

/-- What is chosen, of the first names anew. -/
def mixC (c d : Nat → Nat) (n : Nat) : Nat → Nat := fun m => if m < n then d m else c m

theorem mix_zero (c d : Nat → Nat) : mixC c d 0 = c := by funext m; simp [mixC]
theorem mix_same {c d : Nat → Nat} {n : Nat} (h : d n = c n) : mixC c d (n + 1) = mixC c d n := by
  funext m
  unfold mixC
  by_cases h1 : m < n
  · rw [if_pos (by omega), if_pos h1]
  · by_cases h2 : m = n
    · subst h2; rw [if_pos (by omega), if_neg h1, h]
    · rw [if_neg (by omega), if_neg h1]
theorem mix_set {c d : Nat → Nat} {n : Nat} : setC (mixC c d n) n (d n) = mixC c d (n + 1) := by
  funext m
  unfold setC mixC
  by_cases h2 : m = n
  · subst h2; rw [if_pos rfl, if_pos (by omega)]
  · rw [if_neg h2]
    by_cases h1 : m < n
    · rw [if_pos h1, if_pos (by omega)]
    · rw [if_neg h1, if_neg (by omega)]
theorem mix_all {c d : Nat → Nat} (h : ∀ n, 6 ≤ n → d n = c n) : mixC c d 6 = d := by
  funext m
  unfold mixC
  by_cases h1 : m < 6
  · rw [if_pos h1]
  · rw [if_neg h1, h m (by omega)]

/-- Behind a name. -/
structure RdMid (w wr : World) (c d : Nat → Nat) (n : Nat) : Prop where
  box : wr.heap[w.heap.size + 1]? = some (.cells (picksV (mixC c d n)) 55 (0, 0))
  res : wr.heap[w.heap.size]? = some (.cells (picksV fun _ => 0) 55 (0, 0))
  bel : Below w.heap.size w wr

theorem RdMid.step {w w1 W w2 : World} {c d : Nat → Nat} {n : Nat} (h : RdMid w w1 c d n) (hbb : Below W.heap.size W w2) (e1 : W.heap = w1.heap) (e2 : W.os = w1.os) (e3 : W.tape = w1.tape) (e4 : W.output = w1.output) : RdMid w w2 c d n :=
  ⟨by rw [hbb.block _ (by rw [e1]; exact (Array.getElem?_eq_some_iff.1 h.box).1), e1]; exact h.box, by rw [hbb.block _ (by rw [e1]; exact (Array.getElem?_eq_some_iff.1 h.res).1), e1]; exact h.res, below_step h.bel hbb e1 e2 e3 e4⟩

theorem RdMid.same {w w1 : World} {c d : Nat → Nat} {n : Nat} (h : RdMid w w1 c d n) (e : d n = c n) : RdMid w w1 c d (n + 1) := ⟨by rw [mix_same e]; exact h.box, h.res, h.bel⟩

theorem RdMid.set {w w1 : World} {c d : Nat → Nat} {n : Nat} (h : RdMid w w1 c d n) (hn : n < 6) {v : Nat} (e : d n = v) : RdMid w (w1.setCell ⟨w.heap.size + 1, n, none⟩ (.int .i64 v)) c d (n + 1) := by
  subst e
  refine ⟨by rw [← mix_set]; exact box_set h.box hn _, ?_, h.bel.setCell (Nat.le_succ _) _⟩
  rw [Below.heap_setCell _ _ _ _ (by simp)]
  exact h.res

theorem readAt_no {acc : List UInt8} {c : Nat → Nat} {r : List UInt8} {n : Nat} (h : acc ≠ bytes (nameK n)) : readAt acc c r n = c n := by
  cases r with
  | nil => rfl
  | cons b t =>
    rw [readAt, if_neg]
    intro h2
    simp only [Bool.and_eq_true, decide_eq_true_eq, beq_iff_eq] at h2
    exact h h2.1.1.2

theorem readAt_far {acc : List UInt8} {c : Nat → Nat} {r : List UInt8} {n : Nat} (h : 6 ≤ n) : readAt acc c r n = c n := by
  cases r with
  | nil => rfl
  | cons b t =>
    rw [readAt, if_neg]
    intro h2
    simp only [Bool.and_eq_true, decide_eq_true_eq, beq_iff_eq] at h2
    omega

theorem readAt_out {acc : List UInt8} {c : Nat → Nat} {b : UInt8} {t : List UInt8} {n : Nat} (h : b < 49 ∨ 57 < b) : readAt acc c (b :: t) n = c n := by
  rw [readAt, if_neg]
  intro h2
  simp only [Bool.and_eq_true, decide_eq_true_eq, beq_iff_eq] at h2
  obtain ⟨⟨_, h3⟩, h4⟩ := h2
  rcases h with h | h
  · exact absurd (UInt8.lt_of_lt_of_le h h3) (UInt8.lt_irrefl _)
  · exact absurd (UInt8.lt_of_lt_of_le h h4) (UInt8.lt_irrefl _)

theorem readAt_yes {acc : List UInt8} {c : Nat → Nat} {b : UInt8} {t : List UInt8} {n : Nat} (hn : n < 6) (ha : acc = bytes (nameK n)) (h1 : 49 ≤ b) (h2 : b ≤ 57) : readAt acc c (b :: t) n = b.toNat - 48 := by
  rw [readAt, if_pos]
  simp [hn, ha, h1, h2]

/-- An operation that only yields is taken; the frame is written out. -/
theorem take_at {P : Program} {ops : Array Oper} {Q : Exit → Act → World → Prop} {md : Region.Mode} {S : World → Prop} (i d : Nat) {oi : Oper} (v : Value) {fuel : Nat} {listed : Array Bool} {a : Act} {w : World} (hi : ops[i]? = some oi) (hd : oi.dst = some d)
    (hs : Region.noSelect ops = true) (hf : Region.free md ops listed i = true) (hr : (Region.ready md ops listed).contains i = true)
    (hQ : ∀ c a w, Q (.panic c) (a.put oi.dst v) w → Q (.panic c) a w) (hy : YieldsIf P ops S oi v a) (hS : S w)
    (h : wpAnyH P md ops Q S fuel (listed.setIfInBounds i true) { a with tmps := a.tmps.setIfInBounds d v } w) : wpAnyH P md ops Q S (fuel + 1) listed a w := by
  refine wpAnyH_take hi hs hf hr hQ hy hS ?_
  rw [hd]
  exact h

end

section
open Go.RowKit

theorem RdAt.at_ {w wr wx : World} {s : ByteArray} {c0 : Nat → Nat} {i fr : Nat} {acc : List UInt8} {c : Nat → Nat} (h : RdAt w wr s c0 i fr acc c) (hi : i < s.size) (h1 : s[i] = 64) (hm : RdMid w wx c (readAt acc c ((bytes s).drop (i + 1))) 6) : RdAt w wx s c0 (i + 1) fr (acc ++ [64]) (readAt acc c ((bytes s).drop (i + 1))) := by
  have e : mixC c (readAt acc c ((bytes s).drop (i + 1))) 6 = readAt acc c ((bytes s).drop (i + 1)) := mix_all (fun n hn => readAt_far hn)
  refine ⟨by have := hm.box; rw [e] at this; exact this, hm.res, hm.bel, hi, Nat.le_succ_of_le h.frle, by rw [extract_next hi h.frle, h.accis, h1], ?_⟩
  have := h.fin
  rw [drop_at hi, h1, readL_at] at this
  exact this

theorem rd_start (w : World) {s : ByteArray} {c0 : Nat → Nat} (h : readL (bytes s) [] (fun _ => 0) = c0) : RdAt w ((w.alloc (.cells (picksV fun _ => 0) 55)).alloc (.cells (picksV fun _ => 0) 55)) s c0 0 0 [] (fun _ => 0) := by
  refine ⟨heap2_new w _ _, ?_, ?_, Nat.zero_le _, Nat.le_refl _, extract_none s 0, by rw [List.drop_zero]; exact h⟩
  · rw [Below.heap_alloc _ _ _ (by simp)]
    exact heap1_new w _
  · exact ((Below.refl _ _).alloc (Nat.le_refl _) _).alloc (by simp) _

theorem told_size (c : Nat → Nat) : (toldN c).size ≤ 100 := by
  have := toldTo_size c 6 (Nat.le_refl _)
  rw [toldTo_all] at this
  omega

/-- What is read, where all is read. -/
theorem RdAt.all {w wr : World} {s : ByteArray} {c0 : Nat → Nat} {i fr : Nat} {acc : List UInt8} {c : Nat → Nat} (h : RdAt w wr s c0 i fr acc c) (hi : ¬ i < s.size) : c = c0 := by
  have := h.fin
  rw [List.drop_eq_nil_of_le (by simp [bytes]; omega)] at this
  exact this

theorem RdAt.step {w w1 W w2 : World} {s : ByteArray} {c0 : Nat → Nat} {i fr : Nat} {acc : List UInt8} {c : Nat → Nat} (h : RdAt w w1 s c0 i fr acc c) (hbb : Below W.heap.size W w2) (e1 : W.heap = w1.heap) (e2 : W.os = w1.os) (e3 : W.tape = w1.tape) (e4 : W.output = w1.output) : RdAt w w2 s c0 i fr acc c :=
  ⟨by rw [hbb.block _ (by rw [e1]; exact (Array.getElem?_eq_some_iff.1 h.box).1), e1]; exact h.box, by rw [hbb.block _ (by rw [e1]; exact (Array.getElem?_eq_some_iff.1 h.res).1), e1]; exact h.res, below_step h.bel hbb e1 e2 e3 e4, h.le, h.frle, h.accis, h.fin⟩

structure SixAt (W : World) (b : Nat) (c : Nat → Nat) : Prop where
  z0 : W.cell? ⟨b, 0, none⟩ = some (.int .i64 (c 0))
  z1 : W.cell? ⟨b, 1, none⟩ = some (.int .i64 (c 1))
  z2 : W.cell? ⟨b, 2, none⟩ = some (.int .i64 (c 2))
  z3 : W.cell? ⟨b, 3, none⟩ = some (.int .i64 (c 3))
  z4 : W.cell? ⟨b, 4, none⟩ = some (.int .i64 (c 4))
  z5 : W.cell? ⟨b, 5, none⟩ = some (.int .i64 (c 5))

theorem six_at {W : World} {b : Nat} {c : Nat → Nat} {t : TypeId} {fr : Nat × Nat} (h : W.heap[b]? = some (.cells (picksV c) t fr)) : SixAt W b c :=
  ⟨picks_cell h (by decide), picks_cell h (by decide), picks_cell h (by decide), picks_cell h (by decide), picks_cell h (by decide), picks_cell h (by decide)⟩

theorem six_store {W : World} {b : Nat} {c1 c : Nat → Nat} {t : TypeId} {fr : Nat × Nat} (h : W.heap[b]? = some (.cells (picksV c1) t fr)) :
    SixAt ((((((W.setCell ⟨b, 0, none⟩ (.int .i64 (c 0))).setCell ⟨b, 1, none⟩ (.int .i64 (c 1))).setCell ⟨b, 2, none⟩ (.int .i64 (c 2))).setCell ⟨b, 3, none⟩ (.int .i64 (c 3))).setCell ⟨b, 4, none⟩ (.int .i64 (c 4))).setCell ⟨b, 5, none⟩ (.int .i64 (c 5))) b c := by
  have h6 := box_set (box_set (box_set (box_set (box_set (box_set h (n := 0) (by decide) (c 0)) (n := 1) (by decide) (c 1)) (n := 2) (by decide) (c 2)) (n := 3) (by decide) (c 3)) (n := 4) (by decide) (c 4)) (n := 5) (by decide) (c 5)
  have e : picksV (setC (setC (setC (setC (setC (setC c1 0 (c 0)) 1 (c 1)) 2 (c 2)) 3 (c 3)) 4 (c 4)) 5 (c 5)) = picksV c := by simp [setC]
  rw [e] at h6
  exact six_at h6

theorem six_below {w W : World} {c : Nat → Nat} (h : Below w.heap.size w W) :
    Below w.heap.size w ((((((W.setCell ⟨w.heap.size, 0, none⟩ (.int .i64 (c 0))).setCell ⟨w.heap.size, 1, none⟩ (.int .i64 (c 1))).setCell ⟨w.heap.size, 2, none⟩ (.int .i64 (c 2))).setCell ⟨w.heap.size, 3, none⟩ (.int .i64 (c 3))).setCell ⟨w.heap.size, 4, none⟩ (.int .i64 (c 4))).setCell ⟨w.heap.size, 5, none⟩ (.int .i64 (c 5))) :=
  (((((h.setCell (Nat.le_refl _) _).setCell (Nat.le_refl _) _).setCell (Nat.le_refl _) _).setCell (Nat.le_refl _) _).setCell (Nat.le_refl _) _).setCell (Nat.le_refl _) _

set_option maxHeartbeats 8000000 in
set_option maxRecDepth 100000 in
theorem read_any (c0 : Nat → Nat) (h9 : ∀ n, c0 n ≤ 9) (h6 : ∀ n, 6 ≤ n → c0 n = 0) (s : ByteArray) (hs : s = toldN c0) (w : World) :
    Calls Tryd.prog 22 #[.string s] w fun e w' => e = .returned (.tuple #[.agg (picksV c0), .bool true]) ∧ Below w.heap.size w w' := by
  have HI0 := hide (rd_start w (s := s) (c0 := c0) (by rw [hs]; exact read_told h9 h6))
  have HT := hide (fun W => toldP_any c0 h9 W)
  rw [← hs] at HT
  have hsz : s.size ≤ 100 := by rw [hs]; exact told_size c0
  clear hs h9 h6
  go_enter Tryd.func22, Tryd.ntmps22
  go_wp2_with fail
  go_loopw [5, 6, 7] (fun f i _ wx => ∃ (k fr : Nat) (acc : List UInt8) (c : Nat → Nat), f = .int .i64 (fr : Int) ∧ i = .int .i64 (k : Int) ∧ RdAt w wx s c0 k fr acc c) (fun _ i _ _ => s.size - (intOf i).toNat)
  case atStart => exact ⟨0, 0, [], _, rfl, rfl, HI0.out⟩
  case round =>
    obtain ⟨k, fr, acc, c, rfl, rfl, hr⟩ := hrel
    clear HI0
    have hle := hr.le
    have hfr := hr.frle
    have hfr' : (fr : Int) ≤ (k : Int) := by omega
    have hfr0 : (0 : Int) ≤ (fr : Int) := by omega
    have hle' : (k : Int) ≤ (s.size : Int) := by omega
    by_cases hlt : k < s.size
    · have hlt' : (k : Int) < (s.size : Int) := by omega
      by_cases hb : s[k] = 64
      · have t1 : ((s[k].toNat : Int) == 64) = true := by rw [hb]; rfl
        have t2 : ((s[k].toNat : Int) == 59) = false := by rw [hb]; rfl
        have u1 : ((s[k].toNat : Int) != 64) = false := by rw [bne, t1]; rfl
        have HFIN := hide (fun (wx : World) (h : RdMid w wx c (readAt acc c ((bytes s).drop (k + 1))) 6) => hr.at_ hlt hb h)
        have HM0 := hide (show RdMid w wr c (readAt acc c ((bytes s).drop (k + 1))) 0 from ⟨by rw [mix_zero]; exact hr.box, hr.res, hr.bel⟩)
        have hacc := hr.accis
        have HACC := hide hacc
        clear hr hb hacc
        go_wp2_with fail
        obtain ⟨wo, rfl⟩ : ∃ wo : World, wo = wr := ⟨_, rfl⟩
        go_loopw [7] (fun x wx => ∃ n : Nat, n ≤ 6 ∧ x = .int .i64 (n : Int) ∧ RdMid w wx c (readAt acc c ((bytes s).drop (k + 1))) n) (fun x _ => 6 - (intOf x).toNat)
        case atStart => exact ⟨0, Nat.zero_le _, rfl, HM0.out⟩
        case round =>
          obtain ⟨n, hn, rfl, hm⟩ := hrel
          clear HM0
          by_cases hn6 : n < 6
          · have hn7 : (n : Int) < 6 := by omega
            have hn8 : (0 : Int) ≤ (n : Int) := by omega
            have hwk : IntKind.i64.wrap ((k : Int) + 1) = (k : Int) + 1 := by rw [IntKind.wrap_i64]; omega
            have HNm := hide (fun W => nameK_any n hn6 W)
            cases hq : ((s.extract fr k).toList == (nameK n).toList) with
            | false =>
              have HD := hide (show readAt acc c ((bytes s).drop (k + 1)) n = c n from readAt_no (fun h => by rw [← HACC.out] at h; rw [ByteArray.toList_eq, ByteArray.toList_eq] at hq; unfold bytes at h; rw [h, beq_self_eq_true] at hq; cases hq))
              generalize nameK n = nm at *
              go_wp2_with fail
              refine wp_region_held_drew (S := fun _ => True) (by kernel_rfl) trivial (fun hHeld => ?_)
              refine take_at 0 28 (.string s) rfl (by kernel_rfl) (by kernel_rfl) (by kernel_rfl) (by kernel_rfl) (fun _ _ _ h => h) (Or.inl ⟨by kernel_rfl, ?_⟩) trivial ?_
              · intro wz hSw
                go_simp
              simp only [List.setIfInBounds_toArray, List.set_cons_zero, List.set_cons_succ]
              refine take_at 1 29 (.int .i64 (k : Int)) rfl (by kernel_rfl) (by kernel_rfl) (by kernel_rfl) (by kernel_rfl) (fun _ _ _ h => h) (Or.inl ⟨by kernel_rfl, ?_⟩) trivial ?_
              · intro wz hSw
                go_simp
              simp only [List.setIfInBounds_toArray, List.set_cons_zero, List.set_cons_succ]
              refine take_at 2 30 (.int .u8 (s[k].toNat : Int)) rfl (by kernel_rfl) (by kernel_rfl) (by kernel_rfl) (by kernel_rfl) (fun _ _ _ h => h) (Or.inl ⟨by kernel_rfl, ?_⟩) trivial ?_
              · intro wz hSw
                go_simp
              simp only [List.setIfInBounds_toArray, List.set_cons_zero, List.set_cons_succ]
              refine take_at 3 31 (.bool true) rfl (by kernel_rfl) (by kernel_rfl) (by kernel_rfl) (by kernel_rfl) (fun _ _ _ h => h) (Or.inl ⟨by kernel_rfl, ?_⟩) trivial ?_
              · intro wz hSw
                go_simp
              simp only [List.setIfInBounds_toArray, List.set_cons_zero, List.set_cons_succ]
              refine take_at 4 32 (.bool true) rfl (by kernel_rfl) (by kernel_rfl) (by kernel_rfl) (by kernel_rfl) (fun _ _ _ h => h) (Or.inl ⟨by kernel_rfl, ?_⟩) trivial ?_
              · intro wz hSw
                go_simp
              simp only [List.setIfInBounds_toArray, List.set_cons_zero, List.set_cons_succ]
              refine take_at 5 33 (.string s) rfl (by kernel_rfl) (by kernel_rfl) (by kernel_rfl) (by kernel_rfl) (fun _ _ _ h => h) (Or.inl ⟨by kernel_rfl, ?_⟩) trivial ?_
              · intro wz hSw
                go_simp
              simp only [List.setIfInBounds_toArray, List.set_cons_zero, List.set_cons_succ]
              refine take_at 6 34 (.int .i64 (fr : Int)) rfl (by kernel_rfl) (by kernel_rfl) (by kernel_rfl) (by kernel_rfl) (fun _ _ _ h => h) (Or.inl ⟨by kernel_rfl, ?_⟩) trivial ?_
              · intro wz hSw
                go_simp
              simp only [List.setIfInBounds_toArray, List.set_cons_zero, List.set_cons_succ]
              refine take_at 7 35 (.int .i64 (k : Int)) rfl (by kernel_rfl) (by kernel_rfl) (by kernel_rfl) (by kernel_rfl) (fun _ _ _ h => h) (Or.inl ⟨by kernel_rfl, ?_⟩) trivial ?_
              · intro wz hSw
                go_simp
              simp only [List.setIfInBounds_toArray, List.set_cons_zero, List.set_cons_succ]
              refine take_at 8 36 (.string (s.extract fr k)) rfl (by kernel_rfl) (by kernel_rfl) (by kernel_rfl) (by kernel_rfl) (fun _ _ _ h => h) (Or.inl ⟨by kernel_rfl, ?_⟩) trivial ?_
              · intro wz hSw
                go_simp
              simp only [List.setIfInBounds_toArray, List.set_cons_zero, List.set_cons_succ]
              refine take_at 9 37 (.int .i64 (n : Int)) rfl (by kernel_rfl) (by kernel_rfl) (by kernel_rfl) (by kernel_rfl) (fun _ _ _ h => h) (Or.inl ⟨by kernel_rfl, ?_⟩) trivial ?_
              · intro wz hSw
                go_simp
              simp only [List.setIfInBounds_toArray, List.set_cons_zero, List.set_cons_succ]
              refine wpAnyH_ready (rs := [10]) (by kernel_rfl) (by simp) ?_
              refine AllReadyH.cons (o := { dst := some 38, op := .call { callee := .value (.func 18), args := #[.tmp 37], argTypes := #[3] }, type := 9, pos := "choice.go:103", after := #[{ on := 9, ground := .data }, { on := 4, ground := .chain }, { on := 4, ground := .guard }], guard := some (4, true) }) rfl (fun K hK => ?_) AllReadyH.nil
              go_simp
              refine (HNm.out _).mono ?_
              rintro e w2 ⟨rfl, hbb⟩
              have hm := hm.step hbb rfl rfl rfl rfl
              clear hbb
              go_wp2_with fail
              refine hK.out _ _ trivial (fun hHeld => ?_)
              clear hK K
              try simp only [Act.put, List.setIfInBounds_toArray, List.set_cons_zero, List.set_cons_succ]
              refine take_at 11 39 (.bool false) rfl (by kernel_rfl) (by kernel_rfl) (by kernel_rfl) (by kernel_rfl) (fun _ _ _ h => h) (Or.inl ⟨by kernel_rfl, ?_⟩) trivial ?_
              · intro wz hSw
                go_simp
              simp only [List.setIfInBounds_toArray, List.set_cons_zero, List.set_cons_succ]
              refine take_at 12 40 (.bool false) rfl (by kernel_rfl) (by kernel_rfl) (by kernel_rfl) (by kernel_rfl) (fun _ _ _ h => h) (Or.inl ⟨by kernel_rfl, ?_⟩) trivial ?_
              · intro wz hSw
                go_simp
              simp only [List.setIfInBounds_toArray, List.set_cons_zero, List.set_cons_succ]
              refine take_at 13 41 (.bool false) rfl (by kernel_rfl) (by kernel_rfl) (by kernel_rfl) (by kernel_rfl) (fun _ _ _ h => h) (Or.inl ⟨by kernel_rfl, ?_⟩) trivial ?_
              · intro wz hSw
                go_simp
              simp only [List.setIfInBounds_toArray, List.set_cons_zero, List.set_cons_succ]
              refine take_at 14 42 undef rfl (by kernel_rfl) (by kernel_rfl) (by kernel_rfl) (by kernel_rfl) (fun _ _ _ h => h) (Or.inr ⟨by kernel_rfl, rfl⟩) trivial ?_
              simp only [List.setIfInBounds_toArray, List.set_cons_zero, List.set_cons_succ]
              refine take_at 15 43 undef rfl (by kernel_rfl) (by kernel_rfl) (by kernel_rfl) (by kernel_rfl) (fun _ _ _ h => h) (Or.inr ⟨by kernel_rfl, rfl⟩) trivial ?_
              simp only [List.setIfInBounds_toArray, List.set_cons_zero, List.set_cons_succ]
              refine take_at 16 44 undef rfl (by kernel_rfl) (by kernel_rfl) (by kernel_rfl) (by kernel_rfl) (fun _ _ _ h => h) (Or.inr ⟨by kernel_rfl, rfl⟩) trivial ?_
              simp only [List.setIfInBounds_toArray, List.set_cons_zero, List.set_cons_succ]
              refine take_at 17 45 undef rfl (by kernel_rfl) (by kernel_rfl) (by kernel_rfl) (by kernel_rfl) (fun _ _ _ h => h) (Or.inr ⟨by kernel_rfl, rfl⟩) trivial ?_
              simp only [List.setIfInBounds_toArray, List.set_cons_zero, List.set_cons_succ]
              refine take_at 18 46 undef rfl (by kernel_rfl) (by kernel_rfl) (by kernel_rfl) (by kernel_rfl) (fun _ _ _ h => h) (Or.inr ⟨by kernel_rfl, rfl⟩) trivial ?_
              simp only [List.setIfInBounds_toArray, List.set_cons_zero, List.set_cons_succ]
              refine take_at 19 47 (.bool false) rfl (by kernel_rfl) (by kernel_rfl) (by kernel_rfl) (by kernel_rfl) (fun _ _ _ h => h) (Or.inl ⟨by kernel_rfl, ?_⟩) trivial ?_
              · intro wz hSw
                go_simp
              simp only [List.setIfInBounds_toArray, List.set_cons_zero, List.set_cons_succ]
              refine take_at 20 48 (.bool false) rfl (by kernel_rfl) (by kernel_rfl) (by kernel_rfl) (by kernel_rfl) (fun _ _ _ h => h) (Or.inl ⟨by kernel_rfl, ?_⟩) trivial ?_
              · intro wz hSw
                go_simp
              simp only [List.setIfInBounds_toArray, List.set_cons_zero, List.set_cons_succ]
              refine take_at 21 49 undef rfl (by kernel_rfl) (by kernel_rfl) (by kernel_rfl) (by kernel_rfl) (fun _ _ _ h => h) (Or.inr ⟨by kernel_rfl, rfl⟩) trivial ?_
              simp only [List.setIfInBounds_toArray, List.set_cons_zero, List.set_cons_succ]
              refine take_at 22 50 undef rfl (by kernel_rfl) (by kernel_rfl) (by kernel_rfl) (by kernel_rfl) (fun _ _ _ h => h) (Or.inr ⟨by kernel_rfl, rfl⟩) trivial ?_
              simp only [List.setIfInBounds_toArray, List.set_cons_zero, List.set_cons_succ]
              refine take_at 23 51 undef rfl (by kernel_rfl) (by kernel_rfl) (by kernel_rfl) (by kernel_rfl) (fun _ _ _ h => h) (Or.inr ⟨by kernel_rfl, rfl⟩) trivial ?_
              simp only [List.setIfInBounds_toArray, List.set_cons_zero, List.set_cons_succ]
              refine take_at 24 52 undef rfl (by kernel_rfl) (by kernel_rfl) (by kernel_rfl) (by kernel_rfl) (fun _ _ _ h => h) (Or.inr ⟨by kernel_rfl, rfl⟩) trivial ?_
              simp only [List.setIfInBounds_toArray, List.set_cons_zero, List.set_cons_succ]
              refine take_at 25 53 undef rfl (by kernel_rfl) (by kernel_rfl) (by kernel_rfl) (by kernel_rfl) (fun _ _ _ h => h) (Or.inr ⟨by kernel_rfl, rfl⟩) trivial ?_
              simp only [List.setIfInBounds_toArray, List.set_cons_zero, List.set_cons_succ]
              refine take_at 26 54 (.bool false) rfl (by kernel_rfl) (by kernel_rfl) (by kernel_rfl) (by kernel_rfl) (fun _ _ _ h => h) (Or.inl ⟨by kernel_rfl, ?_⟩) trivial ?_
              · intro wz hSw
                go_simp
              simp only [List.setIfInBounds_toArray, List.set_cons_zero, List.set_cons_succ]
              refine take_at 27 55 (.bool false) rfl (by kernel_rfl) (by kernel_rfl) (by kernel_rfl) (by kernel_rfl) (fun _ _ _ h => h) (Or.inl ⟨by kernel_rfl, ?_⟩) trivial ?_
              · intro wz hSw
                go_simp
              simp only [List.setIfInBounds_toArray, List.set_cons_zero, List.set_cons_succ]
              refine take_at 28 56 undef rfl (by kernel_rfl) (by kernel_rfl) (by kernel_rfl) (by kernel_rfl) (fun _ _ _ h => h) (Or.inr ⟨by kernel_rfl, rfl⟩) trivial ?_
              simp only [List.setIfInBounds_toArray, List.set_cons_zero, List.set_cons_succ]
              refine take_at 29 57 undef rfl (by kernel_rfl) (by kernel_rfl) (by kernel_rfl) (by kernel_rfl) (fun _ _ _ h => h) (Or.inr ⟨by kernel_rfl, rfl⟩) trivial ?_
              simp only [List.setIfInBounds_toArray, List.set_cons_zero, List.set_cons_succ]
              refine take_at 30 58 undef rfl (by kernel_rfl) (by kernel_rfl) (by kernel_rfl) (by kernel_rfl) (fun _ _ _ h => h) (Or.inr ⟨by kernel_rfl, rfl⟩) trivial ?_
              simp only [List.setIfInBounds_toArray, List.set_cons_zero, List.set_cons_succ]
              refine take_at 31 59 undef rfl (by kernel_rfl) (by kernel_rfl) (by kernel_rfl) (by kernel_rfl) (fun _ _ _ h => h) (Or.inr ⟨by kernel_rfl, rfl⟩) trivial ?_
              simp only [List.setIfInBounds_toArray, List.set_cons_zero, List.set_cons_succ]
              refine take_at 32 60 undef rfl (by kernel_rfl) (by kernel_rfl) (by kernel_rfl) (by kernel_rfl) (fun _ _ _ h => h) (Or.inr ⟨by kernel_rfl, rfl⟩) trivial ?_
              simp only [List.setIfInBounds_toArray, List.set_cons_zero, List.set_cons_succ]
              refine take_at 33 61 (.bool false) rfl (by kernel_rfl) (by kernel_rfl) (by kernel_rfl) (by kernel_rfl) (fun _ _ _ h => h) (Or.inl ⟨by kernel_rfl, ?_⟩) trivial ?_
              · intro wz hSw
                go_simp
              simp only [List.setIfInBounds_toArray, List.set_cons_zero, List.set_cons_succ]
              refine wpAnyH_done (by kernel_rfl) ?_ _
              go_wp2_with fail
              go_roundw
              case rel => exact ⟨n + 1, by omega, by go_num, RdMid.same ⟨hm.box, hm.res, ⟨hm.bel.os, hm.bel.tape, hm.bel.output, hm.bel.size, hm.bel.block⟩⟩ HD.out⟩
              case measure => simp [intOf] <;> omega
            | true =>
              have ha : acc = bytes (nameK n) := by
                rw [← HACC.out]
                rw [ByteArray.toList_eq, ByteArray.toList_eq] at hq
                exact eq_of_beq hq
              by_cases h1 : k + 1 < s.size
              · have h1' : decide ((k : Int) + 1 < (s.size : Int)) = true := decide_eq_true (by omega)
                have h1q : (k : Int) + 1 < (s.size : Int) := by omega
                have h1n : (0 : Int) ≤ (k : Int) + 1 := by omega
                by_cases h49 : 49 ≤ s[k + 1]
                · have g49 : decide ((49 : Int) ≤ ((s[k + 1]'h1).toNat : Int)) = true := decide_eq_true (by have := UInt8.le_iff_toNat_le.1 h49; simp at this; omega)
                  by_cases h57 : s[k + 1] ≤ 57
                  · have g57 : decide (((s[k + 1]'h1).toNat : Int) ≤ 57) = true := decide_eq_true (by have := UInt8.le_iff_toNat_le.1 h57; simp at this; omega)
                    have HD := hide (show readAt acc c ((bytes s).drop (k + 1)) n = s[k + 1].toNat - 48 by rw [drop_at h1]; exact readAt_yes hn6 ha h49 h57)
                    have b1 : (49 : Int) ≤ ((s[k + 1]'h1).toNat : Int) := of_decide_eq_true g49
                    have b2 : ((s[k + 1]'h1).toNat : Int) ≤ 57 := of_decide_eq_true g57
                    clear ha
                    generalize nameK n = nm at *
                    go_wp2_with fail
                    refine wp_region_held_drew (S := fun _ => True) (by kernel_rfl) trivial (fun hHeld => ?_)
                    refine take_at 0 28 (.string s) rfl (by kernel_rfl) (by kernel_rfl) (by kernel_rfl) (by kernel_rfl) (fun _ _ _ h => h) (Or.inl ⟨by kernel_rfl, ?_⟩) trivial ?_
                    · intro wz hSw
                      go_simp
                    simp only [List.setIfInBounds_toArray, List.set_cons_zero, List.set_cons_succ]
                    refine take_at 1 29 (.int .i64 (k : Int)) rfl (by kernel_rfl) (by kernel_rfl) (by kernel_rfl) (by kernel_rfl) (fun _ _ _ h => h) (Or.inl ⟨by kernel_rfl, ?_⟩) trivial ?_
                    · intro wz hSw
                      go_simp
                    simp only [List.setIfInBounds_toArray, List.set_cons_zero, List.set_cons_succ]
                    refine take_at 2 30 (.int .u8 (s[k].toNat : Int)) rfl (by kernel_rfl) (by kernel_rfl) (by kernel_rfl) (by kernel_rfl) (fun _ _ _ h => h) (Or.inl ⟨by kernel_rfl, ?_⟩) trivial ?_
                    · intro wz hSw
                      go_simp
                    simp only [List.setIfInBounds_toArray, List.set_cons_zero, List.set_cons_succ]
                    refine take_at 3 31 (.bool true) rfl (by kernel_rfl) (by kernel_rfl) (by kernel_rfl) (by kernel_rfl) (fun _ _ _ h => h) (Or.inl ⟨by kernel_rfl, ?_⟩) trivial ?_
                    · intro wz hSw
                      go_simp
                    simp only [List.setIfInBounds_toArray, List.set_cons_zero, List.set_cons_succ]
                    refine take_at 4 32 (.bool true) rfl (by kernel_rfl) (by kernel_rfl) (by kernel_rfl) (by kernel_rfl) (fun _ _ _ h => h) (Or.inl ⟨by kernel_rfl, ?_⟩) trivial ?_
                    · intro wz hSw
                      go_simp
                    simp only [List.setIfInBounds_toArray, List.set_cons_zero, List.set_cons_succ]
                    refine take_at 5 33 (.string s) rfl (by kernel_rfl) (by kernel_rfl) (by kernel_rfl) (by kernel_rfl) (fun _ _ _ h => h) (Or.inl ⟨by kernel_rfl, ?_⟩) trivial ?_
                    · intro wz hSw
                      go_simp
                    simp only [List.setIfInBounds_toArray, List.set_cons_zero, List.set_cons_succ]
                    refine take_at 6 34 (.int .i64 (fr : Int)) rfl (by kernel_rfl) (by kernel_rfl) (by kernel_rfl) (by kernel_rfl) (fun _ _ _ h => h) (Or.inl ⟨by kernel_rfl, ?_⟩) trivial ?_
                    · intro wz hSw
                      go_simp
                    simp only [List.setIfInBounds_toArray, List.set_cons_zero, List.set_cons_succ]
                    refine take_at 7 35 (.int .i64 (k : Int)) rfl (by kernel_rfl) (by kernel_rfl) (by kernel_rfl) (by kernel_rfl) (fun _ _ _ h => h) (Or.inl ⟨by kernel_rfl, ?_⟩) trivial ?_
                    · intro wz hSw
                      go_simp
                    simp only [List.setIfInBounds_toArray, List.set_cons_zero, List.set_cons_succ]
                    refine take_at 8 36 (.string (s.extract fr k)) rfl (by kernel_rfl) (by kernel_rfl) (by kernel_rfl) (by kernel_rfl) (fun _ _ _ h => h) (Or.inl ⟨by kernel_rfl, ?_⟩) trivial ?_
                    · intro wz hSw
                      go_simp
                    simp only [List.setIfInBounds_toArray, List.set_cons_zero, List.set_cons_succ]
                    refine take_at 9 37 (.int .i64 (n : Int)) rfl (by kernel_rfl) (by kernel_rfl) (by kernel_rfl) (by kernel_rfl) (fun _ _ _ h => h) (Or.inl ⟨by kernel_rfl, ?_⟩) trivial ?_
                    · intro wz hSw
                      go_simp
                    simp only [List.setIfInBounds_toArray, List.set_cons_zero, List.set_cons_succ]
                    refine wpAnyH_ready (rs := [10]) (by kernel_rfl) (by simp) ?_
                    refine AllReadyH.cons (o := { dst := some 38, op := .call { callee := .value (.func 18), args := #[.tmp 37], argTypes := #[3] }, type := 9, pos := "choice.go:103", after := #[{ on := 9, ground := .data }, { on := 4, ground := .chain }, { on := 4, ground := .guard }], guard := some (4, true) }) rfl (fun K hK => ?_) AllReadyH.nil
                    go_simp
                    refine (HNm.out _).mono ?_
                    rintro e w2 ⟨rfl, hbb⟩
                    have hm := hm.step hbb rfl rfl rfl rfl
                    clear hbb
                    go_wp2_with fail
                    refine hK.out _ _ trivial (fun hHeld => ?_)
                    clear hK K
                    try simp only [Act.put, List.setIfInBounds_toArray, List.set_cons_zero, List.set_cons_succ]
                    refine take_at 11 39 (.bool true) rfl (by kernel_rfl) (by kernel_rfl) (by kernel_rfl) (by kernel_rfl) (fun _ _ _ h => h) (Or.inl ⟨by kernel_rfl, ?_⟩) trivial ?_
                    · intro wz hSw
                      go_simp
                    simp only [List.setIfInBounds_toArray, List.set_cons_zero, List.set_cons_succ]
                    refine take_at 12 40 (.bool true) rfl (by kernel_rfl) (by kernel_rfl) (by kernel_rfl) (by kernel_rfl) (fun _ _ _ h => h) (Or.inl ⟨by kernel_rfl, ?_⟩) trivial ?_
                    · intro wz hSw
                      go_simp
                    simp only [List.setIfInBounds_toArray, List.set_cons_zero, List.set_cons_succ]
                    refine take_at 13 41 (.bool true) rfl (by kernel_rfl) (by kernel_rfl) (by kernel_rfl) (by kernel_rfl) (fun _ _ _ h => h) (Or.inl ⟨by kernel_rfl, ?_⟩) trivial ?_
                    · intro wz hSw
                      go_simp
                    simp only [List.setIfInBounds_toArray, List.set_cons_zero, List.set_cons_succ]
                    refine take_at 14 42 (.int .i64 (k : Int)) rfl (by kernel_rfl) (by kernel_rfl) (by kernel_rfl) (by kernel_rfl) (fun _ _ _ h => h) (Or.inl ⟨by kernel_rfl, ?_⟩) trivial ?_
                    · intro wz hSw
                      go_simp
                    simp only [List.setIfInBounds_toArray, List.set_cons_zero, List.set_cons_succ]
                    refine take_at 15 43 (.int .i64 ((k : Int) + 1)) rfl (by kernel_rfl) (by kernel_rfl) (by kernel_rfl) (by kernel_rfl) (fun _ _ _ h => h) (Or.inl ⟨by kernel_rfl, ?_⟩) trivial ?_
                    · intro wz hSw
                      go_simp
                    simp only [List.setIfInBounds_toArray, List.set_cons_zero, List.set_cons_succ]
                    refine take_at 16 44 (.string s) rfl (by kernel_rfl) (by kernel_rfl) (by kernel_rfl) (by kernel_rfl) (fun _ _ _ h => h) (Or.inl ⟨by kernel_rfl, ?_⟩) trivial ?_
                    · intro wz hSw
                      go_simp
                    simp only [List.setIfInBounds_toArray, List.set_cons_zero, List.set_cons_succ]
                    refine take_at 17 45 (.int .i64 (s.size : Int)) rfl (by kernel_rfl) (by kernel_rfl) (by kernel_rfl) (by kernel_rfl) (fun _ _ _ h => h) (Or.inl ⟨by kernel_rfl, ?_⟩) trivial ?_
                    · intro wz hSw
                      go_simp
                    simp only [List.setIfInBounds_toArray, List.set_cons_zero, List.set_cons_succ]
                    refine take_at 18 46 (.bool true) rfl (by kernel_rfl) (by kernel_rfl) (by kernel_rfl) (by kernel_rfl) (fun _ _ _ h => h) (Or.inl ⟨by kernel_rfl, ?_⟩) trivial ?_
                    · intro wz hSw
                      go_simp
                    simp only [List.setIfInBounds_toArray, List.set_cons_zero, List.set_cons_succ]
                    refine take_at 19 47 (.bool true) rfl (by kernel_rfl) (by kernel_rfl) (by kernel_rfl) (by kernel_rfl) (fun _ _ _ h => h) (Or.inl ⟨by kernel_rfl, ?_⟩) trivial ?_
                    · intro wz hSw
                      go_simp
                    simp only [List.setIfInBounds_toArray, List.set_cons_zero, List.set_cons_succ]
                    refine take_at 20 48 (.bool true) rfl (by kernel_rfl) (by kernel_rfl) (by kernel_rfl) (by kernel_rfl) (fun _ _ _ h => h) (Or.inl ⟨by kernel_rfl, ?_⟩) trivial ?_
                    · intro wz hSw
                      go_simp
                    simp only [List.setIfInBounds_toArray, List.set_cons_zero, List.set_cons_succ]
                    refine take_at 21 49 (.string s) rfl (by kernel_rfl) (by kernel_rfl) (by kernel_rfl) (by kernel_rfl) (fun _ _ _ h => h) (Or.inl ⟨by kernel_rfl, ?_⟩) trivial ?_
                    · intro wz hSw
                      go_simp
                    simp only [List.setIfInBounds_toArray, List.set_cons_zero, List.set_cons_succ]
                    refine take_at 22 50 (.int .i64 (k : Int)) rfl (by kernel_rfl) (by kernel_rfl) (by kernel_rfl) (by kernel_rfl) (fun _ _ _ h => h) (Or.inl ⟨by kernel_rfl, ?_⟩) trivial ?_
                    · intro wz hSw
                      go_simp
                    simp only [List.setIfInBounds_toArray, List.set_cons_zero, List.set_cons_succ]
                    refine take_at 23 51 (.int .i64 ((k : Int) + 1)) rfl (by kernel_rfl) (by kernel_rfl) (by kernel_rfl) (by kernel_rfl) (fun _ _ _ h => h) (Or.inl ⟨by kernel_rfl, ?_⟩) trivial ?_
                    · intro wz hSw
                      go_simp
                    simp only [List.setIfInBounds_toArray, List.set_cons_zero, List.set_cons_succ]
                    refine take_at 24 52 (.int .u8 ((s[k + 1]'h1).toNat : Int)) rfl (by kernel_rfl) (by kernel_rfl) (by kernel_rfl) (by kernel_rfl) (fun _ _ _ h => h) (Or.inl ⟨by kernel_rfl, ?_⟩) trivial ?_
                    · intro wz hSw
                      go_simp
                    simp only [List.setIfInBounds_toArray, List.set_cons_zero, List.set_cons_succ]
                    refine take_at 25 53 (.bool true) rfl (by kernel_rfl) (by kernel_rfl) (by kernel_rfl) (by kernel_rfl) (fun _ _ _ h => h) (Or.inl ⟨by kernel_rfl, ?_⟩) trivial ?_
                    · intro wz hSw
                      go_simp
                    simp only [List.setIfInBounds_toArray, List.set_cons_zero, List.set_cons_succ]
                    refine take_at 26 54 (.bool true) rfl (by kernel_rfl) (by kernel_rfl) (by kernel_rfl) (by kernel_rfl) (fun _ _ _ h => h) (Or.inl ⟨by kernel_rfl, ?_⟩) trivial ?_
                    · intro wz hSw
                      go_simp
                    simp only [List.setIfInBounds_toArray, List.set_cons_zero, List.set_cons_succ]
                    refine take_at 27 55 (.bool true) rfl (by kernel_rfl) (by kernel_rfl) (by kernel_rfl) (by kernel_rfl) (fun _ _ _ h => h) (Or.inl ⟨by kernel_rfl, ?_⟩) trivial ?_
                    · intro wz hSw
                      go_simp
                    simp only [List.setIfInBounds_toArray, List.set_cons_zero, List.set_cons_succ]
                    refine take_at 28 56 (.string s) rfl (by kernel_rfl) (by kernel_rfl) (by kernel_rfl) (by kernel_rfl) (fun _ _ _ h => h) (Or.inl ⟨by kernel_rfl, ?_⟩) trivial ?_
                    · intro wz hSw
                      go_simp
                    simp only [List.setIfInBounds_toArray, List.set_cons_zero, List.set_cons_succ]
                    refine take_at 29 57 (.int .i64 (k : Int)) rfl (by kernel_rfl) (by kernel_rfl) (by kernel_rfl) (by kernel_rfl) (fun _ _ _ h => h) (Or.inl ⟨by kernel_rfl, ?_⟩) trivial ?_
                    · intro wz hSw
                      go_simp
                    simp only [List.setIfInBounds_toArray, List.set_cons_zero, List.set_cons_succ]
                    refine take_at 30 58 (.int .i64 ((k : Int) + 1)) rfl (by kernel_rfl) (by kernel_rfl) (by kernel_rfl) (by kernel_rfl) (fun _ _ _ h => h) (Or.inl ⟨by kernel_rfl, ?_⟩) trivial ?_
                    · intro wz hSw
                      go_simp
                    simp only [List.setIfInBounds_toArray, List.set_cons_zero, List.set_cons_succ]
                    refine take_at 31 59 (.int .u8 ((s[k + 1]'h1).toNat : Int)) rfl (by kernel_rfl) (by kernel_rfl) (by kernel_rfl) (by kernel_rfl) (fun _ _ _ h => h) (Or.inl ⟨by kernel_rfl, ?_⟩) trivial ?_
                    · intro wz hSw
                      go_simp
                    simp only [List.setIfInBounds_toArray, List.set_cons_zero, List.set_cons_succ]
                    refine take_at 32 60 (.bool true) rfl (by kernel_rfl) (by kernel_rfl) (by kernel_rfl) (by kernel_rfl) (fun _ _ _ h => h) (Or.inl ⟨by kernel_rfl, ?_⟩) trivial ?_
                    · intro wz hSw
                      go_simp
                    simp only [List.setIfInBounds_toArray, List.set_cons_zero, List.set_cons_succ]
                    refine take_at 33 61 (.bool true) rfl (by kernel_rfl) (by kernel_rfl) (by kernel_rfl) (by kernel_rfl) (fun _ _ _ h => h) (Or.inl ⟨by kernel_rfl, ?_⟩) trivial ?_
                    · intro wz hSw
                      go_simp
                    simp only [List.setIfInBounds_toArray, List.set_cons_zero, List.set_cons_succ]
                    refine wpAnyH_done (by kernel_rfl) ?_ _
                    have bc := picks_cell hm.box hn6
                    have bf := frozen_of_heap hm.box n
                    go_wp2_with fail
                    go_roundw
                    case rel => exact ⟨n + 1, by omega, by go_num, by have h := RdMid.set (w1 := _) ⟨hm.box, hm.res, ⟨hm.bel.os, hm.bel.tape, hm.bel.output, hm.bel.size, hm.bel.block⟩⟩ hn6 HD.out; rw [show ((s[k + 1].toNat - 48 : Nat) : Int) = (s[k + 1].toNat : Int) - 48 by omega] at h; exact h⟩
                    case measure => simp [intOf] <;> omega
                  · have g57 : decide (((s[k + 1]'h1).toNat : Int) ≤ 57) = false := decide_eq_false (by intro hc; exact h57 (UInt8.le_iff_toNat_le.2 (by simp; omega)))
                    have HD := hide (show readAt acc c ((bytes s).drop (k + 1)) n = c n by rw [drop_at h1]; exact readAt_out (Or.inr (UInt8.not_le.1 h57)))
                    clear ha
                    generalize nameK n = nm at *
                    go_wp2_with fail
                    refine wp_region_held_drew (S := fun _ => True) (by kernel_rfl) trivial (fun hHeld => ?_)
                    refine take_at 0 28 (.string s) rfl (by kernel_rfl) (by kernel_rfl) (by kernel_rfl) (by kernel_rfl) (fun _ _ _ h => h) (Or.inl ⟨by kernel_rfl, ?_⟩) trivial ?_
                    · intro wz hSw
                      go_simp
                    simp only [List.setIfInBounds_toArray, List.set_cons_zero, List.set_cons_succ]
                    refine take_at 1 29 (.int .i64 (k : Int)) rfl (by kernel_rfl) (by kernel_rfl) (by kernel_rfl) (by kernel_rfl) (fun _ _ _ h => h) (Or.inl ⟨by kernel_rfl, ?_⟩) trivial ?_
                    · intro wz hSw
                      go_simp
                    simp only [List.setIfInBounds_toArray, List.set_cons_zero, List.set_cons_succ]
                    refine take_at 2 30 (.int .u8 (s[k].toNat : Int)) rfl (by kernel_rfl) (by kernel_rfl) (by kernel_rfl) (by kernel_rfl) (fun _ _ _ h => h) (Or.inl ⟨by kernel_rfl, ?_⟩) trivial ?_
                    · intro wz hSw
                      go_simp
                    simp only [List.setIfInBounds_toArray, List.set_cons_zero, List.set_cons_succ]
                    refine take_at 3 31 (.bool true) rfl (by kernel_rfl) (by kernel_rfl) (by kernel_rfl) (by kernel_rfl) (fun _ _ _ h => h) (Or.inl ⟨by kernel_rfl, ?_⟩) trivial ?_
                    · intro wz hSw
                      go_simp
                    simp only [List.setIfInBounds_toArray, List.set_cons_zero, List.set_cons_succ]
                    refine take_at 4 32 (.bool true) rfl (by kernel_rfl) (by kernel_rfl) (by kernel_rfl) (by kernel_rfl) (fun _ _ _ h => h) (Or.inl ⟨by kernel_rfl, ?_⟩) trivial ?_
                    · intro wz hSw
                      go_simp
                    simp only [List.setIfInBounds_toArray, List.set_cons_zero, List.set_cons_succ]
                    refine take_at 5 33 (.string s) rfl (by kernel_rfl) (by kernel_rfl) (by kernel_rfl) (by kernel_rfl) (fun _ _ _ h => h) (Or.inl ⟨by kernel_rfl, ?_⟩) trivial ?_
                    · intro wz hSw
                      go_simp
                    simp only [List.setIfInBounds_toArray, List.set_cons_zero, List.set_cons_succ]
                    refine take_at 6 34 (.int .i64 (fr : Int)) rfl (by kernel_rfl) (by kernel_rfl) (by kernel_rfl) (by kernel_rfl) (fun _ _ _ h => h) (Or.inl ⟨by kernel_rfl, ?_⟩) trivial ?_
                    · intro wz hSw
                      go_simp
                    simp only [List.setIfInBounds_toArray, List.set_cons_zero, List.set_cons_succ]
                    refine take_at 7 35 (.int .i64 (k : Int)) rfl (by kernel_rfl) (by kernel_rfl) (by kernel_rfl) (by kernel_rfl) (fun _ _ _ h => h) (Or.inl ⟨by kernel_rfl, ?_⟩) trivial ?_
                    · intro wz hSw
                      go_simp
                    simp only [List.setIfInBounds_toArray, List.set_cons_zero, List.set_cons_succ]
                    refine take_at 8 36 (.string (s.extract fr k)) rfl (by kernel_rfl) (by kernel_rfl) (by kernel_rfl) (by kernel_rfl) (fun _ _ _ h => h) (Or.inl ⟨by kernel_rfl, ?_⟩) trivial ?_
                    · intro wz hSw
                      go_simp
                    simp only [List.setIfInBounds_toArray, List.set_cons_zero, List.set_cons_succ]
                    refine take_at 9 37 (.int .i64 (n : Int)) rfl (by kernel_rfl) (by kernel_rfl) (by kernel_rfl) (by kernel_rfl) (fun _ _ _ h => h) (Or.inl ⟨by kernel_rfl, ?_⟩) trivial ?_
                    · intro wz hSw
                      go_simp
                    simp only [List.setIfInBounds_toArray, List.set_cons_zero, List.set_cons_succ]
                    refine wpAnyH_ready (rs := [10]) (by kernel_rfl) (by simp) ?_
                    refine AllReadyH.cons (o := { dst := some 38, op := .call { callee := .value (.func 18), args := #[.tmp 37], argTypes := #[3] }, type := 9, pos := "choice.go:103", after := #[{ on := 9, ground := .data }, { on := 4, ground := .chain }, { on := 4, ground := .guard }], guard := some (4, true) }) rfl (fun K hK => ?_) AllReadyH.nil
                    go_simp
                    refine (HNm.out _).mono ?_
                    rintro e w2 ⟨rfl, hbb⟩
                    have hm := hm.step hbb rfl rfl rfl rfl
                    clear hbb
                    go_wp2_with fail
                    refine hK.out _ _ trivial (fun hHeld => ?_)
                    clear hK K
                    try simp only [Act.put, List.setIfInBounds_toArray, List.set_cons_zero, List.set_cons_succ]
                    refine take_at 11 39 (.bool true) rfl (by kernel_rfl) (by kernel_rfl) (by kernel_rfl) (by kernel_rfl) (fun _ _ _ h => h) (Or.inl ⟨by kernel_rfl, ?_⟩) trivial ?_
                    · intro wz hSw
                      go_simp
                    simp only [List.setIfInBounds_toArray, List.set_cons_zero, List.set_cons_succ]
                    refine take_at 12 40 (.bool true) rfl (by kernel_rfl) (by kernel_rfl) (by kernel_rfl) (by kernel_rfl) (fun _ _ _ h => h) (Or.inl ⟨by kernel_rfl, ?_⟩) trivial ?_
                    · intro wz hSw
                      go_simp
                    simp only [List.setIfInBounds_toArray, List.set_cons_zero, List.set_cons_succ]
                    refine take_at 13 41 (.bool true) rfl (by kernel_rfl) (by kernel_rfl) (by kernel_rfl) (by kernel_rfl) (fun _ _ _ h => h) (Or.inl ⟨by kernel_rfl, ?_⟩) trivial ?_
                    · intro wz hSw
                      go_simp
                    simp only [List.setIfInBounds_toArray, List.set_cons_zero, List.set_cons_succ]
                    refine take_at 14 42 (.int .i64 (k : Int)) rfl (by kernel_rfl) (by kernel_rfl) (by kernel_rfl) (by kernel_rfl) (fun _ _ _ h => h) (Or.inl ⟨by kernel_rfl, ?_⟩) trivial ?_
                    · intro wz hSw
                      go_simp
                    simp only [List.setIfInBounds_toArray, List.set_cons_zero, List.set_cons_succ]
                    refine take_at 15 43 (.int .i64 ((k : Int) + 1)) rfl (by kernel_rfl) (by kernel_rfl) (by kernel_rfl) (by kernel_rfl) (fun _ _ _ h => h) (Or.inl ⟨by kernel_rfl, ?_⟩) trivial ?_
                    · intro wz hSw
                      go_simp
                    simp only [List.setIfInBounds_toArray, List.set_cons_zero, List.set_cons_succ]
                    refine take_at 16 44 (.string s) rfl (by kernel_rfl) (by kernel_rfl) (by kernel_rfl) (by kernel_rfl) (fun _ _ _ h => h) (Or.inl ⟨by kernel_rfl, ?_⟩) trivial ?_
                    · intro wz hSw
                      go_simp
                    simp only [List.setIfInBounds_toArray, List.set_cons_zero, List.set_cons_succ]
                    refine take_at 17 45 (.int .i64 (s.size : Int)) rfl (by kernel_rfl) (by kernel_rfl) (by kernel_rfl) (by kernel_rfl) (fun _ _ _ h => h) (Or.inl ⟨by kernel_rfl, ?_⟩) trivial ?_
                    · intro wz hSw
                      go_simp
                    simp only [List.setIfInBounds_toArray, List.set_cons_zero, List.set_cons_succ]
                    refine take_at 18 46 (.bool true) rfl (by kernel_rfl) (by kernel_rfl) (by kernel_rfl) (by kernel_rfl) (fun _ _ _ h => h) (Or.inl ⟨by kernel_rfl, ?_⟩) trivial ?_
                    · intro wz hSw
                      go_simp
                    simp only [List.setIfInBounds_toArray, List.set_cons_zero, List.set_cons_succ]
                    refine take_at 19 47 (.bool true) rfl (by kernel_rfl) (by kernel_rfl) (by kernel_rfl) (by kernel_rfl) (fun _ _ _ h => h) (Or.inl ⟨by kernel_rfl, ?_⟩) trivial ?_
                    · intro wz hSw
                      go_simp
                    simp only [List.setIfInBounds_toArray, List.set_cons_zero, List.set_cons_succ]
                    refine take_at 20 48 (.bool true) rfl (by kernel_rfl) (by kernel_rfl) (by kernel_rfl) (by kernel_rfl) (fun _ _ _ h => h) (Or.inl ⟨by kernel_rfl, ?_⟩) trivial ?_
                    · intro wz hSw
                      go_simp
                    simp only [List.setIfInBounds_toArray, List.set_cons_zero, List.set_cons_succ]
                    refine take_at 21 49 (.string s) rfl (by kernel_rfl) (by kernel_rfl) (by kernel_rfl) (by kernel_rfl) (fun _ _ _ h => h) (Or.inl ⟨by kernel_rfl, ?_⟩) trivial ?_
                    · intro wz hSw
                      go_simp
                    simp only [List.setIfInBounds_toArray, List.set_cons_zero, List.set_cons_succ]
                    refine take_at 22 50 (.int .i64 (k : Int)) rfl (by kernel_rfl) (by kernel_rfl) (by kernel_rfl) (by kernel_rfl) (fun _ _ _ h => h) (Or.inl ⟨by kernel_rfl, ?_⟩) trivial ?_
                    · intro wz hSw
                      go_simp
                    simp only [List.setIfInBounds_toArray, List.set_cons_zero, List.set_cons_succ]
                    refine take_at 23 51 (.int .i64 ((k : Int) + 1)) rfl (by kernel_rfl) (by kernel_rfl) (by kernel_rfl) (by kernel_rfl) (fun _ _ _ h => h) (Or.inl ⟨by kernel_rfl, ?_⟩) trivial ?_
                    · intro wz hSw
                      go_simp
                    simp only [List.setIfInBounds_toArray, List.set_cons_zero, List.set_cons_succ]
                    refine take_at 24 52 (.int .u8 ((s[k + 1]'h1).toNat : Int)) rfl (by kernel_rfl) (by kernel_rfl) (by kernel_rfl) (by kernel_rfl) (fun _ _ _ h => h) (Or.inl ⟨by kernel_rfl, ?_⟩) trivial ?_
                    · intro wz hSw
                      go_simp
                    simp only [List.setIfInBounds_toArray, List.set_cons_zero, List.set_cons_succ]
                    refine take_at 25 53 (.bool true) rfl (by kernel_rfl) (by kernel_rfl) (by kernel_rfl) (by kernel_rfl) (fun _ _ _ h => h) (Or.inl ⟨by kernel_rfl, ?_⟩) trivial ?_
                    · intro wz hSw
                      go_simp
                    simp only [List.setIfInBounds_toArray, List.set_cons_zero, List.set_cons_succ]
                    refine take_at 26 54 (.bool true) rfl (by kernel_rfl) (by kernel_rfl) (by kernel_rfl) (by kernel_rfl) (fun _ _ _ h => h) (Or.inl ⟨by kernel_rfl, ?_⟩) trivial ?_
                    · intro wz hSw
                      go_simp
                    simp only [List.setIfInBounds_toArray, List.set_cons_zero, List.set_cons_succ]
                    refine take_at 27 55 (.bool true) rfl (by kernel_rfl) (by kernel_rfl) (by kernel_rfl) (by kernel_rfl) (fun _ _ _ h => h) (Or.inl ⟨by kernel_rfl, ?_⟩) trivial ?_
                    · intro wz hSw
                      go_simp
                    simp only [List.setIfInBounds_toArray, List.set_cons_zero, List.set_cons_succ]
                    refine take_at 28 56 (.string s) rfl (by kernel_rfl) (by kernel_rfl) (by kernel_rfl) (by kernel_rfl) (fun _ _ _ h => h) (Or.inl ⟨by kernel_rfl, ?_⟩) trivial ?_
                    · intro wz hSw
                      go_simp
                    simp only [List.setIfInBounds_toArray, List.set_cons_zero, List.set_cons_succ]
                    refine take_at 29 57 (.int .i64 (k : Int)) rfl (by kernel_rfl) (by kernel_rfl) (by kernel_rfl) (by kernel_rfl) (fun _ _ _ h => h) (Or.inl ⟨by kernel_rfl, ?_⟩) trivial ?_
                    · intro wz hSw
                      go_simp
                    simp only [List.setIfInBounds_toArray, List.set_cons_zero, List.set_cons_succ]
                    refine take_at 30 58 (.int .i64 ((k : Int) + 1)) rfl (by kernel_rfl) (by kernel_rfl) (by kernel_rfl) (by kernel_rfl) (fun _ _ _ h => h) (Or.inl ⟨by kernel_rfl, ?_⟩) trivial ?_
                    · intro wz hSw
                      go_simp
                    simp only [List.setIfInBounds_toArray, List.set_cons_zero, List.set_cons_succ]
                    refine take_at 31 59 (.int .u8 ((s[k + 1]'h1).toNat : Int)) rfl (by kernel_rfl) (by kernel_rfl) (by kernel_rfl) (by kernel_rfl) (fun _ _ _ h => h) (Or.inl ⟨by kernel_rfl, ?_⟩) trivial ?_
                    · intro wz hSw
                      go_simp
                    simp only [List.setIfInBounds_toArray, List.set_cons_zero, List.set_cons_succ]
                    refine take_at 32 60 (.bool false) rfl (by kernel_rfl) (by kernel_rfl) (by kernel_rfl) (by kernel_rfl) (fun _ _ _ h => h) (Or.inl ⟨by kernel_rfl, ?_⟩) trivial ?_
                    · intro wz hSw
                      go_simp
                    simp only [List.setIfInBounds_toArray, List.set_cons_zero, List.set_cons_succ]
                    refine take_at 33 61 (.bool false) rfl (by kernel_rfl) (by kernel_rfl) (by kernel_rfl) (by kernel_rfl) (fun _ _ _ h => h) (Or.inl ⟨by kernel_rfl, ?_⟩) trivial ?_
                    · intro wz hSw
                      go_simp
                    simp only [List.setIfInBounds_toArray, List.set_cons_zero, List.set_cons_succ]
                    refine wpAnyH_done (by kernel_rfl) ?_ _
                    go_wp2_with fail
                    go_roundw
                    case rel => exact ⟨n + 1, by omega, by go_num, RdMid.same ⟨hm.box, hm.res, ⟨hm.bel.os, hm.bel.tape, hm.bel.output, hm.bel.size, hm.bel.block⟩⟩ HD.out⟩
                    case measure => simp [intOf] <;> omega
                · have g49 : decide ((49 : Int) ≤ ((s[k + 1]'h1).toNat : Int)) = false := decide_eq_false (by intro hc; exact h49 (UInt8.le_iff_toNat_le.2 (by simp; omega)))
                  have HD := hide (show readAt acc c ((bytes s).drop (k + 1)) n = c n by rw [drop_at h1]; exact readAt_out (Or.inl (UInt8.not_le.1 h49)))
                  clear ha
                  generalize nameK n = nm at *
                  go_wp2_with fail
                  refine wp_region_held_drew (S := fun _ => True) (by kernel_rfl) trivial (fun hHeld => ?_)
                  refine take_at 0 28 (.string s) rfl (by kernel_rfl) (by kernel_rfl) (by kernel_rfl) (by kernel_rfl) (fun _ _ _ h => h) (Or.inl ⟨by kernel_rfl, ?_⟩) trivial ?_
                  · intro wz hSw
                    go_simp
                  simp only [List.setIfInBounds_toArray, List.set_cons_zero, List.set_cons_succ]
                  refine take_at 1 29 (.int .i64 (k : Int)) rfl (by kernel_rfl) (by kernel_rfl) (by kernel_rfl) (by kernel_rfl) (fun _ _ _ h => h) (Or.inl ⟨by kernel_rfl, ?_⟩) trivial ?_
                  · intro wz hSw
                    go_simp
                  simp only [List.setIfInBounds_toArray, List.set_cons_zero, List.set_cons_succ]
                  refine take_at 2 30 (.int .u8 (s[k].toNat : Int)) rfl (by kernel_rfl) (by kernel_rfl) (by kernel_rfl) (by kernel_rfl) (fun _ _ _ h => h) (Or.inl ⟨by kernel_rfl, ?_⟩) trivial ?_
                  · intro wz hSw
                    go_simp
                  simp only [List.setIfInBounds_toArray, List.set_cons_zero, List.set_cons_succ]
                  refine take_at 3 31 (.bool true) rfl (by kernel_rfl) (by kernel_rfl) (by kernel_rfl) (by kernel_rfl) (fun _ _ _ h => h) (Or.inl ⟨by kernel_rfl, ?_⟩) trivial ?_
                  · intro wz hSw
                    go_simp
                  simp only [List.setIfInBounds_toArray, List.set_cons_zero, List.set_cons_succ]
                  refine take_at 4 32 (.bool true) rfl (by kernel_rfl) (by kernel_rfl) (by kernel_rfl) (by kernel_rfl) (fun _ _ _ h => h) (Or.inl ⟨by kernel_rfl, ?_⟩) trivial ?_
                  · intro wz hSw
                    go_simp
                  simp only [List.setIfInBounds_toArray, List.set_cons_zero, List.set_cons_succ]
                  refine take_at 5 33 (.string s) rfl (by kernel_rfl) (by kernel_rfl) (by kernel_rfl) (by kernel_rfl) (fun _ _ _ h => h) (Or.inl ⟨by kernel_rfl, ?_⟩) trivial ?_
                  · intro wz hSw
                    go_simp
                  simp only [List.setIfInBounds_toArray, List.set_cons_zero, List.set_cons_succ]
                  refine take_at 6 34 (.int .i64 (fr : Int)) rfl (by kernel_rfl) (by kernel_rfl) (by kernel_rfl) (by kernel_rfl) (fun _ _ _ h => h) (Or.inl ⟨by kernel_rfl, ?_⟩) trivial ?_
                  · intro wz hSw
                    go_simp
                  simp only [List.setIfInBounds_toArray, List.set_cons_zero, List.set_cons_succ]
                  refine take_at 7 35 (.int .i64 (k : Int)) rfl (by kernel_rfl) (by kernel_rfl) (by kernel_rfl) (by kernel_rfl) (fun _ _ _ h => h) (Or.inl ⟨by kernel_rfl, ?_⟩) trivial ?_
                  · intro wz hSw
                    go_simp
                  simp only [List.setIfInBounds_toArray, List.set_cons_zero, List.set_cons_succ]
                  refine take_at 8 36 (.string (s.extract fr k)) rfl (by kernel_rfl) (by kernel_rfl) (by kernel_rfl) (by kernel_rfl) (fun _ _ _ h => h) (Or.inl ⟨by kernel_rfl, ?_⟩) trivial ?_
                  · intro wz hSw
                    go_simp
                  simp only [List.setIfInBounds_toArray, List.set_cons_zero, List.set_cons_succ]
                  refine take_at 9 37 (.int .i64 (n : Int)) rfl (by kernel_rfl) (by kernel_rfl) (by kernel_rfl) (by kernel_rfl) (fun _ _ _ h => h) (Or.inl ⟨by kernel_rfl, ?_⟩) trivial ?_
                  · intro wz hSw
                    go_simp
                  simp only [List.setIfInBounds_toArray, List.set_cons_zero, List.set_cons_succ]
                  refine wpAnyH_ready (rs := [10]) (by kernel_rfl) (by simp) ?_
                  refine AllReadyH.cons (o := { dst := some 38, op := .call { callee := .value (.func 18), args := #[.tmp 37], argTypes := #[3] }, type := 9, pos := "choice.go:103", after := #[{ on := 9, ground := .data }, { on := 4, ground := .chain }, { on := 4, ground := .guard }], guard := some (4, true) }) rfl (fun K hK => ?_) AllReadyH.nil
                  go_simp
                  refine (HNm.out _).mono ?_
                  rintro e w2 ⟨rfl, hbb⟩
                  have hm := hm.step hbb rfl rfl rfl rfl
                  clear hbb
                  go_wp2_with fail
                  refine hK.out _ _ trivial (fun hHeld => ?_)
                  clear hK K
                  try simp only [Act.put, List.setIfInBounds_toArray, List.set_cons_zero, List.set_cons_succ]
                  refine take_at 11 39 (.bool true) rfl (by kernel_rfl) (by kernel_rfl) (by kernel_rfl) (by kernel_rfl) (fun _ _ _ h => h) (Or.inl ⟨by kernel_rfl, ?_⟩) trivial ?_
                  · intro wz hSw
                    go_simp
                  simp only [List.setIfInBounds_toArray, List.set_cons_zero, List.set_cons_succ]
                  refine take_at 12 40 (.bool true) rfl (by kernel_rfl) (by kernel_rfl) (by kernel_rfl) (by kernel_rfl) (fun _ _ _ h => h) (Or.inl ⟨by kernel_rfl, ?_⟩) trivial ?_
                  · intro wz hSw
                    go_simp
                  simp only [List.setIfInBounds_toArray, List.set_cons_zero, List.set_cons_succ]
                  refine take_at 13 41 (.bool true) rfl (by kernel_rfl) (by kernel_rfl) (by kernel_rfl) (by kernel_rfl) (fun _ _ _ h => h) (Or.inl ⟨by kernel_rfl, ?_⟩) trivial ?_
                  · intro wz hSw
                    go_simp
                  simp only [List.setIfInBounds_toArray, List.set_cons_zero, List.set_cons_succ]
                  refine take_at 14 42 (.int .i64 (k : Int)) rfl (by kernel_rfl) (by kernel_rfl) (by kernel_rfl) (by kernel_rfl) (fun _ _ _ h => h) (Or.inl ⟨by kernel_rfl, ?_⟩) trivial ?_
                  · intro wz hSw
                    go_simp
                  simp only [List.setIfInBounds_toArray, List.set_cons_zero, List.set_cons_succ]
                  refine take_at 15 43 (.int .i64 ((k : Int) + 1)) rfl (by kernel_rfl) (by kernel_rfl) (by kernel_rfl) (by kernel_rfl) (fun _ _ _ h => h) (Or.inl ⟨by kernel_rfl, ?_⟩) trivial ?_
                  · intro wz hSw
                    go_simp
                  simp only [List.setIfInBounds_toArray, List.set_cons_zero, List.set_cons_succ]
                  refine take_at 16 44 (.string s) rfl (by kernel_rfl) (by kernel_rfl) (by kernel_rfl) (by kernel_rfl) (fun _ _ _ h => h) (Or.inl ⟨by kernel_rfl, ?_⟩) trivial ?_
                  · intro wz hSw
                    go_simp
                  simp only [List.setIfInBounds_toArray, List.set_cons_zero, List.set_cons_succ]
                  refine take_at 17 45 (.int .i64 (s.size : Int)) rfl (by kernel_rfl) (by kernel_rfl) (by kernel_rfl) (by kernel_rfl) (fun _ _ _ h => h) (Or.inl ⟨by kernel_rfl, ?_⟩) trivial ?_
                  · intro wz hSw
                    go_simp
                  simp only [List.setIfInBounds_toArray, List.set_cons_zero, List.set_cons_succ]
                  refine take_at 18 46 (.bool true) rfl (by kernel_rfl) (by kernel_rfl) (by kernel_rfl) (by kernel_rfl) (fun _ _ _ h => h) (Or.inl ⟨by kernel_rfl, ?_⟩) trivial ?_
                  · intro wz hSw
                    go_simp
                  simp only [List.setIfInBounds_toArray, List.set_cons_zero, List.set_cons_succ]
                  refine take_at 19 47 (.bool true) rfl (by kernel_rfl) (by kernel_rfl) (by kernel_rfl) (by kernel_rfl) (fun _ _ _ h => h) (Or.inl ⟨by kernel_rfl, ?_⟩) trivial ?_
                  · intro wz hSw
                    go_simp
                  simp only [List.setIfInBounds_toArray, List.set_cons_zero, List.set_cons_succ]
                  refine take_at 20 48 (.bool true) rfl (by kernel_rfl) (by kernel_rfl) (by kernel_rfl) (by kernel_rfl) (fun _ _ _ h => h) (Or.inl ⟨by kernel_rfl, ?_⟩) trivial ?_
                  · intro wz hSw
                    go_simp
                  simp only [List.setIfInBounds_toArray, List.set_cons_zero, List.set_cons_succ]
                  refine take_at 21 49 (.string s) rfl (by kernel_rfl) (by kernel_rfl) (by kernel_rfl) (by kernel_rfl) (fun _ _ _ h => h) (Or.inl ⟨by kernel_rfl, ?_⟩) trivial ?_
                  · intro wz hSw
                    go_simp
                  simp only [List.setIfInBounds_toArray, List.set_cons_zero, List.set_cons_succ]
                  refine take_at 22 50 (.int .i64 (k : Int)) rfl (by kernel_rfl) (by kernel_rfl) (by kernel_rfl) (by kernel_rfl) (fun _ _ _ h => h) (Or.inl ⟨by kernel_rfl, ?_⟩) trivial ?_
                  · intro wz hSw
                    go_simp
                  simp only [List.setIfInBounds_toArray, List.set_cons_zero, List.set_cons_succ]
                  refine take_at 23 51 (.int .i64 ((k : Int) + 1)) rfl (by kernel_rfl) (by kernel_rfl) (by kernel_rfl) (by kernel_rfl) (fun _ _ _ h => h) (Or.inl ⟨by kernel_rfl, ?_⟩) trivial ?_
                  · intro wz hSw
                    go_simp
                  simp only [List.setIfInBounds_toArray, List.set_cons_zero, List.set_cons_succ]
                  refine take_at 24 52 (.int .u8 ((s[k + 1]'h1).toNat : Int)) rfl (by kernel_rfl) (by kernel_rfl) (by kernel_rfl) (by kernel_rfl) (fun _ _ _ h => h) (Or.inl ⟨by kernel_rfl, ?_⟩) trivial ?_
                  · intro wz hSw
                    go_simp
                  simp only [List.setIfInBounds_toArray, List.set_cons_zero, List.set_cons_succ]
                  refine take_at 25 53 (.bool false) rfl (by kernel_rfl) (by kernel_rfl) (by kernel_rfl) (by kernel_rfl) (fun _ _ _ h => h) (Or.inl ⟨by kernel_rfl, ?_⟩) trivial ?_
                  · intro wz hSw
                    go_simp
                  simp only [List.setIfInBounds_toArray, List.set_cons_zero, List.set_cons_succ]
                  refine take_at 26 54 (.bool false) rfl (by kernel_rfl) (by kernel_rfl) (by kernel_rfl) (by kernel_rfl) (fun _ _ _ h => h) (Or.inl ⟨by kernel_rfl, ?_⟩) trivial ?_
                  · intro wz hSw
                    go_simp
                  simp only [List.setIfInBounds_toArray, List.set_cons_zero, List.set_cons_succ]
                  refine take_at 27 55 (.bool false) rfl (by kernel_rfl) (by kernel_rfl) (by kernel_rfl) (by kernel_rfl) (fun _ _ _ h => h) (Or.inl ⟨by kernel_rfl, ?_⟩) trivial ?_
                  · intro wz hSw
                    go_simp
                  simp only [List.setIfInBounds_toArray, List.set_cons_zero, List.set_cons_succ]
                  refine take_at 28 56 undef rfl (by kernel_rfl) (by kernel_rfl) (by kernel_rfl) (by kernel_rfl) (fun _ _ _ h => h) (Or.inr ⟨by kernel_rfl, rfl⟩) trivial ?_
                  simp only [List.setIfInBounds_toArray, List.set_cons_zero, List.set_cons_succ]
                  refine take_at 29 57 undef rfl (by kernel_rfl) (by kernel_rfl) (by kernel_rfl) (by kernel_rfl) (fun _ _ _ h => h) (Or.inr ⟨by kernel_rfl, rfl⟩) trivial ?_
                  simp only [List.setIfInBounds_toArray, List.set_cons_zero, List.set_cons_succ]
                  refine take_at 30 58 undef rfl (by kernel_rfl) (by kernel_rfl) (by kernel_rfl) (by kernel_rfl) (fun _ _ _ h => h) (Or.inr ⟨by kernel_rfl, rfl⟩) trivial ?_
                  simp only [List.setIfInBounds_toArray, List.set_cons_zero, List.set_cons_succ]
                  refine take_at 31 59 undef rfl (by kernel_rfl) (by kernel_rfl) (by kernel_rfl) (by kernel_rfl) (fun _ _ _ h => h) (Or.inr ⟨by kernel_rfl, rfl⟩) trivial ?_
                  simp only [List.setIfInBounds_toArray, List.set_cons_zero, List.set_cons_succ]
                  refine take_at 32 60 undef rfl (by kernel_rfl) (by kernel_rfl) (by kernel_rfl) (by kernel_rfl) (fun _ _ _ h => h) (Or.inr ⟨by kernel_rfl, rfl⟩) trivial ?_
                  simp only [List.setIfInBounds_toArray, List.set_cons_zero, List.set_cons_succ]
                  refine take_at 33 61 (.bool false) rfl (by kernel_rfl) (by kernel_rfl) (by kernel_rfl) (by kernel_rfl) (fun _ _ _ h => h) (Or.inl ⟨by kernel_rfl, ?_⟩) trivial ?_
                  · intro wz hSw
                    go_simp
                  simp only [List.setIfInBounds_toArray, List.set_cons_zero, List.set_cons_succ]
                  refine wpAnyH_done (by kernel_rfl) ?_ _
                  go_wp2_with fail
                  go_roundw
                  case rel => exact ⟨n + 1, by omega, by go_num, RdMid.same ⟨hm.box, hm.res, ⟨hm.bel.os, hm.bel.tape, hm.bel.output, hm.bel.size, hm.bel.block⟩⟩ HD.out⟩
                  case measure => simp [intOf] <;> omega
              · have h1' : decide ((k : Int) + 1 < (s.size : Int)) = false := decide_eq_false (by omega)
                have HD := hide (show readAt acc c ((bytes s).drop (k + 1)) n = c n by rw [List.drop_eq_nil_of_le (by simp [bytes]; omega)]; rfl)
                clear ha
                generalize nameK n = nm at *
                go_wp2_with fail
                refine wp_region_held_drew (S := fun _ => True) (by kernel_rfl) trivial (fun hHeld => ?_)
                refine take_at 0 28 (.string s) rfl (by kernel_rfl) (by kernel_rfl) (by kernel_rfl) (by kernel_rfl) (fun _ _ _ h => h) (Or.inl ⟨by kernel_rfl, ?_⟩) trivial ?_
                · intro wz hSw
                  go_simp
                simp only [List.setIfInBounds_toArray, List.set_cons_zero, List.set_cons_succ]
                refine take_at 1 29 (.int .i64 (k : Int)) rfl (by kernel_rfl) (by kernel_rfl) (by kernel_rfl) (by kernel_rfl) (fun _ _ _ h => h) (Or.inl ⟨by kernel_rfl, ?_⟩) trivial ?_
                · intro wz hSw
                  go_simp
                simp only [List.setIfInBounds_toArray, List.set_cons_zero, List.set_cons_succ]
                refine take_at 2 30 (.int .u8 (s[k].toNat : Int)) rfl (by kernel_rfl) (by kernel_rfl) (by kernel_rfl) (by kernel_rfl) (fun _ _ _ h => h) (Or.inl ⟨by kernel_rfl, ?_⟩) trivial ?_
                · intro wz hSw
                  go_simp
                simp only [List.setIfInBounds_toArray, List.set_cons_zero, List.set_cons_succ]
                refine take_at 3 31 (.bool true) rfl (by kernel_rfl) (by kernel_rfl) (by kernel_rfl) (by kernel_rfl) (fun _ _ _ h => h) (Or.inl ⟨by kernel_rfl, ?_⟩) trivial ?_
                · intro wz hSw
                  go_simp
                simp only [List.setIfInBounds_toArray, List.set_cons_zero, List.set_cons_succ]
                refine take_at 4 32 (.bool true) rfl (by kernel_rfl) (by kernel_rfl) (by kernel_rfl) (by kernel_rfl) (fun _ _ _ h => h) (Or.inl ⟨by kernel_rfl, ?_⟩) trivial ?_
                · intro wz hSw
                  go_simp
                simp only [List.setIfInBounds_toArray, List.set_cons_zero, List.set_cons_succ]
                refine take_at 5 33 (.string s) rfl (by kernel_rfl) (by kernel_rfl) (by kernel_rfl) (by kernel_rfl) (fun _ _ _ h => h) (Or.inl ⟨by kernel_rfl, ?_⟩) trivial ?_
                · intro wz hSw
                  go_simp
                simp only [List.setIfInBounds_toArray, List.set_cons_zero, List.set_cons_succ]
                refine take_at 6 34 (.int .i64 (fr : Int)) rfl (by kernel_rfl) (by kernel_rfl) (by kernel_rfl) (by kernel_rfl) (fun _ _ _ h => h) (Or.inl ⟨by kernel_rfl, ?_⟩) trivial ?_
                · intro wz hSw
                  go_simp
                simp only [List.setIfInBounds_toArray, List.set_cons_zero, List.set_cons_succ]
                refine take_at 7 35 (.int .i64 (k : Int)) rfl (by kernel_rfl) (by kernel_rfl) (by kernel_rfl) (by kernel_rfl) (fun _ _ _ h => h) (Or.inl ⟨by kernel_rfl, ?_⟩) trivial ?_
                · intro wz hSw
                  go_simp
                simp only [List.setIfInBounds_toArray, List.set_cons_zero, List.set_cons_succ]
                refine take_at 8 36 (.string (s.extract fr k)) rfl (by kernel_rfl) (by kernel_rfl) (by kernel_rfl) (by kernel_rfl) (fun _ _ _ h => h) (Or.inl ⟨by kernel_rfl, ?_⟩) trivial ?_
                · intro wz hSw
                  go_simp
                simp only [List.setIfInBounds_toArray, List.set_cons_zero, List.set_cons_succ]
                refine take_at 9 37 (.int .i64 (n : Int)) rfl (by kernel_rfl) (by kernel_rfl) (by kernel_rfl) (by kernel_rfl) (fun _ _ _ h => h) (Or.inl ⟨by kernel_rfl, ?_⟩) trivial ?_
                · intro wz hSw
                  go_simp
                simp only [List.setIfInBounds_toArray, List.set_cons_zero, List.set_cons_succ]
                refine wpAnyH_ready (rs := [10]) (by kernel_rfl) (by simp) ?_
                refine AllReadyH.cons (o := { dst := some 38, op := .call { callee := .value (.func 18), args := #[.tmp 37], argTypes := #[3] }, type := 9, pos := "choice.go:103", after := #[{ on := 9, ground := .data }, { on := 4, ground := .chain }, { on := 4, ground := .guard }], guard := some (4, true) }) rfl (fun K hK => ?_) AllReadyH.nil
                go_simp
                refine (HNm.out _).mono ?_
                rintro e w2 ⟨rfl, hbb⟩
                have hm := hm.step hbb rfl rfl rfl rfl
                clear hbb
                go_wp2_with fail
                refine hK.out _ _ trivial (fun hHeld => ?_)
                clear hK K
                try simp only [Act.put, List.setIfInBounds_toArray, List.set_cons_zero, List.set_cons_succ]
                refine take_at 11 39 (.bool true) rfl (by kernel_rfl) (by kernel_rfl) (by kernel_rfl) (by kernel_rfl) (fun _ _ _ h => h) (Or.inl ⟨by kernel_rfl, ?_⟩) trivial ?_
                · intro wz hSw
                  go_simp
                simp only [List.setIfInBounds_toArray, List.set_cons_zero, List.set_cons_succ]
                refine take_at 12 40 (.bool true) rfl (by kernel_rfl) (by kernel_rfl) (by kernel_rfl) (by kernel_rfl) (fun _ _ _ h => h) (Or.inl ⟨by kernel_rfl, ?_⟩) trivial ?_
                · intro wz hSw
                  go_simp
                simp only [List.setIfInBounds_toArray, List.set_cons_zero, List.set_cons_succ]
                refine take_at 13 41 (.bool true) rfl (by kernel_rfl) (by kernel_rfl) (by kernel_rfl) (by kernel_rfl) (fun _ _ _ h => h) (Or.inl ⟨by kernel_rfl, ?_⟩) trivial ?_
                · intro wz hSw
                  go_simp
                simp only [List.setIfInBounds_toArray, List.set_cons_zero, List.set_cons_succ]
                refine take_at 14 42 (.int .i64 (k : Int)) rfl (by kernel_rfl) (by kernel_rfl) (by kernel_rfl) (by kernel_rfl) (fun _ _ _ h => h) (Or.inl ⟨by kernel_rfl, ?_⟩) trivial ?_
                · intro wz hSw
                  go_simp
                simp only [List.setIfInBounds_toArray, List.set_cons_zero, List.set_cons_succ]
                refine take_at 15 43 (.int .i64 ((k : Int) + 1)) rfl (by kernel_rfl) (by kernel_rfl) (by kernel_rfl) (by kernel_rfl) (fun _ _ _ h => h) (Or.inl ⟨by kernel_rfl, ?_⟩) trivial ?_
                · intro wz hSw
                  go_simp
                simp only [List.setIfInBounds_toArray, List.set_cons_zero, List.set_cons_succ]
                refine take_at 16 44 (.string s) rfl (by kernel_rfl) (by kernel_rfl) (by kernel_rfl) (by kernel_rfl) (fun _ _ _ h => h) (Or.inl ⟨by kernel_rfl, ?_⟩) trivial ?_
                · intro wz hSw
                  go_simp
                simp only [List.setIfInBounds_toArray, List.set_cons_zero, List.set_cons_succ]
                refine take_at 17 45 (.int .i64 (s.size : Int)) rfl (by kernel_rfl) (by kernel_rfl) (by kernel_rfl) (by kernel_rfl) (fun _ _ _ h => h) (Or.inl ⟨by kernel_rfl, ?_⟩) trivial ?_
                · intro wz hSw
                  go_simp
                simp only [List.setIfInBounds_toArray, List.set_cons_zero, List.set_cons_succ]
                refine take_at 18 46 (.bool false) rfl (by kernel_rfl) (by kernel_rfl) (by kernel_rfl) (by kernel_rfl) (fun _ _ _ h => h) (Or.inl ⟨by kernel_rfl, ?_⟩) trivial ?_
                · intro wz hSw
                  go_simp
                simp only [List.setIfInBounds_toArray, List.set_cons_zero, List.set_cons_succ]
                refine take_at 19 47 (.bool false) rfl (by kernel_rfl) (by kernel_rfl) (by kernel_rfl) (by kernel_rfl) (fun _ _ _ h => h) (Or.inl ⟨by kernel_rfl, ?_⟩) trivial ?_
                · intro wz hSw
                  go_simp
                simp only [List.setIfInBounds_toArray, List.set_cons_zero, List.set_cons_succ]
                refine take_at 20 48 (.bool false) rfl (by kernel_rfl) (by kernel_rfl) (by kernel_rfl) (by kernel_rfl) (fun _ _ _ h => h) (Or.inl ⟨by kernel_rfl, ?_⟩) trivial ?_
                · intro wz hSw
                  go_simp
                simp only [List.setIfInBounds_toArray, List.set_cons_zero, List.set_cons_succ]
                refine take_at 21 49 undef rfl (by kernel_rfl) (by kernel_rfl) (by kernel_rfl) (by kernel_rfl) (fun _ _ _ h => h) (Or.inr ⟨by kernel_rfl, rfl⟩) trivial ?_
                simp only [List.setIfInBounds_toArray, List.set_cons_zero, List.set_cons_succ]
                refine take_at 22 50 undef rfl (by kernel_rfl) (by kernel_rfl) (by kernel_rfl) (by kernel_rfl) (fun _ _ _ h => h) (Or.inr ⟨by kernel_rfl, rfl⟩) trivial ?_
                simp only [List.setIfInBounds_toArray, List.set_cons_zero, List.set_cons_succ]
                refine take_at 23 51 undef rfl (by kernel_rfl) (by kernel_rfl) (by kernel_rfl) (by kernel_rfl) (fun _ _ _ h => h) (Or.inr ⟨by kernel_rfl, rfl⟩) trivial ?_
                simp only [List.setIfInBounds_toArray, List.set_cons_zero, List.set_cons_succ]
                refine take_at 24 52 undef rfl (by kernel_rfl) (by kernel_rfl) (by kernel_rfl) (by kernel_rfl) (fun _ _ _ h => h) (Or.inr ⟨by kernel_rfl, rfl⟩) trivial ?_
                simp only [List.setIfInBounds_toArray, List.set_cons_zero, List.set_cons_succ]
                refine take_at 25 53 undef rfl (by kernel_rfl) (by kernel_rfl) (by kernel_rfl) (by kernel_rfl) (fun _ _ _ h => h) (Or.inr ⟨by kernel_rfl, rfl⟩) trivial ?_
                simp only [List.setIfInBounds_toArray, List.set_cons_zero, List.set_cons_succ]
                refine take_at 26 54 (.bool false) rfl (by kernel_rfl) (by kernel_rfl) (by kernel_rfl) (by kernel_rfl) (fun _ _ _ h => h) (Or.inl ⟨by kernel_rfl, ?_⟩) trivial ?_
                · intro wz hSw
                  go_simp
                simp only [List.setIfInBounds_toArray, List.set_cons_zero, List.set_cons_succ]
                refine take_at 27 55 (.bool false) rfl (by kernel_rfl) (by kernel_rfl) (by kernel_rfl) (by kernel_rfl) (fun _ _ _ h => h) (Or.inl ⟨by kernel_rfl, ?_⟩) trivial ?_
                · intro wz hSw
                  go_simp
                simp only [List.setIfInBounds_toArray, List.set_cons_zero, List.set_cons_succ]
                refine take_at 28 56 undef rfl (by kernel_rfl) (by kernel_rfl) (by kernel_rfl) (by kernel_rfl) (fun _ _ _ h => h) (Or.inr ⟨by kernel_rfl, rfl⟩) trivial ?_
                simp only [List.setIfInBounds_toArray, List.set_cons_zero, List.set_cons_succ]
                refine take_at 29 57 undef rfl (by kernel_rfl) (by kernel_rfl) (by kernel_rfl) (by kernel_rfl) (fun _ _ _ h => h) (Or.inr ⟨by kernel_rfl, rfl⟩) trivial ?_
                simp only [List.setIfInBounds_toArray, List.set_cons_zero, List.set_cons_succ]
                refine take_at 30 58 undef rfl (by kernel_rfl) (by kernel_rfl) (by kernel_rfl) (by kernel_rfl) (fun _ _ _ h => h) (Or.inr ⟨by kernel_rfl, rfl⟩) trivial ?_
                simp only [List.setIfInBounds_toArray, List.set_cons_zero, List.set_cons_succ]
                refine take_at 31 59 undef rfl (by kernel_rfl) (by kernel_rfl) (by kernel_rfl) (by kernel_rfl) (fun _ _ _ h => h) (Or.inr ⟨by kernel_rfl, rfl⟩) trivial ?_
                simp only [List.setIfInBounds_toArray, List.set_cons_zero, List.set_cons_succ]
                refine take_at 32 60 undef rfl (by kernel_rfl) (by kernel_rfl) (by kernel_rfl) (by kernel_rfl) (fun _ _ _ h => h) (Or.inr ⟨by kernel_rfl, rfl⟩) trivial ?_
                simp only [List.setIfInBounds_toArray, List.set_cons_zero, List.set_cons_succ]
                refine take_at 33 61 (.bool false) rfl (by kernel_rfl) (by kernel_rfl) (by kernel_rfl) (by kernel_rfl) (fun _ _ _ h => h) (Or.inl ⟨by kernel_rfl, ?_⟩) trivial ?_
                · intro wz hSw
                  go_simp
                simp only [List.setIfInBounds_toArray, List.set_cons_zero, List.set_cons_succ]
                refine wpAnyH_done (by kernel_rfl) ?_ _
                go_wp2_with fail
                go_roundw
                case rel => exact ⟨n + 1, by omega, by go_num, RdMid.same ⟨hm.box, hm.res, ⟨hm.bel.os, hm.bel.tape, hm.bel.output, hm.bel.size, hm.bel.block⟩⟩ HD.out⟩
                case measure => simp [intOf] <;> omega
          · obtain rfl : n = 6 := by omega
            have HF := hide (HFIN.out _ hm)
            clear hm HFIN
            go_wp2_with fail
            go_roundw
            case rel => exact ⟨k + 1, fr, _, _, rfl, by go_num, HF.out⟩
            case measure => simp [intOf] <;> omega
      · have hn64 : s[k].toNat ≠ 64 := fun h => hb (UInt8.toNat_inj.1 (by rw [h]; rfl))
        have t1 : ((s[k].toNat : Int) == 64) = false := by rw [beq_eq_false_iff_ne]; omega
        have u1 : ((s[k].toNat : Int) != 64) = true := by rw [bne, t1]; rfl
        have HB := hide hb
        clear hb
        by_cases hb : s[k] = 59
        · have t2 : ((s[k].toNat : Int) == 59) = true := by rw [hb]; rfl
          have u2 : ((s[k].toNat : Int) != 59) = false := by rw [bne, t2]; rfl
          clear hn64
          go_wp2_with fail
          obtain ⟨wo, rfl⟩ : ∃ wo : World, wo = wr := ⟨_, rfl⟩
          go_loopw [7] (fun x wx => ∃ n : Nat, n ≤ 6 ∧ x = .int .i64 (n : Int) ∧ RdAt w wx s c0 k fr acc c) (fun x _ => 6 - (intOf x).toNat)
          case atStart => exact ⟨0, Nat.zero_le _, rfl, hr⟩
          case round =>
            clear hr
            obtain ⟨n, hn, rfl, hr⟩ := hrel
            by_cases hn6 : n < 6
            · have hn7 : (n : Int) < 6 := by omega
              go_wp2_with fail
              go_quiet (fail)
              go_wp2_with fail
              go_roundw
              case rel => exact ⟨n + 1, by omega, by go_num, ⟨hr.box, hr.res, ⟨hr.bel.os, hr.bel.tape, hr.bel.output, hr.bel.size, hr.bel.block⟩, hr.le, hr.frle, hr.accis, hr.fin⟩⟩
              case measure => simp [intOf] <;> omega
            · obtain rfl : n = 6 := by omega
              have HF := hide (hr.end_ hlt hb)
              clear hr
              go_wp2_with fail
              go_roundw
              case rel => exact ⟨k + 1, k + 1, _, _, by go_num, by go_num, HF.out⟩
              case measure => simp [intOf] <;> omega
        · have hn59 : s[k].toNat ≠ 59 := fun h => hb (UInt8.toNat_inj.1 (by rw [h]; rfl))
          have t2 : ((s[k].toNat : Int) == 59) = false := by rw [beq_eq_false_iff_ne]; omega
          have u2 : ((s[k].toNat : Int) != 59) = true := by rw [bne, t2]; rfl
          have HF := hide (hr.not hlt HB.out hb)
          clear hr hn64 hn59 hb HB
          go_wp2_with fail
          go_roundw
          case rel => exact ⟨k + 1, fr, _, _, rfl, by go_num, HF.out⟩
          case measure => simp [intOf] <;> omega
    · obtain rfl := hr.all hlt
      obtain ⟨z0, z1, z2, z3, z4, z5⟩ := six_at hr.box
      obtain ⟨y0, y1, y2, y3, y4, y5⟩ := six_at hr.res
      have bf := frozen_of_heap hr.res
      have far : ∀ (W : World) (i j : Nat) (v : Value), (W.setCell ⟨w.heap.size, i, none⟩ v).cell? ⟨w.heap.size + 1, j, none⟩ = W.cell? ⟨w.heap.size + 1, j, none⟩ := fun W i j v => World.cell?_setCell_far _ _ _ _ (by simp)
      have hlt' : ¬ (k : Int) < (s.size : Int) := by omega
      go_wp2_with fail
      go_region_held3 (fun W => W.cell? ⟨w.heap.size + 1, 0, none⟩ = some (.int .i64 (c 0)) ∧ W.cell? ⟨w.heap.size + 1, 1, none⟩ = some (.int .i64 (c 1)) ∧ W.cell? ⟨w.heap.size + 1, 2, none⟩ = some (.int .i64 (c 2)) ∧ W.cell? ⟨w.heap.size + 1, 3, none⟩ = some (.int .i64 (c 3)) ∧ W.cell? ⟨w.heap.size + 1, 4, none⟩ = some (.int .i64 (c 4)) ∧ W.cell? ⟨w.heap.size + 1, 5, none⟩ = some (.int .i64 (c 5))) (first | (simp only [far, z0, z1, z2, z3, z4, z5, and_self]; done) | (exact ⟨z0, z1, z2, z3, z4, z5⟩)) ((go_at_call 56; refine (HT.out _).mono ?_; rintro e w2 ⟨rfl, hbb⟩; have hr := hr.step hbb rfl rfl rfl rfl; have z0 := (six_at hr.box).z0; have z1 := (six_at hr.box).z1; have z2 := (six_at hr.box).z2; have z3 := (six_at hr.box).z3; have z4 := (six_at hr.box).z4; have z5 := (six_at hr.box).z5; have y0 := (six_at hr.res).z0; have y1 := (six_at hr.res).z1; have y2 := (six_at hr.res).z2; have y3 := (six_at hr.res).z3; have y4 := (six_at hr.res).z4; have y5 := (six_at hr.res).z5; have bf := frozen_of_heap hr.res; clear hbb))
      all_goals
        have hs := six_store (c := c) hr.res
        have hbel := six_below (c := c) hr.bel
        go_wp2_with fail
        generalize ((((((w2.setCell ⟨w.heap.size, 0, none⟩ (.int .i64 (c 0))).setCell ⟨w.heap.size, 1, none⟩ (.int .i64 (c 1))).setCell ⟨w.heap.size, 2, none⟩ (.int .i64 (c 2))).setCell ⟨w.heap.size, 3, none⟩ (.int .i64 (c 3))).setCell ⟨w.heap.size, 4, none⟩ (.int .i64 (c 4))).setCell ⟨w.heap.size, 5, none⟩ (.int .i64 (c 5))) = W6 at *
        obtain ⟨x0, x1, x2, x3, x4, x5⟩ := hs
        exact bodyPost_ret (v := .tuple #[.agg (picksV c), .bool true]) (by simp [results, Tryd.results22, go_sem, x0, x1, x2, x3, x4, x5]) rfl ⟨rfl, hbel⟩

end

end Go.Proofs.YtgcldedkempjhaaDoor
