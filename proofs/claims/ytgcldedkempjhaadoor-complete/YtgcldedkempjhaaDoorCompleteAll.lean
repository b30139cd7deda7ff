/-
  depotkeep: Complete: the walk.
-/
import Derived.Test.YtgcldedkempjhaaDoorShopNdW
import Derived.Test.YtgcldedkempjhaaDoorShopM
import Derived.Test.YtgcldedkempjhaaDoorShopE
namespace Go.Proofs.YtgcldedkempjhaaDoor
section
open Go.RowKit

set_option maxHeartbeats 400000 in
theorem pickM_any (c : Int) (w : World) (h1 : -9223372036854775808 ≤ c) (h2 : c ≤ 9223372036854775807) :
    Calls Tryd.prog 16 #[.int .i64 c, .int .i64 1000000] w fun e w' => e = .returned (.int .i64 (pickN c 1000000 : Nat)) ∧ w' = w := by
  have hz : ((1000000 : Int) == 0) = false := by decide
  by_cases h0 : c < 0
  · have hf := hide (show ((pickN c 1000000 : Nat) : Int) = (-(c + 1)) % 1000000 by rw [pickN_cast c (by decide)]; simp [h0])
    go_enter Tryd.func16, Tryd.ntmps16
    go_wp2
    go_ret
    exact ⟨ret_int (by rw [hf.out]; exact tmodN c 1000000 h0), rfl⟩
  · have hf := hide (show ((pickN c 1000000 : Nat) : Int) = c % 1000000 by rw [pickN_cast c (by decide)]; simp [h0])
    go_enter Tryd.func16, Tryd.ntmps16
    go_wp2
    go_ret
    exact ⟨ret_int (by rw [hf.out]), rfl⟩

theorem picked_far {ch : List (Nat × Nat)} (hc : ChOk (fun i => i < 6) ch) {n : Nat} (hn : 6 ≤ n) : picked ch n = 0 := by
  apply Decidable.byContradiction
  intro h
  have := hc.a _ (mem_picked h)
  simp only at this
  omega

theorem picked_nine {ch : List (Nat × Nat)} (hc : ChOk (fun i => i < 6) ch) (n : Nat) : picked ch n ≤ 9 := by
  by_cases h : picked ch n = 0
  · omega
  · exact (hc.v _ (mem_picked h)).2

/-- Nothing is chosen but what is asked, or wanted by what is. -/
theorem run_needed {is : List It} (hs : Stock is) {asked : List Nd} (hok : ∀ x ∈ asked, NdOk x) {b left : Nat} {ch : List (Nat × Nat)} (h : runI is asked b = some (left, some ch)) (o : Nat → Bool) (h1 : ∀ x ∈ asked, o x.n = true) (h2 : ClosedB is (picked ch) o) : ∀ n, n < 6 → picked ch n ≠ 0 → o n = true := by
  have hc : ChOk (fun i => i < 6) ch := solve_chOk (candI_good hs asked) (asked_good hok) h
  intro n _ hn
  refine solve_needed (candI is asked) (fun n => o n = true) ch ?_ 600 (asked.map Nd.wt) [] b left ?_ (fun n hn => absurd rfl hn) h n hn
  · intro m l hm hm0 hl x hx
    have h6 : m < 6 := by
      apply Nat.lt_of_not_le
      exact fun h6 => hm0 (picked_far hc h6)
    unfold candI at hl
    cases hf : is.find? (itP m (picked ch m)) with
    | none => rw [hf] at hl; cases hl
    | some y =>
      rw [hf] at hl
      simp only [Option.bind_some] at hl
      split at hl
      · cases hl
      · injection hl with hl
        subst hl
        obtain ⟨z, hz, rfl⟩ := List.mem_map.1 hx
        exact h2 m h6 hm y hf z hz
  · intro x hx
    obtain ⟨z, hz, rfl⟩ := List.mem_map.1 hx
    exact h1 z hz

theorem ndsOf_ok {len : Nat} {f : Nat → RNd} : (ndsOf len f).length ≤ 6 ∧ ∀ x ∈ ndsOf len f, NdOk x := by
  constructor
  · unfold ndsOf
    simp
    omega
  · intro x hx
    unfold ndsOf at hx
    obtain ⟨i, _, rfl⟩ := List.mem_map.1 hx
    exact ndOf_ok _

theorem textK_size (l : List Nd) (h : l.length ≤ 6) : (textK l).size ≤ 100 := by
  have := textTo_size l l.length
  unfold textK
  omega

set_option maxHeartbeats 8000000 in
set_option maxRecDepth 100000 in
theorem sound_any (io : Option Addr) (len cap : Nat) (F : Nat → RIt) (so : Option Addr) (len2 cap2 : Nat) (f : Nat → RNd) (B : Int) (w : World) (htab : TabOk w) (hlen : len ≤ 9223372036854775807) (hf : RIts w io len F) (hlen2 : len2 ≤ 9223372036854775807) (hf2 : RNds w so len2 f) (b1 : -9223372036854775808 ≤ B) (b2 : B ≤ 9223372036854775807) :
    Calls Tryd.prog 5 #[.slice io len cap, .slice so len2 cap2, .int .i64 B] w fun e w' => e = .returned (.bool true) ∧ Below w.heap.size w w' := by
  have HS := hide (shop_any io len cap F w htab hlen hf)
  have HF2 := hide hf2
  have HP := hide (fun W => pickM_any B W b1 b2)
  have hbl : pickN B 1000000 < 1000000 := pickN_lt B (by decide)
  clear hf hf2
  generalize pickN B 1000000 = bb at *
  go_enter Tryd.func5, Tryd.ntmps5
  go_wp2_with fail
  refine HS.out.mono ?_
  rintro e w1 ⟨sb, db, rfl, ⟨u1, u2, D, ao, cp, is, hi, hc, hfe, hro⟩, hb1⟩
  have HI := hide hi
  have HB1 := hide hb1
  have HND := hide (needs_any so len2 cap2 f w1 hlen2 (HF2.out.step hb1))
  clear hi hc hfe hro hb1 HS HF2
  obtain ⟨hal6, haok⟩ := ndsOf_ok (len := len2) (f := f)
  generalize ndsOf len2 f = asked at *
  have HAOK := hide haok
  clear haok
  go_wp2_with fail
  refine HND.out.mono ?_
  rintro e w2 ⟨ro, rc, rfl, hrow, hb2⟩
  have HROW := hide hrow
  have HB2 := hide (below_call HB1.out hb2)
  have HI2 := hide (HI.out.below hb2)
  clear hrow hb2 HND HI
  go_wp2_with fail
  refine (HP.out _).mono ?_
  rintro e w3 ⟨rfl, hw3⟩
  have hw4 := hw3.symm
  subst hw4
  clear hw3 HP
  have HTX := hide (fun W (o : W.ownsRow w1.heap.size 62 3 (.slice ro asked.length rc) asked.length (ndsCells asked)) => text_any w1.heap.size ro rc asked W o hal6 HAOK.out)
  have HRS := hide (fun W (h : DepAt W db D) => resolve_any db D kH 1 (textK asked) (bb : Int) W h (by have := textK_size asked hal6; omega))
  rw [show D.pure = shopP is [] from HI2.out.pure, resolve_shop HI2.out.stock HAOK.out hal6 bb (by omega)] at HRS
  have hts := textK_size asked hal6
  generalize textK asked = tx at *
  have hr := HI2.out.shop
  have hD := HI2.out.dep
  have hb := HB2.out
  have hrow := HROW.out
  have hin := HI2.out
  clear HROW HB2
  have HRUN := hide (show ∀ q, runI is asked bb = q → q = runI is asked bb from fun q h => h.symm)
  obtain ⟨⟨ts, tn, te⟩, htell⟩ : ∃ q, q = tellI bb (runI is asked bb) := ⟨_, rfl⟩
  have HTELL := hide htell
  rw [← htell] at HRS
  clear htell
  simp only at HRS
  go_wp2_with fail
  go_cut [10, 11, 12] (fun a b c wx => a = .string ts ∧ b = .int .i64 tn ∧ c = .int .i64 te ∧ ShopInv wx sb db D ao cp is ∧ wx.ownsRow w1.heap.size 62 3 (.slice ro asked.length rc) asked.length (ndsCells asked) ∧ Below w.heap.size w wx)
  case first =>
    go_region_held3 (fun W => W.cell? ⟨sb, 0, none⟩ = some (.pointer (some ⟨db, 0, none⟩))) (exact hr.c0) (first
      | ((go_at_call 21; refine (HTX.out _ ?_).mono ?_; exact hrow; rintro e w8 ⟨rfl, hbb⟩; have hr := hr.step hbb rfl; have hin := hin.below (below_same hbb rfl rfl rfl rfl); have hrow := ownsRow_keep' hrow (below_same hbb rfl rfl rfl rfl); have hb := below_step hb hbb rfl rfl rfl rfl; clear hbb))
      | ((go_at_call 20; refine (HRS.out _ ?_).mono ?_; exact hin.dep.same rfl; rintro e w8 ⟨rfl, hbb⟩; have hr := hr.step hbb rfl; have hin := hin.below (below_same hbb rfl rfl rfl rfl); have hrow := ownsRow_keep' hrow (below_same hbb rfl rfl rfl rfl); have hb := below_step hb hbb rfl rfl rfl rfl; clear hbb)))
    all_goals
      go_wp2_with fail
      go_meet
      exact ⟨rfl, rfl, rfl, hin, hrow, hb⟩
  case rest =>
    obtain ⟨rfl, rfl, rfl, hin, hrow, hb⟩ := hcut
    clear hD hr HTX HRS
    cases hrun : runI is asked bb with
    | none =>
      have ht := HTELL.out
      rw [hrun] at ht
      injection ht with ht1 ht2
      injection ht2 with ht2 ht3
      subst ht1 ht2 ht3
      clear hrun HTELL HRUN
      have n0 : decide ((bb : Int) < 0) = false := decide_eq_false (by omega)
      have n1 : decide ((bb : Int) < (bb : Int)) = false := decide_eq_false (by omega)
      go_wp2_with fail
      go_ret
      exact ⟨rfl, hb⟩
    | some p =>
      obtain ⟨left, oc⟩ := p
      have hle := run_left hrun
      cases oc with
      | none =>
        have ht := HTELL.out
        rw [hrun] at ht
        injection ht with ht1 ht2
        injection ht2 with ht2 ht3
        subst ht1 ht2 ht3
        clear hrun HTELL HRUN
        have hu : bb - left ≤ bb := Nat.sub_le _ _
        generalize bb - left = us at *
        have n0 : decide ((us : Int) < 0) = false := decide_eq_false (by omega)
        have n1 : decide ((bb : Int) < (us : Int)) = false := decide_eq_false (by omega)
        go_wp2_with fail
        go_ret
        exact ⟨rfl, hb⟩
      | some ch =>
        have ht := HTELL.out
        rw [hrun] at ht
        injection ht with ht1 ht2
        injection ht2 with ht2 ht3
        have hst := hin.stock
        have hch : ChOk (fun i => i < 6) ch := solve_chOk (candI_good hst asked) (asked_good HAOK.out) hrun
        have HNE := hide (run_needed hst HAOK.out hrun)
        have HGO := hide (run_goes hst HAOK.out hrun)
        have h9 := picked_nine hch
        have h6 : ∀ n, 6 ≤ n → picked ch n = 0 := fun n hn => picked_far hch hn
        have HRD := hide (fun W => read_any (picked ch) h9 h6 ts ht1 W)
        have HGS := hide (fun W (x1 : ShopAt W sb db ao cp is) (x2 : ∀ x ∈ is, ItRow W sb x) (o : W.ownsRow w1.heap.size 62 3 (.slice ro asked.length rc) asked.length (ndsCells asked)) => goes_any sb db w1.heap.size ao cp is ro rc asked (picked ch) W x1 x2 hst (fun x hx => (hin.nds x hx).1) o hal6 HAOK.out h9)
        rw [HGO.out] at HGS
        have HNS := hide (fun W (x1 : ShopAt W sb db ao cp is) (x2 : ∀ x ∈ is, ItRow W sb x) (o : W.ownsRow w1.heap.size 62 3 (.slice ro asked.length rc) asked.length (ndsCells asked)) => needed_any sb db w1.heap.size ao cp is ro rc asked (picked ch) W x1 x2 hst (fun x hx => (hin.nds x hx).1) o hal6 HAOK.out h9 HNE.out)
        have HIN := hide hin
        have HROW := hide hrow
        have HB := hide hb
        subst ht2 ht3
        clear hrun HTELL HRUN HNE HGO hst hch h9 h6 ht1 hin hrow hb
        have hu : bb - left ≤ bb := Nat.sub_le _ _
        generalize bb - left = us at *
        generalize picked ch = c at *
        have n0 : decide ((us : Int) < 0) = false := decide_eq_false (by omega)
        have n1 : decide ((bb : Int) < (us : Int)) = false := decide_eq_false (by omega)
        go_wp2_with fail
        refine (HRD.out _).mono ?_
        rintro e w5 ⟨rfl, hb5⟩
        have HB5 := hide hb5
        have hbA := below_one w5 (.cells (picksV c) 55)
        have HBA := hide (below_call hb5 hbA)
        have hbx := heap1_new w5 (.cells (picksV c) 55)
        clear hb5 HRD
        go_wp2_with fail
        refine (HGS.out _ (HIN.out.below HBA.out).shop (HIN.out.below HBA.out).rows (ownsRow_keep' HROW.out HBA.out)).mono ?_
        rintro e w6 ⟨rfl, hb6⟩
        have HB6 := hide (below_call HBA.out hb6)
        have hbx6 := (hb6.block w5.heap.size (by simp)).trans hbx
        obtain ⟨x0, x1, x2, x3, x4, x5⟩ := six_at hbx6
        clear hb6 HGS hbx hbx6 hbA
        go_wp2_with fail
        refine (HNS.out _ (HIN.out.below HB6.out).shop (HIN.out.below HB6.out).rows (ownsRow_keep' HROW.out HB6.out)).mono ?_
        rintro e w7 ⟨rfl, hb7⟩
        have HB7 := hide (below_call HB.out (below_call HB6.out hb7))
        clear hb7 HNS
        go_wp2_with fail
        go_ret
        exact ⟨rfl, HB7.out⟩

end

section
open Go.RowKit

set_option maxHeartbeats 1600000 in
theorem next_any (sb db : Nat) (ao : Option Addr) (cap : Nat) (is : List It) (n v : Nat) (hv : v ≤ 9) (w : World) (hr : ShopAt w sb db ao cap is) :
    Calls Tryd.prog 59 #[.pointer (some ⟨sb, 0, none⟩), .int .i64 n, .int .i64 v] w fun e w' => ∃ u : Nat, e = .returned (.int .i64 u) ∧ (u = 0 ∨ (v < u ∧ u ≤ 9)) ∧ w' = w := by
  have HR := hide hr
  clear hr
  go_enter Tryd.func59, Tryd.ntmps59
  go_wp2_with fail
  go_loopw [7, 8] (fun x _ wx => ∃ k : Nat, v < k ∧ k ≤ 10 ∧ x = .int .i64 (k : Int) ∧ wx = w) (fun x _ _ => 10 - (intOf x).toNat)
  case atStart => exact ⟨v + 1, by omega, by omega, by go_num, rfl⟩
  case round =>
    obtain ⟨k, hk1, hk2, rfl, hw⟩ := hrel
    have hw' := hw.symm
    subst hw'
    clear hw
    by_cases hlt : k ≤ 9
    · have hlt' : (k : Int) ≤ 9 := by omega
      rcases find_cases (itP n k) is with ⟨i, hi, q1, q2, q3⟩ | ⟨q1, q3⟩
      · have HT := hide (there_some sb db ao cap is n k w HR.out i hi q1 q2)
        have hi0 : (0 : Int) ≤ (i : Int) := by omega
        go_wp2_with fail
        refine HT.out.mono ?_
        rintro e w2 ⟨rfl, hw2⟩
        have hw3 := hw2.symm
        subst hw3
        clear hw2 HT
        go_wp2_with fail
        go_ret
        exact ⟨k, rfl, Or.inr ⟨hk1, hlt⟩, rfl⟩
      · have HT := hide (there_none sb db ao cap is n k w HR.out q1)
        go_wp2_with fail
        refine HT.out.mono ?_
        rintro e w2 ⟨rfl, hw2⟩
        have hw3 := hw2.symm
        subst hw3
        clear hw2 HT
        go_wp2_with fail
        go_roundw
        case rel => exact ⟨k + 1, by omega, by omega, by go_num, by first | trivial | rfl⟩
        case measure => simp [intOf] <;> omega
    · have hlt' : ¬ (k : Int) ≤ 9 := by omega
      go_wp2_with fail
      go_ret
      exact ⟨0, rfl, Or.inl rfl, rfl⟩

/-- A choice as a number. -/
def numC (c : Nat → Nat) : Nat := c 0 + 10 * c 1 + 100 * c 2 + 1000 * c 3 + 10000 * c 4 + 100000 * c 5

def cellN (w : World) (b j : Nat) : Nat := (intOf ((w.cell? ⟨b, j, none⟩).getD undef)).toNat

def numW (w : World) (b : Nat) : Nat := cellN w b 0 + 10 * cellN w b 1 + 100 * cellN w b 2 + 1000 * cellN w b 3 + 10000 * cellN w b 4 + 100000 * cellN w b 5

theorem numW_is {w : World} {b : Nat} {c : Nat → Nat} (h : SixAt w b c) : numW w b = numC c := by
  unfold numW numC cellN
  rw [h.z0, h.z1, h.z2, h.z3, h.z4, h.z5]
  simp [intOf]

theorem BoxC.set {w wr : World} {c : Nat → Nat} (h : BoxC w wr w.heap.size c) {n : Nat} (hn : n < 6) (v : Nat) : BoxC w (wr.setCell ⟨w.heap.size, n, none⟩ (.int .i64 v)) w.heap.size (setC c n v) :=
  ⟨box_set h.at_ hn v, h.bel.setCell (Nat.le_refl _) _⟩

/-- A choice of the six names. -/
structure PickOk (c : Nat → Nat) : Prop where
  nine : ∀ n, c n ≤ 9
  far : ∀ n, 6 ≤ n → c n = 0

/-- The first k are at none again. -/
structure Turned (c d : Nat → Nat) (k : Nat) : Prop where
  lo : ∀ j, j < k → d j = 0
  hi : ∀ j, k ≤ j → d j = c j

theorem Turned.ok {c d : Nat → Nat} {k : Nat} (h : Turned c d k) (hc : PickOk c) : PickOk d := by
  constructor
  · intro n
    by_cases hn : n < k
    · rw [h.lo n hn]; omega
    · rw [h.hi n (by omega)]; exact hc.nine n
  · intro n hn
    by_cases hk : n < k
    · exact h.lo n hk
    · rw [h.hi n (by omega)]; exact hc.far n hn

theorem Turned.next {c d : Nat → Nat} {k : Nat} (h : Turned c d k) : Turned c (setC d k 0) (k + 1) := by
  constructor
  · intro j hj
    unfold setC
    split
    · rfl
    · exact h.lo j (by omega)
  · intro j hj
    unfold setC
    rw [if_neg (by omega)]
    exact h.hi j (by omega)

theorem Turned.more {c d : Nat → Nat} {k u : Nat} (h : Turned c d k) (hc : PickOk c) (hk : k < 6) (hu : c k < u) (h9 : u ≤ 9) : PickOk (setC d k u) ∧ numC c < numC (setC d k u) := by
  have hd := h.ok hc
  constructor
  · constructor
    · intro n
      unfold setC
      split
      · exact h9
      · exact hd.nine n
    · intro n hn
      unfold setC
      rw [if_neg (by omega)]
      exact hd.far n hn
  · have n0 := hc.nine 0
    have n1 := hc.nine 1
    have n2 := hc.nine 2
    have n3 := hc.nine 3
    have n4 := hc.nine 4
    have n5 := hc.nine 5
    have hv : k = 0 ∨ k = 1 ∨ k = 2 ∨ k = 3 ∨ k = 4 ∨ k = 5 := by omega
    unfold numC setC
    rcases hv with rfl | rfl | rfl | rfl | rfl | rfl
    · have e1 := h.hi 1 (by omega); have e2 := h.hi 2 (by omega); have e3 := h.hi 3 (by omega); have e4 := h.hi 4 (by omega); have e5 := h.hi 5 (by omega)
      simp only [if_true, e1, e2, e3, e4, e5, Nat.reduceEqDiff, if_false]
      omega
    · have e2 := h.hi 2 (by omega); have e3 := h.hi 3 (by omega); have e4 := h.hi 4 (by omega); have e5 := h.hi 5 (by omega)
      simp only [if_true, e2, e3, e4, e5, Nat.reduceEqDiff, if_false]
      omega
    · have e3 := h.hi 3 (by omega); have e4 := h.hi 4 (by omega); have e5 := h.hi 5 (by omega)
      simp only [if_true, e3, e4, e5, Nat.reduceEqDiff, if_false]
      omega
    · have e4 := h.hi 4 (by omega); have e5 := h.hi 5 (by omega)
      simp only [if_true, e4, e5, Nat.reduceEqDiff, if_false]
      omega
    · have e5 := h.hi 5 (by omega)
      simp only [if_true, e5, Nat.reduceEqDiff, if_false]
      omega
    · simp only [if_true, Nat.reduceEqDiff, if_false]
      omega

theorem num_less {c : Nat → Nat} (h : PickOk c) : numC c < 1000000 := by
  have n0 := h.nine 0
  have n1 := h.nine 1
  have n2 := h.nine 2
  have n3 := h.nine 3
  have n4 := h.nine 4
  have n5 := h.nine 5
  unfold numC
  omega

/-- Something goes together, with this version of a name. -/
def GoesWith (is : List It) (asked : List Nd) (n v : Nat) : Prop := ∃ c, PickOk c ∧ goesN is asked c = true ∧ (v = 0 ∨ c n = v)

set_option maxHeartbeats 8000000 in
set_option maxRecDepth 100000 in
theorem any_any (sb db base : Nat) (ao : Option Addr) (cap : Nat) (is : List It) (ra : Option Addr) (rcap : Nat) (asked : List Nd) (n v : Nat) (hn : n < 6) (_hv : v ≤ 9) (w : World) (hr : ShopAt w sb db ao cap is) (hrows : ∀ x ∈ is, ItRow w sb x) (hst : Stock is) (hl6 : ∀ x ∈ is, x.ws.length ≤ 6)
    (own : w.ownsRow base 62 3 (.slice ra asked.length rcap) asked.length (ndsCells asked)) (h6 : asked.length ≤ 6) (hok : ∀ x ∈ asked, NdOk x) :
    Calls Tryd.prog 25 #[.pointer (some ⟨sb, 0, none⟩), .slice ra asked.length rcap, .int .i64 n, .int .i64 v] w fun e w' => ∃ b, e = .returned (.bool b) ∧ (b = true → GoesWith is asked n v) ∧ Below w.heap.size w w' := by
  have HB0 := hide (show BoxC w (w.alloc (.cells (picksV fun _ => 0) 55)) w.heap.size (fun _ => 0) from box_new w _)
  have HGO := hide (fun (c : Nat → Nat) (hc : PickOk c) W (x1 : ShopAt W sb db ao cap is) (x2 : ∀ x ∈ is, ItRow W sb x) (o : W.ownsRow base 62 3 (.slice ra asked.length rcap) asked.length (ndsCells asked)) => goes_any sb db base ao cap is ra rcap asked c W x1 x2 hst hl6 o h6 hok hc.nine)
  have HNX := hide (fun (k u : Nat) (hu : u ≤ 9) W (x1 : ShopAt W sb db ao cap is) => next_any sb db ao cap is k u hu W x1)
  have HSH := hide hr
  have HROWS := hide (show ∀ W, Below w.heap.size w W → ∀ x ∈ is, ItRow W sb x from fun W hb x hx => (hrows x hx).keep hx fun k _ hl => hb.block k hl)
  have HOWN := hide own
  have hn' : (n : Int) < 6 := by omega
  have hn0 : (0 : Int) ≤ (n : Int) := by omega
  clear hr hrows hst hl6 own h6 hok
  generalize asked.length = al at *
  go_enter Tryd.func25, Tryd.ntmps25
  go_wp2_with fail
  go_loopw [10, 11] (fun _ _ wx => ∃ c, PickOk c ∧ BoxC w wx w.heap.size c) (fun _ _ wx => 1000000 - numW wx w.heap.size)
  case atStart => exact ⟨_, ⟨fun _ => by omega, fun _ _ => rfl⟩, HB0.out⟩
  case round =>
    obtain ⟨c, hc, hbox⟩ := hrel
    clear HB0
    have HC := hide hc
    have HNUM := hide (numW_is (six_at hbox.at_))
    have c1 := picks_cell hbox.at_ hn
    obtain ⟨z0, z1, z2, z3, z4, z5⟩ := six_at hbox.at_
    clear hc
    by_cases h0 : v = 0
    · have h0' : ((v : Int) == 0) = true := by rw [h0]; rfl
      have HV := hide h0
      clear h0
      go_wp2_with fail
      refine (HGO.out c HC.out _ (HSH.out.below hbox.bel) (HROWS.out _ hbox.bel) (ownsRow_keep' HOWN.out hbox.bel)).mono ?_
      rintro e w5 ⟨rfl, hb5⟩
      have HBOX := hide (show BoxC w w5 w.heap.size c from hbox.step hb5 rfl rfl rfl rfl)
      clear hb5
      cases hg : goesN is asked c with
      | true =>
        have HW := hide (show GoesWith is asked n v from ⟨c, HC.out, hg, Or.inl HV.out⟩)
        clear hg
        go_wp2_with fail
        go_ret
        first | exact Or.inr ⟨rfl, HW.out, HBOX.out.bel⟩ | exact ⟨true, rfl, fun _ => HW.out, HBOX.out.bel⟩
      | false =>
        clear hg
        go_wp2_with fail
        obtain ⟨wo, rfl⟩ : ∃ wo : World, wo = wr := ⟨_, rfl⟩
        go_loopw [11] (fun x wx => ∃ (k : Nat) (d : Nat → Nat), k ≤ 6 ∧ x = .int .i64 (k : Int) ∧ Turned c d k ∧ BoxC w wx w.heap.size d) (fun x _ => 6 - (intOf x).toNat)
        case atStart => exact ⟨0, c, Nat.zero_le _, rfl, ⟨fun j hj => by omega, fun _ _ => rfl⟩, HBOX.out⟩
        case round =>
          obtain ⟨k, d, hk, rfl, htn, hbx⟩ := hrel
          clear HBOX
          have HTN := hide htn
          clear htn
          by_cases hlt : k < 6
          · have hlt' : (k : Int) < 6 := by omega
            have hk0 : (0 : Int) ≤ (k : Int) := by omega
            have hk6 : ((k : Int) == 6) = false := by rw [beq_eq_false_iff_ne]; omega
            have c2 := picks_cell hbx.at_ hlt
            have bf := frozen_of_heap hbx.at_
            have HDK := hide (HTN.out.hi k (Nat.le_refl _))
            have HN := hide (HNX.out k (d k) (by rw [HDK.out]; exact HC.out.nine k) _ (HSH.out.below hbx.bel))
            have HBX := hide hbx
            clear hbx
            generalize hdk : d k = dk at *
            have HDD := hide hdk
            clear hdk
            go_wp2_with fail
            refine HN.out.mono ?_
            rintro e w6 ⟨u, rfl, hu, hw6⟩
            have hw7 := hw6.symm
            subst hw7
            clear hw6 HN
            have HU := hide hu
            have HSET := hide (HBX.out.set hlt u)
            clear hu
            by_cases hu0 : u = 0
            · have u0 : ((u : Int) != 0) = false := by rw [hu0]; rfl
              have HF := hide (show Turned c (setC d k u) (k + 1) by rw [hu0]; exact HTN.out.next)
              clear hu0
              go_wp2_with fail
              go_roundw
              case rel => exact ⟨k + 1, _, by omega, by go_num, HF.out, HSET.out⟩
              case measure => simp [intOf] <;> omega
            · have u0 : ((u : Int) != 0) = true := by rw [bne, beq_eq_false_iff_ne.2 (by omega)]; rfl
              have HF := hide (HTN.out.more HC.out hlt (u := u) (by have := HU.out; have := HDK.out; omega) (by have := HU.out; omega))
              have HN2 := hide (numW_is (six_at HSET.out.at_))
              clear hu0
              go_wp2_with fail
              go_roundw
              case rel => exact ⟨_, HF.out.1, HSET.out⟩
              case measure =>
                have m1 := HNUM.out
                have m2 := HN2.out
                have m3 := HF.out.2
                have m4 := num_less HF.out.1
                rw [m1, m2]
                omega
          · have hlt' : ¬ (k : Int) < 6 := by omega
            have hk6 : ((k : Int) == 6) = true := by rw [beq_iff_eq]; omega
            go_wp2_with fail
            go_ret
            exact Or.inl ⟨rfl, hbx.bel⟩
    · have h0' : ((v : Int) == 0) = false := by rw [beq_eq_false_iff_ne]; omega
      clear h0
      by_cases h1 : c n = v
      · have h1' : ((c n : Int) == (v : Int)) = true := by rw [h1]; exact beq_self_eq_true _
        have HV := hide h1
        clear h1
        go_wp2_with fail
        refine (HGO.out c HC.out _ (HSH.out.below hbox.bel) (HROWS.out _ hbox.bel) (ownsRow_keep' HOWN.out hbox.bel)).mono ?_
        rintro e w5 ⟨rfl, hb5⟩
        have HBOX := hide (show BoxC w w5 w.heap.size c from hbox.step hb5 rfl rfl rfl rfl)
        clear hb5
        cases hg : goesN is asked c with
        | true =>
          have HW := hide (show GoesWith is asked n v from ⟨c, HC.out, hg, Or.inr HV.out⟩)
          clear hg
          go_wp2_with fail
          go_ret
          first | exact Or.inr ⟨rfl, HW.out, HBOX.out.bel⟩ | exact ⟨true, rfl, fun _ => HW.out, HBOX.out.bel⟩
        | false =>
          clear hg
          go_wp2_with fail
          obtain ⟨wo, rfl⟩ : ∃ wo : World, wo = wr := ⟨_, rfl⟩
          go_loopw [11] (fun x wx => ∃ (k : Nat) (d : Nat → Nat), k ≤ 6 ∧ x = .int .i64 (k : Int) ∧ Turned c d k ∧ BoxC w wx w.heap.size d) (fun x _ => 6 - (intOf x).toNat)
          case atStart => exact ⟨0, c, Nat.zero_le _, rfl, ⟨fun j hj => by omega, fun _ _ => rfl⟩, HBOX.out⟩
          case round =>
            obtain ⟨k, d, hk, rfl, htn, hbx⟩ := hrel
            clear HBOX
            have HTN := hide htn
            clear htn
            by_cases hlt : k < 6
            · have hlt' : (k : Int) < 6 := by omega
              have hk0 : (0 : Int) ≤ (k : Int) := by omega
              have hk6 : ((k : Int) == 6) = false := by rw [beq_eq_false_iff_ne]; omega
              have c2 := picks_cell hbx.at_ hlt
              have bf := frozen_of_heap hbx.at_
              have HDK := hide (HTN.out.hi k (Nat.le_refl _))
              have HN := hide (HNX.out k (d k) (by rw [HDK.out]; exact HC.out.nine k) _ (HSH.out.below hbx.bel))
              have HBX := hide hbx
              clear hbx
              generalize hdk : d k = dk at *
              have HDD := hide hdk
              clear hdk
              go_wp2_with fail
              refine HN.out.mono ?_
              rintro e w6 ⟨u, rfl, hu, hw6⟩
              have hw7 := hw6.symm
              subst hw7
              clear hw6 HN
              have HU := hide hu
              have HSET := hide (HBX.out.set hlt u)
              clear hu
              by_cases hu0 : u = 0
              · have u0 : ((u : Int) != 0) = false := by rw [hu0]; rfl
                have HF := hide (show Turned c (setC d k u) (k + 1) by rw [hu0]; exact HTN.out.next)
                clear hu0
                go_wp2_with fail
                go_roundw
                case rel => exact ⟨k + 1, _, by omega, by go_num, HF.out, HSET.out⟩
                case measure => simp [intOf] <;> omega
              · have u0 : ((u : Int) != 0) = true := by rw [bne, beq_eq_false_iff_ne.2 (by omega)]; rfl
                have HF := hide (HTN.out.more HC.out hlt (u := u) (by have := HU.out; have := HDK.out; omega) (by have := HU.out; omega))
                have HN2 := hide (numW_is (six_at HSET.out.at_))
                clear hu0
                go_wp2_with fail
                go_roundw
                case rel => exact ⟨_, HF.out.1, HSET.out⟩
                case measure =>
                  have m1 := HNUM.out
                  have m2 := HN2.out
                  have m3 := HF.out.2
                  have m4 := num_less HF.out.1
                  rw [m1, m2]
                  omega
            · have hlt' : ¬ (k : Int) < 6 := by omega
              have hk6 : ((k : Int) == 6) = true := by rw [beq_iff_eq]; omega
              go_wp2_with fail
              go_ret
              exact Or.inl ⟨rfl, hbx.bel⟩
      · have h1' : ((c n : Int) == (v : Int)) = false := by rw [beq_eq_false_iff_ne]; omega
        have HBOX := hide hbox
        clear h1 hbox
        go_wp2_with fail
        obtain ⟨wo, rfl⟩ : ∃ wo : World, wo = wr := ⟨_, rfl⟩
        go_loopw [11] (fun x wx => ∃ (k : Nat) (d : Nat → Nat), k ≤ 6 ∧ x = .int .i64 (k : Int) ∧ Turned c d k ∧ BoxC w wx w.heap.size d) (fun x _ => 6 - (intOf x).toNat)
        case atStart => exact ⟨0, c, Nat.zero_le _, rfl, ⟨fun j hj => by omega, fun _ _ => rfl⟩, HBOX.out⟩
        case round =>
          obtain ⟨k, d, hk, rfl, htn, hbx⟩ := hrel
          clear HBOX
          have HTN := hide htn
          clear htn
          by_cases hlt : k < 6
          · have hlt' : (k : Int) < 6 := by omega
            have hk0 : (0 : Int) ≤ (k : Int) := by omega
            have hk6 : ((k : Int) == 6) = false := by rw [beq_eq_false_iff_ne]; omega
            have c2 := picks_cell hbx.at_ hlt
            have bf := frozen_of_heap hbx.at_
            have HDK := hide (HTN.out.hi k (Nat.le_refl _))
            have HN := hide (HNX.out k (d k) (by rw [HDK.out]; exact HC.out.nine k) _ (HSH.out.below hbx.bel))
            have HBX := hide hbx
            clear hbx
            generalize hdk : d k = dk at *
            have HDD := hide hdk
            clear hdk
            go_wp2_with fail
            refine HN.out.mono ?_
            rintro e w6 ⟨u, rfl, hu, hw6⟩
            have hw7 := hw6.symm
            subst hw7
            clear hw6 HN
            have HU := hide hu
            have HSET := hide (HBX.out.set hlt u)
            clear hu
            by_cases hu0 : u = 0
            · have u0 : ((u : Int) != 0) = false := by rw [hu0]; rfl
              have HF := hide (show Turned c (setC d k u) (k + 1) by rw [hu0]; exact HTN.out.next)
              clear hu0
              go_wp2_with fail
              go_roundw
              case rel => exact ⟨k + 1, _, by omega, by go_num, HF.out, HSET.out⟩
              case measure => simp [intOf] <;> omega
            · have u0 : ((u : Int) != 0) = true := by rw [bne, beq_eq_false_iff_ne.2 (by omega)]; rfl
              have HF := hide (HTN.out.more HC.out hlt (u := u) (by have := HU.out; have := HDK.out; omega) (by have := HU.out; omega))
              have HN2 := hide (numW_is (six_at HSET.out.at_))
              clear hu0
              go_wp2_with fail
              go_roundw
              case rel => exact ⟨_, HF.out.1, HSET.out⟩
              case measure =>
                have m1 := HNUM.out
                have m2 := HN2.out
                have m3 := HF.out.2
                have m4 := num_less HF.out.1
                rw [m1, m2]
                omega
          · have hlt' : ¬ (k : Int) < 6 := by omega
            have hk6 : ((k : Int) == 6) = true := by rw [beq_iff_eq]; omega
            go_wp2_with fail
            go_ret
            exact Or.inl ⟨rfl, hbx.bel⟩

end

section
open Go.RowKit

/-- What is told with just the steps that were taken, and with one less. -/
theorem tell_exact {is : List It} {asked : List Nd} {left : Nat} {o : Option (List (Nat × Nat))} (h : runI is asked 1000000 = some (left, o)) :
    ∃ ts te, tellI 1000000 (runI is asked 1000000) = (ts, ((1000000 - left : Nat) : Int), te) ∧ tellI (1000000 - left) (runI is asked (1000000 - left)) = (ts, ((1000000 - left : Nat) : Int), te) ∧ (0 < 1000000 - left → tellI (1000000 - left - 1) (runI is asked (1000000 - left - 1)) = (⟨#[]⟩, ((1000000 - left - 1 : Nat) : Int), 10)) ∧ (o = none → te = 9) ∧ ∀ ch, o = some ch → te = 0 ∧ ts = toldN (picked ch) := by
  obtain ⟨e1, e2⟩ := run_exact h
  rw [h, e1]
  cases o with
  | none => exact ⟨_, _, rfl, by rw [tellI]; rfl, fun hp => by rw [e2 _ (by omega)]; rfl, fun _ => rfl, fun ch hc => by cases hc⟩
  | some ch => exact ⟨_, _, rfl, by rw [tellI]; rfl, fun hp => by rw [e2 _ (by omega)]; rfl, fun hc => (by cases hc), fun ch' hc => by injection hc with hc; subst hc; exact ⟨rfl, rfl⟩⟩

set_option maxHeartbeats 8000000 in
set_option maxRecDepth 100000 in
theorem complete_any (io : Option Addr) (len cap : Nat) (F : Nat → RIt) (so : Option Addr) (len2 cap2 : Nat) (f : Nat → RNd) (w : World) (htab : TabOk w) (hlen : len ≤ 9223372036854775807) (hf : RIts w io len F) (hlen2 : len2 ≤ 9223372036854775807) (hf2 : RNds w so len2 f) :
    Calls Tryd.prog 6 #[.slice io len cap, .slice so len2 cap2] w fun e w' => e = .returned (.bool true) ∧ Below w.heap.size w w' := by
  have HS := hide (shop_any io len cap F w htab hlen hf)
  have HF2 := hide hf2
  clear hf hf2
  go_enter Tryd.func6, Tryd.ntmps6
  go_wp2_with fail
  refine HS.out.mono ?_
  rintro e w1 ⟨sb, db, rfl, ⟨u1, u2, D, ao, cp, is, hi, hc, hfe, hro⟩, hb1⟩
  have HI := hide hi
  have HB1 := hide hb1
  have HND := hide (needs_any so len2 cap2 f w1 hlen2 (HF2.out.step hb1))
  clear hi hc hfe hro hb1 HS HF2
  obtain ⟨hal6, haok⟩ := ndsOf_ok (len := len2) (f := f)
  generalize ndsOf len2 f = asked at *
  have HAOK := hide haok
  clear haok
  go_wp2_with fail
  refine HND.out.mono ?_
  rintro e w2 ⟨ro, rc, rfl, hrow, hb2⟩
  have hb := below_call HB1.out hb2
  have hin := HI.out.below hb2
  clear hb2 HND HI HB1
  have hst := hin.stock
  have HST := hide hst
  have HNDS := hide (show ∀ x ∈ is, x.ws.length ≤ 6 from fun x hx => (hin.nds x hx).1)
  obtain ⟨left, o, hrun⟩ := run_enough hst HAOK.out
  obtain ⟨ts, te, t1, t2, t3, t4, t5⟩ := tell_exact hrun
  have HT45 := hide (And.intro t4 t5)
  have HRUN := hide hrun
  have HTX := hide (fun W (o : W.ownsRow w1.heap.size 62 3 (.slice ro asked.length rc) asked.length (ndsCells asked)) => text_any w1.heap.size ro rc asked W o hal6 HAOK.out)
  have HRS := hide (show ∀ (b : Nat), b ≤ 1000000 → ∀ W, DepAt W db D → Calls Tryd.prog 20 #[.pointer (some ⟨db, 0, none⟩), .string kH, .int .i64 1, .string (textK asked), .int .i64 (b : Int)] W fun e w' => e = .returned (.tuple #[.string (tellI b (runI is asked b)).1, .int .i64 (tellI b (runI is asked b)).2.1, .int .i64 (tellI b (runI is asked b)).2.2]) ∧ Below W.heap.size W w' from fun b hb W h => by
    have := resolve_any db D kH 1 (textK asked) (b : Int) W h (by have := textK_size asked hal6; omega)
    rw [show D.pure = shopP is [] from hin.pure, resolve_shop hst HAOK.out hal6 b hb] at this
    exact this)
  have H1 := hide (HRS.out 1000000 (Nat.le_refl _))
  have H2 := hide (HRS.out (1000000 - left) (Nat.sub_le _ _))
  have H3 := hide (HRS.out (1000000 - left - 1) (by omega))
  rw [t1] at H1
  rw [t2] at H2
  have HT3 := hide t3
  have hus : 1000000 - left ≤ 1000000 := Nat.sub_le _ _
  clear HRS t1 t2 t3 t4 t5 hrun hst
  simp only at H1 H2
  generalize textK asked = tx at *
  generalize 1000000 - left = us at *
  have H1' := hide (show ∀ W, DepAt W db D → Calls Tryd.prog 20 #[.pointer (some ⟨db, 0, none⟩), .string kH, .int .i64 1, .string tx, .int .i64 1000000] W fun e w' => e = .returned (.tuple #[.string ts, .int .i64 (us : Int), .int .i64 te]) ∧ Below W.heap.size W w' from H1.out)
  clear H1
  go_wp2_with fail
  go_cut [7, 8, 9] (fun x y z wx => x = .string ts ∧ y = .int .i64 (us : Int) ∧ z = .int .i64 te ∧ ShopInv wx sb db D ao cp is ∧ wx.ownsRow w1.heap.size 62 3 (.slice ro asked.length rc) asked.length (ndsCells asked) ∧ Below w.heap.size w wx)
  case first =>
    have hr := hin.shop
    go_region_held3 (fun W => W.cell? ⟨sb, 0, none⟩ = some (.pointer (some ⟨db, 0, none⟩))) (exact hr.c0) (first
      | ((go_at_call 21; refine (HTX.out _ ?_).mono ?_; exact hrow; rintro e w8 ⟨rfl, hbb⟩; have hr := hr.step hbb rfl; have hin := hin.below (below_same hbb rfl rfl rfl rfl); have hrow := ownsRow_keep' hrow (below_same hbb rfl rfl rfl rfl); have hb := below_step hb hbb rfl rfl rfl rfl; clear hbb))
      | ((go_at_call 20; refine (H1'.out _ ?_).mono ?_; exact hin.dep.same rfl; rintro e w8 ⟨rfl, hbb⟩; have hr := hr.step hbb rfl; have hin := hin.below (below_same hbb rfl rfl rfl rfl); have hrow := ownsRow_keep' hrow (below_same hbb rfl rfl rfl rfl); have hb := below_step hb hbb rfl rfl rfl rfl; clear hbb)))
    all_goals
      go_wp2_with fail
      go_meet
      exact ⟨rfl, rfl, rfl, hin, hrow, hb⟩
  case rest =>
    clear hin hrow hb
    obtain ⟨rfl, rfl, rfl, hin, hrow, hb⟩ := hcut
    go_wp2_with fail
    go_cut [10, 11, 12] (fun x y z wx => x = .string ts ∧ y = .int .i64 (us : Int) ∧ z = .int .i64 te ∧ ShopInv wx sb db D ao cp is ∧ wx.ownsRow w1.heap.size 62 3 (.slice ro asked.length rc) asked.length (ndsCells asked) ∧ Below w.heap.size w wx)
    case first =>
      have hr := hin.shop
      go_region_held3 (fun W => W.cell? ⟨sb, 0, none⟩ = some (.pointer (some ⟨db, 0, none⟩))) (exact hr.c0) (first
        | ((go_at_call 21; refine (HTX.out _ ?_).mono ?_; exact hrow; rintro e w8 ⟨rfl, hbb⟩; have hr := hr.step hbb rfl; have hin := hin.below (below_same hbb rfl rfl rfl rfl); have hrow := ownsRow_keep' hrow (below_same hbb rfl rfl rfl rfl); have hb := below_step hb hbb rfl rfl rfl rfl; clear hbb))
        | ((go_at_call 20; refine (H2.out _ ?_).mono ?_; exact hin.dep.same rfl; rintro e w8 ⟨rfl, hbb⟩; have hr := hr.step hbb rfl; have hin := hin.below (below_same hbb rfl rfl rfl rfl); have hrow := ownsRow_keep' hrow (below_same hbb rfl rfl rfl rfl); have hb := below_step hb hbb rfl rfl rfl rfl; clear hbb)))
      all_goals
        go_wp2_with fail
        go_meet
        exact ⟨rfl, rfl, rfl, hin, hrow, hb⟩
    case rest =>
      clear hin hrow hb
      obtain ⟨rfl, rfl, rfl, hin, hrow, hb⟩ := hcut
      have n0 : decide ((us : Int) < 0) = false := decide_eq_false (by omega)
      by_cases hu : 0 < us
      · have hu' : (0 : Int) < (us : Int) := by omega
        have h3 := HT3.out hu
        rw [h3] at H3
        simp only at H3
        have H3' := hide (show ∀ W, DepAt W db D → Calls Tryd.prog 20 #[.pointer (some ⟨db, 0, none⟩), .string kH, .int .i64 1, .string tx, .int .i64 ((us : Int) - 1)] W fun e w' => e = .returned (.tuple #[.string ⟨#[]⟩, .int .i64 ((us : Int) - 1), .int .i64 10]) ∧ Below W.heap.size W w' from fun W h => by
          have := H3.out W h
          rw [show ((us - 1 : Nat) : Int) = (us : Int) - 1 by omega] at this
          exact this)
        have hwu : IntKind.i64.wrap ((us : Int) - 1) = (us : Int) - 1 := by rw [IntKind.wrap_i64]; omega
        clear h3 H3 HT3
        go_wp2_with fail
        go_cut [13, 14, 15] (fun x y z wx => x = .string ⟨#[]⟩ ∧ y = .int .i64 ((us : Int) - 1) ∧ z = .int .i64 10 ∧ ShopInv wx sb db D ao cp is ∧ wx.ownsRow w1.heap.size 62 3 (.slice ro asked.length rc) asked.length (ndsCells asked) ∧ Below w.heap.size w wx)
        case first =>
          have hr := hin.shop
          go_region_held3 (fun W => W.cell? ⟨sb, 0, none⟩ = some (.pointer (some ⟨db, 0, none⟩))) (exact hr.c0) (first
            | ((go_at_call 21; refine (HTX.out _ ?_).mono ?_; exact hrow; rintro e w8 ⟨rfl, hbb⟩; have hr := hr.step hbb rfl; have hin := hin.below (below_same hbb rfl rfl rfl rfl); have hrow := ownsRow_keep' hrow (below_same hbb rfl rfl rfl rfl); have hb := below_step hb hbb rfl rfl rfl rfl; clear hbb))
            | ((go_at_call 20; (try rw [hwu]); refine (H3'.out _ ?_).mono ?_; exact hin.dep.same rfl; rintro e w8 ⟨rfl, hbb⟩; have hr := hr.step hbb rfl; have hin := hin.below (below_same hbb rfl rfl rfl rfl); have hrow := ownsRow_keep' hrow (below_same hbb rfl rfl rfl rfl); have hb := below_step hb hbb rfl rfl rfl rfl; clear hbb)))
          all_goals
            go_wp2_with fail
            go_meet
            exact ⟨rfl, rfl, rfl, hin, hrow, hb⟩
        case rest =>
          clear hin hrow hb
          obtain ⟨rfl, rfl, rfl, hin, hrow, hb⟩ := hcut
          cases o with
          | none =>
            obtain rfl := HT45.out.1 rfl
            have HAN := hide (fun W (x1 : ShopAt W sb db ao cp is) (x2 : ∀ x ∈ is, ItRow W sb x) (q : W.ownsRow w1.heap.size 62 3 (.slice ro asked.length rc) asked.length (ndsCells asked)) => any_any sb db w1.heap.size ao cp is ro rc asked 0 0 (by decide) (by decide) W x1 x2 HST.out HNDS.out q hal6 HAOK.out)
            have HNO := hide (show ¬ GoesWith is asked 0 0 from fun ⟨c, hc, hg, _⟩ => by rw [run_none HST.out HAOK.out HRUN.out hc.far hc.nine] at hg; cases hg)
            clear HT45 HRUN
            go_wp2_with fail
            refine (HAN.out _ hin.shop hin.rows hrow).mono ?_
            rintro e w9 ⟨b, rfl, hbt, hb9⟩
            have hbf : b = false := by
              cases b with
              | false => rfl
              | true => exact absurd (hbt rfl) HNO.out
            subst hbf
            have HB9 := hide (below_call hb hb9)
            clear hb9 hbt HAN
            go_wp2_with fail
            go_ret
            exact ⟨rfl, HB9.out⟩
          | some ch =>
            obtain ⟨rfl, hts⟩ := HT45.out.2 ch rfl
            have hch : ChOk (fun i => i < 6) ch := solve_chOk (candI_good HST.out asked) (asked_good HAOK.out) HRUN.out
            have HRD := hide (fun W => read_any (picked ch) (picked_nine hch) (fun n hn => picked_far hch hn) ts hts W)
            have HAN := hide (fun (n v : Nat) (hn : n < 6) (hv : v ≤ 9) W (x1 : ShopAt W sb db ao cp is) (x2 : ∀ x ∈ is, ItRow W sb x) (q : W.ownsRow w1.heap.size 62 3 (.slice ro asked.length rc) asked.length (ndsCells asked)) => any_any sb db w1.heap.size ao cp is ro rc asked n v hn hv W x1 x2 HST.out HNDS.out q hal6 HAOK.out)
            have HGR := hide (show ∀ (h0 : 0 < asked.length) (v : Nat), picked ch asked[0].n < v → ¬ GoesWith is asked asked[0].n v from fun h0 v hlt ⟨c, hc, hg, hv⟩ => by
              obtain ⟨x, t, e⟩ : ∃ x t, asked = x :: t := by
                cases asked with
                | nil => simp at h0
                | cons x t => exact ⟨x, t, rfl⟩
              subst e
              have := run_greatest HST.out HAOK.out HRUN.out hc.far hc.nine hg
              simp only [List.getElem_cons_zero] at hlt hv
              omega)
            have H9 := hide (picked_nine hch)
            have HIN := hide hin
            have HROW := hide hrow
            have HB := hide hb
            clear HT45 HRUN hch hts hin hrow hb
            generalize picked ch = c at *
            go_wp2_with fail
            refine (HRD.out _).mono ?_
            rintro e w5 ⟨rfl, hb5⟩
            have hbA := below_one w5 (.cells (picksV c) 55)
            have HBA := hide (below_call hb5 hbA)
            have HBX := hide (heap1_new w5 (.cells (picksV c) 55))
            clear hb5 HRD hbA
            go_wp2_with fail
            go_loopw [19, 20] (fun x _ wx => ∃ k : Nat, k ≤ 9 ∧ x = .int .i64 (k : Int) ∧ ShopInv wx sb db D ao cp is ∧ wx.ownsRow w1.heap.size 62 3 (.slice ro asked.length rc) asked.length (ndsCells asked) ∧ wx.heap[w5.heap.size]? = some (.cells (picksV c) 55 (0, 0)) ∧ Below w.heap.size w wx) (fun x _ _ => (intOf x).toNat)
            case atStart => exact ⟨9, by omega, rfl, HIN.out.below HBA.out, ownsRow_keep' HROW.out HBA.out, HBX.out, below_call HB.out HBA.out⟩
            case round =>
              obtain ⟨k, hk, rfl, hin, hrow, hbx, hb⟩ := hrel
              clear HIN HROW HB HBA HBX
              by_cases h0 : 0 < asked.length
              · have h0' : decide ((0 : Int) < (asked.length : Int)) = true := decide_eq_true (by omega)
                have hq : (0 : Int) < (asked.length : Int) := by omega
                obtain ⟨g, hro, hx0⟩ := nds_entry hrow 0 h0
                have d0 := hx0.d0
                rw [Nat.zero_mul] at d0
                have hn6 := (HAOK.out _ (List.getElem_mem h0)).n
                have hn7 : ((asked[0].n : Nat) : Int) < 6 := by omega
                have c1 := picks_cell hbx hn6
                have hc9 := H9.out asked[0].n
                have HG2 := hide (HGR.out h0 k)
                have HA2 := hide (HAN.out asked[0].n k hn6 hk _ hin.shop hin.rows hrow)
                clear hx0
                subst hro
                generalize hxn : asked[0].n = xn at *
                generalize hcx : c xn = cx at *
                clear hxn hcx
                have HBX := hide hbx
                have HIN := hide hin
                have HROW := hide hrow
                clear hbx hin hrow
                by_cases hg : cx < k
                · have hg' : decide ((cx : Int) < (k : Int)) = true := decide_eq_true (by omega)
                  go_wp2_with fail
                  refine HA2.out.mono ?_
                  rintro e w9 ⟨b, rfl, hbt, hb9⟩
                  have hbf : b = false := by
                    cases b with
                    | false => rfl
                    | true => exact absurd (hbt rfl) (HG2.out hg)
                  subst hbf
                  have HF := hide (show ShopInv w9 sb db D ao cp is ∧ w9.ownsRow w1.heap.size 62 3 (.slice (some ⟨g, 0, none⟩) asked.length rc) asked.length (ndsCells asked) ∧ w9.heap[w5.heap.size]? = some (.cells (picksV c) 55 (0, 0)) ∧ Below w.heap.size w w9 from ⟨HIN.out.below hb9, ownsRow_keep' HROW.out hb9, (hb9.block _ (Array.getElem?_eq_some_iff.1 HBX.out).1).trans HBX.out, below_call hb hb9⟩)
                  clear hb9 hbt HA2
                  go_wp2_with fail
                  go_roundw
                  case rel => exact ⟨k - 1, by omega, by go_num, HF.out.1, HF.out.2.1, HF.out.2.2.1, HF.out.2.2.2⟩
                  case measure => simp [intOf] <;> omega
                · have hg' : decide ((cx : Int) < (k : Int)) = false := decide_eq_false (by omega)
                  go_wp2_with fail
                  go_ret
                  exact ⟨rfl, hb⟩
              · have h0' : decide ((0 : Int) < (asked.length : Int)) = false := decide_eq_false (by omega)
                go_wp2_with fail
                go_ret
                exact ⟨rfl, hb⟩
      · have hu' : ¬ (0 : Int) < (us : Int) := by omega
        clear H3 HT3
        cases o with
        | none =>
          obtain rfl := HT45.out.1 rfl
          have HAN := hide (fun W (x1 : ShopAt W sb db ao cp is) (x2 : ∀ x ∈ is, ItRow W sb x) (q : W.ownsRow w1.heap.size 62 3 (.slice ro asked.length rc) asked.length (ndsCells asked)) => any_any sb db w1.heap.size ao cp is ro rc asked 0 0 (by decide) (by decide) W x1 x2 HST.out HNDS.out q hal6 HAOK.out)
          have HNO := hide (show ¬ GoesWith is asked 0 0 from fun ⟨c, hc, hg, _⟩ => by rw [run_none HST.out HAOK.out HRUN.out hc.far hc.nine] at hg; cases hg)
          clear HT45 HRUN
          go_wp2_with fail
          refine (HAN.out _ hin.shop hin.rows hrow).mono ?_
          rintro e w9 ⟨b, rfl, hbt, hb9⟩
          have hbf : b = false := by
            cases b with
            | false => rfl
            | true => exact absurd (hbt rfl) HNO.out
          subst hbf
          have HB9 := hide (below_call hb hb9)
          clear hb9 hbt HAN
          go_wp2_with fail
          go_ret
          exact ⟨rfl, HB9.out⟩
        | some ch =>
          obtain ⟨rfl, hts⟩ := HT45.out.2 ch rfl
          have hch : ChOk (fun i => i < 6) ch := solve_chOk (candI_good HST.out asked) (asked_good HAOK.out) HRUN.out
          have HRD := hide (fun W => read_any (picked ch) (picked_nine hch) (fun n hn => picked_far hch hn) ts hts W)
          have HAN := hide (fun (n v : Nat) (hn : n < 6) (hv : v ≤ 9) W (x1 : ShopAt W sb db ao cp is) (x2 : ∀ x ∈ is, ItRow W sb x) (q : W.ownsRow w1.heap.size 62 3 (.slice ro asked.length rc) asked.length (ndsCells asked)) => any_any sb db w1.heap.size ao cp is ro rc asked n v hn hv W x1 x2 HST.out HNDS.out q hal6 HAOK.out)
          have HGR := hide (show ∀ (h0 : 0 < asked.length) (v : Nat), picked ch asked[0].n < v → ¬ GoesWith is asked asked[0].n v from fun h0 v hlt ⟨c, hc, hg, hv⟩ => by
            obtain ⟨x, t, e⟩ : ∃ x t, asked = x :: t := by
              cases asked with
              | nil => simp at h0
              | cons x t => exact ⟨x, t, rfl⟩
            subst e
            have := run_greatest HST.out HAOK.out HRUN.out hc.far hc.nine hg
            simp only [List.getElem_cons_zero] at hlt hv
            omega)
          have H9 := hide (picked_nine hch)
          have HIN := hide hin
          have HROW := hide hrow
          have HB := hide hb
          clear HT45 HRUN hch hts hin hrow hb
          generalize picked ch = c at *
          go_wp2_with fail
          refine (HRD.out _).mono ?_
          rintro e w5 ⟨rfl, hb5⟩
          have hbA := below_one w5 (.cells (picksV c) 55)
          have HBA := hide (below_call hb5 hbA)
          have HBX := hide (heap1_new w5 (.cells (picksV c) 55))
          clear hb5 HRD hbA
          go_wp2_with fail
          go_loopw [19, 20] (fun x _ wx => ∃ k : Nat, k ≤ 9 ∧ x = .int .i64 (k : Int) ∧ ShopInv wx sb db D ao cp is ∧ wx.ownsRow w1.heap.size 62 3 (.slice ro asked.length rc) asked.length (ndsCells asked) ∧ wx.heap[w5.heap.size]? = some (.cells (picksV c) 55 (0, 0)) ∧ Below w.heap.size w wx) (fun x _ _ => (intOf x).toNat)
          case atStart => exact ⟨9, by omega, rfl, HIN.out.below HBA.out, ownsRow_keep' HROW.out HBA.out, HBX.out, below_call HB.out HBA.out⟩
          case round =>
            obtain ⟨k, hk, rfl, hin, hrow, hbx, hb⟩ := hrel
            clear HIN HROW HB HBA HBX
            by_cases h0 : 0 < asked.length
            · have h0' : decide ((0 : Int) < (asked.length : Int)) = true := decide_eq_true (by omega)
              have hq : (0 : Int) < (asked.length : Int) := by omega
              obtain ⟨g, hro, hx0⟩ := nds_entry hrow 0 h0
              have d0 := hx0.d0
              rw [Nat.zero_mul] at d0
              have hn6 := (HAOK.out _ (List.getElem_mem h0)).n
              have hn7 : ((asked[0].n : Nat) : Int) < 6 := by omega
              have c1 := picks_cell hbx hn6
              have hc9 := H9.out asked[0].n
              have HG2 := hide (HGR.out h0 k)
              have HA2 := hide (HAN.out asked[0].n k hn6 hk _ hin.shop hin.rows hrow)
              clear hx0
              subst hro
              generalize hxn : asked[0].n = xn at *
              generalize hcx : c xn = cx at *
              clear hxn hcx
              have HBX := hide hbx
              have HIN := hide hin
              have HROW := hide hrow
              clear hbx hin hrow
              by_cases hg : cx < k
              · have hg' : decide ((cx : Int) < (k : Int)) = true := decide_eq_true (by omega)
                go_wp2_with fail
                refine HA2.out.mono ?_
                rintro e w9 ⟨b, rfl, hbt, hb9⟩
                have hbf : b = false := by
                  cases b with
                  | false => rfl
                  | true => exact absurd (hbt rfl) (HG2.out hg)
                subst hbf
                have HF := hide (show ShopInv w9 sb db D ao cp is ∧ w9.ownsRow w1.heap.size 62 3 (.slice (some ⟨g, 0, none⟩) asked.length rc) asked.length (ndsCells asked) ∧ w9.heap[w5.heap.size]? = some (.cells (picksV c) 55 (0, 0)) ∧ Below w.heap.size w w9 from ⟨HIN.out.below hb9, ownsRow_keep' HROW.out hb9, (hb9.block _ (Array.getElem?_eq_some_iff.1 HBX.out).1).trans HBX.out, below_call hb hb9⟩)
                clear hb9 hbt HA2
                go_wp2_with fail
                go_roundw
                case rel => exact ⟨k - 1, by omega, by go_num, HF.out.1, HF.out.2.1, HF.out.2.2.1, HF.out.2.2.2⟩
                case measure => simp [intOf] <;> omega
              · have hg' : decide ((cx : Int) < (k : Int)) = false := decide_eq_false (by omega)
                go_wp2_with fail
                go_ret
                exact ⟨rfl, hb⟩
            · have h0' : decide ((0 : Int) < (asked.length : Int)) = false := decide_eq_false (by omega)
              go_wp2_with fail
              go_ret
              exact ⟨rfl, hb⟩

end

end Go.Proofs.YtgcldedkempjhaaDoor
