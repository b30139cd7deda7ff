/-
  depotkeep: Owned: the walk.
-/
import Derived.Test.YtgcldedkempjhaaDoorShopNdW
import Derived.Test.YtgcldedkempjhaaDoorShopM
import Derived.Test.YtgcldedkempjhaaDoorShopE
namespace Go.Proofs.YtgcldedkempjhaaDoor
section
open Go.RowKit

set_option maxHeartbeats 400000 in
theorem pickM_any (c : Int) (w : World) (h1 : -9223372036854775808 ≤ c) (h2 : c ≤ 9223372036854775807) :
    Calls Tryd.prog 16 #[.int .i64 c, .int .i64 1000000] w fun e w' => e = .returned (.int .i64 (pickN c 1000000 : Nat)) ∧ w' = w := by
  have hz : ((1000000 : Int) == 0) = false := by decide
  by_cases h0 : c < 0
  · have hf := hide (show ((pickN c 1000000 : Nat) : Int) = (-(c + 1)) % 1000000 by rw [pickN_cast c (by decide)]; simp [h0])
    go_enter Tryd.func16, Tryd.ntmps16
    go_wp2
    go_ret
    exact ⟨ret_int (by rw [hf.out]; exact tmodN c 1000000 h0), rfl⟩
  · have hf := hide (show ((pickN c 1000000 : Nat) : Int) = c % 1000000 by rw [pickN_cast c (by decide)]; simp [h0])
    go_enter Tryd.func16, Tryd.ntmps16
    go_wp2
    go_ret
    exact ⟨ret_int (by rw [hf.out]), rfl⟩

theorem picked_far {ch : List (Nat × Nat)} (hc : ChOk (fun i => i < 6) ch) {n : Nat} (hn : 6 ≤ n) : picked ch n = 0 := by
  apply Decidable.byContradiction
  intro h
  have := hc.a _ (mem_picked h)
  simp only at this
  omega

theorem picked_nine {ch : List (Nat × Nat)} (hc : ChOk (fun i => i < 6) ch) (n : Nat) : picked ch n ≤ 9 := by
  by_cases h : picked ch n = 0
  · omega
  · exact (hc.v _ (mem_picked h)).2

/-- Nothing is chosen but what is asked, or wanted by what is. -/
theorem run_needed {is : List It} (hs : Stock is) {asked : List Nd} (hok : ∀ x ∈ asked, NdOk x) {b left : Nat} {ch : List (Nat × Nat)} (h : runI is asked b = some (left, some ch)) (o : Nat → Bool) (h1 : ∀ x ∈ asked, o x.n = true) (h2 : ClosedB is (picked ch) o) : ∀ n, n < 6 → picked ch n ≠ 0 → o n = true := by
  have hc : ChOk (fun i => i < 6) ch := solve_chOk (candI_good hs asked) (asked_good hok) h
  intro n _ hn
  refine solve_needed (candI is asked) (fun n => o n = true) ch ?_ 600 (asked.map Nd.wt) [] b left ?_ (fun n hn => absurd rfl hn) h n hn
  · intro m l hm hm0 hl x hx
    have h6 : m < 6 := by
      apply Nat.lt_of_not_le
      exact fun h6 => hm0 (picked_far hc h6)
    unfold candI at hl
    cases hf : is.find? (itP m (picked ch m)) with
    | none => rw [hf] at hl; cases hl
    | some y =>
      rw [hf] at hl
      simp only [Option.bind_some] at hl
      split at hl
      · cases hl
      · injection hl with hl
        subst hl
        obtain ⟨z, hz, rfl⟩ := List.mem_map.1 hx
        exact h2 m h6 hm y hf z hz
  · intro x hx
    obtain ⟨z, hz, rfl⟩ := List.mem_map.1 hx
    exact h1 z hz

theorem ndsOf_ok {len : Nat} {f : Nat → RNd} : (ndsOf len f).length ≤ 6 ∧ ∀ x ∈ ndsOf len f, NdOk x := by
  constructor
  · unfold ndsOf
    simp
    omega
  · intro x hx
    unfold ndsOf at hx
    obtain ⟨i, _, rfl⟩ := List.mem_map.1 hx
    exact ndOf_ok _

theorem textK_size (l : List Nd) (h : l.length ≤ 6) : (textK l).size ≤ 100 := by
  have := textTo_size l l.length
  unfold textK
  omega

set_option maxHeartbeats 8000000 in
set_option maxRecDepth 100000 in
theorem sound_any (io : Option Addr) (len cap : Nat) (F : Nat → RIt) (so : Option Addr) (len2 cap2 : Nat) (f : Nat → RNd) (B : Int) (w : World) (htab : TabOk w) (hlen : len ≤ 9223372036854775807) (hf : RIts w io len F) (hlen2 : len2 ≤ 9223372036854775807) (hf2 : RNds w so len2 f) (b1 : -9223372036854775808 ≤ B) (b2 : B ≤ 9223372036854775807) :
    Calls Tryd.prog 5 #[.slice io len cap, .slice so len2 cap2, .int .i64 B] w fun e w' => e = .returned (.bool true) ∧ Below w.heap.size w w' := by
  have HS := hide (shop_any io len cap F w htab hlen hf)
  have HF2 := hide hf2
  have HP := hide (fun W => pickM_any B W b1 b2)
  have hbl : pickN B 1000000 < 1000000 := pickN_lt B (by decide)
  clear hf hf2
  generalize pickN B 1000000 = bb at *
  go_enter Tryd.func5, Tryd.ntmps5
  go_wp2_with fail
  refine HS.out.mono ?_
  rintro e w1 ⟨sb, db, rfl, ⟨u1, u2, D, ao, cp, is, hi, hc, hfe, hro⟩, hb1⟩
  have HI := hide hi
  have HB1 := hide hb1
  have HND := hide (needs_any so len2 cap2 f w1 hlen2 (HF2.out.step hb1))
  clear hi hc hfe hro hb1 HS HF2
  obtain ⟨hal6, haok⟩ := ndsOf_ok (len := len2) (f := f)
  generalize ndsOf len2 f = asked at *
  have HAOK := hide haok
  clear haok
  go_wp2_with fail
  refine HND.out.mono ?_
  rintro e w2 ⟨ro, rc, rfl, hrow, hb2⟩
  have HROW := hide hrow
  have HB2 := hide (below_call HB1.out hb2)
  have HI2 := hide (HI.out.below hb2)
  clear hrow hb2 HND HI
  go_wp2_with fail
  refine (HP.out _).mono ?_
  rintro e w3 ⟨rfl, hw3⟩
  have hw4 := hw3.symm
  subst hw4
  clear hw3 HP
  have HTX := hide (fun W (o : W.ownsRow w1.heap.size 62 3 (.slice ro asked.length rc) asked.length (ndsCells asked)) => text_any w1.heap.size ro rc asked W o hal6 HAOK.out)
  have HRS := hide (fun W (h : DepAt W db D) => resolve_any db D kH 1 (textK asked) (bb : Int) W h (by have := textK_size asked hal6; omega))
  rw [show D.pure = shopP is [] from HI2.out.pure, resolve_shop HI2.out.stock HAOK.out hal6 bb (by omega)] at HRS
  have hts := textK_size asked hal6
  generalize textK asked = tx at *
  have hr := HI2.out.shop
  have hD := HI2.out.dep
  have hb := HB2.out
  have hrow := HROW.out
  have hin := HI2.out
  clear HROW HB2
  have HRUN := hide (show ∀ q, runI is asked bb = q → q = runI is asked bb from fun q h => h.symm)
  obtain ⟨⟨ts, tn, te⟩, htell⟩ : ∃ q, q = tellI bb (runI is asked bb) := ⟨_, rfl⟩
  have HTELL := hide htell
  rw [← htell] at HRS
  clear htell
  simp only at HRS
  go_wp2_with fail
  go_cut [10, 11, 12] (fun a b c wx => a = .string ts ∧ b = .int .i64 tn ∧ c = .int .i64 te ∧ ShopInv wx sb db D ao cp is ∧ wx.ownsRow w1.heap.size 62 3 (.slice ro asked.length rc) asked.length (ndsCells asked) ∧ Below w.heap.size w wx)
  case first =>
    go_region_held3 (fun W => W.cell? ⟨sb, 0, none⟩ = some (.pointer (some ⟨db, 0, none⟩))) (exact hr.c0) (first
      | ((go_at_call 21; refine (HTX.out _ ?_).mono ?_; exact hrow; rintro e w8 ⟨rfl, hbb⟩; have hr := hr.step hbb rfl; have hin := hin.below (below_same hbb rfl rfl rfl rfl); have hrow := ownsRow_keep' hrow (below_same hbb rfl rfl rfl rfl); have hb := below_step hb hbb rfl rfl rfl rfl; clear hbb))
      | ((go_at_call 20; refine (HRS.out _ ?_).mono ?_; exact hin.dep.same rfl; rintro e w8 ⟨rfl, hbb⟩; have hr := hr.step hbb rfl; have hin := hin.below (below_same hbb rfl rfl rfl rfl); have hrow := ownsRow_keep' hrow (below_same hbb rfl rfl rfl rfl); have hb := below_step hb hbb rfl rfl rfl rfl; clear hbb)))
    all_goals
      go_wp2_with fail
      go_meet
      exact ⟨rfl, rfl, rfl, hin, hrow, hb⟩
  case rest =>
    obtain ⟨rfl, rfl, rfl, hin, hrow, hb⟩ := hcut
    clear hD hr HTX HRS
    cases hrun : runI is asked bb with
    | none =>
      have ht := HTELL.out
      rw [hrun] at ht
      injection ht with ht1 ht2
      injection ht2 with ht2 ht3
      subst ht1 ht2 ht3
      clear hrun HTELL HRUN
      have n0 : decide ((bb : Int) < 0) = false := decide_eq_false (by omega)
      have n1 : decide ((bb : Int) < (bb : Int)) = false := decide_eq_false (by omega)
      go_wp2_with fail
      go_ret
      exact ⟨rfl, hb⟩
    | some p =>
      obtain ⟨left, oc⟩ := p
      have hle := run_left hrun
      cases oc with
      | none =>
        have ht := HTELL.out
        rw [hrun] at ht
        injection ht with ht1 ht2
        injection ht2 with ht2 ht3
        subst ht1 ht2 ht3
        clear hrun HTELL HRUN
        have hu : bb - left ≤ bb := Nat.sub_le _ _
        generalize bb - left = us at *
        have n0 : decide ((us : Int) < 0) = false := decide_eq_false (by omega)
        have n1 : decide ((bb : Int) < (us : Int)) = false := decide_eq_false (by omega)
        go_wp2_with fail
        go_ret
        exact ⟨rfl, hb⟩
      | some ch =>
        have ht := HTELL.out
        rw [hrun] at ht
        injection ht with ht1 ht2
        injection ht2 with ht2 ht3
        have hst := hin.stock
        have hch : ChOk (fun i => i < 6) ch := solve_chOk (candI_good hst asked) (asked_good HAOK.out) hrun
        have HNE := hide (run_needed hst HAOK.out hrun)
        have HGO := hide (run_goes hst HAOK.out hrun)
        have h9 := picked_nine hch
        have h6 : ∀ n, 6 ≤ n → picked ch n = 0 := fun n hn => picked_far hch hn
        have HRD := hide (fun W => read_any (picked ch) h9 h6 ts ht1 W)
        have HGS := hide (fun W (x1 : ShopAt W sb db ao cp is) (x2 : ∀ x ∈ is, ItRow W sb x) (o : W.ownsRow w1.heap.size 62 3 (.slice ro asked.length rc) asked.length (ndsCells asked)) => goes_any sb db w1.heap.size ao cp is ro rc asked (picked ch) W x1 x2 hst (fun x hx => (hin.nds x hx).1) o hal6 HAOK.out h9)
        rw [HGO.out] at HGS
        have HNS := hide (fun W (x1 : ShopAt W sb db ao cp is) (x2 : ∀ x ∈ is, ItRow W sb x) (o : W.ownsRow w1.heap.size 62 3 (.slice ro asked.length rc) asked.length (ndsCells asked)) => needed_any sb db w1.heap.size ao cp is ro rc asked (picked ch) W x1 x2 hst (fun x hx => (hin.nds x hx).1) o hal6 HAOK.out h9 HNE.out)
        have HIN := hide hin
        have HROW := hide hrow
        have HB := hide hb
        subst ht2 ht3
        clear hrun HTELL HRUN HNE HGO hst hch h9 h6 ht1 hin hrow hb
        have hu : bb - left ≤ bb := Nat.sub_le _ _
        generalize bb - left = us at *
        generalize picked ch = c at *
        have n0 : decide ((us : Int) < 0) = false := decide_eq_false (by omega)
        have n1 : decide ((bb : Int) < (us : Int)) = false := decide_eq_false (by omega)
        go_wp2_with fail
        refine (HRD.out _).mono ?_
        rintro e w5 ⟨rfl, hb5⟩
        have HB5 := hide hb5
        have hbA := below_one w5 (.cells (picksV c) 55)
        have HBA := hide (below_call hb5 hbA)
        have hbx := heap1_new w5 (.cells (picksV c) 55)
        clear hb5 HRD
        go_wp2_with fail
        refine (HGS.out _ (HIN.out.below HBA.out).shop (HIN.out.below HBA.out).rows (ownsRow_keep' HROW.out HBA.out)).mono ?_
        rintro e w6 ⟨rfl, hb6⟩
        have HB6 := hide (below_call HBA.out hb6)
        have hbx6 := (hb6.block w5.heap.size (by simp)).trans hbx
        obtain ⟨x0, x1, x2, x3, x4, x5⟩ := six_at hbx6
        clear hb6 HGS hbx hbx6 hbA
        go_wp2_with fail
        refine (HNS.out _ (HIN.out.below HB6.out).shop (HIN.out.below HB6.out).rows (ownsRow_keep' HROW.out HB6.out)).mono ?_
        rintro e w7 ⟨rfl, hb7⟩
        have HB7 := hide (below_call HB.out (below_call HB6.out hb7))
        clear hb7 HNS
        go_wp2_with fail
        go_ret
        exact ⟨rfl, HB7.out⟩

end

section
open Go.RowKit

set_option maxHeartbeats 1600000 in
theorem next_any (sb db : Nat) (ao : Option Addr) (cap : Nat) (is : List It) (n v : Nat) (hv : v ≤ 9) (w : World) (hr : ShopAt w sb db ao cap is) :
    Calls Tryd.prog 59 #[.pointer (some ⟨sb, 0, none⟩), .int .i64 n, .int .i64 v] w fun e w' => ∃ u : Nat, e = .returned (.int .i64 u) ∧ (u = 0 ∨ (v < u ∧ u ≤ 9)) ∧ w' = w := by
  have HR := hide hr
  clear hr
  go_enter Tryd.func59, Tryd.ntmps59
  go_wp2_with fail
  go_loopw [7, 8] (fun x _ wx => ∃ k : Nat, v < k ∧ k ≤ 10 ∧ x = .int .i64 (k : Int) ∧ wx = w) (fun x _ _ => 10 - (intOf x).toNat)
  case atStart => exact ⟨v + 1, by omega, by omega, by go_num, rfl⟩
  case round =>
    obtain ⟨k, hk1, hk2, rfl, hw⟩ := hrel
    have hw' := hw.symm
    subst hw'
    clear hw
    by_cases hlt : k ≤ 9
    · have hlt' : (k : Int) ≤ 9 := by omega
      rcases find_cases (itP n k) is with ⟨i, hi, q1, q2, q3⟩ | ⟨q1, q3⟩
      · have HT := hide (there_some sb db ao cap is n k w HR.out i hi q1 q2)
        have hi0 : (0 : Int) ≤ (i : Int) := by omega
        go_wp2_with fail
        refine HT.out.mono ?_
        rintro e w2 ⟨rfl, hw2⟩
        have hw3 := hw2.symm
        subst hw3
        clear hw2 HT
        go_wp2_with fail
        go_ret
        exact ⟨k, rfl, Or.inr ⟨hk1, hlt⟩, rfl⟩
      · have HT := hide (there_none sb db ao cap is n k w HR.out q1)
        go_wp2_with fail
        refine HT.out.mono ?_
        rintro e w2 ⟨rfl, hw2⟩
        have hw3 := hw2.symm
        subst hw3
        clear hw2 HT
        go_wp2_with fail
        go_roundw
        case rel => exact ⟨k + 1, by omega, by omega, by go_num, by first | trivial | rfl⟩
        case measure => simp [intOf] <;> omega
    · have hlt' : ¬ (k : Int) ≤ 9 := by omega
      go_wp2_with fail
      go_ret
      exact ⟨0, rfl, Or.inl rfl, rfl⟩

/-- A choice as a number. -/
def numC (c : Nat → Nat) : Nat := c 0 + 10 * c 1 + 100 * c 2 + 1000 * c 3 + 10000 * c 4 + 100000 * c 5

def cellN (w : World) (b j : Nat) : Nat := (intOf ((w.cell? ⟨b, j, none⟩).getD undef)).toNat

def numW (w : World) (b : Nat) : Nat := cellN w b 0 + 10 * cellN w b 1 + 100 * cellN w b 2 + 1000 * cellN w b 3 + 10000 * cellN w b 4 + 100000 * cellN w b 5

theorem numW_is {w : World} {b : Nat} {c : Nat → Nat} (h : SixAt w b c) : numW w b = numC c := by
  unfold numW numC cellN
  rw [h.z0, h.z1, h.z2, h.z3, h.z4, h.z5]
  simp [intOf]

theorem BoxC.set {w wr : World} {c : Nat → Nat} (h : BoxC w wr w.heap.size c) {n : Nat} (hn : n < 6) (v : Nat) : BoxC w (wr.setCell ⟨w.heap.size, n, none⟩ (.int .i64 v)) w.heap.size (setC c n v) :=
  ⟨box_set h.at_ hn v, h.bel.setCell (Nat.le_refl _) _⟩

/-- A choice of the six names. -/
structure PickOk (c : Nat → Nat) : Prop where
  nine : ∀ n, c n ≤ 9
  far : ∀ n, 6 ≤ n → c n = 0

/-- The first k are at none again. -/
structure Turned (c d : Nat → Nat) (k : Nat) : Prop where
  lo : ∀ j, j < k → d j = 0
  hi : ∀ j, k ≤ j → d j = c j

theorem Turned.ok {c d : Nat → Nat} {k : Nat} (h : Turned c d k) (hc : PickOk c) : PickOk d := by
  constructor
  · intro n
    by_cases hn : n < k
    · rw [h.lo n hn]; omega
    · rw [h.hi n (by omega)]; exact hc.nine n
  · intro n hn
    by_cases hk : n < k
    · exact h.lo n hk
    · rw [h.hi n (by omega)]; exact hc.far n hn

theorem Turned.next {c d : Nat → Nat} {k : Nat} (h : Turned c d k) : Turned c (setC d k 0) (k + 1) := by
  constructor
  · intro j hj
    unfold setC
    split
    · rfl
    · exact h.lo j (by omega)
  · intro j hj
    unfold setC
    rw [if_neg (by omega)]
    exact h.hi j (by omega)

theorem Turned.more {c d : Nat → Nat} {k u : Nat} (h : Turned c d k) (hc : PickOk c) (hk : k < 6) (hu : c k < u) (h9 : u ≤ 9) : PickOk (setC d k u) ∧ numC c < numC (setC d k u) := by
  have hd := h.ok hc
  constructor
  · constructor
    · intro n
      unfold setC
      split
      · exact h9
      · exact hd.nine n
    · intro n hn
      unfold setC
      rw [if_neg (by omega)]
      exact hd.far n hn
  · have n0 := hc.nine 0
    have n1 := hc.nine 1
    have n2 := hc.nine 2
    have n3 := hc.nine 3
    have n4 := hc.nine 4
    have n5 := hc.nine 5
    have hv : k = 0 ∨ k = 1 ∨ k = 2 ∨ k = 3 ∨ k = 4 ∨ k = 5 := by omega
    unfold numC setC
    rcases hv with rfl | rfl | rfl | rfl | rfl | rfl
    · have e1 := h.hi 1 (by omega); have e2 := h.hi 2 (by omega); have e3 := h.hi 3 (by omega); have e4 := h.hi 4 (by omega); have e5 := h.hi 5 (by omega)
      simp only [if_true, e1, e2, e3, e4, e5, Nat.reduceEqDiff, if_false]
      omega
    · have e2 := h.hi 2 (by omega); have e3 := h.hi 3 (by omega); have e4 := h.hi 4 (by omega); have e5 := h.hi 5 (by omega)
      simp only [if_true, e2, e3, e4, e5, Nat.reduceEqDiff, if_false]
      omega
    · have e3 := h.hi 3 (by omega); have e4 := h.hi 4 (by omega); have e5 := h.hi 5 (by omega)
      simp only [if_true, e3, e4, e5, Nat.reduceEqDiff, if_false]
      omega
    · have e4 := h.hi 4 (by omega); have e5 := h.hi 5 (by omega)
      simp only [if_true, e4, e5, Nat.reduceEqDiff, if_false]
      omega
    · have e5 := h.hi 5 (by omega)
      simp only [if_true, e5, Nat.reduceEqDiff, if_false]
      omega
    · simp only [if_true, Nat.reduceEqDiff, if_false]
      omega

theorem num_less {c : Nat → Nat} (h : PickOk c) : numC c < 1000000 := by
  have n0 := h.nine 0
  have n1 := h.nine 1
  have n2 := h.nine 2
  have n3 := h.nine 3
  have n4 := h.nine 4
  have n5 := h.nine 5
  unfold numC
  omega

/-- Something goes together, with this version of a name. -/
def GoesWith (is : List It) (asked : List Nd) (n v : Nat) : Prop := ∃ c, PickOk c ∧ goesN is asked c = true ∧ (v = 0 ∨ c n = v)

set_option maxHeartbeats 8000000 in
set_option maxRecDepth 100000 in
theorem any_any (sb db base : Nat) (ao : Option Addr) (cap : Nat) (is : List It) (ra : Option Addr) (rcap : Nat) (asked : List Nd) (n v : Nat) (hn : n < 6) (_hv : v ≤ 9) (w : World) (hr : ShopAt w sb db ao cap is) (hrows : ∀ x ∈ is, ItRow w sb x) (hst : Stock is) (hl6 : ∀ x ∈ is, x.ws.length ≤ 6)
    (own : w.ownsRow base 62 3 (.slice ra asked.length rcap) asked.length (ndsCells asked)) (h6 : asked.length ≤ 6) (hok : ∀ x ∈ asked, NdOk x) :
    Calls Tryd.prog 25 #[.pointer (some ⟨sb, 0, none⟩), .slice ra asked.length rcap, .int .i64 n, .int .i64 v] w fun e w' => ∃ b, e = .returned (.bool b) ∧ (b = true → GoesWith is asked n v) ∧ Below w.heap.size w w' := by
  have HB0 := hide (show BoxC w (w.alloc (.cells (picksV fun _ => 0) 55)) w.heap.size (fun _ => 0) from box_new w _)
  have HGO := hide (fun (c : Nat → Nat) (hc : PickOk c) W (x1 : ShopAt W sb db ao cap is) (x2 : ∀ x ∈ is, ItRow W sb x) (o : W.ownsRow base 62 3 (.slice ra asked.length rcap) asked.length (ndsCells asked)) => goes_any sb db base ao cap is ra rcap asked c W x1 x2 hst hl6 o h6 hok hc.nine)
  have HNX := hide (fun (k u : Nat) (hu : u ≤ 9) W (x1 : ShopAt W sb db ao cap is) => next_any sb db ao cap is k u hu W x1)
  have HSH := hide hr
  have HROWS := hide (show ∀ W, Below w.heap.size w W → ∀ x ∈ is, ItRow W sb x from fun W hb x hx => (hrows x hx).keep hx fun k _ hl => hb.block k hl)
  have HOWN := hide own
  have hn' : (n : Int) < 6 := by omega
  have hn0 : (0 : Int) ≤ (n : Int) := by omega
  clear hr hrows hst hl6 own h6 hok
  generalize asked.length = al at *
  go_enter Tryd.func25, Tryd.ntmps25
  go_wp2_with fail
  go_loopw [10, 11] (fun _ _ wx => ∃ c, PickOk c ∧ BoxC w wx w.heap.size c) (fun _ _ wx => 1000000 - numW wx w.heap.size)
  case atStart => exact ⟨_, ⟨fun _ => by omega, fun _ _ => rfl⟩, HB0.out⟩
  case round =>
    obtain ⟨c, hc, hbox⟩ := hrel
    clear HB0
    have HC := hide hc
    have HNUM := hide (numW_is (six_at hbox.at_))
    have c1 := picks_cell hbox.at_ hn
    obtain ⟨z0, z1, z2, z3, z4, z5⟩ := six_at hbox.at_
    clear hc
    by_cases h0 : v = 0
    · have h0' : ((v : Int) == 0) = true := by rw [h0]; rfl
      have HV := hide h0
      clear h0
      go_wp2_with fail
      refine (HGO.out c HC.out _ (HSH.out.below hbox.bel) (HROWS.out _ hbox.bel) (ownsRow_keep' HOWN.out hbox.bel)).mono ?_
      rintro e w5 ⟨rfl, hb5⟩
      have HBOX := hide (show BoxC w w5 w.heap.size c from hbox.step hb5 rfl rfl rfl rfl)
      clear hb5
      cases hg : goesN is asked c with
      | true =>
        have HW := hide (show GoesWith is asked n v from ⟨c, HC.out, hg, Or.inl HV.out⟩)
        clear hg
        go_wp2_with fail
        go_ret
        first | exact Or.inr ⟨rfl, HW.out, HBOX.out.bel⟩ | exact ⟨true, rfl, fun _ => HW.out, HBOX.out.bel⟩
      | false =>
        clear hg
        go_wp2_with fail
        obtain ⟨wo, rfl⟩ : ∃ wo : World, wo = wr := ⟨_, rfl⟩
        go_loopw [11] (fun x wx => ∃ (k : Nat) (d : Nat → Nat), k ≤ 6 ∧ x = .int .i64 (k : Int) ∧ Turned c d k ∧ BoxC w wx w.heap.size d) (fun x _ => 6 - (intOf x).toNat)
        case atStart => exact ⟨0, c, Nat.zero_le _, rfl, ⟨fun j hj => by omega, fun _ _ => rfl⟩, HBOX.out⟩
        case round =>
          obtain ⟨k, d, hk, rfl, htn, hbx⟩ := hrel
          clear HBOX
          have HTN := hide htn
          clear htn
          by_cases hlt : k < 6
          · have hlt' : (k : Int) < 6 := by omega
            have hk0 : (0 : Int) ≤ (k : Int) := by omega
            have hk6 : ((k : Int) == 6) = false := by rw [beq_eq_false_iff_ne]; omega
            have c2 := picks_cell hbx.at_ hlt
            have bf := frozen_of_heap hbx.at_
            have HDK := hide (HTN.out.hi k (Nat.le_refl _))
            have HN := hide (HNX.out k (d k) (by rw [HDK.out]; exact HC.out.nine k) _ (HSH.out.below hbx.bel))
            have HBX := hide hbx
            clear hbx
            generalize hdk : d k = dk at *
            have HDD := hide hdk
            clear hdk
            go_wp2_with fail
            refine HN.out.mono ?_
            rintro e w6 ⟨u, rfl, hu, hw6⟩
            have hw7 := hw6.symm
            subst hw7
            clear hw6 HN
            have HU := hide hu
            have HSET := hide (HBX.out.set hlt u)
            clear hu
            by_cases hu0 : u = 0
            · have u0 : ((u : Int) != 0) = false := by rw [hu0]; rfl
              have HF := hide (show Turned c (setC d k u) (k + 1) by rw [hu0]; exact HTN.out.next)
              clear hu0
              go_wp2_with fail
              go_roundw
              case rel => exact ⟨k + 1, _, by omega, by go_num, HF.out, HSET.out⟩
              case measure => simp [intOf] <;> omega
            · have u0 : ((u : Int) != 0) = true := by rw [bne, beq_eq_false_iff_ne.2 (by omega)]; rfl
              have HF := hide (HTN.out.more HC.out hlt (u := u) (by have := HU.out; have := HDK.out; omega) (by have := HU.out; omega))
              have HN2 := hide (numW_is (six_at HSET.out.at_))
              clear hu0
              go_wp2_with fail
              go_roundw
              case rel => exact ⟨_, HF.out.1, HSET.out⟩
              case measure =>
                have m1 := HNUM.out
                have m2 := HN2.out
                have m3 := HF.out.2
                have m4 := num_less HF.out.1
                rw [m1, m2]
                omega
          · have hlt' : ¬ (k : Int) < 6 := by omega
            have hk6 : ((k : Int) == 6) = true := by rw [beq_iff_eq]; omega
            go_wp2_with fail
            go_ret
            exact Or.inl ⟨rfl, hbx.bel⟩
    · have h0' : ((v : Int) == 0) = false := by rw [beq_eq_false_iff_ne]; omega
      clear h0
      by_cases h1 : c n = v
      · have h1' : ((c n : Int) == (v : Int)) = true := by rw [h1]; exact beq_self_eq_true _
        have HV := hide h1
        clear h1
        go_wp2_with fail
        refine (HGO.out c HC.out _ (HSH.out.below hbox.bel) (HROWS.out _ hbox.bel) (ownsRow_keep' HOWN.out hbox.bel)).mono ?_
        rintro e w5 ⟨rfl, hb5⟩
        have HBOX := hide (show BoxC w w5 w.heap.size c from hbox.step hb5 rfl rfl rfl rfl)
        clear hb5
        cases hg : goesN is asked c with
        | true =>
          have HW := hide (show GoesWith is asked n v from ⟨c, HC.out, hg, Or.inr HV.out⟩)
          clear hg
          go_wp2_with fail
          go_ret
          first | exact Or.inr ⟨rfl, HW.out, HBOX.out.bel⟩ | exact ⟨true, rfl, fun _ => HW.out, HBOX.out.bel⟩
        | false =>
          clear hg
          go_wp2_with fail
          obtain ⟨wo, rfl⟩ : ∃ wo : World, wo = wr := ⟨_, rfl⟩
          go_loopw [11] (fun x wx => ∃ (k : Nat) (d : Nat → Nat), k ≤ 6 ∧ x = .int .i64 (k : Int) ∧ Turned c d k ∧ BoxC w wx w.heap.size d) (fun x _ => 6 - (intOf x).toNat)
          case atStart => exact ⟨0, c, Nat.zero_le _, rfl, ⟨fun j hj => by omega, fun _ _ => rfl⟩, HBOX.out⟩
          case round =>
            obtain ⟨k, d, hk, rfl, htn, hbx⟩ := hrel
            clear HBOX
            have HTN := hide htn
            clear htn
            by_cases hlt : k < 6
            · have hlt' : (k : Int) < 6 := by omega
              have hk0 : (0 : Int) ≤ (k : Int) := by omega
              have hk6 : ((k : Int) == 6) = false := by rw [beq_eq_false_iff_ne]; omega
              have c2 := picks_cell hbx.at_ hlt
              have bf := frozen_of_heap hbx.at_
              have HDK := hide (HTN.out.hi k (Nat.le_refl _))
              have HN := hide (HNX.out k (d k) (by rw [HDK.out]; exact HC.out.nine k) _ (HSH.out.below hbx.bel))
              have HBX := hide hbx
              clear hbx
              generalize hdk : d k = dk at *
              have HDD := hide hdk
              clear hdk
              go_wp2_with fail
              refine HN.out.mono ?_
              rintro e w6 ⟨u, rfl, hu, hw6⟩
              have hw7 := hw6.symm
              subst hw7
              clear hw6 HN
              have HU := hide hu
              have HSET := hide (HBX.out.set hlt u)
              clear hu
              by_cases hu0 : u = 0
              · have u0 : ((u : Int) != 0) = false := by rw [hu0]; rfl
                have HF := hide (show Turned c (setC d k u) (k + 1) by rw [hu0]; exact HTN.out.next)
                clear hu0
                go_wp2_with fail
                go_roundw
                case rel => exact ⟨k + 1, _, by omega, by go_num, HF.out, HSET.out⟩
                case measure => simp [intOf] <;> omega
              · have u0 : ((u : Int) != 0) = true := by rw [bne, beq_eq_false_iff_ne.2 (by omega)]; rfl
                have HF := hide (HTN.out.more HC.out hlt (u := u) (by have := HU.out; have := HDK.out; omega) (by have := HU.out; omega))
                have HN2 := hide (numW_is (six_at HSET.out.at_))
                clear hu0
                go_wp2_with fail
                go_roundw
                case rel => exact ⟨_, HF.out.1, HSET.out⟩
                case measure =>
                  have m1 := HNUM.out
                  have m2 := HN2.out
                  have m3 := HF.out.2
                  have m4 := num_less HF.out.1
                  rw [m1, m2]
                  omega
            · have hlt' : ¬ (k : Int) < 6 := by omega
              have hk6 : ((k : Int) == 6) = true := by rw [beq_iff_eq]; omega
              go_wp2_with fail
              go_ret
              exact Or.inl ⟨rfl, hbx.bel⟩
      · have h1' : ((c n : Int) == (v : Int)) = false := by rw [beq_eq_false_iff_ne]; omega
        have HBOX := hide hbox
        clear h1 hbox
        go_wp2_with fail
        obtain ⟨wo, rfl⟩ : ∃ wo : World, wo = wr := ⟨_, rfl⟩
        go_loopw [11] (fun x wx => ∃ (k : Nat) (d : Nat → Nat), k ≤ 6 ∧ x = .int .i64 (k : Int) ∧ Turned c d k ∧ BoxC w wx w.heap.size d) (fun x _ => 6 - (intOf x).toNat)
        case atStart => exact ⟨0, c, Nat.zero_le _, rfl, ⟨fun j hj => by omega, fun _ _ => rfl⟩, HBOX.out⟩
        case round =>
          obtain ⟨k, d, hk, rfl, htn, hbx⟩ := hrel
          clear HBOX
          have HTN := hide htn
          clear htn
          by_cases hlt : k < 6
          · have hlt' : (k : Int) < 6 := by omega
            have hk0 : (0 : Int) ≤ (k : Int) := by omega
            have hk6 : ((k : Int) == 6) = false := by rw [beq_eq_false_iff_ne]; omega
            have c2 := picks_cell hbx.at_ hlt
            have bf := frozen_of_heap hbx.at_
            have HDK := hide (HTN.out.hi k (Nat.le_refl _))
            have HN := hide (HNX.out k (d k) (by rw [HDK.out]; exact HC.out.nine k) _ (HSH.out.below hbx.bel))
            have HBX := hide hbx
            clear hbx
            generalize hdk : d k = dk at *
            have HDD := hide hdk
            clear hdk
            go_wp2_with fail
            refine HN.out.mono ?_
            rintro e w6 ⟨u, rfl, hu, hw6⟩
            have hw7 := hw6.symm
            subst hw7
            clear hw6 HN
            have HU := hide hu
            have HSET := hide (HBX.out.set hlt u)
            clear hu
            by_cases hu0 : u = 0
            · have u0 : ((u : Int) != 0) = false := by rw [hu0]; rfl
              have HF := hide (show Turned c (setC d k u) (k + 1) by rw [hu0]; exact HTN.out.next)
              clear hu0
              go_wp2_with fail
              go_roundw
              case rel => exact ⟨k + 1, _, by omega, by go_num, HF.out, HSET.out⟩
              case measure => simp [intOf] <;> omega
            · have u0 : ((u : Int) != 0) = true := by rw [bne, beq_eq_false_iff_ne.2 (by omega)]; rfl
              have HF := hide (HTN.out.more HC.out hlt (u := u) (by have := HU.out; have := HDK.out; omega) (by have := HU.out; omega))
              have HN2 := hide (numW_is (six_at HSET.out.at_))
              clear hu0
              go_wp2_with fail
              go_roundw
              case rel => exact ⟨_, HF.out.1, HSET.out⟩
              case measure =>
                have m1 := HNUM.out
                have m2 := HN2.out
                have m3 := HF.out.2
                have m4 := num_less HF.out.1
                rw [m1, m2]
                omega
          · have hlt' : ¬ (k : Int) < 6 := by omega
            have hk6 : ((k : Int) == 6) = true := by rw [beq_iff_eq]; omega
            go_wp2_with fail
            go_ret
            exact Or.inl ⟨rfl, hbx.bel⟩

end

section
open Go.RowKit

/-- A shop, and more of the public. -/
def wideP (is : List It) (ex : List PEd) : PDep := { shopP is [] with pub := shopPub is ++ ex }

/-- All of it under the house's names. -/
def Extra (ex : List PEd) : Prop := ∀ e ∈ ex, ∃ n, 3 ≤ n ∧ n < 6 ∧ e.label = nameK n

theorem wide_none (is : List It) : wideP is [] = shopP is [] := by unfold wideP; rw [List.append_nil]; rfl

theorem place_nope {is : List It} {nm l : ByteArray} (h : placeF (shopP is []) nm = (none, l)) : l = nm ∧ ∀ n, 3 ≤ n → n < 6 → (nameK n).toList ≠ nm.toList := by
  constructor
  · unfold placeF at h
    split at h
    · split at h
      · cases h
      · injection h with _ h; exact h.symm
    · injection h with _ h; exact h.symm
  · intro n h3 h6 he
    have : nameK n = nm := by
      rw [ByteArray.toList_eq, ByteArray.toList_eq] at he
      exact ByteArray.ext (Array.toList_inj.1 he)
    rw [← this, place_own is [] h3 h6] at h
    cases h

section
variable {is : List It} {ex : List PEd} {nm : ByteArray}

theorem extra_not (hx : Extra ex) (h : ∀ n, 3 ≤ n → n < 6 → (nameK n).toList ≠ nm.toList) : ∀ e ∈ ex, (e.label.toList == nm.toList) = false := by
  intro e he
  obtain ⟨n, h3, h6, hl⟩ := hx e he
  rw [hl, beq_eq_false_iff_ne]
  exact h n h3 h6

theorem phas_more (h : ∀ e ∈ ex, (e.label.toList == nm.toList) = false) : phas (shopPub is ++ ex) nm = phas (shopPub is) nm := by
  unfold phas
  rw [List.any_append]
  have : (ex.any fun e => e.label.toList == nm.toList) = false := by
    rw [List.any_eq_false]
    intro e he
    rw [h e he]
    decide
  rw [this, Bool.or_false]

theorem ped_more (h : ∀ e ∈ ex, (e.label.toList == nm.toList) = false) (v : Int) : pedF (shopPub is ++ ex) nm v = pedF (shopPub is) nm v := by
  unfold pedF
  rw [List.find?_append]
  have : ex.find? (pedP nm v) = none := by
    rw [List.find?_eq_none]
    intro e he
    unfold pedP
    rw [h e he, Bool.and_false]
    decide
  rw [this, Option.or_none]

theorem ptell_more (h : ∀ e ∈ ex, (e.label.toList == nm.toList) = false) (k : Nat) : ptell (shopPub is ++ ex) nm k = ptell (shopPub is) nm k := by
  induction k with
  | zero => rfl
  | succ k ih =>
    unfold ptell
    rw [ped_more h, ih]

theorem show_wide (hx : Extra ex) (house : ByteArray) (id : Int) (nm : ByteArray) : dshowP (wideP is ex) house id nm = dshowP (shopP is []) house id nm := by
  unfold dshowP
  rw [show heldF (wideP is ex) house id = heldF (shopP is []) house id from rfl, show placeF (wideP is ex) nm = placeF (shopP is []) nm from rfl, show (wideP is ex).pub = shopPub is ++ ex from rfl, show (shopP is []).pub = shopPub is from rfl]
  split
  · rfl
  · split
    · rfl
    · rcases hp : placeF (shopP is []) nm with ⟨_ | h, l⟩
      · obtain ⟨rfl, hn⟩ := place_nope hp
        have he := extra_not hx hn
        simp only
        rw [phas_more he, ptell_more he]
      · rfl

theorem cand_wide (hx : Extra ex) (house : ByteArray) (ask : List WantD) (nm : ByteArray) (v : Int) : candD (wideP is ex) house ask nm v = candD (shopP is []) house ask nm v := by
  unfold candD
  rw [show placeF (wideP is ex) nm = placeF (shopP is []) nm from rfl, show (wideP is ex).pub = shopPub is ++ ex from rfl, show (shopP is []).pub = shopPub is from rfl]
  rcases hp : placeF (shopP is []) nm with ⟨_ | h, l⟩
  · obtain ⟨rfl, hn⟩ := place_nope hp
    have he := extra_not hx hn
    simp only
    rw [phas_more he, ped_more he]
  · rfl

theorem resolve_wide (hx : Extra ex) (house : ByteArray) (id : Int) (text : ByteArray) (b : Int) : dresolveP (wideP is ex) house id text b = dresolveP (shopP is []) house id text b := by
  unfold dresolveP resolveP
  rw [show heldF (wideP is ex) house id = heldF (shopP is []) house id from rfl]
  split
  · rfl
  · cases wantsF text with
    | none => rfl
    | some ask =>
      have e1 : candW (wideP is ex) house ask = candW (shopP is []) house ask := by
        funext nm v
        unfold candW
        rw [cand_wide hx]
      have e2 : ∀ l, writtenP (wideP is ex) l = writtenP (shopP is []) l := fun l => rfl
      simp only
      rw [e1]
      simp only [e2]

end

/-- Feed under the house's names: let in, there already, or no room. -/
theorem feed_wide (is : List It) (ex : List PEd) (n v : Nat) (hv : 1 ≤ v) (hv9 : v ≤ 9) (l : List Nd) (hl : ∀ x ∈ l, NdOk x) (h6 : l.length ≤ 6) :
    dfeedP (wideP is ex) (nameK n) v (textK l) = 0 ∨ dfeedP (wideP is ex) (nameK n) v (textK l) = 5 ∨ dfeedP (wideP is ex) (nameK n) v (textK l) = 6 := by
  unfold dfeedP
  rw [nameK_name, if_neg (by decide)]
  unfold playF
  rw [if_neg (by omega), text_read l hl h6, if_neg (by simp)]
  split
  · exact Or.inr (Or.inl rfl)
  · split
    · exact Or.inr (Or.inr rfl)
    · exact Or.inl rfl

theorem feed_wideS (is : List It) {ex : List PEd} (hx : Extra ex) {n : Nat} (h3 : 3 ≤ n) (h6 : n < 6) (v : Int) (t : ByteArray) : ∃ ex', Extra ex' ∧ dfeedS (wideP is ex) (nameK n) v t = wideP is ex' := by
  refine ⟨ex ++ [⟨nameK n, v, (wantsF t).getD [], false⟩], fun e he => ?_, ?_⟩
  · rcases List.mem_append.1 he with h | h
    · exact hx e h
    · obtain rfl := List.mem_singleton.1 h
      exact ⟨n, h3, h6, rfl⟩
  · unfold dfeedS wideP
    simp only [List.append_assoc]

/-- What others may be told: the public's alone. -/
def candJ (is : List It) (asked : List Nd) (n v : Nat) : Option (List (Wt Nat)) := if n < 3 then candI is asked n v else none

theorem candJ_good {is : List It} (hs : Stock is) (asked : List Nd) : GoodK (fun i => i < 6) (candJ is asked) := by
  intro i hi v l hl
  unfold candJ at hl
  split at hl
  · exact candI_good hs asked i hi v l hl
  · cases hl

theorem cand_other {is : List It} (hs : Stock is) {asked : List Nd} (hok : ∀ x ∈ asked, NdOk x) {house : ByteArray} (hh : (kH.toList == house.toList) = false) {n : Nat} (hn : n < 6) (v : Nat) : candW (shopP is []) house (asked.map wantK) (nameK n) v = (candJ is asked n v).map (List.map (Wt.ren nameK)) := by
  unfold candJ
  by_cases h3 : n < 3
  · rw [if_pos h3, ← cand_shop hs hok hn v]
    unfold candW candD
    rw [place_pub is [] h3]
  · rw [if_neg h3]
    unfold candW candD
    rw [place_own is [] (by omega) hn]
    simp only [hh, Bool.false_or]
    have : grtF ([] : List Grt) (labK n) house = false := rfl
    rw [this]
    simp

def runJ (is : List It) (asked : List Nd) (b : Nat) : Res Nat := solve (candJ is asked) 600 (asked.map Nd.wt) [] b

theorem run_other {is : List It} (hs : Stock is) {asked : List Nd} (hok : ∀ x ∈ asked, NdOk x) {house : ByteArray} (hh : (kH.toList == house.toList) = false) (b : Nat) : solve (candW (shopP is []) house (asked.map wantK)) 600 ((asked.map wantK).map WantD.wt) [] b = resRen nameK (runJ is asked b) := by
  have e : (asked.map wantK).map WantD.wt = (asked.map Nd.wt).map (Wt.ren nameK) := by
    rw [List.map_map, List.map_map]
    rfl
  rw [e]
  exact solve_ren (A := fun i => i < 6) (g := nameK) (fun i j hi hj h => nameK_inj hi hj h) (candJ is asked) _ (fun i hi v => cand_other hs hok hh hi v) (candJ_good hs asked) 600 (asked.map Nd.wt) [] b (asked_good hok) (fun p hp => by cases hp)

theorem resolve_other {is : List It} (hs : Stock is) {asked : List Nd} (hok : ∀ x ∈ asked, NdOk x) (h6 : asked.length ≤ 6) {house : ByteArray} {id : Int} (hh : (kH.toList == house.toList) = false) (hd : (heldF (shopP is []) house id == 0) = false) (b : Nat) (hb : b ≤ 1000000) : dresolveP (shopP is []) house id (textK asked) (b : Int) = tellI b (runJ is asked b) := by
  unfold dresolveP
  rw [if_neg (by rw [hd]; decide)]
  unfold resolveP
  rw [text_read asked hok h6]
  simp only
  rw [if_neg (by omega)]
  unfold runW
  rw [show ((b : Int)).toNat = b by simp, run_other hs hok hh b]
  cases hr : runJ is asked b with
  | none => rfl
  | some p =>
    obtain ⟨left, o⟩ := p
    cases o with
    | none => rfl
    | some ch =>
      have hc : ChOk (fun i => i < 6) ch := solve_chOk (candJ_good hs asked) (asked_good hok) hr
      simp only [resRen, Option.map_some, tellI]
      rw [written_shop is hc]
      rfl

/-- What a text tells, as a choice: of a house's names nothing where others ask. -/
structure ToldBy (ts : ByteArray) (own : Bool) (c : Nat → Nat) : Prop where
  ok : PickOk c
  told : ts = toldN c
  none : own = false → ∀ n, 3 ≤ n → c n = 0

theorem told_empty (own : Bool) : ToldBy ⟨#[]⟩ own (fun _ => 0) := ⟨⟨fun _ => by omega, fun _ _ => rfl⟩, rfl, fun _ _ _ => rfl⟩

theorem told_h {is : List It} (hs : Stock is) {asked : List Nd} (hok : ∀ x ∈ asked, NdOk x) (b : Nat) : ∃ c, ToldBy (tellI b (runI is asked b)).1 true c := by
  cases hr : runI is asked b with
  | none => exact ⟨_, told_empty _⟩
  | some p =>
    obtain ⟨left, o⟩ := p
    cases o with
    | none => exact ⟨_, told_empty _⟩
    | some ch =>
      have hc : ChOk (fun i => i < 6) ch := solve_chOk (candI_good hs asked) (asked_good hok) hr
      exact ⟨picked ch, ⟨picked_nine hc, fun n hn => picked_far hc hn⟩, rfl, fun h => by cases h⟩

theorem told_o {is : List It} (hs : Stock is) {asked : List Nd} (hok : ∀ x ∈ asked, NdOk x) (b : Nat) : ∃ c, ToldBy (tellI b (runJ is asked b)).1 false c := by
  cases hr : runJ is asked b with
  | none => exact ⟨_, told_empty _⟩
  | some p =>
    obtain ⟨left, o⟩ := p
    cases o with
    | none => exact ⟨_, told_empty _⟩
    | some ch =>
      have hc : ChOk (fun i => i < 6) ch := solve_chOk (candJ_good hs asked) (asked_good hok) hr
      refine ⟨picked ch, ⟨picked_nine hc, fun n hn => picked_far hc hn⟩, rfl, fun _ n hn => ?_⟩
      obtain ⟨_, _, h3⟩ := solve_sound (candJ is asked) 600 (asked.map Nd.wt) [] b left ch (fun n hn => absurd rfl hn) hr
      apply Decidable.byContradiction
      intro h0
      obtain ⟨l, hl, _⟩ := h3 n h0
      unfold candJ at hl
      rw [if_neg (by omega)] at hl
      cases hl

/-- What Owned asks of the three who ask. -/
structure Asks (is : List It) (asked : List Nd) (b : Nat) (house : ByteArray) (id : Int) (own : Bool) : Prop where
  told : ∃ c ts tn te, dresolveP (shopP is []) house id (textK asked) (b : Int) = (ts, tn, te) ∧ ToldBy ts own c

theorem asks_h {is : List It} (hs : Stock is) {asked : List Nd} (hok : ∀ x ∈ asked, NdOk x) (h6 : asked.length ≤ 6) (b : Nat) (hb : b ≤ 1000000) : Asks is asked b kH 1 true := by
  obtain ⟨c, hc⟩ := told_h hs hok b
  exact ⟨c, _, _, _, resolve_shop hs hok h6 b hb, hc⟩

theorem asks_o {is : List It} (hs : Stock is) {asked : List Nd} (hok : ∀ x ∈ asked, NdOk x) (h6 : asked.length ≤ 6) (b : Nat) (hb : b ≤ 1000000) {house : ByteArray} {id : Int} (hh : (kH.toList == house.toList) = false) (hd : (heldF (shopP is []) house id == 0) = false) : Asks is asked b house id false := by
  obtain ⟨c, hc⟩ := told_o hs hok b
  exact ⟨c, _, _, _, resolve_other hs hok h6 hh hd b hb, hc⟩

end

section
open Go.RowKit

theorem filter_cr (p : Cr → Bool) (is : List It) : (is.filter fun x => p x.cr).map It.cr = (is.map It.cr).filter p := by
  rw [List.filter_map]
  rfl

/-- What a shop holds, by its items without their places. -/
theorem shop_cr {is1 is2 : List It} (h : is1.map It.cr = is2.map It.cr) : shopP is1 [] = shopP is2 [] := by
  have e1 : ∀ is : List It, shopH is = ((is.map It.cr).filter fun x => decide (3 ≤ x.n)).map fun x => ⟨labK x.n, x.v, x.ws.map wantK, x.y⟩ := fun is => by
    rw [← filter_cr (fun x => decide (3 ≤ x.n)) is, List.map_map]
    rfl
  have e2 : ∀ is : List It, shopPub is = ((is.map It.cr).filter fun x => decide (x.n < 3)).map fun x => ⟨nameK x.n, x.v, x.ws.map wantK, false⟩ := fun is => by
    rw [← filter_cr (fun x => decide (x.n < 3)) is, List.map_map]
    rfl
  have e3 : ∀ is : List It, shopLog is [] = log0 ++ ((is.map It.cr).flatMap fun x => itLog ⟨x.n, x.v, x.y, .slice none 0 0, x.ws⟩) := fun is => by
    unfold shopLog
    rw [List.flatMap_map, List.flatMap_nil, List.append_nil]
    rfl
  have e4 : ∀ is : List It, shopYk is = (is.map It.cr).countP fun x => decide (3 ≤ x.n) && x.y := fun is => by
    unfold shopYk
    rw [List.countP_map]
    rfl
  unfold shopP
  rw [e1, e2, e3, e4, e1 is2, e2 is2, e3 is2, e4 is2, h]

/-- The second shop's depot, which is fed. -/
structure YAt (w1 W : World) (sb db : Nat) (is : List It) (D : DepD) (ex : List PEd) : Prop where
  dep : DepAt W db D
  pure : D.pure = wideP is ex
  ext : Extra ex
  cell : W.cell? ⟨sb, 0, none⟩ = some (.pointer (some ⟨db, 0, none⟩))
  feet : ∀ k, DepFoot db D k → w1.heap.size ≤ k ∧ k ≠ sb
  bel : Below w1.heap.size w1 W

section
variable {w1 W W' w0 w2 : World} {sb db : Nat} {is : List It} {D : DepD} {ex : List PEd}

theorem YAt.below (h : YAt w1 W sb db is D ex) (hb : Below W.heap.size W W') : YAt w1 W' sb db is D ex :=
  ⟨h.dep.below hb, h.pure, h.ext, (hb.cell (p := ⟨sb, 0, none⟩) (World.block_lt_of_cell? W _ h.cell)).trans h.cell, h.feet, below_call h.bel hb⟩

theorem YAt.stepB (h : YAt w1 w0 sb db is D ex) (hbb : Below W.heap.size W w2) (e1 : W.heap = w0.heap) (e2 : W.os = w0.os) (e3 : W.tape = w0.tape) (e4 : W.output = w0.output) : YAt w1 w2 sb db is D ex := h.below (below_same hbb e1 e2 e3 e4)

theorem YAt.fed {n : Nat} {v : Int} {t : ByteArray} {E : Int} (h : YAt w1 w0 sb db is D ex) (h3 : 3 ≤ n) (h6 : n < 6) (hst : DepStep W W' db D (stepP E D.pure (dfeedS D.pure (nameK n) v t))) (e1 : W.heap = w0.heap) (e2 : W.os = w0.os) (e3 : W.tape = w0.tape) (e4 : W.output = w0.output) :
    ∃ D' ex', YAt w1 W' sb db is D' ex' := by
  have hst2 := DepStep.behind (below_same (Below.refl W.heap.size W) e1 e2 e3 e4) hst
  obtain ⟨D', hD, hP, hC, hF⟩ := hst2
  have hsz := h.bel.size
  have hbl : Below w1.heap.size w0 W' := hC.below hsz (fun k hk => (h.feet k hk).1)
  have hlt := World.block_lt_of_cell? w0 ⟨sb, 0, none⟩ h.cell
  have hcell : W'.cell? ⟨sb, 0, none⟩ = some (.pointer (some ⟨db, 0, none⟩)) := (World.cell?_of_block (a := ⟨sb, 0, none⟩) (hC.block sb hlt (fun hk => (h.feet sb hk).2 rfl))).trans h.cell
  have hfeet : ∀ k, DepFoot db D' k → w1.heap.size ≤ k ∧ k ≠ sb := fun k hk => by
    rcases hF k hk with h1 | h1
    · exact h.feet k h1
    · simp only at hlt
      exact ⟨by omega, by omega⟩
  unfold stepP at hP
  split at hP
  · rw [h.pure] at hP
    obtain ⟨ex', x1, x2⟩ := feed_wideS is h.ext h3 h6 v t
    exact ⟨D', ex', hD, by rw [hP, x2], x1, hcell, hfeet, h.bel.trans hbl⟩
  · exact ⟨D', ex, hD, by rw [hP, h.pure], h.ext, hcell, hfeet, h.bel.trans hbl⟩

end

set_option maxHeartbeats 8000000 in
set_option maxRecDepth 100000 in
theorem owned_any (io : Option Addr) (len cap : Nat) (F : Nat → RIt) (fo : Option Addr) (flen fcap : Nat) (G : Nat → RIt) (so : Option Addr) (len2 cap2 : Nat) (f : Nat → RNd) (B : Int) (w : World) (htab : TabOk w) (hlen : len ≤ 9223372036854775807) (hf : RIts w io len F) (hfl : flen ≤ 9223372036854775807) (hg : RIts w fo flen G) (hlen2 : len2 ≤ 9223372036854775807) (hf2 : RNds w so len2 f) (b1 : -9223372036854775808 ≤ B) (b2 : B ≤ 9223372036854775807) :
    Calls Tryd.prog 7 #[.slice io len cap, .slice fo flen fcap, .slice so len2 cap2, .int .i64 B] w fun e w' => e = .returned (.bool true) ∧ Below w.heap.size w w' := by
  have HS := hide (shop_any io len cap F w htab hlen hf)
  have HS2 := hide (fun W (h : Below w.heap.size w W) => shop_any io len cap F W (htab.below h) hlen (hf.step h))
  have HF2 := hide hf2
  have HG := hide hg
  have HP := hide (fun W => pickM_any B W b1 b2)
  have hbl : pickN B 1000000 < 1000000 := pickN_lt B (by decide)
  clear hf hf2 hg htab
  generalize pickN B 1000000 = bb at *
  go_enter Tryd.func7, Tryd.ntmps7
  go_wp2_with fail
  refine HS.out.mono ?_
  rintro e w1 ⟨sb1, db1, rfl, ⟨u1, u2, D1, ao1, cp1, is1, hi1, hc1, hfe1, hro1⟩, hb1⟩
  have HI1 := hide hi1
  have HB1 := hide hb1
  have HC1 := hide hc1
  clear hi1 hc1 hfe1 hro1 hb1 HS
  go_wp2_with fail
  refine (HS2.out _ HB1.out).mono ?_
  rintro e w2 ⟨sb2, db2, rfl, ⟨v1, v2, D2, ao2, cp2, is2, hi2, hc2, hfe2, hro2⟩, hb2⟩
  have HPE := hide (shop_cr (HC1.out.trans hc2.symm))
  have HY0 := hide (show YAt w1 w2 sb2 db2 is2 D2 [] from ⟨hi2.dep, by rw [wide_none]; exact hi2.pure, (fun e he => by cases he), hi2.shop.c0, fun k hk => ⟨hfe2 k (Or.inl hk), fun e => hi2.apart k hk (Or.inl e)⟩, hb2⟩)
  have HST2 := hide hi2.stock
  clear hi2 hc2 hfe2 hro2 hb2 HS2 HC1
  go_wp2_with fail
  go_loopw [11, 12, 13] (fun x _ _ wx => ∃ (k : Nat) (D : DepD) (ex : List PEd), k ≤ flen ∧ x = .int .i64 (k : Int) ∧ YAt w1 wx sb2 db2 is2 D ex) (fun x _ _ _ => flen - (intOf x).toNat)
  case atStart => exact ⟨0, D2, [], Nat.zero_le _, rfl, HY0.out⟩
  case round =>
    clear HY0 D2
    obtain ⟨k, D, ex, hk, rfl, hy⟩ := hrel
    by_cases hlt : k < flen
    · have hlt' : (k : Int) < (flen : Int) := by omega
      have hbw : Below w.heap.size w wr := HB1.out.trans (hy.bel.mono HB1.out.size)
      obtain ⟨g, o, rfl, hgl, hxw, hxo0⟩ := HG.out k hlt
      have hxo := hxo0.step hbw
      have HXW := hide (show ∀ W, Below w1.heap.size w1 W → RItAt W g (o + k * 4) (G k) from fun W h => hxw.keep ((HB1.out.trans (h.mono HB1.out.size)).block g hgl))
      have hx0 := HXW.out _ hy.bel
      clear hxw hxo0
      obtain ⟨hal6, haok⟩ := ndsOf_ok (len := (G k).len) (f := (G k).f)
      have HND := hide (needs_any (G k).so (G k).len (G k).cap (G k).f wr hxo.l hxo.w)
      have h3 := pickN_lt (G k).n (n := 3) (by decide)
      have h9 := pickN_lt (G k).v (n := 9) (by decide)
      have a1 := hxo.n1
      have a2 := hxo.n2
      have a3 := hxo.v1
      have a4 := hxo.v2
      have d3 := hx0.d3
      generalize ndsOf (G k).len (G k).f = ws at *
      have HAOK := hide haok
      clear hx0 hxo haok
      generalize G k = y at *
      have hn6 : 3 + pickN y.n 3 < 6 := by omega
      have HNm := hide (fun W => nameK_any (3 + pickN y.n 3) hn6 W)
      have hw3 : IntKind.i64.wrap (3 + (pickN y.n 3 : Int)) = 3 + (pickN y.n 3 : Int) := by rw [IntKind.wrap_i64]; omega
      have hw1 : IntKind.i64.wrap (1 + (pickN y.v 9 : Int)) = 1 + (pickN y.v 9 : Int) := by rw [IntKind.wrap_i64]; omega
      go_wp2_with fail
      refine HND.out.mono ?_
      rintro e w5 ⟨ro, rc, rfl, hrow, hb5⟩
      have hy5 := hy.below hb5
      have hx5 := HXW.out _ hy5.bel
      have HTX := hide (fun W (q : W.ownsRow wr.heap.size 62 3 (.slice ro ws.length rc) ws.length (ndsCells ws)) => text_any wr.heap.size ro rc ws W q hal6 HAOK.out)
      have HFD := hide (fun W (h : DepAt W db2 D) => feed_any db2 D (nameK (3 + pickN y.n 3)) (1 + (pickN y.v 9 : Int)) (textK ws) W h (Nat.le_trans (nameK_size _) (by decide)) (by have := textK_size ws hal6; omega) _ rfl)
      have HEE := hide (show dfeedP D.pure (nameK (3 + pickN y.n 3)) (1 + (pickN y.v 9 : Int)) (textK ws) = 0 ∨ dfeedP D.pure (nameK (3 + pickN y.n 3)) (1 + (pickN y.v 9 : Int)) (textK ws) = 5 ∨ dfeedP D.pure (nameK (3 + pickN y.n 3)) (1 + (pickN y.v 9 : Int)) (textK ws) = 6 from by
        have := feed_wide is2 ex (3 + pickN y.n 3) (1 + pickN y.v 9) (by omega) (by omega) ws HAOK.out hal6
        rw [hy.pure]
        rw [show ((1 + pickN y.v 9 : Nat) : Int) = 1 + (pickN y.v 9 : Int) by omega] at this
        exact this)
      clear HND hb5 d3 hy
      go_wp2_with fail
      go_cut [13] (fun v wx => ∃ E D' ex', v = .int .i64 E ∧ (E = 0 ∨ E = 5 ∨ E = 6) ∧ YAt w1 wx sb2 db2 is2 D' ex')
      case first =>
        have hc := hy5.cell
        have hd0 := hx5.d0
        have hd1 := hx5.d1
        go_region_held3 (fun W => W.cell? ⟨sb2, 0, none⟩ = some (.pointer (some ⟨db2, 0, none⟩)) ∧ W.cell? ⟨g, o + k * 4, none⟩ = some (.int .i64 y.n) ∧ W.cell? ⟨g, o + k * 4 + 1, none⟩ = some (.int .i64 y.v)) (exact ⟨hc, hd0, hd1⟩) (first
          | ((go_at_call 16; refine (pickI_any _ _ _ ?_ ?_ ?_ ?_).mono ?_; omega; omega; omega; omega; rintro e w8 ⟨rfl, hw8⟩; subst hw8))
          | ((go_at_call 18; (try rw [hw3]); refine (HNm.out _).mono ?_; rintro e w8 ⟨rfl, hbb⟩; have hy5 := hy5.stepB hbb rfl rfl rfl rfl; have hc := hy5.cell; have hx5 := HXW.out _ hy5.bel; have hd0 := hx5.d0; have hd1 := hx5.d1; have hrow := ownsRow_keep' hrow (below_same hbb rfl rfl rfl rfl); clear hbb))
          | ((go_at_call 21; refine (HTX.out _ ?_).mono ?_; exact hrow; rintro e w8 ⟨rfl, hbb⟩; have hy5 := hy5.stepB hbb rfl rfl rfl rfl; have hc := hy5.cell; have hx5 := HXW.out _ hy5.bel; have hd0 := hx5.d0; have hd1 := hx5.d1; have hrow := ownsRow_keep' hrow (below_same hbb rfl rfl rfl rfl); clear hbb))
          | ((go_at_call 26; (try rw [hw1]); refine (HFD.out _ ?_).mono ?_; exact hy5.dep.same rfl; rintro e w8 ⟨rfl, hst⟩; have hyn := hy5.fed (by omega) hn6 hst rfl rfl rfl rfl; obtain ⟨DD, exx, hyn⟩ := hyn; have hc := hyn.cell; have hd0 := (HXW.out _ hyn.bel).d0; have hd1 := (HXW.out _ hyn.bel).d1)))
        all_goals
          go_wp2_with fail
          go_meet
          exact ⟨_, DD, exx, rfl, HEE.out, hyn⟩
      case rest =>
        obtain ⟨E, D', ex', rfl, hE, hy⟩ := hcut
        rcases hE with rfl | rfl | rfl
        all_goals
          go_wp2_with fail
          go_roundw
          case rel => exact ⟨k + 1, D', ex', by omega, by go_num, hy⟩
          case measure => simp [intOf] <;> omega
    · have hlt' : ¬ (k : Int) < (flen : Int) := by omega
      have hbw : Below w.heap.size w wr := HB1.out.trans (hy.bel.mono HB1.out.size)
      have HND := hide (needs_any so len2 cap2 f wr hlen2 (HF2.out.step hbw))
      obtain ⟨hal6, haok⟩ := ndsOf_ok (len := len2) (f := f)
      generalize ndsOf len2 f = asked at *
      have hts := textK_size asked hal6
      have HA1 := hide (asks_h HST2.out haok hal6 bb (by omega))
      have HA2 := hide (asks_o HST2.out haok hal6 bb (by omega) (house := kG) (id := 1) kHG.1 (by rw [shop_heldG]; decide))
      have HA3 := hide (asks_o HST2.out haok hal6 bb (by omega) (house := ⟨#[]⟩) (id := 77) (by simp [ByteArray.toList_eq]) (by rw [shop_heldR]; decide))
      have HSX := hide (show ∀ house id j W, DepAt W db1 D1 → Calls Tryd.prog 27 #[.pointer (some ⟨db1, 0, none⟩), .string house, .int .i64 id, .string (nameK j)] W fun e w' => e = .returned (.tuple #[.string (dshowP (shopP is2 []) house id (nameK j)).1, .int .i64 (dshowP (shopP is2 []) house id (nameK j)).2]) ∧ Below W.heap.size W w' from fun house id j W h => by
        have := show_any db1 D1 house id (nameK j) W h (Nat.le_trans (nameK_size j) (by decide))
        rw [HI1.out.pure, HPE.out] at this
        exact this)
      have HSY := hide (show ∀ house id j W, DepAt W db2 D → Calls Tryd.prog 27 #[.pointer (some ⟨db2, 0, none⟩), .string house, .int .i64 id, .string (nameK j)] W fun e w' => e = .returned (.tuple #[.string (dshowP (shopP is2 []) house id (nameK j)).1, .int .i64 (dshowP (shopP is2 []) house id (nameK j)).2]) ∧ Below W.heap.size W w' from fun house id j W h => by
        have := show_any db2 D house id (nameK j) W h (Nat.le_trans (nameK_size j) (by decide))
        rw [hy.pure, show_wide hy.ext] at this
        exact this)
      have HRX := hide (show ∀ house id W, DepAt W db1 D1 → Calls Tryd.prog 20 #[.pointer (some ⟨db1, 0, none⟩), .string house, .int .i64 id, .string (textK asked), .int .i64 (bb : Int)] W fun e w' => e = .returned (.tuple #[.string (dresolveP (shopP is2 []) house id (textK asked) (bb : Int)).1, .int .i64 (dresolveP (shopP is2 []) house id (textK asked) (bb : Int)).2.1, .int .i64 (dresolveP (shopP is2 []) house id (textK asked) (bb : Int)).2.2]) ∧ Below W.heap.size W w' from fun house id W h => by
        have := resolve_any db1 D1 house id (textK asked) (bb : Int) W h (by omega)
        rw [HI1.out.pure, HPE.out] at this
        exact this)
      have HRY := hide (show ∀ house id W, DepAt W db2 D → Calls Tryd.prog 20 #[.pointer (some ⟨db2, 0, none⟩), .string house, .int .i64 id, .string (textK asked), .int .i64 (bb : Int)] W fun e w' => e = .returned (.tuple #[.string (dresolveP (shopP is2 []) house id (textK asked) (bb : Int)).1, .int .i64 (dresolveP (shopP is2 []) house id (textK asked) (bb : Int)).2.1, .int .i64 (dresolveP (shopP is2 []) house id (textK asked) (bb : Int)).2.2]) ∧ Below W.heap.size W w' from fun house id W h => by
        have := resolve_any db2 D house id (textK asked) (bb : Int) W h (by omega)
        rw [hy.pure, resolve_wide hy.ext] at this
        exact this)
      have HAOK := hide haok
      clear haok hbw HF2 HG
      go_wp2_with fail
      refine HND.out.mono ?_
      rintro e w5 ⟨ro, rc, rfl, hrow, hb5⟩
      have hy5 := hy.below hb5
      clear hb5 HND hy
      go_wp2_with fail
      refine (text_any wr.heap.size ro rc asked _ hrow hal6 HAOK.out).mono ?_
      rintro e w6 ⟨rfl, hb6⟩
      have HY := hide (hy5.below hb6)
      clear hb6 hy5 hrow
      generalize htx : textK asked = tx at *
      have HTX := hide htx
      clear htx
      go_wp2_with fail
      refine (HP.out _).mono ?_
      rintro e w7 ⟨rfl, hw7⟩
      have hw8 := hw7.symm
      subst hw8
      clear hw7 HP
      go_wp2_with fail
      obtain ⟨wo, rfl⟩ : ∃ wo : World, wo = wr := ⟨_, rfl⟩
      go_loopw [16, 17, 18, 19, 20, 21, 22, 23, 24, 25, 26, 27, 28, 29, 30, 31] (fun x _ _ _ _ _ _ _ _ _ _ _ _ _ _ _ wx => (x = .int .i64 0 ∧ YAt w1 wx sb2 db2 is2 D ex) ∨ (x = .int .i64 1 ∧ YAt w1 wx sb2 db2 is2 D ex) ∨ (x = .int .i64 2 ∧ YAt w1 wx sb2 db2 is2 D ex) ∨ (x = .int .i64 3 ∧ YAt w1 wx sb2 db2 is2 D ex)) (fun x _ _ _ _ _ _ _ _ _ _ _ _ _ _ _ _ => 3 - (intOf x).toNat)
      case atStart => exact Or.inl ⟨rfl, HY.out⟩
      case round =>
        clear HY
        rcases hrel with ⟨rfl, hy⟩ | ⟨rfl, hy⟩ | ⟨rfl, hy⟩ | ⟨rfl, hy⟩
        · go_wp2_with fail
          go_cut [17, 18] (fun a b wx => a = .string kH ∧ b = .int .i64 1 ∧ YAt w1 wx sb2 db2 is2 D ex)
          case first =>
            go_region
            all_goals
              go_wp2_with fail
              go_meet
              exact ⟨rfl, rfl, hy.below (((below_drawn (Below.refl _ _) 1).alloc (by simp) _).alloc (by simp) _)⟩
          case rest =>
            clear hy
            obtain ⟨rfl, rfl, hy⟩ := hcut
            have HY := hide hy
            clear hy
            go_wp2_with fail
            obtain ⟨wo, rfl⟩ : ∃ wo : World, wo = wr := ⟨_, rfl⟩
            go_loopw [19, 20, 21, 22, 23] (fun x _ _ _ _ wx => ∃ j : Nat, j ≤ 6 ∧ x = .int .i64 (j : Int) ∧ YAt w1 wx sb2 db2 is2 D ex) (fun x _ _ _ _ _ => 6 - (intOf x).toNat)
            case atStart => exact ⟨0, Nat.zero_le _, rfl, HY.out⟩
            case round =>
              clear HY
              obtain ⟨j, hj, rfl, hy⟩ := hrel
              by_cases hjl : j < 6
              · have hjl' : (j : Int) < 6 := by omega
                have HNm := hide (fun W => nameK_any j hjl W)
                have HX1 := hide (HSX.out kH 1 j)
                have HY1 := hide (HSY.out kH 1 j)
                generalize dshowP (shopP is2 []) kH 1 (nameK j) = q at *
                obtain ⟨q1, q2⟩ := q
                simp only at HX1 HY1
                generalize nameK j = nm at *
                go_wp2_with fail
                go_cut [20, 21] (fun a b wx => a = .string q1 ∧ b = .int .i64 q2 ∧ YAt w1 wx sb2 db2 is2 D ex)
                case first =>
                  have hc := (HI1.out.below hy.bel).shop.c0
                  go_region_held3 (fun W => W.cell? ⟨sb1, 0, none⟩ = some (.pointer (some ⟨db1, 0, none⟩))) (exact hc) (first
                    | ((go_at_call 18; refine (HNm.out _).mono ?_; rintro e w8 ⟨rfl, hbb⟩; have hy := hy.stepB hbb rfl rfl rfl rfl; have hc := (HI1.out.below hy.bel).shop.c0; clear hbb))
                    | ((go_at_call 27; refine (HX1.out _ ?_).mono ?_; exact (HI1.out.below hy.bel).dep.same rfl; rintro e w8 ⟨rfl, hbb⟩; have hy := hy.stepB hbb rfl rfl rfl rfl; have hc := (HI1.out.below hy.bel).shop.c0; clear hbb)))
                  all_goals
                    go_wp2_with fail
                    go_meet
                    exact ⟨rfl, rfl, hy⟩
                case rest =>
                  clear hy
                  obtain ⟨rfl, rfl, hy⟩ := hcut
                  go_wp2_with fail
                  go_cut [22, 23] (fun a b wx => a = .string q1 ∧ b = .int .i64 q2 ∧ YAt w1 wx sb2 db2 is2 D ex)
                  case first =>
                    have hc := hy.cell
                    go_region_held3 (fun W => W.cell? ⟨sb2, 0, none⟩ = some (.pointer (some ⟨db2, 0, none⟩))) (exact hc) (first
                      | ((go_at_call 18; refine (HNm.out _).mono ?_; rintro e w8 ⟨rfl, hbb⟩; have hy := hy.stepB hbb rfl rfl rfl rfl; have hc := hy.cell; clear hbb))
                      | ((go_at_call 27; refine (HY1.out _ ?_).mono ?_; exact hy.dep.same rfl; rintro e w8 ⟨rfl, hbb⟩; have hy := hy.stepB hbb rfl rfl rfl rfl; have hc := hy.cell; clear hbb)))
                    all_goals
                      go_wp2_with fail
                      go_meet
                      exact ⟨rfl, rfl, hy⟩
                  case rest =>
                    clear hy
                    obtain ⟨rfl, rfl, hy⟩ := hcut
                    go_wp2_with fail
                    go_roundw
                    case rel => exact ⟨j + 1, by omega, by go_num, hy⟩
                    case measure => simp [intOf] <;> omega
              · have hjl' : ¬ (j : Int) < 6 := by omega
                obtain ⟨c, ts, tn, te, hre, htb⟩ := HA1.out.told
                have HX2 := hide (HRX.out kH 1)
                have HY2 := hide (HRY.out kH 1)
                rw [HTX.out] at hre
                rw [hre] at HX2 HY2
                simp only at HX2 HY2
                have HRD := hide (fun W => read_any c htb.ok.nine htb.ok.far ts htb.told W)
                have hc1 := (HI1.out.below hy.bel).shop.c0
                have HD1 := hide (HI1.out.below hy.bel).dep
                clear hre
                go_wp2_with fail
                refine (HX2.out _ HD1.out).mono ?_
                rintro e w8 ⟨rfl, hb8⟩
                have hy8 := hy.below hb8
                have hc2 := hy8.cell
                clear hb8 HX2 HD1 hc1
                go_wp2_with fail
                refine (HY2.out _ hy8.dep).mono ?_
                rintro e w9 ⟨rfl, hb9⟩
                have hy9 := hy8.below hb9
                clear hb9 HY2 hc2 hy hy8
                go_wp2_with fail
                refine (HRD.out _).mono ?_
                rintro e w10 ⟨rfl, hb10⟩
                have hy10 := hy9.below hb10
                have HF := hide (hy10.below (below_one w10 (.cells (picksV c) 55)))
                clear hb10 HRD hy9 hy10
                go_wp2_with fail
                go_roundw
                case rel => exact Or.inr (Or.inl ⟨by go_num, HF.out⟩)
                case measure => simp [intOf] <;> omega
        · go_wp2_with fail
          go_cut [17, 18] (fun a b wx => a = .string kG ∧ b = .int .i64 1 ∧ YAt w1 wx sb2 db2 is2 D ex)
          case first =>
            go_region
            all_goals
              go_wp2_with fail
              go_meet
              exact ⟨rfl, rfl, hy.below (((below_drawn (Below.refl _ _) 1).alloc (by simp) _).alloc (by simp) _)⟩
          case rest =>
            clear hy
            obtain ⟨rfl, rfl, hy⟩ := hcut
            have HY := hide hy
            clear hy
            go_wp2_with fail
            obtain ⟨wo, rfl⟩ : ∃ wo : World, wo = wr := ⟨_, rfl⟩
            go_loopw [19, 20, 21, 22, 23] (fun x _ _ _ _ wx => ∃ j : Nat, j ≤ 6 ∧ x = .int .i64 (j : Int) ∧ YAt w1 wx sb2 db2 is2 D ex) (fun x _ _ _ _ _ => 6 - (intOf x).toNat)
            case atStart => exact ⟨0, Nat.zero_le _, rfl, HY.out⟩
            case round =>
              clear HY
              obtain ⟨j, hj, rfl, hy⟩ := hrel
              by_cases hjl : j < 6
              · have hjl' : (j : Int) < 6 := by omega
                have HNm := hide (fun W => nameK_any j hjl W)
                have HX1 := hide (HSX.out kG 1 j)
                have HY1 := hide (HSY.out kG 1 j)
                generalize dshowP (shopP is2 []) kG 1 (nameK j) = q at *
                obtain ⟨q1, q2⟩ := q
                simp only at HX1 HY1
                generalize nameK j = nm at *
                go_wp2_with fail
                go_cut [20, 21] (fun a b wx => a = .string q1 ∧ b = .int .i64 q2 ∧ YAt w1 wx sb2 db2 is2 D ex)
                case first =>
                  have hc := (HI1.out.below hy.bel).shop.c0
                  go_region_held3 (fun W => W.cell? ⟨sb1, 0, none⟩ = some (.pointer (some ⟨db1, 0, none⟩))) (exact hc) (first
                    | ((go_at_call 18; refine (HNm.out _).mono ?_; rintro e w8 ⟨rfl, hbb⟩; have hy := hy.stepB hbb rfl rfl rfl rfl; have hc := (HI1.out.below hy.bel).shop.c0; clear hbb))
                    | ((go_at_call 27; refine (HX1.out _ ?_).mono ?_; exact (HI1.out.below hy.bel).dep.same rfl; rintro e w8 ⟨rfl, hbb⟩; have hy := hy.stepB hbb rfl rfl rfl rfl; have hc := (HI1.out.below hy.bel).shop.c0; clear hbb)))
                  all_goals
                    go_wp2_with fail
                    go_meet
                    exact ⟨rfl, rfl, hy⟩
                case rest =>
                  clear hy
                  obtain ⟨rfl, rfl, hy⟩ := hcut
                  go_wp2_with fail
                  go_cut [22, 23] (fun a b wx => a = .string q1 ∧ b = .int .i64 q2 ∧ YAt w1 wx sb2 db2 is2 D ex)
                  case first =>
                    have hc := hy.cell
                    go_region_held3 (fun W => W.cell? ⟨sb2, 0, none⟩ = some (.pointer (some ⟨db2, 0, none⟩))) (exact hc) (first
                      | ((go_at_call 18; refine (HNm.out _).mono ?_; rintro e w8 ⟨rfl, hbb⟩; have hy := hy.stepB hbb rfl rfl rfl rfl; have hc := hy.cell; clear hbb))
                      | ((go_at_call 27; refine (HY1.out _ ?_).mono ?_; exact hy.dep.same rfl; rintro e w8 ⟨rfl, hbb⟩; have hy := hy.stepB hbb rfl rfl rfl rfl; have hc := hy.cell; clear hbb)))
                    all_goals
                      go_wp2_with fail
                      go_meet
                      exact ⟨rfl, rfl, hy⟩
                  case rest =>
                    clear hy
                    obtain ⟨rfl, rfl, hy⟩ := hcut
                    go_wp2_with fail
                    go_roundw
                    case rel => exact ⟨j + 1, by omega, by go_num, hy⟩
                    case measure => simp [intOf] <;> omega
              · have hjl' : ¬ (j : Int) < 6 := by omega
                obtain ⟨c, ts, tn, te, hre, htb⟩ := HA2.out.told
                have HX2 := hide (HRX.out kG 1)
                have HY2 := hide (HRY.out kG 1)
                rw [HTX.out] at hre
                rw [hre] at HX2 HY2
                simp only at HX2 HY2
                have HRD := hide (fun W => read_any c htb.ok.nine htb.ok.far ts htb.told W)
                have n3 : ((c 3 : Int) != 0) = false := by rw [htb.none rfl 3 (by decide)]; rfl
                have n4 : ((c 4 : Int) != 0) = false := by rw [htb.none rfl 4 (by decide)]; rfl
                have n5 : ((c 5 : Int) != 0) = false := by rw [htb.none rfl 5 (by decide)]; rfl
                have hc1 := (HI1.out.below hy.bel).shop.c0
                have HD1 := hide (HI1.out.below hy.bel).dep
                clear hre
                go_wp2_with fail
                refine (HX2.out _ HD1.out).mono ?_
                rintro e w8 ⟨rfl, hb8⟩
                have hy8 := hy.below hb8
                have hc2 := hy8.cell
                clear hb8 HX2 HD1 hc1
                go_wp2_with fail
                refine (HY2.out _ hy8.dep).mono ?_
                rintro e w9 ⟨rfl, hb9⟩
                have hy9 := hy8.below hb9
                clear hb9 HY2 hc2 hy hy8
                go_wp2_with fail
                refine (HRD.out _).mono ?_
                rintro e w10 ⟨rfl, hb10⟩
                have hy10 := hy9.below hb10
                have HF := hide (hy10.below (below_one w10 (.cells (picksV c) 55)))
                clear hb10 HRD hy9 hy10
                go_wp2_with fail
                go_roundw
                case rel => exact Or.inr (Or.inr (Or.inl ⟨by go_num, HF.out⟩))
                case measure => simp [intOf] <;> omega
        · go_wp2_with fail
          go_cut [17, 18] (fun a b wx => a = .string ⟨#[]⟩ ∧ b = .int .i64 77 ∧ YAt w1 wx sb2 db2 is2 D ex)
          case first =>
            go_region
            all_goals
              go_wp2_with fail
              go_meet
              exact ⟨rfl, rfl, hy.below (((below_drawn (Below.refl _ _) 1).alloc (by simp) _).alloc (by simp) _)⟩
          case rest =>
            clear hy
            obtain ⟨rfl, rfl, hy⟩ := hcut
            have HY := hide hy
            clear hy
            go_wp2_with fail
            obtain ⟨wo, rfl⟩ : ∃ wo : World, wo = wr := ⟨_, rfl⟩
            go_loopw [19, 20, 21, 22, 23] (fun x _ _ _ _ wx => ∃ j : Nat, j ≤ 6 ∧ x = .int .i64 (j : Int) ∧ YAt w1 wx sb2 db2 is2 D ex) (fun x _ _ _ _ _ => 6 - (intOf x).toNat)
            case atStart => exact ⟨0, Nat.zero_le _, rfl, HY.out⟩
            case round =>
              clear HY
              obtain ⟨j, hj, rfl, hy⟩ := hrel
              by_cases hjl : j < 6
              · have hjl' : (j : Int) < 6 := by omega
                have HNm := hide (fun W => nameK_any j hjl W)
                have HX1 := hide (HSX.out ⟨#[]⟩ 77 j)
                have HY1 := hide (HSY.out ⟨#[]⟩ 77 j)
                generalize dshowP (shopP is2 []) ⟨#[]⟩ 77 (nameK j) = q at *
                obtain ⟨q1, q2⟩ := q
                simp only at HX1 HY1
                generalize nameK j = nm at *
                go_wp2_with fail
                go_cut [20, 21] (fun a b wx => a = .string q1 ∧ b = .int .i64 q2 ∧ YAt w1 wx sb2 db2 is2 D ex)
                case first =>
                  have hc := (HI1.out.below hy.bel).shop.c0
                  go_region_held3 (fun W => W.cell? ⟨sb1, 0, none⟩ = some (.pointer (some ⟨db1, 0, none⟩))) (exact hc) (first
                    | ((go_at_call 18; refine (HNm.out _).mono ?_; rintro e w8 ⟨rfl, hbb⟩; have hy := hy.stepB hbb rfl rfl rfl rfl; have hc := (HI1.out.below hy.bel).shop.c0; clear hbb))
                    | ((go_at_call 27; refine (HX1.out _ ?_).mono ?_; exact (HI1.out.below hy.bel).dep.same rfl; rintro e w8 ⟨rfl, hbb⟩; have hy := hy.stepB hbb rfl rfl rfl rfl; have hc := (HI1.out.below hy.bel).shop.c0; clear hbb)))
                  all_goals
                    go_wp2_with fail
                    go_meet
                    exact ⟨rfl, rfl, hy⟩
                case rest =>
                  clear hy
                  obtain ⟨rfl, rfl, hy⟩ := hcut
                  go_wp2_with fail
                  go_cut [22, 23] (fun a b wx => a = .string q1 ∧ b = .int .i64 q2 ∧ YAt w1 wx sb2 db2 is2 D ex)
                  case first =>
                    have hc := hy.cell
                    go_region_held3 (fun W => W.cell? ⟨sb2, 0, none⟩ = some (.pointer (some ⟨db2, 0, none⟩))) (exact hc) (first
                      | ((go_at_call 18; refine (HNm.out _).mono ?_; rintro e w8 ⟨rfl, hbb⟩; have hy := hy.stepB hbb rfl rfl rfl rfl; have hc := hy.cell; clear hbb))
                      | ((go_at_call 27; refine (HY1.out _ ?_).mono ?_; exact hy.dep.same rfl; rintro e w8 ⟨rfl, hbb⟩; have hy := hy.stepB hbb rfl rfl rfl rfl; have hc := hy.cell; clear hbb)))
                    all_goals
                      go_wp2_with fail
                      go_meet
                      exact ⟨rfl, rfl, hy⟩
                  case rest =>
                    clear hy
                    obtain ⟨rfl, rfl, hy⟩ := hcut
                    go_wp2_with fail
                    go_roundw
                    case rel => exact ⟨j + 1, by omega, by go_num, hy⟩
                    case measure => simp [intOf] <;> omega
              · have hjl' : ¬ (j : Int) < 6 := by omega
                obtain ⟨c, ts, tn, te, hre, htb⟩ := HA3.out.told
                have HX2 := hide (HRX.out ⟨#[]⟩ 77)
                have HY2 := hide (HRY.out ⟨#[]⟩ 77)
                rw [HTX.out] at hre
                rw [hre] at HX2 HY2
                simp only at HX2 HY2
                have HRD := hide (fun W => read_any c htb.ok.nine htb.ok.far ts htb.told W)
                have n3 : ((c 3 : Int) != 0) = false := by rw [htb.none rfl 3 (by decide)]; rfl
                have n4 : ((c 4 : Int) != 0) = false := by rw [htb.none rfl 4 (by decide)]; rfl
                have n5 : ((c 5 : Int) != 0) = false := by rw [htb.none rfl 5 (by decide)]; rfl
                have hc1 := (HI1.out.below hy.bel).shop.c0
                have HD1 := hide (HI1.out.below hy.bel).dep
                clear hre
                go_wp2_with fail
                refine (HX2.out _ HD1.out).mono ?_
                rintro e w8 ⟨rfl, hb8⟩
                have hy8 := hy.below hb8
                have hc2 := hy8.cell
                clear hb8 HX2 HD1 hc1
                go_wp2_with fail
                refine (HY2.out _ hy8.dep).mono ?_
                rintro e w9 ⟨rfl, hb9⟩
                have hy9 := hy8.below hb9
                clear hb9 HY2 hc2 hy hy8
                go_wp2_with fail
                refine (HRD.out _).mono ?_
                rintro e w10 ⟨rfl, hb10⟩
                have hy10 := hy9.below hb10
                have HF := hide (hy10.below (below_one w10 (.cells (picksV c) 55)))
                clear hb10 HRD hy9 hy10
                go_wp2_with fail
                go_roundw
                case rel => exact Or.inr (Or.inr (Or.inr ⟨by go_num, HF.out⟩))
                case measure => simp [intOf] <;> omega
        · go_wp2_with fail
          go_ret
          exact ⟨rfl, HB1.out.trans (hy.bel.mono HB1.out.size)⟩

end

end Go.Proofs.YtgcldedkempjhaaDoor
