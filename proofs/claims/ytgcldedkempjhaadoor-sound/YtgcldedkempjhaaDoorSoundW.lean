/-
  depotkeep: Sound: the walk.
-/
import Derived.Test.YtgcldedkempjhaaDoorShopNdW
import Derived.Test.YtgcldedkempjhaaDoorShopM
import Derived.Test.YtgcldedkempjhaaDoorShopE
namespace Go.Proofs.YtgcldedkempjhaaDoor
open Go.RowKit

set_option maxHeartbeats 400000 in
theorem pickM_any (c : Int) (w : World) (h1 : -9223372036854775808 ≤ c) (h2 : c ≤ 9223372036854775807) :
    Calls Tryd.prog 16 #[.int .i64 c, .int .i64 1000000] w fun e w' => e = .returned (.int .i64 (pickN c 1000000 : Nat)) ∧ w' = w := by
  have hz : ((1000000 : Int) == 0) = false := by decide
  by_cases h0 : c < 0
  · have hf := hide (show ((pickN c 1000000 : Nat) : Int) = (-(c + 1)) % 1000000 by rw [pickN_cast c (by decide)]; simp [h0])
    go_enter Tryd.func16, Tryd.ntmps16
    go_wp2
    go_ret
    exact ⟨ret_int (by rw [hf.out]; exact tmodN c 1000000 h0), rfl⟩
  · have hf := hide (show ((pickN c 1000000 : Nat) : Int) = c % 1000000 by rw [pickN_cast c (by decide)]; simp [h0])
    go_enter Tryd.func16, Tryd.ntmps16
    go_wp2
    go_ret
    exact ⟨ret_int (by rw [hf.out]), rfl⟩

theorem picked_far {ch : List (Nat × Nat)} (hc : ChOk (fun i => i < 6) ch) {n : Nat} (hn : 6 ≤ n) : picked ch n = 0 := by
  apply Decidable.byContradiction
  intro h
  have := hc.a _ (mem_picked h)
  simp only at this
  omega

theorem picked_nine {ch : List (Nat × Nat)} (hc : ChOk (fun i => i < 6) ch) (n : Nat) : picked ch n ≤ 9 := by
  by_cases h : picked ch n = 0
  · omega
  · exact (hc.v _ (mem_picked h)).2

/-- Nothing is chosen but what is asked, or wanted by what is. -/
theorem run_needed {is : List It} (hs : Stock is) {asked : List Nd} (hok : ∀ x ∈ asked, NdOk x) {b left : Nat} {ch : List (Nat × Nat)} (h : runI is asked b = some (left, some ch)) (o : Nat → Bool) (h1 : ∀ x ∈ asked, o x.n = true) (h2 : ClosedB is (picked ch) o) : ∀ n, n < 6 → picked ch n ≠ 0 → o n = true := by
  have hc : ChOk (fun i => i < 6) ch := solve_chOk (candI_good hs asked) (asked_good hok) h
  intro n _ hn
  refine solve_needed (candI is asked) (fun n => o n = true) ch ?_ 600 (asked.map Nd.wt) [] b left ?_ (fun n hn => absurd rfl hn) h n hn
  · intro m l hm hm0 hl x hx
    have h6 : m < 6 := by
      apply Nat.lt_of_not_le
      exact fun h6 => hm0 (picked_far hc h6)
    unfold candI at hl
    cases hf : is.find? (itP m (picked ch m)) with
    | none => rw [hf] at hl; cases hl
    | some y =>
      rw [hf] at hl
      simp only [Option.bind_some] at hl
      split at hl
      · cases hl
      · injection hl with hl
        subst hl
        obtain ⟨z, hz, rfl⟩ := List.mem_map.1 hx
        exact h2 m h6 hm y hf z hz
  · intro x hx
    obtain ⟨z, hz, rfl⟩ := List.mem_map.1 hx
    exact h1 z hz

theorem ndsOf_ok {len : Nat} {f : Nat → RNd} : (ndsOf len f).length ≤ 6 ∧ ∀ x ∈ ndsOf len f, NdOk x := by
  constructor
  · unfold ndsOf
    simp
    omega
  · intro x hx
    unfold ndsOf at hx
    obtain ⟨i, _, rfl⟩ := List.mem_map.1 hx
    exact ndOf_ok _

theorem textK_size (l : List Nd) (h : l.length ≤ 6) : (textK l).size ≤ 100 := by
  have := textTo_size l l.length
  unfold textK
  omega

set_option maxHeartbeats 8000000 in
set_option maxRecDepth 100000 in
theorem sound_any (io : Option Addr) (len cap : Nat) (F : Nat → RIt) (so : Option Addr) (len2 cap2 : Nat) (f : Nat → RNd) (B : Int) (w : World) (htab : TabOk w) (hlen : len ≤ 9223372036854775807) (hf : RIts w io len F) (hlen2 : len2 ≤ 9223372036854775807) (hf2 : RNds w so len2 f) (b1 : -9223372036854775808 ≤ B) (b2 : B ≤ 9223372036854775807) :
    Calls Tryd.prog 5 #[.slice io len cap, .slice so len2 cap2, .int .i64 B] w fun e w' => e = .returned (.bool true) ∧ Below w.heap.size w w' := by
  have HS := hide (shop_any io len cap F w htab hlen hf)
  have HF2 := hide hf2
  have HP := hide (fun W => pickM_any B W b1 b2)
  have hbl : pickN B 1000000 < 1000000 := pickN_lt B (by decide)
  clear hf hf2
  generalize pickN B 1000000 = bb at *
  go_enter Tryd.func5, Tryd.ntmps5
  go_wp2_with fail
  refine HS.out.mono ?_
  rintro e w1 ⟨sb, db, rfl, ⟨u1, u2, D, ao, cp, is, hi, hc, hfe, hro⟩, hb1⟩
  have HI := hide hi
  have HB1 := hide hb1
  have HND := hide (needs_any so len2 cap2 f w1 hlen2 (HF2.out.step hb1))
  clear hi hc hfe hro hb1 HS HF2
  obtain ⟨hal6, haok⟩ := ndsOf_ok (len := len2) (f := f)
  generalize ndsOf len2 f = asked at *
  have HAOK := hide haok
  clear haok
  go_wp2_with fail
  refine HND.out.mono ?_
  rintro e w2 ⟨ro, rc, rfl, hrow, hb2⟩
  have HROW := hide hrow
  have HB2 := hide (below_call HB1.out hb2)
  have HI2 := hide (HI.out.below hb2)
  clear hrow hb2 HND HI
  go_wp2_with fail
  refine (HP.out _).mono ?_
  rintro e w3 ⟨rfl, hw3⟩
  have hw4 := hw3.symm
  subst hw4
  clear hw3 HP
  have HTX := hide (fun W (o : W.ownsRow w1.heap.size 62 3 (.slice ro asked.length rc) asked.length (ndsCells asked)) => text_any w1.heap.size ro rc asked W o hal6 HAOK.out)
  have HRS := hide (fun W (h : DepAt W db D) => resolve_any db D kH 1 (textK asked) (bb : Int) W h (by have := textK_size asked hal6; omega))
  rw [show D.pure = shopP is [] from HI2.out.pure, resolve_shop HI2.out.stock HAOK.out hal6 bb (by omega)] at HRS
  have hts := textK_size asked hal6
  generalize textK asked = tx at *
  have hr := HI2.out.shop
  have hD := HI2.out.dep
  have hb := HB2.out
  have hrow := HROW.out
  have hin := HI2.out
  clear HROW HB2
  have HRUN := hide (show ∀ q, runI is asked bb = q → q = runI is asked bb from fun q h => h.symm)
  obtain ⟨⟨ts, tn, te⟩, htell⟩ : ∃ q, q = tellI bb (runI is asked bb) := ⟨_, rfl⟩
  have HTELL := hide htell
  rw [← htell] at HRS
  clear htell
  simp only at HRS
  go_wp2_with fail
  go_cut [10, 11, 12] (fun a b c wx => a = .string ts ∧ b = .int .i64 tn ∧ c = .int .i64 te ∧ ShopInv wx sb db D ao cp is ∧ wx.ownsRow w1.heap.size 62 3 (.slice ro asked.length rc) asked.length (ndsCells asked) ∧ Below w.heap.size w wx)
  case first =>
    go_region_held3 (fun W => W.cell? ⟨sb, 0, none⟩ = some (.pointer (some ⟨db, 0, none⟩))) (exact hr.c0) (first
      | ((go_at_call 21; refine (HTX.out _ ?_).mono ?_; exact hrow; rintro e w8 ⟨rfl, hbb⟩; have hr := hr.step hbb rfl; have hin := hin.below (below_same hbb rfl rfl rfl rfl); have hrow := ownsRow_keep' hrow (below_same hbb rfl rfl rfl rfl); have hb := below_step hb hbb rfl rfl rfl rfl; clear hbb))
      | ((go_at_call 20; refine (HRS.out _ ?_).mono ?_; exact hin.dep.same rfl; rintro e w8 ⟨rfl, hbb⟩; have hr := hr.step hbb rfl; have hin := hin.below (below_same hbb rfl rfl rfl rfl); have hrow := ownsRow_keep' hrow (below_same hbb rfl rfl rfl rfl); have hb := below_step hb hbb rfl rfl rfl rfl; clear hbb)))
    all_goals
      go_wp2_with fail
      go_meet
      exact ⟨rfl, rfl, rfl, hin, hrow, hb⟩
  case rest =>
    obtain ⟨rfl, rfl, rfl, hin, hrow, hb⟩ := hcut
    clear hD hr HTX HRS
    cases hrun : runI is asked bb with
    | none =>
      have ht := HTELL.out
      rw [hrun] at ht
      injection ht with ht1 ht2
      injection ht2 with ht2 ht3
      subst ht1 ht2 ht3
      clear hrun HTELL HRUN
      have n0 : decide ((bb : Int) < 0) = false := decide_eq_false (by omega)
      have n1 : decide ((bb : Int) < (bb : Int)) = false := decide_eq_false (by omega)
      go_wp2_with fail
      go_ret
      exact ⟨rfl, hb⟩
    | some p =>
      obtain ⟨left, oc⟩ := p
      have hle := run_left hrun
      cases oc with
      | none =>
        have ht := HTELL.out
        rw [hrun] at ht
        injection ht with ht1 ht2
        injection ht2 with ht2 ht3
        subst ht1 ht2 ht3
        clear hrun HTELL HRUN
        have hu : bb - left ≤ bb := Nat.sub_le _ _
        generalize bb - left = us at *
        have n0 : decide ((us : Int) < 0) = false := decide_eq_false (by omega)
        have n1 : decide ((bb : Int) < (us : Int)) = false := decide_eq_false (by omega)
        go_wp2_with fail
        go_ret
        exact ⟨rfl, hb⟩
      | some ch =>
        have ht := HTELL.out
        rw [hrun] at ht
        injection ht with ht1 ht2
        injection ht2 with ht2 ht3
        have hst := hin.stock
        have hch : ChOk (fun i => i < 6) ch := solve_chOk (candI_good hst asked) (asked_good HAOK.out) hrun
        have HNE := hide (run_needed hst HAOK.out hrun)
        have HGO := hide (run_goes hst HAOK.out hrun)
        have h9 := picked_nine hch
        have h6 : ∀ n, 6 ≤ n → picked ch n = 0 := fun n hn => picked_far hch hn
        have HRD := hide (fun W => read_any (picked ch) h9 h6 ts ht1 W)
        have HGS := hide (fun W (x1 : ShopAt W sb db ao cp is) (x2 : ∀ x ∈ is, ItRow W sb x) (o : W.ownsRow w1.heap.size 62 3 (.slice ro asked.length rc) asked.length (ndsCells asked)) => goes_any sb db w1.heap.size ao cp is ro rc asked (picked ch) W x1 x2 hst (fun x hx => (hin.nds x hx).1) o hal6 HAOK.out h9)
        rw [HGO.out] at HGS
        have HNS := hide (fun W (x1 : ShopAt W sb db ao cp is) (x2 : ∀ x ∈ is, ItRow W sb x) (o : W.ownsRow w1.heap.size 62 3 (.slice ro asked.length rc) asked.length (ndsCells asked)) => needed_any sb db w1.heap.size ao cp is ro rc asked (picked ch) W x1 x2 hst (fun x hx => (hin.nds x hx).1) o hal6 HAOK.out h9 HNE.out)
        have HIN := hide hin
        have HROW := hide hrow
        have HB := hide hb
        subst ht2 ht3
        clear hrun HTELL HRUN HNE HGO hst hch h9 h6 ht1 hin hrow hb
        have hu : bb - left ≤ bb := Nat.sub_le _ _
        generalize bb - left = us at *
        generalize picked ch = c at *
        have n0 : decide ((us : Int) < 0) = false := decide_eq_false (by omega)
        have n1 : decide ((bb : Int) < (us : Int)) = false := decide_eq_false (by omega)
        go_wp2_with fail
        refine (HRD.out _).mono ?_
        rintro e w5 ⟨rfl, hb5⟩
        have HB5 := hide hb5
        have hbA := below_one w5 (.cells (picksV c) 55)
        have HBA := hide (below_call hb5 hbA)
        have hbx := heap1_new w5 (.cells (picksV c) 55)
        clear hb5 HRD
        go_wp2_with fail
        refine (HGS.out _ (HIN.out.below HBA.out).shop (HIN.out.below HBA.out).rows (ownsRow_keep' HROW.out HBA.out)).mono ?_
        rintro e w6 ⟨rfl, hb6⟩
        have HB6 := hide (below_call HBA.out hb6)
        have hbx6 := (hb6.block w5.heap.size (by simp)).trans hbx
        obtain ⟨x0, x1, x2, x3, x4, x5⟩ := six_at hbx6
        clear hb6 HGS hbx hbx6 hbA
        go_wp2_with fail
        refine (HNS.out _ (HIN.out.below HB6.out).shop (HIN.out.below HB6.out).rows (ownsRow_keep' HROW.out HB6.out)).mono ?_
        rintro e w7 ⟨rfl, hb7⟩
        have HB7 := hide (below_call HB.out (below_call HB6.out hb7))
        clear hb7 HNS
        go_wp2_with fail
        go_ret
        exact ⟨rfl, HB7.out⟩

end Go.Proofs.YtgcldedkempjhaaDoor
