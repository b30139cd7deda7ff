/-
  depotkeep: known: answers that the document fixes; the depot behind them.
-/
import Derived.Test.YtgcldedkempjhabDoorPlay
import Derived.Test.YtgcldedkempjhabDoorOpenA
namespace Go.Proofs.YtgcldedkempjhabDoor
open Go.RowKit

theorem callS_clock {P : PDep} {x : TurnD} (h0 : 0 ≤ P.clock) (h1 : P.clock ≤ 1099511627776) : 0 ≤ (callS P x).clock ∧ (callS P x).clock ≤ 1099511627776 := by
  unfold callS stepP
  split
  · rename_i hE
    unfold callQ
    simp only
    repeat' split
    all_goals first
      | exact ⟨h0, h1⟩
      | (rename_i k12; refine tickF_bounds h0 h1 ?_; unfold callA at hE; simp [k12] at hE; omega)
  · exact ⟨h0, h1⟩

theorem callS_yanks (P : PDep) (x : TurnD) : (callS P x).yanks ≤ P.yanks + 1 := by
  unfold callS stepP
  split
  · unfold callQ
    simp only
    repeat' split
    all_goals first | exact Nat.le_succ _ | exact Nat.le_refl _
  · exact Nat.le_succ _

theorem call_e0 (P : PDep) {x : TurnD} (k : (x.kind < 1 ∨ (7 ≤ x.kind ∧ x.kind ≤ 10)) ∨ 13 ≤ x.kind) : callS P x = P := by
  unfold callS
  have e : callQ P x = P := by
    unfold callQ
    simp only
    rw [if_neg (by omega), if_neg (by omega), if_neg (by omega), if_neg (by omega), if_neg (by omega), if_neg (by omega), if_neg (by omega), if_neg (by omega)]
  rw [e, stepP_same]

def kW : ByteArray := ⟨#[119]⟩
def kHW : ByteArray := ⟨#[104, 47, 119]⟩

/-- The depot behind known. -/
def P1 : PDep := dpublishS P0 kH 1 kW 1 ⟨#[]⟩

theorem known_hs : hseF P0.hs kH = some ⟨kH, [tok0], [], [], log0⟩ ∧ hseF P0.hs kG = some ⟨kG, [tok0], [], [], log0⟩ := by
  obtain ⟨k1, k2, k3, k4⟩ := kHG
  constructor
  · rw [hseF_two, if_pos k3]
  · rw [hseF_two, k1, if_neg (by decide), if_pos k4]

theorem known_h1 : ∃ log, P1.hs = [⟨kH, [tok0], [⟨kW, 1, (wantsF ⟨#[]⟩).getD [], false⟩], [], log⟩, ⟨kG, [tok0], [], [], log0⟩] := by
  obtain ⟨k1, k2, k3, k4⟩ := kHG
  refine ⟨log0 ++ publishLine 1 kW.data.toList 1, ?_⟩
  show updH [⟨kH, [tok0], [], [], log0⟩, ⟨kG, [tok0], [], [], log0⟩] kH _ = _
  rw [updH, if_pos k3]
  rfl

theorem known_hse1 : ∃ log, hseF P1.hs kH = some ⟨kH, [tok0], [⟨kW, 1, (wantsF ⟨#[]⟩).getD [], false⟩], [], log⟩ ∧ hseF P1.hs kG = some ⟨kG, [tok0], [], [], log0⟩ := by
  obtain ⟨k1, k2, k3, k4⟩ := kHG
  obtain ⟨log, e⟩ := known_h1
  refine ⟨log, ?_, ?_⟩
  · rw [e, hseF_two, if_pos k3]
  · rw [e, hseF_two, k1, if_neg (by decide), if_pos k4]

theorem held_known : heldF P0 kH 1 = 3 ∧ heldF P1 kH 1 = 3 ∧ heldF P1 kH 2 = 0 ∧ heldF P1 kG 1 = 3 := by
  obtain ⟨log, e1, e2⟩ := known_hse1
  have c1 : P1.clock = 0 := rfl
  refine ⟨?_, ?_, ?_, ?_⟩
  · unfold heldF
    rw [if_neg (by simp), known_hs.1]
    simp [roleT, tokF]
  · unfold heldF
    rw [if_neg (by simp), e1, c1]
    simp [roleT, tokF]
  · unfold heldF
    rw [if_neg (by simp), e1, c1]
    simp [roleT, tokF]
  · unfold heldF
    rw [if_neg (by simp), e2, c1]
    simp [roleT, tokF]

theorem word_w : wordF kW = true := by kernel_rfl
theorem wants_e : (wantsF ⟨#[]⟩).isSome = true := by kernel_rfl
theorem name_hw : nameF kHW = true := by kernel_rfl
theorem split_hw : splitF kHW = (kH, kW, true) := by kernel_rfl

theorem publish_0 : dpublishP P0 kH 1 kW 1 ⟨#[]⟩ = 0 := by
  unfold dpublishP
  rw [held_known.1, known_hs.1, word_w]
  simp [workF, playF, wants_e, pedF]

theorem publish_1 : dpublishP P1 kH 2 kW 2 ⟨#[]⟩ = 3 := by
  unfold dpublishP
  rw [held_known.2.2.1]
  rfl

theorem place_hw : ∃ log, placeF P1 kHW = (some ⟨kH, [tok0], [⟨kW, 1, (wantsF ⟨#[]⟩).getD [], false⟩], [], log⟩, kW) := by
  obtain ⟨log, e1, _⟩ := known_hse1
  refine ⟨log, ?_⟩
  unfold placeF
  rw [split_hw]
  simp only [if_true]
  rw [e1]

theorem show_1 : dshowP P1 kH 1 kHW = (⟨#[104, 58, 49]⟩, 0) := by
  obtain ⟨log, e⟩ := place_hw
  unfold dshowP
  rw [held_known.2.1, name_hw, e]
  simp [phas]
  kernel_rfl

theorem show_2 : dshowP P1 kG 1 kHW = (⟨#[]⟩, 7) := by
  obtain ⟨log, e⟩ := place_hw
  unfold dshowP
  rw [held_known.2.2.2, name_hw, e]
  simp [grtF]

set_option maxHeartbeats 1600000 in
set_option maxRecDepth 100000 in
theorem known_any (db : Nat) (D : DepD) (w : World) (hr : DepAt w db D) (hP : D.pure = P0) :
    Calls Tryd.prog 5 #[.pointer (some ⟨db, 0, none⟩)] w fun e w' => e = .returned (.bool true) ∧ DepStep w w' db D P1 := by
  have HR := hide hr
  have HP := hide hP
  clear hr hP
  go_enter Tryd.func5, Tryd.ntmps5
  go_wp2_with fail
  refine (publish_any db D kH 1 kW 1 ⟨#[]⟩ _ HR.out (by decide) ⟨by decide, by decide⟩ 0 (by rw [HP.out, publish_0])).mono ?_
  rintro e w1 ⟨rfl, D1, hD1, hP1, hC1, hF1⟩
  have HT1 := hide (show DepTo w w1 db D D1 from ⟨hD1, hC1, hF1⟩)
  have HP1 := hide (show D1.pure = P1 by rw [hP1, HP.out]; rfl)
  clear hD1 hP1 hC1 hF1
  go_wp2_with fail
  refine (publish_any db D1 kH 2 kW 2 ⟨#[]⟩ _ HT1.out.dep (by decide) ⟨by decide, by decide⟩ 3 (by rw [HP1.out, publish_1])).mono ?_
  rintro e w2 ⟨rfl, D2, hD2, hP2, hC2, hF2⟩
  have HT2 := hide (show DepTo w1 w2 db D1 D2 from ⟨hD2, hC2, hF2⟩)
  have HP2 := hide (show D2.pure = P1 by rw [hP2, HP1.out]; rfl)
  clear hD2 hP2 hC2 hF2
  have HS := hide (show_any db D2 kH 1 kHW w2 HT2.out.dep (by decide))
  rw [HP2.out, show_1] at HS
  go_wp2_with fail
  refine HS.out.mono ?_
  rintro e w3 ⟨rfl, hb3⟩
  have HD3 := hide (HT2.out.dep.below hb3)
  have HB3 := hide hb3
  clear HS hb3
  have HS := hide (show_any db D2 kG 1 kHW w3 HD3.out (by decide))
  rw [HP2.out, show_2] at HS
  go_wp2_with fail
  refine HS.out.mono ?_
  rintro e w4 ⟨rfl, hb4⟩
  have HB4 := hide (below_call HB3.out hb4)
  clear HS hb4
  go_wp2_with fail
  go_ret
  refine ⟨rfl, HT1.out.trans (HT2.out.trans ?_)⟩
  rw [← HP2.out]
  exact DepStep.ofBelow HT2.out.dep HB4.out

end Go.Proofs.YtgcldedkempjhabDoor
