/-
  depotref: Found; who may make or revoke tokens.
-/
import Derived.Test.YtgcldedkempjhaaGreatDoorRefSmall
import Derived.Test.YtgcldedkempjhaaGreatDoorRefDone
namespace Go.Proofs.YtgcldedkempjhaaGreatDoor
open Go.RowKit

/-- What a call leaves of the document's depot: its deeds; all else is as it was. -/
def RefStep (w w' : World) (rb : Nat) (root time : Int) (ao : Option Addr) (ds' : List Deed) : Prop :=
  ∃ ao' cap', RefAt w' rb root time ao' cap' ds' ∧ Chg (RefFoot rb ao) w w' ∧ ∀ k, RefFoot rb ao' k → RefFoot rb ao k ∨ w.heap.size ≤ k

theorem RefStep.ofBelow {w w' : World} {rb : Nat} {root time : Int} {ao : Option Addr} {cap : Nat} {ds : List Deed} (hr : RefAt w rb root time ao cap ds) (hb : Below w.heap.size w w') : RefStep w w' rb root time ao ds :=
  ⟨ao, cap, hr.below hb, Chg.ofBelow hb, fun _ h => Or.inl h⟩

theorem RefStep.behind {w w1 w' : World} {rb : Nat} {root time : Int} {ao : Option Addr} {ds' : List Deed} (hb : Below w.heap.size w w1) (h : RefStep w1 w' rb root time ao ds') : RefStep w w' rb root time ao ds' := by
  obtain ⟨ao', cap', h1, h2, h3⟩ := h
  exact ⟨ao', cap', h1, (Chg.ofBelow hb).trans h2 (fun _ h => Or.inl h), fun k hk => (h3 k hk).elim Or.inl (fun h => Or.inr (Nat.le_trans hb.size h))⟩

def nFound (ds : List Deed) : Nat := (ds.filter fun x => x.kind.toList == kFound.toList).length

theorem nFound_le (ds : List Deed) : nFound ds ≤ ds.length := List.length_filter_le _ _

theorem nFound_take_succ (ds : List Deed) (k : Nat) (h : k < ds.length) :
    nFound (ds.take (k + 1)) = nFound (ds.take k) + if (ds[k].kind.toList == kFound.toList) then 1 else 0 := by
  unfold nFound
  rw [List.take_succ_eq_append_getElem h, List.filter_append]
  cases hc : (ds[k].kind.toList == kFound.toList) <;> simp only [List.filter_cons, hc] <;> simp

def nextDs (E : Int) (ds : List Deed) (x : Deed) : List Deed := if E = 0 then ds ++ [x] else ds

theorem nextDs_yes (ds : List Deed) (x : Deed) : nextDs 0 ds x = ds ++ [x] := rfl

theorem nextDs_no {E : Int} (h : E ≠ 0) (ds : List Deed) (x : Deed) : nextDs E ds x = ds := if_neg h

theorem RefStep.err {w w' : World} {rb : Nat} {root time : Int} {ao : Option Addr} {cap : Nat} {ds : List Deed} {E F : Int} {x : Deed} (hr : RefAt w rb root time ao cap ds) (hb : Below w.heap.size w w') (hE : E = F) (hF : F ≠ 0) :
    Ending.returned (.int .i64 F) = .returned (.int .i64 E) ∧ RefStep w w' rb root time ao (nextDs E ds x) := by
  subst hE
  exact ⟨rfl, by rw [nextDs_no hF]; exact RefStep.ofBelow hr hb⟩

def foundE (r : Int) (b1 b2 : Bool) (n : Nat) : Int :=
  if r == 0 then 3 else if r != 4 then 4 else if !b1 then 2 else if b2 then 5 else if (n : Int) == 6 then 6 else 0

def foundD (id : Int) (name : ByteArray) : Deed := ⟨kFound, name, id, ⟨#[]⟩, ⟨#[]⟩, 0, 0, 0, ⟨#[]⟩⟩

set_option maxHeartbeats 800000 in
theorem rfound_any (rb : Nat) (root time : Int) (ao : Option Addr) (cap : Nat) (ds : List Deed) (house : ByteArray) (id : Int) (name : ByteArray) (w : World)
    (hr : RefAt w rb root time ao cap ds) (hlen : ds.length ≤ 1000000000000) (E : Int)
    (hE : E = foundE (roleF root time ds house id) (wordF name) (decide (0 < didF ds kFound name)) (nFound ds)) :
    Calls Tryz.prog 23 #[.pointer (some ⟨rb, 0, none⟩), .string house, .int .i64 id, .string name] w fun e w' =>
      e = .returned (.int .i64 E) ∧ RefStep w w' rb root time ao (nextDs E ds (foundD id name)) := by
  have Hrole := hide (role_any rb root time ao cap ds house id w hr hlen)
  have Hword := hide (word_any name)
  have His := hide (fun W h => is_any rb root time ao cap ds name W h hlen)
  have HE := hide hE
  clear hE
  generalize roleF root time ds house id = r at *
  generalize wordF name = b1 at *
  generalize decide (0 < didF ds kFound name) = b2 at *
  go_enter Tryz.func23, Tryz.ntmps23
  go_wp2_with fail
  refine Hrole.out.mono ?_
  rintro e w1 ⟨rfl, hb⟩
  have hr1 := hr.below hb
  go_wp2_with fail
  refine (Hword.out _).mono ?_
  rintro e w2 ⟨rfl, h2⟩
  subst h2
  go_wp2_with fail
  refine (His.out _ hr1).mono ?_
  rintro e w3 ⟨rfl, h3⟩
  subst h3
  have c2 := hr1.c2
  go_wp2_with fail
  go_loop [12, 13] (fun n i => ∃ k : Nat, k ≤ ds.length ∧ i = .int .i64 k ∧ n = .int .i64 (nFound (ds.take k))) (fun _ i => ds.length - (intOf i).toNat)
  case atStart => exact ⟨0, Nat.zero_le _, rfl, rfl⟩
  case round =>
    obtain ⟨k, hk, rfl, rfl⟩ := hrel
    have hd := nFound_le (ds.take k)
    have hl : (ds.take k).length ≤ k := List.length_take_le _ _
    by_cases hlt : k < ds.length
    · have hsn := hide (nFound_take_succ ds k hlt)
      obtain ⟨g, rfl, hg, hx⟩ := hr1.deed k hlt
      have d0 := hx.d0
      go_wp2_with fail
      all_goals
        go_round
        case rel => exact ⟨k + 1, by omega, by go_num, by rw [hsn.out]; simp [*]⟩
        case measure => simp [intOf] <;> omega
    · rw [List.take_of_length_le (by omega)] at *
      go_wp2_with fail
      · go_ret
        exact RefStep.err hr hb (by rw [HE.out]; simp [foundE, *]) (by decide)
      · go_ret
        exact RefStep.err hr hb (by rw [HE.out]; simp [foundE, *]) (by decide)
      · go_ret
        exact RefStep.err hr hb (by rw [HE.out]; simp [foundE, *]) (by decide)
      · go_ret
        exact RefStep.err hr hb (by rw [HE.out]; simp [foundE, *]) (by decide)
      · go_ret
        exact RefStep.err hr hb (by rw [HE.out]; simp [foundE, *]) (by decide)
      · have h0 := hide (show E = 0 by rw [HE.out]; simp [foundE, *])
        refine (done_any rb root time ao cap ds (foundD id name) _ hr1 hlen).mono ?_
        rintro e w4 ⟨rfl, hst⟩
        go_wp2_with fail
        go_ret
        rw [h0.out]
        exact ⟨rfl, RefStep.behind hb hst⟩

end Go.Proofs.YtgcldedkempjhaaGreatDoor
