/-
  depotref: governs, Mint, Revoke.
-/
import Derived.Test.YtgcldedkempjhabGreatDoorRefRole
import Derived.Test.YtgcldedkempjhabGreatDoorRefBase
namespace Go.Proofs.YtgcldedkempjhabGreatDoor
section
open Go.RowKit

/-- What a call leaves of the document's depot: its deeds; all else is as it was. -/
def RefStep (w w' : World) (rb : Nat) (root time : Int) (ao : Option Addr) (ds' : List Deed) : Prop :=
  ∃ ao' cap', RefAt w' rb root time ao' cap' ds' ∧ Chg (RefFoot rb ao) w w' ∧ ∀ k, RefFoot rb ao' k → RefFoot rb ao k ∨ w.heap.size ≤ k

theorem RefStep.ofBelow {w w' : World} {rb : Nat} {root time : Int} {ao : Option Addr} {cap : Nat} {ds : List Deed} (hr : RefAt w rb root time ao cap ds) (hb : Below w.heap.size w w') : RefStep w w' rb root time ao ds :=
  ⟨ao, cap, hr.below hb, Chg.ofBelow hb, fun _ h => Or.inl h⟩

theorem RefStep.behind {w w1 w' : World} {rb : Nat} {root time : Int} {ao : Option Addr} {ds' : List Deed} (hb : Below w.heap.size w w1) (h : RefStep w1 w' rb root time ao ds') : RefStep w w' rb root time ao ds' := by
  obtain ⟨ao', cap', h1, h2, h3⟩ := h
  exact ⟨ao', cap', h1, (Chg.ofBelow hb).trans h2 (fun _ h => Or.inl h), fun k hk => (h3 k hk).elim Or.inl (fun h => Or.inr (Nat.le_trans hb.size h))⟩

def nFound (ds : List Deed) : Nat := (ds.filter fun x => x.kind.toList == kFound.toList).length

theorem nFound_le (ds : List Deed) : nFound ds ≤ ds.length := List.length_filter_le _ _

theorem nFound_take_succ (ds : List Deed) (k : Nat) (h : k < ds.length) :
    nFound (ds.take (k + 1)) = nFound (ds.take k) + if (ds[k].kind.toList == kFound.toList) then 1 else 0 := by
  unfold nFound
  rw [List.take_succ_eq_append_getElem h, List.filter_append]
  cases hc : (ds[k].kind.toList == kFound.toList) <;> simp only [List.filter_cons, hc] <;> simp

def nextDs (E : Int) (ds : List Deed) (x : Deed) : List Deed := if E = 0 then ds ++ [x] else ds

theorem nextDs_yes (ds : List Deed) (x : Deed) : nextDs 0 ds x = ds ++ [x] := rfl

theorem nextDs_no {E : Int} (h : E ≠ 0) (ds : List Deed) (x : Deed) : nextDs E ds x = ds := if_neg h

theorem RefStep.err {w w' : World} {rb : Nat} {root time : Int} {ao : Option Addr} {cap : Nat} {ds : List Deed} {E F : Int} {x : Deed} (hr : RefAt w rb root time ao cap ds) (hb : Below w.heap.size w w') (hE : E = F) (hF : F ≠ 0) :
    Ending.returned (.int .i64 F) = .returned (.int .i64 E) ∧ RefStep w w' rb root time ao (nextDs E ds x) := by
  subst hE
  exact ⟨rfl, by rw [nextDs_no hF]; exact RefStep.ofBelow hr hb⟩

def foundE (r : Int) (b1 b2 : Bool) (n : Nat) : Int :=
  if r == 0 then 3 else if r != 4 then 4 else if !b1 then 2 else if b2 then 5 else if (n : Int) == 6 then 6 else 0

def foundD (id : Int) (name : ByteArray) : Deed := ⟨kFound, name, id, ⟨#[]⟩, ⟨#[]⟩, 0, 0, 0, ⟨#[]⟩⟩

set_option maxHeartbeats 800000 in
theorem rfound_any (rb : Nat) (root time : Int) (ao : Option Addr) (cap : Nat) (ds : List Deed) (house : ByteArray) (id : Int) (name : ByteArray) (w : World)
    (hr : RefAt w rb root time ao cap ds) (hlen : ds.length ≤ 1000000000000) (E : Int)
    (hE : E = foundE (roleF root time ds house id) (wordF name) (decide (0 < didF ds kFound name)) (nFound ds)) :
    Calls Tryz.prog 19 #[.pointer (some ⟨rb, 0, none⟩), .string house, .int .i64 id, .string name] w fun e w' =>
      e = .returned (.int .i64 E) ∧ RefStep w w' rb root time ao (nextDs E ds (foundD id name)) := by
  have Hrole := hide (role_any rb root time ao cap ds house id w hr hlen)
  have Hword := hide (word_any name)
  have His := hide (fun W h => is_any rb root time ao cap ds name W h hlen)
  have HE := hide hE
  clear hE
  generalize roleF root time ds house id = r at *
  generalize wordF name = b1 at *
  generalize decide (0 < didF ds kFound name) = b2 at *
  go_enter Tryz.func19, Tryz.ntmps19
  go_wp2_with fail
  refine Hrole.out.mono ?_
  rintro e w1 ⟨rfl, hb⟩
  have hr1 := hr.below hb
  go_wp2_with fail
  refine (Hword.out _).mono ?_
  rintro e w2 ⟨rfl, h2⟩
  subst h2
  go_wp2_with fail
  refine (His.out _ hr1).mono ?_
  rintro e w3 ⟨rfl, h3⟩
  subst h3
  have c2 := hr1.c2
  go_wp2_with fail
  go_loop [12, 13] (fun n i => ∃ k : Nat, k ≤ ds.length ∧ i = .int .i64 k ∧ n = .int .i64 (nFound (ds.take k))) (fun _ i => ds.length - (intOf i).toNat)
  case atStart => exact ⟨0, Nat.zero_le _, rfl, rfl⟩
  case round =>
    obtain ⟨k, hk, rfl, rfl⟩ := hrel
    have hd := nFound_le (ds.take k)
    have hl : (ds.take k).length ≤ k := List.length_take_le _ _
    by_cases hlt : k < ds.length
    · have hsn := hide (nFound_take_succ ds k hlt)
      obtain ⟨g, rfl, hg, hx⟩ := hr1.deed k hlt
      have d0 := hx.d0
      go_wp2_with fail
      all_goals
        go_round
        case rel => exact ⟨k + 1, by omega, by go_num, by rw [hsn.out]; simp [*]⟩
        case measure => simp [intOf] <;> omega
    · rw [List.take_of_length_le (by omega)] at *
      go_wp2_with fail
      · go_ret
        exact RefStep.err hr hb (by rw [HE.out]; simp [foundE, *]) (by decide)
      · go_ret
        exact RefStep.err hr hb (by rw [HE.out]; simp [foundE, *]) (by decide)
      · go_ret
        exact RefStep.err hr hb (by rw [HE.out]; simp [foundE, *]) (by decide)
      · go_ret
        exact RefStep.err hr hb (by rw [HE.out]; simp [foundE, *]) (by decide)
      · go_ret
        exact RefStep.err hr hb (by rw [HE.out]; simp [foundE, *]) (by decide)
      · have h0 := hide (show E = 0 by rw [HE.out]; simp [foundE, *])
        refine (done_any rb root time ao cap ds (foundD id name) _ hr1 hlen).mono ?_
        rintro e w4 ⟨rfl, hst⟩
        go_wp2_with fail
        go_ret
        rw [h0.out]
        exact ⟨rfl, RefStep.behind hb hst⟩

end

section
open Go.RowKit

theorem deed_bool (rb : Nat) (root time : Int) (ao : Option Addr) (cap : Nat) (ds : List Deed) (kind house : ByteArray) (n : Int) (w : World)
    (hr : RefAt w rb root time ao cap ds) (hlen : ds.length ≤ 1000000000000) :
    Calls Tryz.prog 51 #[.pointer (some ⟨rb, 0, none⟩), .string kind, .string house, .int .i64 n] w fun e w' =>
      (∃ x : Deed, e = .returned (.tuple #[.agg #[.string x.kind, .string x.house, .int .i64 x.who, .string x.pack, .string x.to, .int .i64 x.num, .int .i64 x.role, .int .i64 x.till, .string x.wants], .bool (deedF ds kind house n).isSome])) ∧ Below w.heap.size w w' := by
  refine (deed_any rb root time ao cap ds kind house n w hr hlen).mono ?_
  rintro e w' ⟨⟨y, _, rfl⟩, hb⟩
  exact ⟨⟨y, rfl⟩, hb⟩

def governsE (r : Int) (there same : Bool) : Int :=
  if r == 0 then 3 else if r == 4 then (if there then 0 else 7) else if r == 3 then (if same then 0 else 4) else 4

set_option maxHeartbeats 800000 in
theorem governs_any (rb : Nat) (root time : Int) (ao : Option Addr) (cap : Nat) (ds : List Deed) (house : ByteArray) (id : Int) (of : ByteArray) (w : World)
    (hr : RefAt w rb root time ao cap ds) (hlen : ds.length ≤ 1000000000000) :
    Calls Tryz.prog 50 #[.pointer (some ⟨rb, 0, none⟩), .string house, .int .i64 id, .string of] w fun e w' =>
      e = .returned (.int .i64 (governsE (roleF root time ds house id) (decide (0 < didF ds kFound of)) (house.toList == of.toList))) ∧ Below w.heap.size w w' := by
  have Hrole := hide (role_any rb root time ao cap ds house id w hr hlen)
  have His := hide (fun W h => is_any rb root time ao cap ds of W h hlen)
  generalize roleF root time ds house id = r at *
  generalize decide (0 < didF ds kFound of) = b2 at *
  go_enter Tryz.func50, Tryz.ntmps50
  go_wp2_with fail
  refine Hrole.out.mono ?_
  rintro e w1 ⟨rfl, hb⟩
  have hr1 := hr.below hb
  go_wp2_with fail
  refine (His.out _ hr1).mono ?_
  rintro e w3 ⟨rfl, h3⟩
  subst h3
  go_wp2_with fail
  all_goals
    go_ret
    exact ⟨ret_int (by simp [governsE, *]), hb⟩

def mintE (g role fresh till : Int) (old : Bool) (n : Nat) : Int :=
  if g != 0 then g else if role < 1 ∨ 3 < role ∨ fresh ≤ 0 ∨ till ≤ 0 then 1 else if old then 5 else if (n : Int) == 8 then 6 else 0

theorem mintE_g {g role fresh till : Int} {old : Bool} {n : Nat} (h : (g != 0) = true) : mintE g role fresh till old n = g := by simp [mintE, h]
theorem mintE_arg {g role fresh till : Int} {old : Bool} {n : Nat} (h : (g != 0) = false) (ha : role < 1 ∨ 3 < role ∨ fresh ≤ 0 ∨ till ≤ 0) : mintE g role fresh till old n = 1 := by
  unfold mintE; rw [if_neg (by rw [h]; decide), if_pos ha]
theorem mintE_old {g role fresh till : Int} {old : Bool} {n : Nat} (h : (g != 0) = false) (ha : ¬ (role < 1 ∨ 3 < role ∨ fresh ≤ 0 ∨ till ≤ 0)) (ho : old = true) : mintE g role fresh till old n = 5 := by
  unfold mintE; rw [if_neg (by rw [h]; decide), if_neg ha, if_pos ho]
theorem mintE_room {g role fresh till : Int} {old : Bool} {n : Nat} (h : (g != 0) = false) (ha : ¬ (role < 1 ∨ 3 < role ∨ fresh ≤ 0 ∨ till ≤ 0)) (ho : old = false) (hn : ((n : Int) == 8) = true) : mintE g role fresh till old n = 6 := by
  unfold mintE; rw [if_neg (by rw [h]; decide), if_neg ha, if_neg (by rw [ho]; decide), if_pos hn]
theorem mintE_ok {g role fresh till : Int} {old : Bool} {n : Nat} (h : (g != 0) = false) (ha : ¬ (role < 1 ∨ 3 < role ∨ fresh ≤ 0 ∨ till ≤ 0)) (ho : old = false) (hn : ((n : Int) == 8) = false) : mintE g role fresh till old n = 0 := by
  unfold mintE; rw [if_neg (by rw [h]; decide), if_neg ha, if_neg (by rw [ho]; decide), if_neg (by rw [hn]; decide)]

def mintD (id : Int) (of : ByteArray) (role fresh till : Int) : Deed := ⟨kMint, of, id, ⟨#[]⟩, ⟨#[]⟩, fresh, role, till, ⟨#[]⟩⟩

set_option maxHeartbeats 800000 in
theorem rmint_any (rb : Nat) (root time : Int) (ao : Option Addr) (cap : Nat) (ds : List Deed) (house : ByteArray) (id : Int) (of : ByteArray) (role fresh till : Int) (w : World)
    (hr : RefAt w rb root time ao cap ds) (hlen : ds.length ≤ 1000000000000) (E : Int)
    (hE : E = mintE (governsE (roleF root time ds house id) (decide (0 < didF ds kFound of)) (house.toList == of.toList)) role fresh till (deedF ds kMint of fresh).isSome (didF ds kMint of)) :
    Calls Tryz.prog 21 #[.pointer (some ⟨rb, 0, none⟩), .string house, .int .i64 id, .string of, .int .i64 role, .int .i64 fresh, .int .i64 till] w fun e w' =>
      e = .returned (.int .i64 E) ∧ RefStep w w' rb root time ao (nextDs E ds (mintD id of role fresh till)) := by
  have Hg := hide (governs_any rb root time ao cap ds house id of w hr hlen)
  have Hd := hide (fun W h => deed_bool rb root time ao cap ds kMint of fresh W h hlen)
  have Hn := hide (fun W h => did_any rb root time ao cap ds kMint of W h hlen)
  have hle := didF_le ds kMint of
  have HE := hide hE
  clear hE
  generalize governsE (roleF root time ds house id) (decide (0 < didF ds kFound of)) (house.toList == of.toList) = g at *
  generalize (deedF ds kMint of fresh).isSome = old at *
  generalize didF ds kMint of = n at *
  go_enter Tryz.func21, Tryz.ntmps21
  go_wp2_with fail
  refine Hg.out.mono ?_
  rintro e w1 ⟨rfl, hb1⟩
  go_wp2_with fail
  refine (Hd.out _ (hr.below hb1)).mono ?_
  rintro e w2 ⟨⟨x, rfl⟩, hb2⟩
  have hb := below_call hb1 hb2
  have hr2 := hr.below (hb.alloc hb.size (.cells #[.string x.kind, .string x.house, .int .i64 x.who, .string x.pack, .string x.to, .int .i64 x.num, .int .i64 x.role, .int .i64 x.till, .string x.wants] 93))
  have hb' := hb.alloc hb.size (.cells #[.string x.kind, .string x.house, .int .i64 x.who, .string x.pack, .string x.to, .int .i64 x.num, .int .i64 x.role, .int .i64 x.till, .string x.wants] 93)
  go_wp2_with fail
  refine (Hn.out _ hr2).mono ?_
  rintro e w3 ⟨rfl, h3⟩
  subst h3
  go_wp2_with fail
  · go_ret
    exact RefStep.err hr hb' (by rw [HE.out]; exact mintE_g ‹_›) (by simpa using ‹(g != 0) = true›)
  · go_ret
    exact RefStep.err hr hb' (by rw [HE.out]; exact mintE_arg ‹_› (by omega)) (by decide)
  · go_ret
    exact RefStep.err hr hb' (by rw [HE.out]; exact mintE_old ‹_› (by omega) ‹_›) (by decide)
  · go_ret
    exact RefStep.err hr hb' (by rw [HE.out]; exact mintE_room ‹_› (by omega) ‹_› ‹_›) (by decide)
  · have h0 := hide (show E = 0 by rw [HE.out]; exact mintE_ok ‹_› (by omega) ‹_› ‹_›)
    refine (done_any rb root time ao cap ds (mintD id of role fresh till) _ hr2 hlen).mono ?_
    rintro e w4 ⟨rfl, hst⟩
    go_wp2_with fail
    go_ret
    rw [h0.out]
    exact ⟨rfl, RefStep.behind hb' hst⟩
  · go_ret
    exact RefStep.err hr hb' (by rw [HE.out]; exact mintE_arg ‹_› (by omega)) (by decide)
  · go_ret
    exact RefStep.err hr hb' (by rw [HE.out]; exact mintE_arg ‹_› (by omega)) (by decide)
  · go_ret
    exact RefStep.err hr hb' (by rw [HE.out]; exact mintE_arg ‹_› (by omega)) (by decide)

def revokeE (g : Int) (there gone : Bool) : Int := if g != 0 then g else if !there then 7 else if gone then 7 else 0

def revokeD (id : Int) (of : ByteArray) (old : Int) : Deed := ⟨kRevoke, of, id, ⟨#[]⟩, ⟨#[]⟩, old, 0, 0, ⟨#[]⟩⟩

set_option maxHeartbeats 800000 in
theorem rrevoke_any (rb : Nat) (root time : Int) (ao : Option Addr) (cap : Nat) (ds : List Deed) (house : ByteArray) (id : Int) (of : ByteArray) (old : Int) (w : World)
    (hr : RefAt w rb root time ao cap ds) (hlen : ds.length ≤ 1000000000000) (E : Int)
    (hE : E = revokeE (governsE (roleF root time ds house id) (decide (0 < didF ds kFound of)) (house.toList == of.toList)) (deedF ds kMint of old).isSome (deedF ds kRevoke of old).isSome) :
    Calls Tryz.prog 23 #[.pointer (some ⟨rb, 0, none⟩), .string house, .int .i64 id, .string of, .int .i64 old] w fun e w' =>
      e = .returned (.int .i64 E) ∧ RefStep w w' rb root time ao (nextDs E ds (revokeD id of old)) := by
  have Hg := hide (governs_any rb root time ao cap ds house id of w hr hlen)
  have Hd := hide (fun W h => deed_bool rb root time ao cap ds kMint of old W h hlen)
  have Hv := hide (fun W h => deed_bool rb root time ao cap ds kRevoke of old W h hlen)
  have HE := hide hE
  clear hE
  generalize governsE (roleF root time ds house id) (decide (0 < didF ds kFound of)) (house.toList == of.toList) = g at *
  generalize (deedF ds kMint of old).isSome = there at *
  generalize (deedF ds kRevoke of old).isSome = gone at *
  go_enter Tryz.func23, Tryz.ntmps23
  go_wp2_with fail
  refine Hg.out.mono ?_
  rintro e w1 ⟨rfl, hb1⟩
  go_wp2_with fail
  refine (Hd.out _ (hr.below hb1)).mono ?_
  rintro e w2 ⟨⟨x, rfl⟩, hb2⟩
  have hb := below_call hb1 hb2
  go_wp2_with fail
  refine (Hv.out _ (hr.below (hb.alloc hb.size _))).mono ?_
  rintro e w3 ⟨⟨y, rfl⟩, hb3⟩
  have hb4 := below_alloc_call hb hb3
  go_wp2_with fail
  · go_ret
    exact RefStep.err hr (hb4.alloc hb4.size _) (by rw [HE.out]; simp [revokeE, *]) (by simpa using ‹(g != 0) = true›)
  · go_ret
    exact RefStep.err hr (hb4.alloc hb4.size _) (by rw [HE.out]; simp [revokeE, *]) (by decide)
  · have h0 := hide (show E = 0 by rw [HE.out]; simp [revokeE, *])
    refine (done_any rb root time ao cap ds (revokeD id of old) _ (hr.below (hb4.alloc hb4.size _)) hlen).mono ?_
    rintro e w4 ⟨rfl, hst⟩
    go_wp2_with fail
    go_ret
    rw [h0.out]
    exact ⟨rfl, RefStep.behind (hb4.alloc hb4.size _) hst⟩
  · go_ret
    exact RefStep.err hr (hb4.alloc hb4.size _) (by rw [HE.out]; simp [revokeE, *]) (by decide)

end

end Go.Proofs.YtgcldedkempjhabGreatDoor
