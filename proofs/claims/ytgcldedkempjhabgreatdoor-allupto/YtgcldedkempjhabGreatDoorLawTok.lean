/-
  depotlaw: num; one step of stage 1 on both depots.
-/
import Derived.Test.YtgcldedkempjhabGreatDoorTwo
import Derived.Test.YtgcldedkempjhabGreatDoorRefMint
import Derived.Deep.RegionHeld3
namespace Go.Proofs.YtgcldedkempjhabGreatDoor
open Go.RowKit

set_option maxHeartbeats 400000 in
theorem num_any (n : Int) (w : World) : Calls Tryz.prog 7 #[.int .i64 n] w fun e w' => e = .returned (.int .i64 n) ∧ w' = w := by
  go_enter Tryz.func7, Tryz.ntmps7
  go_wp2
  go_ret
  exact ⟨rfl, rfl⟩

/-- One step, as a value. -/
abbrev opV (kind : Int) (house : ByteArray) (id : Int) (s t : ByteArray) (a b c : Int) : Array Value :=
  #[.int .i64 kind, .string house, .int .i64 id, .string s, .string t, .int .i64 a, .int .i64 b, .int .i64 c]

/-- Behind a step of one of the depots: both, and the step's own box. -/
def After (W w1 : World) (base wb db rb : Nat) (root time : Int) (box : Nat) (c : Array Value) (P' : PDep) (ds' : List Deed) : Prop :=
  ∃ D' ao' cap', Two w1 base wb db rb root D' time ao' cap' ds' ∧ D'.pure = P' ∧ Below base W w1 ∧ w1.heap[box]? = some (.cells c 37 (0, 0)) ∧ ¬ RefFoot rb ao' box ∧ ¬ DepFoot db D' box

theorem two_dstep {W0 W w1 : World} {base wb db rb : Nat} {root time : Int} {D : DepD} {P' : PDep} {ao : Option Addr} {cap : Nat} {ds : List Deed} {box : Nat} {c : Array Value}
    (hT : Two W0 base wb db rb root D time ao cap ds) (hbox : W0.heap[box]? = some (.cells c 37 (0, 0))) (hnr : ¬ RefFoot rb ao box) (hnd : ¬ DepFoot db D box) (hst : DepStep W w1 db D P') (hrt : P'.root = D.root)
    (h0 : W.heap = W0.heap) (h1 : W.os = W0.os) (h2 : W.tape = W0.tape) (h3 : W.output = W0.output) :
    After W0 w1 base wb db rb root time box c P' ds := by
  obtain ⟨D', hD, hP, hC, hF⟩ := hst
  have hC' := hC.start_of h0 h1 h2 h3
  rw [h0] at hF
  have hlt : box < W0.heap.size := (Array.getElem?_eq_some_iff.1 hbox).1
  have hroot : D'.root = root := by
    have := congrArg PDep.root hP
    have e : D'.pure.root = D'.root := rfl
    rw [← e, this, hrt]; exact hT.rt
  obtain ⟨hT1, hB⟩ := hT.dstep hD hroot hC' hF
  refine ⟨D', ao, cap, hT1, hP, hB, ?_, hnr, ?_⟩
  · rw [hC'.block box hlt hnd, hbox]
  · intro hk
    rcases hF box hk with h | h
    · exact hnd h
    · omega

theorem two_rstep {W0 W w1 : World} {base wb db rb : Nat} {root time time' : Int} {D : DepD} {ao : Option Addr} {cap : Nat} {ds ds' : List Deed} {box : Nat} {c : Array Value}
    (hT : Two W0 base wb db rb root D time ao cap ds) (hbox : W0.heap[box]? = some (.cells c 37 (0, 0))) (hnr : ¬ RefFoot rb ao box) (hnd : ¬ DepFoot db D box) (hst : RefStep W w1 rb root time' ao ds')
    (h0 : W.heap = W0.heap) (h1 : W.os = W0.os) (h2 : W.tape = W0.tape) (h3 : W.output = W0.output) :
    After W0 w1 base wb db rb root time' box c D.pure ds' := by
  obtain ⟨ao', cap', hD, hC, hF⟩ := hst
  have hC' := hC.start_of h0 h1 h2 h3
  rw [h0] at hF
  have hlt : box < W0.heap.size := (Array.getElem?_eq_some_iff.1 hbox).1
  obtain ⟨hT1, hB⟩ := hT.rstep hD hC' hF
  refine ⟨D, ao', cap', hT1, rfl, hB, ?_, ?_, hnd⟩
  · rw [hC'.block box hlt hnr, hbox]
  · intro hk
    rcases hF box hk with h | h
    · exact hnr h
    · omega

theorem after_kept {W w1 : World} {base wb db rb : Nat} {root time : Int} {box : Nat} {P' : PDep} {ds' : List Deed} {kind : Int} {house : ByteArray} {id : Int} {s t : ByteArray} {a b c : Int}
    (h : After W w1 base wb db rb root time box (opV kind house id s t a b c) P' ds') :
    w1.cell? ⟨wb, 0, none⟩ = some (.pointer (some ⟨db, 0, none⟩)) ∧ w1.cell? ⟨wb, 1, none⟩ = some (.pointer (some ⟨rb, 0, none⟩)) ∧ w1.cell? ⟨box, 1, none⟩ = some (.string house) ∧ w1.cell? ⟨box, 2, none⟩ = some (.int .i64 id) ∧ w1.cell? ⟨box, 3, none⟩ = some (.string s) ∧ w1.cell? ⟨box, 4, none⟩ = some (.string t) ∧
      w1.cell? ⟨box, 5, none⟩ = some (.int .i64 a) ∧ w1.cell? ⟨box, 6, none⟩ = some (.int .i64 b) ∧ w1.cell? ⟨box, 7, none⟩ = some (.int .i64 c) := by
  obtain ⟨D', ao', cap', hT1, _, _, hb, _⟩ := h
  exact ⟨hT1.p0, hT1.p1, (cell_of_heap hb 1).trans rfl, (cell_of_heap hb 2).trans rfl, (cell_of_heap hb 3).trans rfl, (cell_of_heap hb 4).trans rfl, (cell_of_heap hb 5).trans rfl, (cell_of_heap hb 6).trans rfl, (cell_of_heap hb 7).trans rfl⟩

theorem tickF_bounds {c n : Int} (h0 : 0 ≤ c) (h1 : c ≤ 1099511627776) (hn : 0 ≤ n) : 0 ≤ tickF c n ∧ tickF c n ≤ 1099511627776 := by unfold tickF; split <;> omega

theorem stepP_root {E : Int} {P Q : PDep} {r : Int} (h1 : P.root = r) (h2 : Q.root = r) : (stepP E P Q).root = r := by unfold stepP; split <;> assumption

/- The contracts of Tick, May and Show in the form of a step. -/
theorem tickno_dep (db : Nat) (D : DepD) (n : Int) (w : World) (hr : DepAt w db D) (h : n < 0) :
    Calls Tryz.prog 12 #[.pointer (some ⟨db, 0, none⟩), .int .i64 n] w fun e w' => e = .returned (.int .i64 1) ∧ DepStep w w' db D D.pure := by
  refine (tick_no db n w h).mono ?_
  rintro e w' ⟨rfl, rfl⟩
  exact ⟨rfl, DepStep.ofBelow hr (Below.refl _ _)⟩

theorem tickno_ref (rb : Nat) (root time : Int) (ao : Option Addr) (cap : Nat) (ds : List Deed) (n : Int) (w : World) (hr : RefAt w rb root time ao cap ds) (h : n < 0) :
    Calls Tryz.prog 13 #[.pointer (some ⟨rb, 0, none⟩), .int .i64 n] w fun e w' => e = .returned (.int .i64 1) ∧ RefStep w w' rb root time ao ds := by
  refine (rtick_no rb n w h).mono ?_
  rintro e w' ⟨rfl, rfl⟩
  exact ⟨rfl, RefStep.ofBelow hr (Below.refl _ _)⟩

theorem tickyes_ref (rb : Nat) (root time : Int) (ao : Option Addr) (cap : Nat) (ds : List Deed) (n : Int) (w : World) (hr : RefAt w rb root time ao cap ds) (h : 0 ≤ n) (hn : n ≤ 9223372036854775807) (ht0 : 0 ≤ time) (ht : time ≤ 1099511627776) :
    Calls Tryz.prog 13 #[.pointer (some ⟨rb, 0, none⟩), .int .i64 n] w fun e w' => e = .returned (.int .i64 0) ∧ RefStep w w' rb root (tickF time n) ao ds := by
  refine (rtick_yes rb root time ao cap ds n w hr h hn ht0 ht).mono ?_
  rintro e w' ⟨rfl, h1, h2⟩
  exact ⟨rfl, ao, cap, h1, h2, fun _ h => Or.inl h⟩

theorem may_dep (db : Nat) (D : DepD) (house : ByteArray) (id : Int) (w : World) (hr : DepAt w db D) (r1 r2 : Int) (hE : (r1, r2) = mayF (heldF D.pure house id)) :
    Calls Tryz.prog 16 #[.pointer (some ⟨db, 0, none⟩), .string house, .int .i64 id] w fun e w' => e = .returned (.tuple #[.int .i64 r1, .int .i64 r2]) ∧ DepStep w w' db D D.pure := by
  refine (may_any db D house id w hr).mono ?_
  rintro e w' ⟨rfl, hb⟩
  rw [← hE]
  exact ⟨rfl, DepStep.ofBelow hr hb⟩

theorem may_ref (rb : Nat) (root time : Int) (ao : Option Addr) (cap : Nat) (ds : List Deed) (house : ByteArray) (id : Int) (w : World) (hr : RefAt w rb root time ao cap ds) (hlen : ds.length ≤ 1000000000000) (r1 r2 : Int) (hE : (r1, r2) = mayF (roleF root time ds house id)) :
    Calls Tryz.prog 17 #[.pointer (some ⟨rb, 0, none⟩), .string house, .int .i64 id] w fun e w' => e = .returned (.tuple #[.int .i64 r1, .int .i64 r2]) ∧ RefStep w w' rb root time ao ds := by
  refine (rmay_any rb root time ao cap ds house id w hr hlen).mono ?_
  rintro e w' ⟨rfl, hb⟩
  rw [← hE]
  exact ⟨rfl, RefStep.ofBelow hr hb⟩

theorem inv_same {w : World} {base wb db rb : Nat} {root : Int} {D D2 : DepD} {ao2 : Option Addr} {cap2 : Nat} {ds : List Deed} {n : Nat} {tk tk' : Bool} {t : Int}
    (hT : Two w base wb db rb root D2 t ao2 cap2 ds) (hp : D2.pure = { D.pure with clock := t }) (hS : Sim D.pure ds) (hc : 0 ≤ t ∧ t ≤ 1099511627776) (hn : ds.length ≤ n) (htk : tk = true → ds.length = weight D.pure.hs) (hu : Ups root ds) (ht' : tk' = true → tk = true) : Inv w base wb db rb root (n + 1) tk' := by
  have hclk : D2.clock = t := congrArg PDep.clock hp
  have hhs : D2.pure.hs = D.pure.hs := by rw [hp]
  exact ⟨D2, ao2, cap2, ds, by rw [hclk]; exact hT, by rw [hp]; exact hS.clock t, by rw [hclk]; exact hc, by omega, fun h => by rw [hhs]; exact htk (ht' h), hu⟩

set_option maxHeartbeats 800000 in
set_option maxRecDepth 100000 in
theorem tokens_clock (base wb db rb : Nat) (root : Int) (n : Nat) (tk : Bool) (house : ByteArray) (id : Int) (s t : ByteArray) (a b c : Int) (w : World) (hI : Inv w base wb db rb root n tk) :
    Calls Tryz.prog 9 #[.pointer (some ⟨wb, 0, none⟩), .agg (opV 2 house id s t a b c)] w fun e w' => e = .returned (.bool true) ∧ Inv w' base wb db rb root (n + 1) tk ∧ Below base w w' := by
  obtain ⟨D, ao, cap, ds, hT, hS, hc, hn, htk, hu⟩ := hI
  have hlt := hT.wlt
  have p0 := hT.p0
  have p1 := hT.p1
  have hb0 : Below w.heap.size w (w.alloc (.cells (opV 2 house id s t a b c) 37)) := (Below.refl _ _).alloc (Nat.le_refl _) _
  have hT0 := hT.below hb0
  go_enter Tryz.func9, Tryz.ntmps9
  go_wp2_with fail
  refine (clock_any db D _ hT0.dep).mono ?_
  rintro e w1 ⟨rfl, h⟩
  subst h
  go_wp2_with fail
  refine (rclock_any rb root D.clock ao cap ds _ hT0.ref).mono ?_
  rintro e w1 ⟨rfl, h⟩
  subst h
  go_wp2_with fail
  go_ret
  exact ⟨by simp [DepD.pure], ⟨D, ao, cap, ds, hT0, hS, hc, by omega, htk, hu⟩, hb0.mono hT.b3⟩

set_option maxHeartbeats 1600000 in
set_option maxRecDepth 100000 in
theorem tokens_tick_no (base wb db rb : Nat) (root : Int) (n : Nat) (tk : Bool) (house : ByteArray) (id : Int) (s t : ByteArray) (a b c : Int) (w : World) (hI : Inv w base wb db rb root n tk) (hf : tk = true ∨ n ≤ 100000000000) (ha : a < 0) :
    Calls Tryz.prog 9 #[.pointer (some ⟨wb, 0, none⟩), .agg (opV 1 house id s t a b c)] w fun e w' => e = .returned (.bool true) ∧ Inv w' base wb db rb root (n + 1) tk ∧ Below base w w' := by
  obtain ⟨D, ao, cap, ds, hT, hS, hc, hn, htk, hu⟩ := hI
  have hlt := hT.wlt
  have p0 := hT.p0
  have p1 := hT.p1
  have hrt : D.pure.root = root := hT.rt
  have hfew := deeds_few hT.dep hn htk hf
  have hb0 : Below w.heap.size w (w.alloc (.cells (opV 1 house id s t a b c) 37)) := (Below.refl _ _).alloc (Nat.le_refl _) _
  have hT0 := hT.below hb0
  have hD0 := hT0.dep
  have hx0 := hide (show (w.alloc (.cells (opV 1 house id s t a b c) 37)).heap[w.heap.size]? = some (.cells (opV 1 house id s t a b c) 37 (0, 0)) from heap_alloc_new w _)
  have hx1 : ¬ RefFoot rb ao w.heap.size := fun hk => by have := hT.ref.foot_lt _ hk; omega
  have hx2 : ¬ DepFoot db D w.heap.size := fun hk => by have := (hT.dep.foot hk).2; omega
  go_enter Tryz.func9, Tryz.ntmps9
  go_wp2_with fail
  go_region_held3 (fun w' => w'.cell? ⟨wb, 0, none⟩ = some (.pointer (some ⟨db, 0, none⟩)) ∧ w'.cell? ⟨wb, 1, none⟩ = some (.pointer (some ⟨rb, 0, none⟩)) ∧ w'.cell? ⟨w.heap.size, 1, none⟩ = some (.string house) ∧ w'.cell? ⟨w.heap.size, 2, none⟩ = some (.int .i64 id) ∧ w'.cell? ⟨w.heap.size, 3, none⟩ = some (.string s) ∧ w'.cell? ⟨w.heap.size, 4, none⟩ = some (.string t) ∧ w'.cell? ⟨w.heap.size, 5, none⟩ = some (.int .i64 a) ∧ w'.cell? ⟨w.heap.size, 6, none⟩ = some (.int .i64 b) ∧ w'.cell? ⟨w.heap.size, 7, none⟩ = some (.int .i64 c)) (first | exact HK.out | go_keep) ((go_at_call 12; refine (tickno_dep db D a _ ?_ ha).mono ?_; exact hD0.same rfl; rintro e w1 ⟨rfl, hst⟩; have HT1 := hide (two_dstep hT0 hx0.out hx1 hx2 hst rfl rfl rfl rfl rfl); have HK := hide (after_kept HT1.out); clear hst))
  obtain ⟨D1, ao1, cap1, hT1, hP1, hB1, hy0, hy1, hy2⟩ := HT1.out
  have hR1 := hT1.ref
  have HP1 := hide hP1
  have HY := hide hy0
  clear HT1 HK hP1 hy0
  go_wp2_with fail
  go_region_held3 (fun w' => w'.cell? ⟨wb, 0, none⟩ = some (.pointer (some ⟨db, 0, none⟩)) ∧ w'.cell? ⟨wb, 1, none⟩ = some (.pointer (some ⟨rb, 0, none⟩)) ∧ w'.cell? ⟨w.heap.size, 1, none⟩ = some (.string house) ∧ w'.cell? ⟨w.heap.size, 2, none⟩ = some (.int .i64 id) ∧ w'.cell? ⟨w.heap.size, 3, none⟩ = some (.string s) ∧ w'.cell? ⟨w.heap.size, 4, none⟩ = some (.string t) ∧ w'.cell? ⟨w.heap.size, 5, none⟩ = some (.int .i64 a) ∧ w'.cell? ⟨w.heap.size, 6, none⟩ = some (.int .i64 b) ∧ w'.cell? ⟨w.heap.size, 7, none⟩ = some (.int .i64 c)) (first | exact HK.out | go_keep) ((go_at_call 13; refine (tickno_ref rb root D.clock ao1 cap1 ds a _ ?_ ha).mono ?_; exact hR1.same rfl; rintro e w2 ⟨rfl, hst⟩; have HT2 := hide (two_rstep hT1 HY.out hy1 hy2 hst rfl rfl rfl rfl); have HK := hide (after_kept HT2.out); clear hst))
  obtain ⟨D2, ao2, cap2, hT2, hP2, hB2, _, _, _⟩ := HT2.out
  clear HT2 HK
  have hfin := hide (show Inv w2 base wb db rb root (n + 1) tk from by
    have hP := hP2.trans HP1.out
    exact inv_same (D := D) (tk := tk) hT2 (hP.trans rfl) hS hc hn htk hu (fun h => h))
  have hbel := hide (((hb0.mono hT.b3).trans hB1).trans hB2)
  clear hT2 hB1 hB2 hP2
  go_wp2_with (go_at_call 7; refine (num_any _ _).mono ?_; rintro e w3 ⟨rfl, h⟩; subst h)
  go_ret
  exact ⟨by simp, hfin.out, hbel.out⟩

set_option maxHeartbeats 1600000 in
set_option maxRecDepth 100000 in
theorem tokens_tick (base wb db rb : Nat) (root : Int) (n : Nat) (tk : Bool) (house : ByteArray) (id : Int) (s t : ByteArray) (a b c : Int) (w : World) (hI : Inv w base wb db rb root n tk) (hf : tk = true ∨ n ≤ 100000000000) (ha : 0 ≤ a) (ha2 : a ≤ 9223372036854775807) :
    Calls Tryz.prog 9 #[.pointer (some ⟨wb, 0, none⟩), .agg (opV 1 house id s t a b c)] w fun e w' => e = .returned (.bool true) ∧ Inv w' base wb db rb root (n + 1) tk ∧ Below base w w' := by
  obtain ⟨D, ao, cap, ds, hT, hS, hc, hn, htk, hu⟩ := hI
  have hlt := hT.wlt
  have p0 := hT.p0
  have p1 := hT.p1
  have hrt : D.pure.root = root := hT.rt
  have hfew := deeds_few hT.dep hn htk hf
  have hb0 : Below w.heap.size w (w.alloc (.cells (opV 1 house id s t a b c) 37)) := (Below.refl _ _).alloc (Nat.le_refl _) _
  have hT0 := hT.below hb0
  have hD0 := hT0.dep
  have hx0 := hide (show (w.alloc (.cells (opV 1 house id s t a b c) 37)).heap[w.heap.size]? = some (.cells (opV 1 house id s t a b c) 37 (0, 0)) from heap_alloc_new w _)
  have hx1 : ¬ RefFoot rb ao w.heap.size := fun hk => by have := hT.ref.foot_lt _ hk; omega
  have hx2 : ¬ DepFoot db D w.heap.size := fun hk => by have := (hT.dep.foot hk).2; omega
  have HB := hide (tickF_bounds hc.1 hc.2 ha)
  go_enter Tryz.func9, Tryz.ntmps9
  go_wp2_with fail
  go_region_held3 (fun w' => w'.cell? ⟨wb, 0, none⟩ = some (.pointer (some ⟨db, 0, none⟩)) ∧ w'.cell? ⟨wb, 1, none⟩ = some (.pointer (some ⟨rb, 0, none⟩)) ∧ w'.cell? ⟨w.heap.size, 1, none⟩ = some (.string house) ∧ w'.cell? ⟨w.heap.size, 2, none⟩ = some (.int .i64 id) ∧ w'.cell? ⟨w.heap.size, 3, none⟩ = some (.string s) ∧ w'.cell? ⟨w.heap.size, 4, none⟩ = some (.string t) ∧ w'.cell? ⟨w.heap.size, 5, none⟩ = some (.int .i64 a) ∧ w'.cell? ⟨w.heap.size, 6, none⟩ = some (.int .i64 b) ∧ w'.cell? ⟨w.heap.size, 7, none⟩ = some (.int .i64 c)) (first | exact HK.out | go_keep) ((go_at_call 12; refine (tick_yes db D a _ ?_ ha ha2 hc.1 hc.2).mono ?_; exact hD0.same rfl; rintro e w1 ⟨rfl, hst⟩; have HT1 := hide (two_dstep hT0 hx0.out hx1 hx2 hst rfl rfl rfl rfl rfl); have HK := hide (after_kept HT1.out); clear hst))
  obtain ⟨D1, ao1, cap1, hT1, hP1, hB1, hy0, hy1, hy2⟩ := HT1.out
  have hR1 := hT1.ref
  have HP1 := hide hP1
  have HY := hide hy0
  clear HT1 HK hP1 hy0
  go_wp2_with fail
  go_region_held3 (fun w' => w'.cell? ⟨wb, 0, none⟩ = some (.pointer (some ⟨db, 0, none⟩)) ∧ w'.cell? ⟨wb, 1, none⟩ = some (.pointer (some ⟨rb, 0, none⟩)) ∧ w'.cell? ⟨w.heap.size, 1, none⟩ = some (.string house) ∧ w'.cell? ⟨w.heap.size, 2, none⟩ = some (.int .i64 id) ∧ w'.cell? ⟨w.heap.size, 3, none⟩ = some (.string s) ∧ w'.cell? ⟨w.heap.size, 4, none⟩ = some (.string t) ∧ w'.cell? ⟨w.heap.size, 5, none⟩ = some (.int .i64 a) ∧ w'.cell? ⟨w.heap.size, 6, none⟩ = some (.int .i64 b) ∧ w'.cell? ⟨w.heap.size, 7, none⟩ = some (.int .i64 c)) (first | exact HK.out | go_keep) ((go_at_call 13; refine (tickyes_ref rb root D.clock ao1 cap1 ds a _ ?_ ha ha2 hc.1 hc.2).mono ?_; exact hR1.same rfl; rintro e w2 ⟨rfl, hst⟩; have HT2 := hide (two_rstep hT1 HY.out hy1 hy2 hst rfl rfl rfl rfl); have HK := hide (after_kept HT2.out); clear hst))
  obtain ⟨D2, ao2, cap2, hT2, hP2, hB2, _, _, _⟩ := HT2.out
  clear HT2 HK
  have hfin := hide (show Inv w2 base wb db rb root (n + 1) tk from by
    have hP := hP2.trans HP1.out
    exact inv_same (D := D) (tk := tk) hT2 hP hS HB.out hn htk hu (fun h => h))
  have hbel := hide (((hb0.mono hT.b3).trans hB1).trans hB2)
  clear hT2 hB1 hB2 hP2
  go_wp2_with (go_at_call 7; refine (num_any _ _).mono ?_; rintro e w3 ⟨rfl, h⟩; subst h)
  go_ret
  exact ⟨by simp, hfin.out, hbel.out⟩

set_option maxHeartbeats 1600000 in
set_option maxRecDepth 100000 in
theorem tokens_may (base wb db rb : Nat) (root : Int) (n : Nat) (tk : Bool) (house : ByteArray) (id : Int) (s t : ByteArray) (a b c : Int) (w : World) (hI : Inv w base wb db rb root n tk) (hf : tk = true ∨ n ≤ 100000000000) :
    Calls Tryz.prog 9 #[.pointer (some ⟨wb, 0, none⟩), .agg (opV 3 house id s t a b c)] w fun e w' => e = .returned (.bool true) ∧ Inv w' base wb db rb root (n + 1) tk ∧ Below base w w' := by
  obtain ⟨D, ao, cap, ds, hT, hS, hc, hn, htk, hu⟩ := hI
  have hlt := hT.wlt
  have p0 := hT.p0
  have p1 := hT.p1
  have hrt : D.pure.root = root := hT.rt
  have hfew := deeds_few hT.dep hn htk hf
  have hb0 : Below w.heap.size w (w.alloc (.cells (opV 3 house id s t a b c) 37)) := (Below.refl _ _).alloc (Nat.le_refl _) _
  have hT0 := hT.below hb0
  have hD0 := hT0.dep
  have hx0 := hide (show (w.alloc (.cells (opV 3 house id s t a b c) 37)).heap[w.heap.size]? = some (.cells (opV 3 house id s t a b c) 37 (0, 0)) from heap_alloc_new w _)
  have hx1 : ¬ RefFoot rb ao w.heap.size := fun hk => by have := hT.ref.foot_lt _ hk; omega
  have hx2 : ¬ DepFoot db D w.heap.size := fun hk => by have := (hT.dep.foot hk).2; omega
  obtain ⟨r, hr⟩ : ∃ r, r = mayF (heldF D.pure house id) := ⟨_, rfl⟩
  have HE := hide hr
  have HE' := hide (hr.trans (by rw [role_agree hS, hrt]; rfl : mayF (heldF D.pure house id) = mayF (roleF root D.clock ds house id)))
  clear hr
  obtain ⟨r1, r2⟩ := r
  go_enter Tryz.func9, Tryz.ntmps9
  go_wp2_with fail
  go_region_held3 (fun w' => w'.cell? ⟨wb, 0, none⟩ = some (.pointer (some ⟨db, 0, none⟩)) ∧ w'.cell? ⟨wb, 1, none⟩ = some (.pointer (some ⟨rb, 0, none⟩)) ∧ w'.cell? ⟨w.heap.size, 1, none⟩ = some (.string house) ∧ w'.cell? ⟨w.heap.size, 2, none⟩ = some (.int .i64 id) ∧ w'.cell? ⟨w.heap.size, 3, none⟩ = some (.string s) ∧ w'.cell? ⟨w.heap.size, 4, none⟩ = some (.string t) ∧ w'.cell? ⟨w.heap.size, 5, none⟩ = some (.int .i64 a) ∧ w'.cell? ⟨w.heap.size, 6, none⟩ = some (.int .i64 b) ∧ w'.cell? ⟨w.heap.size, 7, none⟩ = some (.int .i64 c)) (first | exact HK.out | go_keep) ((go_at_call 16; refine (may_dep db D house id _ ?_ r1 r2 HE.out).mono ?_; exact hD0.same rfl; rintro e w1 ⟨rfl, hst⟩; have HT1 := hide (two_dstep hT0 hx0.out hx1 hx2 hst rfl rfl rfl rfl rfl); have HK := hide (after_kept HT1.out); clear hst))
  obtain ⟨D1, ao1, cap1, hT1, hP1, hB1, hy0, hy1, hy2⟩ := HT1.out
  have hR1 := hT1.ref
  have HP1 := hide hP1
  have HY := hide hy0
  clear HT1 HK hP1 hy0
  go_wp2_with fail
  go_region_held3 (fun w' => w'.cell? ⟨wb, 0, none⟩ = some (.pointer (some ⟨db, 0, none⟩)) ∧ w'.cell? ⟨wb, 1, none⟩ = some (.pointer (some ⟨rb, 0, none⟩)) ∧ w'.cell? ⟨w.heap.size, 1, none⟩ = some (.string house) ∧ w'.cell? ⟨w.heap.size, 2, none⟩ = some (.int .i64 id) ∧ w'.cell? ⟨w.heap.size, 3, none⟩ = some (.string s) ∧ w'.cell? ⟨w.heap.size, 4, none⟩ = some (.string t) ∧ w'.cell? ⟨w.heap.size, 5, none⟩ = some (.int .i64 a) ∧ w'.cell? ⟨w.heap.size, 6, none⟩ = some (.int .i64 b) ∧ w'.cell? ⟨w.heap.size, 7, none⟩ = some (.int .i64 c)) (first | exact HK.out | go_keep) ((go_at_call 17; refine (may_ref rb root D.clock ao1 cap1 ds house id _ ?_ hfew r1 r2 HE'.out).mono ?_; exact hR1.same rfl; rintro e w2 ⟨rfl, hst⟩; have HT2 := hide (two_rstep hT1 HY.out hy1 hy2 hst rfl rfl rfl rfl); have HK := hide (after_kept HT2.out); clear hst))
  obtain ⟨D2, ao2, cap2, hT2, hP2, hB2, _, _, _⟩ := HT2.out
  clear HT2 HK
  have hfin := hide (show Inv w2 base wb db rb root (n + 1) tk from by
    have hP := hP2.trans HP1.out
    exact inv_same (D := D) (tk := tk) hT2 (hP.trans rfl) hS hc hn htk hu (fun h => h))
  have hbel := hide (((hb0.mono hT.b3).trans hB1).trans hB2)
  clear hT2 hB1 hB2 hP2
  go_wp2_with (go_at_call 7; refine (num_any _ _).mono ?_; rintro e w3 ⟨rfl, h⟩; subst h)
  go_ret
  exact ⟨by simp, hfin.out, hbel.out⟩

set_option maxHeartbeats 1600000 in
set_option maxRecDepth 100000 in
theorem tokens_found (base wb db rb : Nat) (root : Int) (n : Nat) (tk : Bool) (house : ByteArray) (id : Int) (s t : ByteArray) (a b c : Int) (w : World) (hI : Inv w base wb db rb root n tk) (hf : tk = true ∨ n ≤ 100000000000) :
    Calls Tryz.prog 9 #[.pointer (some ⟨wb, 0, none⟩), .agg (opV 4 house id s t a b c)] w fun e w' => e = .returned (.bool true) ∧ Inv w' base wb db rb root (n + 1) tk ∧ Below base w w' := by
  obtain ⟨D, ao, cap, ds, hT, hS, hc, hn, htk, hu⟩ := hI
  have hlt := hT.wlt
  have p0 := hT.p0
  have p1 := hT.p1
  have hrt : D.pure.root = root := hT.rt
  have hfew := deeds_few hT.dep hn htk hf
  have hb0 : Below w.heap.size w (w.alloc (.cells (opV 4 house id s t a b c) 37)) := (Below.refl _ _).alloc (Nat.le_refl _) _
  have hT0 := hT.below hb0
  have hD0 := hT0.dep
  have hx0 := hide (show (w.alloc (.cells (opV 4 house id s t a b c) 37)).heap[w.heap.size]? = some (.cells (opV 4 house id s t a b c) 37 (0, 0)) from heap_alloc_new w _)
  have hx1 : ¬ RefFoot rb ao w.heap.size := fun hk => by have := hT.ref.foot_lt _ hk; omega
  have hx2 : ¬ DepFoot db D w.heap.size := fun hk => by have := (hT.dep.foot hk).2; omega
  obtain ⟨E, hE⟩ : ∃ E, E = foundP (heldF D.pure house id) (wordF s) (hseF D.pure.hs s).isSome D.pure.hs.length := ⟨_, rfl⟩
  have HE := hide hE
  have HE' := hide (show E = foundE (roleF root D.clock ds house id) (wordF s) (decide (0 < didF ds kFound s)) (nFound ds) by rw [hE, found_agree hS hT.dep.lens _ _ s, role_agree hS, hrt]; rfl)
  clear hE
  go_enter Tryz.func9, Tryz.ntmps9
  go_wp2_with fail
  go_region_held3 (fun w' => w'.cell? ⟨wb, 0, none⟩ = some (.pointer (some ⟨db, 0, none⟩)) ∧ w'.cell? ⟨wb, 1, none⟩ = some (.pointer (some ⟨rb, 0, none⟩)) ∧ w'.cell? ⟨w.heap.size, 1, none⟩ = some (.string house) ∧ w'.cell? ⟨w.heap.size, 2, none⟩ = some (.int .i64 id) ∧ w'.cell? ⟨w.heap.size, 3, none⟩ = some (.string s) ∧ w'.cell? ⟨w.heap.size, 4, none⟩ = some (.string t) ∧ w'.cell? ⟨w.heap.size, 5, none⟩ = some (.int .i64 a) ∧ w'.cell? ⟨w.heap.size, 6, none⟩ = some (.int .i64 b) ∧ w'.cell? ⟨w.heap.size, 7, none⟩ = some (.int .i64 c)) (first | exact HK.out | go_keep) ((go_at_call 18; refine (found_any db D house id s _ ?_ E HE.out).mono ?_; exact hD0.same rfl; rintro e w1 ⟨rfl, hst⟩; have HT1 := hide (two_dstep hT0 hx0.out hx1 hx2 hst (stepP_root rfl rfl) rfl rfl rfl rfl); have HK := hide (after_kept HT1.out); clear hst))
  obtain ⟨D1, ao1, cap1, hT1, hP1, hB1, hy0, hy1, hy2⟩ := HT1.out
  have hR1 := hT1.ref
  have HP1 := hide hP1
  have HY := hide hy0
  clear HT1 HK hP1 hy0
  go_wp2_with fail
  go_region_held3 (fun w' => w'.cell? ⟨wb, 0, none⟩ = some (.pointer (some ⟨db, 0, none⟩)) ∧ w'.cell? ⟨wb, 1, none⟩ = some (.pointer (some ⟨rb, 0, none⟩)) ∧ w'.cell? ⟨w.heap.size, 1, none⟩ = some (.string house) ∧ w'.cell? ⟨w.heap.size, 2, none⟩ = some (.int .i64 id) ∧ w'.cell? ⟨w.heap.size, 3, none⟩ = some (.string s) ∧ w'.cell? ⟨w.heap.size, 4, none⟩ = some (.string t) ∧ w'.cell? ⟨w.heap.size, 5, none⟩ = some (.int .i64 a) ∧ w'.cell? ⟨w.heap.size, 6, none⟩ = some (.int .i64 b) ∧ w'.cell? ⟨w.heap.size, 7, none⟩ = some (.int .i64 c)) (first | exact HK.out | go_keep) ((go_at_call 19; refine (rfound_any rb root D.clock ao1 cap1 ds house id s _ ?_ hfew E HE'.out).mono ?_; exact hR1.same rfl; rintro e w2 ⟨rfl, hst⟩; have HT2 := hide (two_rstep hT1 HY.out hy1 hy2 hst rfl rfl rfl rfl); have HK := hide (after_kept HT2.out); clear hst))
  obtain ⟨D2, ao2, cap2, hT2, hP2, hB2, _, _, _⟩ := HT2.out
  clear HT2 HK
  have hfin := hide (show Inv w2 base wb db rb root (n + 1) tk from by
    have hP := hP2.trans HP1.out
    exact inv_next (D := D) (tk := tk) hT2 hP hS hc hn htk hu rfl (fun he => hS.found id s (foundP_ok (HE.out ▸ he))) (fun h => h) (fun he _ => by simp [foundS, weight_snoc, goneN]) (fun _ => ⟨Or.inl (by simp [foundD]), Nat.zero_le _⟩))
  have hbel := hide (((hb0.mono hT.b3).trans hB1).trans hB2)
  clear hT2 hB1 hB2 hP2
  go_wp2_with (go_at_call 7; refine (num_any _ _).mono ?_; rintro e w3 ⟨rfl, h⟩; subst h)
  go_ret
  exact ⟨by simp, hfin.out, hbel.out⟩

set_option maxHeartbeats 1600000 in
set_option maxRecDepth 100000 in
theorem tokens_mint (base wb db rb : Nat) (root : Int) (n : Nat) (tk : Bool) (house : ByteArray) (id : Int) (s t : ByteArray) (a b c : Int) (w : World) (hI : Inv w base wb db rb root n tk) (hf : tk = true ∨ n ≤ 100000000000) (q1 : I64 id) (q2 : I64 b) (q3 : I64 c) :
    Calls Tryz.prog 9 #[.pointer (some ⟨wb, 0, none⟩), .agg (opV 5 house id s t a b c)] w fun e w' => e = .returned (.bool true) ∧ Inv w' base wb db rb root (n + 1) tk ∧ Below base w w' := by
  obtain ⟨D, ao, cap, ds, hT, hS, hc, hn, htk, hu⟩ := hI
  have hlt := hT.wlt
  have p0 := hT.p0
  have p1 := hT.p1
  have hrt : D.pure.root = root := hT.rt
  have hfew := deeds_few hT.dep hn htk hf
  have hb0 : Below w.heap.size w (w.alloc (.cells (opV 5 house id s t a b c) 37)) := (Below.refl _ _).alloc (Nat.le_refl _) _
  have hT0 := hT.below hb0
  have hD0 := hT0.dep
  have hx0 := hide (show (w.alloc (.cells (opV 5 house id s t a b c) 37)).heap[w.heap.size]? = some (.cells (opV 5 house id s t a b c) 37 (0, 0)) from heap_alloc_new w _)
  have hx1 : ¬ RefFoot rb ao w.heap.size := fun hk => by have := hT.ref.foot_lt _ hk; omega
  have hx2 : ¬ DepFoot db D w.heap.size := fun hk => by have := (hT.dep.foot hk).2; omega
  obtain ⟨E, hE⟩ : ∃ E, E = mintP (manageF (heldF D.pure house id) (house.toList == s.toList)) D.pure.hs s a b c := ⟨_, rfl⟩
  have HE := hide hE
  have HE' := hide (show E = mintE (governsE (roleF root D.clock ds house id) (decide (0 < didF ds kFound s)) (house.toList == s.toList)) a b c (deedF ds kMint s b).isSome (didF ds kMint s) by rw [hE, mint_agree hS hT.dep.lens house id s a b c, hrt]; rfl)
  clear hE
  go_enter Tryz.func9, Tryz.ntmps9
  go_wp2_with fail
  go_region_held3 (fun w' => w'.cell? ⟨wb, 0, none⟩ = some (.pointer (some ⟨db, 0, none⟩)) ∧ w'.cell? ⟨wb, 1, none⟩ = some (.pointer (some ⟨rb, 0, none⟩)) ∧ w'.cell? ⟨w.heap.size, 1, none⟩ = some (.string house) ∧ w'.cell? ⟨w.heap.size, 2, none⟩ = some (.int .i64 id) ∧ w'.cell? ⟨w.heap.size, 3, none⟩ = some (.string s) ∧ w'.cell? ⟨w.heap.size, 4, none⟩ = some (.string t) ∧ w'.cell? ⟨w.heap.size, 5, none⟩ = some (.int .i64 a) ∧ w'.cell? ⟨w.heap.size, 6, none⟩ = some (.int .i64 b) ∧ w'.cell? ⟨w.heap.size, 7, none⟩ = some (.int .i64 c)) (first | exact HK.out | go_keep) ((go_at_call 20; refine (mint_any db D house id s a b c _ ?_ q1 q2 q3 E HE.out).mono ?_; exact hD0.same rfl; rintro e w1 ⟨rfl, hst⟩; have HT1 := hide (two_dstep hT0 hx0.out hx1 hx2 hst (stepP_root rfl rfl) rfl rfl rfl rfl); have HK := hide (after_kept HT1.out); clear hst))
  obtain ⟨D1, ao1, cap1, hT1, hP1, hB1, hy0, hy1, hy2⟩ := HT1.out
  have hR1 := hT1.ref
  have HP1 := hide hP1
  have HY := hide hy0
  clear HT1 HK hP1 hy0
  go_wp2_with fail
  go_region_held3 (fun w' => w'.cell? ⟨wb, 0, none⟩ = some (.pointer (some ⟨db, 0, none⟩)) ∧ w'.cell? ⟨wb, 1, none⟩ = some (.pointer (some ⟨rb, 0, none⟩)) ∧ w'.cell? ⟨w.heap.size, 1, none⟩ = some (.string house) ∧ w'.cell? ⟨w.heap.size, 2, none⟩ = some (.int .i64 id) ∧ w'.cell? ⟨w.heap.size, 3, none⟩ = some (.string s) ∧ w'.cell? ⟨w.heap.size, 4, none⟩ = some (.string t) ∧ w'.cell? ⟨w.heap.size, 5, none⟩ = some (.int .i64 a) ∧ w'.cell? ⟨w.heap.size, 6, none⟩ = some (.int .i64 b) ∧ w'.cell? ⟨w.heap.size, 7, none⟩ = some (.int .i64 c)) (first | exact HK.out | go_keep) ((go_at_call 21; refine (rmint_any rb root D.clock ao1 cap1 ds house id s a b c _ ?_ hfew E HE'.out).mono ?_; exact hR1.same rfl; rintro e w2 ⟨rfl, hst⟩; have HT2 := hide (two_rstep hT1 HY.out hy1 hy2 hst rfl rfl rfl rfl); have HK := hide (after_kept HT2.out); clear hst))
  obtain ⟨D2, ao2, cap2, hT2, hP2, hB2, _, _, _⟩ := HT2.out
  clear HT2 HK
  have hfin := hide (show Inv w2 base wb db rb root (n + 1) tk from by
    have hP := hP2.trans HP1.out
    exact inv_next (D := D) (tk := tk) hT2 hP hS hc hn htk hu rfl (fun he => by obtain ⟨x, h1, h2, h3⟩ := mintP_ok (HE.out ▸ he); exact hS.mint h1 id a b c h2 h3) (fun h => h) (fun he _ => by obtain ⟨x, h1, h2, h3⟩ := mintP_ok (HE.out ▸ he); exact weight_upd _ _ _ x h1 (by simp [goneN]; omega)) (fun he => by obtain ⟨h1, h2, h3, h4, h5⟩ := mintP_up (HE.out ▸ he); exact ⟨Or.inr ⟨⟨held_up hS hrt hu (manage_held h1), q1.2⟩, ⟨by show 0 ≤ b; omega, q2.2⟩, ⟨by show 0 ≤ a; omega, by show a ≤ _; omega⟩, ⟨by show 0 ≤ c; omega, q3.2⟩⟩, Nat.zero_le _⟩))
  have hbel := hide (((hb0.mono hT.b3).trans hB1).trans hB2)
  clear hT2 hB1 hB2 hP2
  go_wp2_with (go_at_call 7; refine (num_any _ _).mono ?_; rintro e w3 ⟨rfl, h⟩; subst h)
  go_ret
  exact ⟨by simp, hfin.out, hbel.out⟩

set_option maxHeartbeats 1600000 in
set_option maxRecDepth 100000 in
theorem tokens_revoke (base wb db rb : Nat) (root : Int) (n : Nat) (tk : Bool) (house : ByteArray) (id : Int) (s t : ByteArray) (a b c : Int) (w : World) (hI : Inv w base wb db rb root n tk) (hf : tk = true ∨ n ≤ 100000000000) (q1 : I64 id) (q2 : I64 a) :
    Calls Tryz.prog 9 #[.pointer (some ⟨wb, 0, none⟩), .agg (opV 6 house id s t a b c)] w fun e w' => e = .returned (.bool true) ∧ Inv w' base wb db rb root (n + 1) tk ∧ Below base w w' := by
  obtain ⟨D, ao, cap, ds, hT, hS, hc, hn, htk, hu⟩ := hI
  have hlt := hT.wlt
  have p0 := hT.p0
  have p1 := hT.p1
  have hrt : D.pure.root = root := hT.rt
  have hfew := deeds_few hT.dep hn htk hf
  have hb0 : Below w.heap.size w (w.alloc (.cells (opV 6 house id s t a b c) 37)) := (Below.refl _ _).alloc (Nat.le_refl _) _
  have hT0 := hT.below hb0
  have hD0 := hT0.dep
  have hx0 := hide (show (w.alloc (.cells (opV 6 house id s t a b c) 37)).heap[w.heap.size]? = some (.cells (opV 6 house id s t a b c) 37 (0, 0)) from heap_alloc_new w _)
  have hx1 : ¬ RefFoot rb ao w.heap.size := fun hk => by have := hT.ref.foot_lt _ hk; omega
  have hx2 : ¬ DepFoot db D w.heap.size := fun hk => by have := (hT.dep.foot hk).2; omega
  obtain ⟨E, hE⟩ : ∃ E, E = revokeP (manageF (heldF D.pure house id) (house.toList == s.toList)) D.pure.hs s a := ⟨_, rfl⟩
  have HE := hide hE
  have HE' := hide (show E = revokeE (governsE (roleF root D.clock ds house id) (decide (0 < didF ds kFound s)) (house.toList == s.toList)) (deedF ds kMint s a).isSome (deedF ds kRevoke s a).isSome by rw [hE, revoke_agree hS house id s a, hrt]; rfl)
  clear hE
  go_enter Tryz.func9, Tryz.ntmps9
  go_wp2_with fail
  go_region_held3 (fun w' => w'.cell? ⟨wb, 0, none⟩ = some (.pointer (some ⟨db, 0, none⟩)) ∧ w'.cell? ⟨wb, 1, none⟩ = some (.pointer (some ⟨rb, 0, none⟩)) ∧ w'.cell? ⟨w.heap.size, 1, none⟩ = some (.string house) ∧ w'.cell? ⟨w.heap.size, 2, none⟩ = some (.int .i64 id) ∧ w'.cell? ⟨w.heap.size, 3, none⟩ = some (.string s) ∧ w'.cell? ⟨w.heap.size, 4, none⟩ = some (.string t) ∧ w'.cell? ⟨w.heap.size, 5, none⟩ = some (.int .i64 a) ∧ w'.cell? ⟨w.heap.size, 6, none⟩ = some (.int .i64 b) ∧ w'.cell? ⟨w.heap.size, 7, none⟩ = some (.int .i64 c)) (first | exact HK.out | go_keep) ((go_at_call 22; refine (revoke_any db D house id s a _ ?_ q1 q2 E HE.out).mono ?_; exact hD0.same rfl; rintro e w1 ⟨rfl, hst⟩; have HT1 := hide (two_dstep hT0 hx0.out hx1 hx2 hst (stepP_root rfl rfl) rfl rfl rfl rfl); have HK := hide (after_kept HT1.out); clear hst))
  obtain ⟨D1, ao1, cap1, hT1, hP1, hB1, hy0, hy1, hy2⟩ := HT1.out
  have hR1 := hT1.ref
  have HP1 := hide hP1
  have HY := hide hy0
  clear HT1 HK hP1 hy0
  go_wp2_with fail
  go_region_held3 (fun w' => w'.cell? ⟨wb, 0, none⟩ = some (.pointer (some ⟨db, 0, none⟩)) ∧ w'.cell? ⟨wb, 1, none⟩ = some (.pointer (some ⟨rb, 0, none⟩)) ∧ w'.cell? ⟨w.heap.size, 1, none⟩ = some (.string house) ∧ w'.cell? ⟨w.heap.size, 2, none⟩ = some (.int .i64 id) ∧ w'.cell? ⟨w.heap.size, 3, none⟩ = some (.string s) ∧ w'.cell? ⟨w.heap.size, 4, none⟩ = some (.string t) ∧ w'.cell? ⟨w.heap.size, 5, none⟩ = some (.int .i64 a) ∧ w'.cell? ⟨w.heap.size, 6, none⟩ = some (.int .i64 b) ∧ w'.cell? ⟨w.heap.size, 7, none⟩ = some (.int .i64 c)) (first | exact HK.out | go_keep) ((go_at_call 23; refine (rrevoke_any rb root D.clock ao1 cap1 ds house id s a _ ?_ hfew E HE'.out).mono ?_; exact hR1.same rfl; rintro e w2 ⟨rfl, hst⟩; have HT2 := hide (two_rstep hT1 HY.out hy1 hy2 hst rfl rfl rfl rfl); have HK := hide (after_kept HT2.out); clear hst))
  obtain ⟨D2, ao2, cap2, hT2, hP2, hB2, _, _, _⟩ := HT2.out
  clear HT2 HK
  have hfin := hide (show Inv w2 base wb db rb root (n + 1) tk from by
    have hP := hP2.trans HP1.out
    exact inv_next (D := D) (tk := tk) hT2 hP hS hc hn htk hu rfl (fun he => by obtain ⟨x, t, h1, h2, h3⟩ := revokeP_ok (HE.out ▸ he); exact hS.revoke h1 id a h2) (fun h => h) (fun he _ => by obtain ⟨x, t, h1, h2, h3⟩ := revokeP_ok (HE.out ▸ he); exact weight_upd _ _ _ x h1 (by show (revTok x.toks a).length + goneN (revTok x.toks a) = _; rw [goneN_rev _ _ h2 h3, show (revTok x.toks a).length = x.toks.length from updF_length _ _ _]; omega)) (fun he => by have h1 := revokeP_up (HE.out ▸ he); obtain ⟨x, t, h2, h3, _⟩ := revokeP_ok (HE.out ▸ he); exact ⟨Or.inr ⟨⟨held_up hS hrt hu (manage_held h1), q1.2⟩, tok_up hS hu h2 h3, up_zero, up_zero⟩, Nat.zero_le _⟩))
  have hbel := hide (((hb0.mono hT.b3).trans hB1).trans hB2)
  clear hT2 hB1 hB2 hP2
  go_wp2_with (go_at_call 7; refine (num_any _ _).mono ?_; rintro e w3 ⟨rfl, h⟩; subst h)
  go_ret
  exact ⟨by simp, hfin.out, hbel.out⟩

end Go.Proofs.YtgcldedkempjhabGreatDoor
