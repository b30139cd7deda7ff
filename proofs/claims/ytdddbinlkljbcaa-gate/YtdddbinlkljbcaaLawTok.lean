/-
  depotlaw: num; one step of stage 1 on both depots.
-/
import Derived.Test.YtdddbinlkljbcaaTwo
import Derived.Deep.RegionHeld3
namespace Go.Proofs.Ytdddbinlkljbcaa
open Go.RowKit

set_option maxHeartbeats 400000 in
theorem num_any (n : Int) (w : World) : Calls Try.prog 11 #[.int .i64 n] w fun e w' => e = .returned (.int .i64 n) ∧ w' = w := by
  go_enter Try.func11, Try.ntmps11
  go_wp2
  go_ret
  exact ⟨rfl, rfl⟩

/-- One step, as a value. -/
abbrev opV (kind : Int) (house : ByteArray) (id : Int) (s t : ByteArray) (a b c : Int) : Array Value :=
  #[.int .i64 kind, .string house, .int .i64 id, .string s, .string t, .int .i64 a, .int .i64 b, .int .i64 c]

/-- Behind a step of one of the depots: both, and the step's own box. -/
def After (W w1 : World) (base wb db rb : Nat) (root cD cR : Int) (box : Nat) (c : Array Value) (R : List Hse → List Deed → Prop) : Prop :=
  ∃ ho' hcap' hs' ao' cap' ds', Two w1 base wb db rb root cD cR ho' hcap' hs' ao' cap' ds' ∧ R hs' ds' ∧ Below base W w1 ∧ w1.heap[box]? = some (.cells c 52 (0, 0)) ∧ ¬ RefFoot rb ao' box ∧ ¬ DepFoot db ho' hs' box

theorem two_dstep {W0 W w1 : World} {base wb db rb : Nat} {root cD cD' cR : Int} {ho : Option Addr} {hcap : Nat} {hs : List Hse} {ao : Option Addr} {cap : Nat} {ds : List Deed} {box : Nat} {c : Array Value} {R : List Hse → Prop}
    (hT : Two W0 base wb db rb root cD cR ho hcap hs ao cap ds) (hbox : W0.heap[box]? = some (.cells c 52 (0, 0))) (hnr : ¬ RefFoot rb ao box) (hnd : ¬ DepFoot db ho hs box) (hst : DepStep W w1 db root cD' ho hs R)
    (h0 : W.heap = W0.heap) (h1 : W.os = W0.os) (h2 : W.tape = W0.tape) (h3 : W.output = W0.output) :
    After W0 w1 base wb db rb root cD' cR box c (fun hs' ds' => R hs' ∧ ds' = ds) := by
  obtain ⟨ho', hcap', hs', hD, hR, hC, hF⟩ := hst
  have hC' := hC.start_of h0 h1 h2 h3
  rw [h0] at hF
  have hlt : box < W0.heap.size := (Array.getElem?_eq_some_iff.1 hbox).1
  obtain ⟨hT1, hB⟩ := hT.dstep hD hC' hF
  refine ⟨ho', hcap', hs', ao, cap, ds, hT1, ⟨hR, rfl⟩, hB, ?_, hnr, ?_⟩
  · rw [hC'.block box hlt hnd, hbox]
  · intro hk
    rcases hF box hk with h | h
    · exact hnd h
    · omega

theorem two_rstep {W0 W w1 : World} {base wb db rb : Nat} {root cD cR cR' : Int} {ho : Option Addr} {hcap : Nat} {hs : List Hse} {ao : Option Addr} {cap : Nat} {ds ds' : List Deed} {box : Nat} {c : Array Value}
    (hT : Two W0 base wb db rb root cD cR ho hcap hs ao cap ds) (hbox : W0.heap[box]? = some (.cells c 52 (0, 0))) (hnr : ¬ RefFoot rb ao box) (hnd : ¬ DepFoot db ho hs box) (hst : RefStep W w1 rb root cR' ao ds')
    (h0 : W.heap = W0.heap) (h1 : W.os = W0.os) (h2 : W.tape = W0.tape) (h3 : W.output = W0.output) :
    After W0 w1 base wb db rb root cD cR' box c (fun hs' dx => hs' = hs ∧ dx = ds') := by
  obtain ⟨ao', cap', hD, hC, hF⟩ := hst
  have hC' := hC.start_of h0 h1 h2 h3
  rw [h0] at hF
  have hlt : box < W0.heap.size := (Array.getElem?_eq_some_iff.1 hbox).1
  obtain ⟨hT1, hB⟩ := hT.rstep hD hC' hF
  refine ⟨ho, hcap, hs, ao', cap', ds', hT1, ⟨rfl, rfl⟩, hB, ?_, ?_, hnd⟩
  · rw [hC'.block box hlt hnr, hbox]
  · intro hk
    rcases hF box hk with h | h
    · exact hnr h
    · omega

theorem after_kept {W w1 : World} {base wb db rb : Nat} {root cD cR : Int} {box : Nat} {R : List Hse → List Deed → Prop} {kind : Int} {house : ByteArray} {id : Int} {s t : ByteArray} {a b c : Int}
    (h : After W w1 base wb db rb root cD cR box (opV kind house id s t a b c) R) :
    w1.cell? ⟨wb, 0, none⟩ = some (.pointer (some ⟨db, 0, none⟩)) ∧ w1.cell? ⟨wb, 1, none⟩ = some (.pointer (some ⟨rb, 0, none⟩)) ∧ w1.cell? ⟨box, 1, none⟩ = some (.string house) ∧ w1.cell? ⟨box, 2, none⟩ = some (.int .i64 id) ∧ w1.cell? ⟨box, 3, none⟩ = some (.string s) ∧ w1.cell? ⟨box, 4, none⟩ = some (.string t) ∧
      w1.cell? ⟨box, 5, none⟩ = some (.int .i64 a) ∧ w1.cell? ⟨box, 6, none⟩ = some (.int .i64 b) ∧ w1.cell? ⟨box, 7, none⟩ = some (.int .i64 c) := by
  obtain ⟨ho', hcap', hs', ao', cap', ds', hT1, _, _, hb, _⟩ := h
  exact ⟨hT1.p0, hT1.p1, (cell_of_heap hb 1).trans rfl, (cell_of_heap hb 2).trans rfl, (cell_of_heap hb 3).trans rfl, (cell_of_heap hb 4).trans rfl, (cell_of_heap hb 5).trans rfl, (cell_of_heap hb 6).trans rfl, (cell_of_heap hb 7).trans rfl⟩

theorem step_of_below {W w1 : World} {db : Nat} {root clock : Int} {ho : Option Addr} {hcap : Nat} {hs : List Hse} (hr : DepAt W db root clock ho hcap hs) (hb : Below W.heap.size W w1) : DepStep W w1 db root clock ho hs (fun hs' => hs' = hs) := DepStep.ofBelow hr hb rfl

theorem step_of_tick {W w1 : World} {db : Nat} {root clock : Int} {ho : Option Addr} {hcap : Nat} {hs : List Hse} (hr : DepAt w1 db root clock ho hcap hs) (hc : Chg (DepFoot db ho hs) W w1) : DepStep W w1 db root clock ho hs (fun hs' => hs' = hs) :=
  ⟨ho, hcap, hs, hr, rfl, hc, fun _ h => Or.inl h⟩

theorem rstep_of_tick {W w1 : World} {rb : Nat} {root time : Int} {ao : Option Addr} {cap : Nat} {ds : List Deed} (hr : RefAt w1 rb root time ao cap ds) (hc : Chg (RefFoot rb ao) W w1) : RefStep W w1 rb root time ao ds :=
  ⟨ao, cap, hr, hc, fun _ h => Or.inl h⟩

theorem tickF_bounds {c n : Int} (h0 : 0 ≤ c) (h1 : c ≤ 1099511627776) (hn : 0 ≤ n) : 0 ≤ tickF c n ∧ tickF c n ≤ 1099511627776 := by unfold tickF; split <;> omega

/- The contracts of Tick and May in the form of a step. -/
theorem tickno_dep (db : Nat) (root clock : Int) (ho : Option Addr) (hcap : Nat) (hs : List Hse) (n : Int) (w : World) (hr : DepAt w db root clock ho hcap hs) (h : n < 0) :
    Calls Try.prog 22 #[.pointer (some ⟨db, 0, none⟩), .int .i64 n] w fun e w' => e = .returned (.int .i64 1) ∧ DepStep w w' db root clock ho hs (fun hs' => hs' = hs) := by
  refine (tick_no db n w h).mono ?_
  rintro e w' ⟨rfl, rfl⟩
  exact ⟨rfl, step_of_below hr (Below.refl _ _)⟩

theorem tickyes_dep (db : Nat) (root clock : Int) (ho : Option Addr) (hcap : Nat) (hs : List Hse) (n : Int) (w : World) (hr : DepAt w db root clock ho hcap hs) (h : 0 ≤ n) (hn : n ≤ 9223372036854775807) (ht0 : 0 ≤ clock) (ht : clock ≤ 1099511627776) :
    Calls Try.prog 22 #[.pointer (some ⟨db, 0, none⟩), .int .i64 n] w fun e w' => e = .returned (.int .i64 0) ∧ DepStep w w' db root (tickF clock n) ho hs (fun hs' => hs' = hs) := by
  refine (tick_yes db root clock ho hcap hs n w hr h hn ht0 ht).mono ?_
  rintro e w' ⟨rfl, h1, h2⟩
  exact ⟨rfl, step_of_tick h1 h2⟩

theorem tickno_ref (rb : Nat) (root time : Int) (ao : Option Addr) (cap : Nat) (ds : List Deed) (n : Int) (w : World) (hr : RefAt w rb root time ao cap ds) (h : n < 0) :
    Calls Try.prog 43 #[.pointer (some ⟨rb, 0, none⟩), .int .i64 n] w fun e w' => e = .returned (.int .i64 1) ∧ RefStep w w' rb root time ao ds := by
  refine (rtick_no rb n w h).mono ?_
  rintro e w' ⟨rfl, rfl⟩
  exact ⟨rfl, RefStep.ofBelow hr (Below.refl _ _)⟩

theorem tickyes_ref (rb : Nat) (root time : Int) (ao : Option Addr) (cap : Nat) (ds : List Deed) (n : Int) (w : World) (hr : RefAt w rb root time ao cap ds) (h : 0 ≤ n) (hn : n ≤ 9223372036854775807) (ht0 : 0 ≤ time) (ht : time ≤ 1099511627776) :
    Calls Try.prog 43 #[.pointer (some ⟨rb, 0, none⟩), .int .i64 n] w fun e w' => e = .returned (.int .i64 0) ∧ RefStep w w' rb root (tickF time n) ao ds := by
  refine (rtick_yes rb root time ao cap ds n w hr h hn ht0 ht).mono ?_
  rintro e w' ⟨rfl, h1, h2⟩
  exact ⟨rfl, rstep_of_tick h1 h2⟩

theorem may_dep (db : Nat) (root clock : Int) (ho : Option Addr) (hcap : Nat) (hs : List Hse) (house : ByteArray) (id : Int) (w : World) (hr : DepAt w db root clock ho hcap hs) (r1 r2 : Int) (hE : (r1, r2) = mayF (heldF root clock hs house id)) :
    Calls Try.prog 36 #[.pointer (some ⟨db, 0, none⟩), .string house, .int .i64 id] w fun e w' => e = .returned (.tuple #[.int .i64 r1, .int .i64 r2]) ∧ DepStep w w' db root clock ho hs (fun hs' => hs' = hs) := by
  refine (may_any db root clock ho hcap hs house id w hr).mono ?_
  rintro e w' ⟨rfl, hb⟩
  rw [← hE]
  exact ⟨rfl, step_of_below hr hb⟩

theorem may_ref (rb : Nat) (root time : Int) (ao : Option Addr) (cap : Nat) (ds : List Deed) (house : ByteArray) (id : Int) (w : World) (hr : RefAt w rb root time ao cap ds) (hlen : ds.length ≤ 1000000000000) (r1 r2 : Int) (hE : (r1, r2) = mayF (roleF root time ds house id)) :
    Calls Try.prog 45 #[.pointer (some ⟨rb, 0, none⟩), .string house, .int .i64 id] w fun e w' => e = .returned (.tuple #[.int .i64 r1, .int .i64 r2]) ∧ RefStep w w' rb root time ao ds := by
  refine (rmay_any rb root time ao cap ds house id w hr hlen).mono ?_
  rintro e w' ⟨rfl, hb⟩
  rw [← hE]
  exact ⟨rfl, RefStep.ofBelow hr hb⟩

set_option maxHeartbeats 800000 in
set_option maxRecDepth 100000 in
theorem tokens_clock (base wb db rb : Nat) (root : Int) (house : ByteArray) (id : Int) (s t : ByteArray) (a b c : Int) (w : World) (hI : Inv w base wb db rb root) :
    Calls Try.prog 27 #[.pointer (some ⟨wb, 0, none⟩), .agg (opV 2 house id s t a b c)] w fun e w' => e = .returned (.bool true) ∧ Inv w' base wb db rb root ∧ Below base w w' := by
  obtain ⟨clk, ho, hcap, hs, ao, cap, ds, hT, hS, hc0, hc1⟩ := hI
  have hlt := hT.wlt
  have p0 := hT.p0
  have p1 := hT.p1
  have hb0 : Below w.heap.size w (w.alloc (.cells (opV 2 house id s t a b c) 52)) := (Below.refl _ _).alloc (Nat.le_refl _) _
  have hT0 := hT.below hb0
  go_enter Try.func27, Try.ntmps27
  go_wp2_with fail
  refine (clock_any db root clk ho hcap hs _ hT0.dep).mono ?_
  rintro e w1 ⟨rfl, h⟩
  subst h
  go_wp2_with fail
  refine (rclock_any rb root clk ao cap ds _ hT0.ref).mono ?_
  rintro e w1 ⟨rfl, h⟩
  subst h
  go_wp2_with fail
  go_ret
  exact ⟨by simp, ⟨clk, ho, hcap, hs, ao, cap, ds, hT0, hS, hc0, hc1⟩, hb0.mono hT.b3⟩

set_option maxHeartbeats 800000 in
set_option maxRecDepth 100000 in
theorem tokens_tick_no (base wb db rb : Nat) (root : Int) (house : ByteArray) (id : Int) (s t : ByteArray) (a b c : Int) (w : World) (hI : Inv w base wb db rb root) (ha : a < 0) :
    Calls Try.prog 27 #[.pointer (some ⟨wb, 0, none⟩), .agg (opV 1 house id s t a b c)] w fun e w' => e = .returned (.bool true) ∧ Inv w' base wb db rb root ∧ Below base w w' := by
  obtain ⟨clk, ho, hcap, hs, ao, cap, ds, hT, hS, hc0, hc1⟩ := hI
  have hlt := hT.wlt
  have p0 := hT.p0
  have p1 := hT.p1
  have hfew := deeds_few hT.dep hS
  have hb0 : Below w.heap.size w (w.alloc (.cells (opV 1 house id s t a b c) 52)) := (Below.refl _ _).alloc (Nat.le_refl _) _
  have hT0 := hT.below hb0
  have hD0 := hT0.dep
  have hx0 := hide (show (w.alloc (.cells (opV 1 house id s t a b c) 52)).heap[w.heap.size]? = some (.cells (opV 1 house id s t a b c) 52 (0, 0)) from heap_alloc_new w _)
  have hx1 : ¬ RefFoot rb ao w.heap.size := fun hk => by have := hT.ref.foot_lt _ hk; omega
  have hx2 : ¬ DepFoot db ho hs w.heap.size := fun hk => by have := (hT.dep.foot hk).2; omega
  go_enter Try.func27, Try.ntmps27
  go_wp2_with fail
  go_region_held3 (fun w' => w'.cell? ⟨wb, 0, none⟩ = some (.pointer (some ⟨db, 0, none⟩)) ∧ w'.cell? ⟨wb, 1, none⟩ = some (.pointer (some ⟨rb, 0, none⟩)) ∧ w'.cell? ⟨w.heap.size, 1, none⟩ = some (.string house) ∧ w'.cell? ⟨w.heap.size, 2, none⟩ = some (.int .i64 id) ∧ w'.cell? ⟨w.heap.size, 3, none⟩ = some (.string s) ∧ w'.cell? ⟨w.heap.size, 4, none⟩ = some (.string t) ∧ w'.cell? ⟨w.heap.size, 5, none⟩ = some (.int .i64 a) ∧ w'.cell? ⟨w.heap.size, 6, none⟩ = some (.int .i64 b) ∧ w'.cell? ⟨w.heap.size, 7, none⟩ = some (.int .i64 c)) (first | exact HK.out | go_keep) ((go_at_call 22; refine (tickno_dep db root clk ho hcap hs a _ ?_ ha).mono ?_; exact hD0.same rfl; rintro e w1 ⟨rfl, hst⟩; have HT1 := hide (two_dstep hT0 hx0.out hx1 hx2 hst rfl rfl rfl rfl); have HK := hide (after_kept HT1.out); clear hst))
  obtain ⟨ho1, hcap1, hs1, ao1, cap1, ds1, hT1, ⟨hR, hds⟩, hB1, hy0, hy1, hy2⟩ := HT1.out
  subst hds
  have hR1 := hT1.ref
  have HR := hide hR
  have HY := hide hy0
  clear HT1 HK hR hy0
  go_wp2_with fail
  go_region_held3 (fun w' => w'.cell? ⟨wb, 0, none⟩ = some (.pointer (some ⟨db, 0, none⟩)) ∧ w'.cell? ⟨wb, 1, none⟩ = some (.pointer (some ⟨rb, 0, none⟩)) ∧ w'.cell? ⟨w.heap.size, 1, none⟩ = some (.string house) ∧ w'.cell? ⟨w.heap.size, 2, none⟩ = some (.int .i64 id) ∧ w'.cell? ⟨w.heap.size, 3, none⟩ = some (.string s) ∧ w'.cell? ⟨w.heap.size, 4, none⟩ = some (.string t) ∧ w'.cell? ⟨w.heap.size, 5, none⟩ = some (.int .i64 a) ∧ w'.cell? ⟨w.heap.size, 6, none⟩ = some (.int .i64 b) ∧ w'.cell? ⟨w.heap.size, 7, none⟩ = some (.int .i64 c)) (first | exact HK.out | go_keep) ((go_at_call 43; refine (tickno_ref rb root clk ao1 cap1 ds1 a _ ?_ ha).mono ?_; exact hR1.same rfl; rintro e w2 ⟨rfl, hst⟩; have HT2 := hide (two_rstep hT1 HY.out hy1 hy2 hst rfl rfl rfl rfl); have HK := hide (after_kept HT2.out); clear hst))
  obtain ⟨ho2, hcap2, hs2, ao2, cap2, ds2, hT2, ⟨hs2e, hd2e⟩, hB2, _, _, _⟩ := HT2.out
  clear HT2 HK
  have hfin := hide (show Inv w2 base wb db rb root from by
    subst hs2e
    subst hd2e
    obtain rfl := HR.out
    exact ⟨clk, _, _, _, _, _, _, hT2, hS, hc0, hc1⟩)
  have hbel := hide (((hb0.mono hT.b3).trans hB1).trans hB2)
  clear hT2 hB1 hB2 hs2e hd2e
  go_wp2_with (go_at_call 11; refine (num_any _ _).mono ?_; rintro e w3 ⟨rfl, h⟩; subst h)
  go_ret
  exact ⟨by simp, hfin.out, hbel.out⟩

set_option maxHeartbeats 800000 in
set_option maxRecDepth 100000 in
theorem tokens_tick (base wb db rb : Nat) (root : Int) (house : ByteArray) (id : Int) (s t : ByteArray) (a b c : Int) (w : World) (hI : Inv w base wb db rb root) (ha : 0 ≤ a) (ha2 : a ≤ 9223372036854775807) :
    Calls Try.prog 27 #[.pointer (some ⟨wb, 0, none⟩), .agg (opV 1 house id s t a b c)] w fun e w' => e = .returned (.bool true) ∧ Inv w' base wb db rb root ∧ Below base w w' := by
  obtain ⟨clk, ho, hcap, hs, ao, cap, ds, hT, hS, hc0, hc1⟩ := hI
  have hlt := hT.wlt
  have p0 := hT.p0
  have p1 := hT.p1
  have hfew := deeds_few hT.dep hS
  have hb0 : Below w.heap.size w (w.alloc (.cells (opV 1 house id s t a b c) 52)) := (Below.refl _ _).alloc (Nat.le_refl _) _
  have hT0 := hT.below hb0
  have hD0 := hT0.dep
  have hx0 := hide (show (w.alloc (.cells (opV 1 house id s t a b c) 52)).heap[w.heap.size]? = some (.cells (opV 1 house id s t a b c) 52 (0, 0)) from heap_alloc_new w _)
  have hx1 : ¬ RefFoot rb ao w.heap.size := fun hk => by have := hT.ref.foot_lt _ hk; omega
  have hx2 : ¬ DepFoot db ho hs w.heap.size := fun hk => by have := (hT.dep.foot hk).2; omega
  have HB := hide (tickF_bounds hc0 hc1 ha)
  go_enter Try.func27, Try.ntmps27
  go_wp2_with fail
  go_region_held3 (fun w' => w'.cell? ⟨wb, 0, none⟩ = some (.pointer (some ⟨db, 0, none⟩)) ∧ w'.cell? ⟨wb, 1, none⟩ = some (.pointer (some ⟨rb, 0, none⟩)) ∧ w'.cell? ⟨w.heap.size, 1, none⟩ = some (.string house) ∧ w'.cell? ⟨w.heap.size, 2, none⟩ = some (.int .i64 id) ∧ w'.cell? ⟨w.heap.size, 3, none⟩ = some (.string s) ∧ w'.cell? ⟨w.heap.size, 4, none⟩ = some (.string t) ∧ w'.cell? ⟨w.heap.size, 5, none⟩ = some (.int .i64 a) ∧ w'.cell? ⟨w.heap.size, 6, none⟩ = some (.int .i64 b) ∧ w'.cell? ⟨w.heap.size, 7, none⟩ = some (.int .i64 c)) (first | exact HK.out | go_keep) ((go_at_call 22; refine (tickyes_dep db root clk ho hcap hs a _ ?_ ha ha2 hc0 hc1).mono ?_; exact hD0.same rfl; rintro e w1 ⟨rfl, hst⟩; have HT1 := hide (two_dstep hT0 hx0.out hx1 hx2 hst rfl rfl rfl rfl); have HK := hide (after_kept HT1.out); clear hst))
  obtain ⟨ho1, hcap1, hs1, ao1, cap1, ds1, hT1, ⟨hR, hds⟩, hB1, hy0, hy1, hy2⟩ := HT1.out
  subst hds
  have hR1 := hT1.ref
  have HR := hide hR
  have HY := hide hy0
  clear HT1 HK hR hy0
  go_wp2_with fail
  go_region_held3 (fun w' => w'.cell? ⟨wb, 0, none⟩ = some (.pointer (some ⟨db, 0, none⟩)) ∧ w'.cell? ⟨wb, 1, none⟩ = some (.pointer (some ⟨rb, 0, none⟩)) ∧ w'.cell? ⟨w.heap.size, 1, none⟩ = some (.string house) ∧ w'.cell? ⟨w.heap.size, 2, none⟩ = some (.int .i64 id) ∧ w'.cell? ⟨w.heap.size, 3, none⟩ = some (.string s) ∧ w'.cell? ⟨w.heap.size, 4, none⟩ = some (.string t) ∧ w'.cell? ⟨w.heap.size, 5, none⟩ = some (.int .i64 a) ∧ w'.cell? ⟨w.heap.size, 6, none⟩ = some (.int .i64 b) ∧ w'.cell? ⟨w.heap.size, 7, none⟩ = some (.int .i64 c)) (first | exact HK.out | go_keep) ((go_at_call 43; refine (tickyes_ref rb root clk ao1 cap1 ds1 a _ ?_ ha ha2 hc0 hc1).mono ?_; exact hR1.same rfl; rintro e w2 ⟨rfl, hst⟩; have HT2 := hide (two_rstep hT1 HY.out hy1 hy2 hst rfl rfl rfl rfl); have HK := hide (after_kept HT2.out); clear hst))
  obtain ⟨ho2, hcap2, hs2, ao2, cap2, ds2, hT2, ⟨hs2e, hd2e⟩, hB2, _, _, _⟩ := HT2.out
  clear HT2 HK
  have hfin := hide (show Inv w2 base wb db rb root from by
    subst hs2e
    subst hd2e
    obtain rfl := HR.out
    exact ⟨tickF clk a, _, _, _, _, _, _, hT2, hS, HB.out.1, HB.out.2⟩)
  have hbel := hide (((hb0.mono hT.b3).trans hB1).trans hB2)
  clear hT2 hB1 hB2 hs2e hd2e
  go_wp2_with (go_at_call 11; refine (num_any _ _).mono ?_; rintro e w3 ⟨rfl, h⟩; subst h)
  go_ret
  exact ⟨by simp, hfin.out, hbel.out⟩

set_option maxHeartbeats 800000 in
set_option maxRecDepth 100000 in
theorem tokens_may (base wb db rb : Nat) (root : Int) (house : ByteArray) (id : Int) (s t : ByteArray) (a b c : Int) (w : World) (hI : Inv w base wb db rb root) :
    Calls Try.prog 27 #[.pointer (some ⟨wb, 0, none⟩), .agg (opV 3 house id s t a b c)] w fun e w' => e = .returned (.bool true) ∧ Inv w' base wb db rb root ∧ Below base w w' := by
  obtain ⟨clk, ho, hcap, hs, ao, cap, ds, hT, hS, hc0, hc1⟩ := hI
  have hlt := hT.wlt
  have p0 := hT.p0
  have p1 := hT.p1
  have hfew := deeds_few hT.dep hS
  have hb0 : Below w.heap.size w (w.alloc (.cells (opV 3 house id s t a b c) 52)) := (Below.refl _ _).alloc (Nat.le_refl _) _
  have hT0 := hT.below hb0
  have hD0 := hT0.dep
  have hx0 := hide (show (w.alloc (.cells (opV 3 house id s t a b c) 52)).heap[w.heap.size]? = some (.cells (opV 3 house id s t a b c) 52 (0, 0)) from heap_alloc_new w _)
  have hx1 : ¬ RefFoot rb ao w.heap.size := fun hk => by have := hT.ref.foot_lt _ hk; omega
  have hx2 : ¬ DepFoot db ho hs w.heap.size := fun hk => by have := (hT.dep.foot hk).2; omega
  obtain ⟨r, hr⟩ : ∃ r, r = mayF (heldF root clk hs house id) := ⟨_, rfl⟩
  have HE := hide hr
  have HE' := hide (hr.trans (by rw [role_agree hS]))
  clear hr
  obtain ⟨r1, r2⟩ := r
  go_enter Try.func27, Try.ntmps27
  go_wp2_with fail
  go_region_held3 (fun w' => w'.cell? ⟨wb, 0, none⟩ = some (.pointer (some ⟨db, 0, none⟩)) ∧ w'.cell? ⟨wb, 1, none⟩ = some (.pointer (some ⟨rb, 0, none⟩)) ∧ w'.cell? ⟨w.heap.size, 1, none⟩ = some (.string house) ∧ w'.cell? ⟨w.heap.size, 2, none⟩ = some (.int .i64 id) ∧ w'.cell? ⟨w.heap.size, 3, none⟩ = some (.string s) ∧ w'.cell? ⟨w.heap.size, 4, none⟩ = some (.string t) ∧ w'.cell? ⟨w.heap.size, 5, none⟩ = some (.int .i64 a) ∧ w'.cell? ⟨w.heap.size, 6, none⟩ = some (.int .i64 b) ∧ w'.cell? ⟨w.heap.size, 7, none⟩ = some (.int .i64 c)) (first | exact HK.out | go_keep) ((go_at_call 36; refine (may_dep db root clk ho hcap hs house id _ ?_ r1 r2 HE.out).mono ?_; exact hD0.same rfl; rintro e w1 ⟨rfl, hst⟩; have HT1 := hide (two_dstep hT0 hx0.out hx1 hx2 hst rfl rfl rfl rfl); have HK := hide (after_kept HT1.out); clear hst))
  obtain ⟨ho1, hcap1, hs1, ao1, cap1, ds1, hT1, ⟨hR, hds⟩, hB1, hy0, hy1, hy2⟩ := HT1.out
  subst hds
  have hR1 := hT1.ref
  have HR := hide hR
  have HY := hide hy0
  clear HT1 HK hR hy0
  go_wp2_with fail
  go_region_held3 (fun w' => w'.cell? ⟨wb, 0, none⟩ = some (.pointer (some ⟨db, 0, none⟩)) ∧ w'.cell? ⟨wb, 1, none⟩ = some (.pointer (some ⟨rb, 0, none⟩)) ∧ w'.cell? ⟨w.heap.size, 1, none⟩ = some (.string house) ∧ w'.cell? ⟨w.heap.size, 2, none⟩ = some (.int .i64 id) ∧ w'.cell? ⟨w.heap.size, 3, none⟩ = some (.string s) ∧ w'.cell? ⟨w.heap.size, 4, none⟩ = some (.string t) ∧ w'.cell? ⟨w.heap.size, 5, none⟩ = some (.int .i64 a) ∧ w'.cell? ⟨w.heap.size, 6, none⟩ = some (.int .i64 b) ∧ w'.cell? ⟨w.heap.size, 7, none⟩ = some (.int .i64 c)) (first | exact HK.out | go_keep) ((go_at_call 45; refine (may_ref rb root clk ao1 cap1 ds1 house id _ ?_ hfew r1 r2 HE'.out).mono ?_; exact hR1.same rfl; rintro e w2 ⟨rfl, hst⟩; have HT2 := hide (two_rstep hT1 HY.out hy1 hy2 hst rfl rfl rfl rfl); have HK := hide (after_kept HT2.out); clear hst))
  obtain ⟨ho2, hcap2, hs2, ao2, cap2, ds2, hT2, ⟨hs2e, hd2e⟩, hB2, _, _, _⟩ := HT2.out
  clear HT2 HK
  have hfin := hide (show Inv w2 base wb db rb root from by
    subst hs2e
    subst hd2e
    obtain rfl := HR.out
    exact ⟨clk, _, _, _, _, _, _, hT2, hS, hc0, hc1⟩)
  have hbel := hide (((hb0.mono hT.b3).trans hB1).trans hB2)
  clear hT2 hB1 hB2 hs2e hd2e
  go_wp2_with (go_at_call 11; refine (num_any _ _).mono ?_; rintro e w3 ⟨rfl, h⟩; subst h)
  go_ret
  exact ⟨by simp, hfin.out, hbel.out⟩

set_option maxHeartbeats 800000 in
set_option maxRecDepth 100000 in
theorem tokens_found (base wb db rb : Nat) (root : Int) (house : ByteArray) (id : Int) (s t : ByteArray) (a b c : Int) (w : World) (hI : Inv w base wb db rb root) :
    Calls Try.prog 27 #[.pointer (some ⟨wb, 0, none⟩), .agg (opV 4 house id s t a b c)] w fun e w' => e = .returned (.bool true) ∧ Inv w' base wb db rb root ∧ Below base w w' := by
  obtain ⟨clk, ho, hcap, hs, ao, cap, ds, hT, hS, hc0, hc1⟩ := hI
  have hlt := hT.wlt
  have p0 := hT.p0
  have p1 := hT.p1
  have hfew := deeds_few hT.dep hS
  have hb0 : Below w.heap.size w (w.alloc (.cells (opV 4 house id s t a b c) 52)) := (Below.refl _ _).alloc (Nat.le_refl _) _
  have hT0 := hT.below hb0
  have hD0 := hT0.dep
  have hx0 := hide (show (w.alloc (.cells (opV 4 house id s t a b c) 52)).heap[w.heap.size]? = some (.cells (opV 4 house id s t a b c) 52 (0, 0)) from heap_alloc_new w _)
  have hx1 : ¬ RefFoot rb ao w.heap.size := fun hk => by have := hT.ref.foot_lt _ hk; omega
  have hx2 : ¬ DepFoot db ho hs w.heap.size := fun hk => by have := (hT.dep.foot hk).2; omega
  obtain ⟨E, hE⟩ : ∃ E, E = foundP (heldF root clk hs house id) (wordF s) (hseF hs s).isSome hs.length := ⟨_, rfl⟩
  have HE := hide hE
  have HE' := hide (hE.trans ((found_agree hS hT.dep.len _ _ s).trans (by rw [role_agree hS])))
  clear hE
  go_enter Try.func27, Try.ntmps27
  go_wp2_with fail
  go_region_held3 (fun w' => w'.cell? ⟨wb, 0, none⟩ = some (.pointer (some ⟨db, 0, none⟩)) ∧ w'.cell? ⟨wb, 1, none⟩ = some (.pointer (some ⟨rb, 0, none⟩)) ∧ w'.cell? ⟨w.heap.size, 1, none⟩ = some (.string house) ∧ w'.cell? ⟨w.heap.size, 2, none⟩ = some (.int .i64 id) ∧ w'.cell? ⟨w.heap.size, 3, none⟩ = some (.string s) ∧ w'.cell? ⟨w.heap.size, 4, none⟩ = some (.string t) ∧ w'.cell? ⟨w.heap.size, 5, none⟩ = some (.int .i64 a) ∧ w'.cell? ⟨w.heap.size, 6, none⟩ = some (.int .i64 b) ∧ w'.cell? ⟨w.heap.size, 7, none⟩ = some (.int .i64 c)) (first | exact HK.out | go_keep) ((go_at_call 13; refine (found_any db root clk ho hcap hs house id s _ ?_ E HE.out).mono ?_; exact hD0.same rfl; rintro e w1 ⟨rfl, hst⟩; have HT1 := hide (two_dstep hT0 hx0.out hx1 hx2 hst rfl rfl rfl rfl); have HK := hide (after_kept HT1.out); clear hst))
  obtain ⟨ho1, hcap1, hs1, ao1, cap1, ds1, hT1, ⟨hR, hds⟩, hB1, hy0, hy1, hy2⟩ := HT1.out
  subst hds
  have hR1 := hT1.ref
  have HR := hide hR
  have HY := hide hy0
  clear HT1 HK hR hy0
  go_wp2_with fail
  go_region_held3 (fun w' => w'.cell? ⟨wb, 0, none⟩ = some (.pointer (some ⟨db, 0, none⟩)) ∧ w'.cell? ⟨wb, 1, none⟩ = some (.pointer (some ⟨rb, 0, none⟩)) ∧ w'.cell? ⟨w.heap.size, 1, none⟩ = some (.string house) ∧ w'.cell? ⟨w.heap.size, 2, none⟩ = some (.int .i64 id) ∧ w'.cell? ⟨w.heap.size, 3, none⟩ = some (.string s) ∧ w'.cell? ⟨w.heap.size, 4, none⟩ = some (.string t) ∧ w'.cell? ⟨w.heap.size, 5, none⟩ = some (.int .i64 a) ∧ w'.cell? ⟨w.heap.size, 6, none⟩ = some (.int .i64 b) ∧ w'.cell? ⟨w.heap.size, 7, none⟩ = some (.int .i64 c)) (first | exact HK.out | go_keep) ((go_at_call 46; refine (rfound_any rb root clk ao1 cap1 ds1 house id s _ ?_ hfew E HE'.out).mono ?_; exact hR1.same rfl; rintro e w2 ⟨rfl, hst⟩; have HT2 := hide (two_rstep hT1 HY.out hy1 hy2 hst rfl rfl rfl rfl); have HK := hide (after_kept HT2.out); clear hst))
  obtain ⟨ho2, hcap2, hs2, ao2, cap2, ds2, hT2, ⟨hs2e, hd2e⟩, hB2, _, _, _⟩ := HT2.out
  clear HT2 HK
  have hfin := hide (show Inv w2 base wb db rb root from by
    subst hs2e
    subst hd2e
    rcases HR.out with ⟨he, rfl⟩ | ⟨he, h, h1, h2, rfl⟩
    · rw [nextDs_no he] at hT2
      exact ⟨clk, _, _, _, _, _, _, hT2, hS, hc0, hc1⟩
    · have hno := foundP_ok (HE.out ▸ he)
      rw [he, nextDs_yes] at hT2
      exact ⟨clk, _, _, _, _, _, _, hT2, hS.found h1 h2 hno, hc0, hc1⟩)
  have hbel := hide (((hb0.mono hT.b3).trans hB1).trans hB2)
  clear hT2 hB1 hB2 hs2e hd2e
  go_wp2_with (go_at_call 11; refine (num_any _ _).mono ?_; rintro e w3 ⟨rfl, h⟩; subst h)
  go_ret
  exact ⟨by simp, hfin.out, hbel.out⟩

set_option maxHeartbeats 800000 in
set_option maxRecDepth 100000 in
theorem tokens_mint (base wb db rb : Nat) (root : Int) (house : ByteArray) (id : Int) (s t : ByteArray) (a b c : Int) (w : World) (hI : Inv w base wb db rb root) :
    Calls Try.prog 27 #[.pointer (some ⟨wb, 0, none⟩), .agg (opV 5 house id s t a b c)] w fun e w' => e = .returned (.bool true) ∧ Inv w' base wb db rb root ∧ Below base w w' := by
  obtain ⟨clk, ho, hcap, hs, ao, cap, ds, hT, hS, hc0, hc1⟩ := hI
  have hlt := hT.wlt
  have p0 := hT.p0
  have p1 := hT.p1
  have hfew := deeds_few hT.dep hS
  have hb0 : Below w.heap.size w (w.alloc (.cells (opV 5 house id s t a b c) 52)) := (Below.refl _ _).alloc (Nat.le_refl _) _
  have hT0 := hT.below hb0
  have hD0 := hT0.dep
  have hx0 := hide (show (w.alloc (.cells (opV 5 house id s t a b c) 52)).heap[w.heap.size]? = some (.cells (opV 5 house id s t a b c) 52 (0, 0)) from heap_alloc_new w _)
  have hx1 : ¬ RefFoot rb ao w.heap.size := fun hk => by have := hT.ref.foot_lt _ hk; omega
  have hx2 : ¬ DepFoot db ho hs w.heap.size := fun hk => by have := (hT.dep.foot hk).2; omega
  obtain ⟨E, hE⟩ : ∃ E, E = mintP (manageF (heldF root clk hs house id) (house.toList == s.toList)) hs s a b c := ⟨_, rfl⟩
  have HE := hide hE
  have HE' := hide (hE.trans (mint_agree hS hT.dep.tlen root clk house id s a b c))
  clear hE
  go_enter Try.func27, Try.ntmps27
  go_wp2_with fail
  go_region_held3 (fun w' => w'.cell? ⟨wb, 0, none⟩ = some (.pointer (some ⟨db, 0, none⟩)) ∧ w'.cell? ⟨wb, 1, none⟩ = some (.pointer (some ⟨rb, 0, none⟩)) ∧ w'.cell? ⟨w.heap.size, 1, none⟩ = some (.string house) ∧ w'.cell? ⟨w.heap.size, 2, none⟩ = some (.int .i64 id) ∧ w'.cell? ⟨w.heap.size, 3, none⟩ = some (.string s) ∧ w'.cell? ⟨w.heap.size, 4, none⟩ = some (.string t) ∧ w'.cell? ⟨w.heap.size, 5, none⟩ = some (.int .i64 a) ∧ w'.cell? ⟨w.heap.size, 6, none⟩ = some (.int .i64 b) ∧ w'.cell? ⟨w.heap.size, 7, none⟩ = some (.int .i64 c)) (first | exact HK.out | go_keep) ((go_at_call 14; refine (mint_any db root clk ho hcap hs house id s a b c _ ?_ E HE.out).mono ?_; exact hD0.same rfl; rintro e w1 ⟨rfl, hst⟩; have HT1 := hide (two_dstep hT0 hx0.out hx1 hx2 hst rfl rfl rfl rfl); have HK := hide (after_kept HT1.out); clear hst))
  obtain ⟨ho1, hcap1, hs1, ao1, cap1, ds1, hT1, ⟨hR, hds⟩, hB1, hy0, hy1, hy2⟩ := HT1.out
  subst hds
  have hR1 := hT1.ref
  have HR := hide hR
  have HY := hide hy0
  clear HT1 HK hR hy0
  go_wp2_with fail
  go_region_held3 (fun w' => w'.cell? ⟨wb, 0, none⟩ = some (.pointer (some ⟨db, 0, none⟩)) ∧ w'.cell? ⟨wb, 1, none⟩ = some (.pointer (some ⟨rb, 0, none⟩)) ∧ w'.cell? ⟨w.heap.size, 1, none⟩ = some (.string house) ∧ w'.cell? ⟨w.heap.size, 2, none⟩ = some (.int .i64 id) ∧ w'.cell? ⟨w.heap.size, 3, none⟩ = some (.string s) ∧ w'.cell? ⟨w.heap.size, 4, none⟩ = some (.string t) ∧ w'.cell? ⟨w.heap.size, 5, none⟩ = some (.int .i64 a) ∧ w'.cell? ⟨w.heap.size, 6, none⟩ = some (.int .i64 b) ∧ w'.cell? ⟨w.heap.size, 7, none⟩ = some (.int .i64 c)) (first | exact HK.out | go_keep) ((go_at_call 47; refine (rmint_any rb root clk ao1 cap1 ds1 house id s a b c _ ?_ hfew E HE'.out).mono ?_; exact hR1.same rfl; rintro e w2 ⟨rfl, hst⟩; have HT2 := hide (two_rstep hT1 HY.out hy1 hy2 hst rfl rfl rfl rfl); have HK := hide (after_kept HT2.out); clear hst))
  obtain ⟨ho2, hcap2, hs2, ao2, cap2, ds2, hT2, ⟨hs2e, hd2e⟩, hB2, _, _, _⟩ := HT2.out
  clear HT2 HK
  have hfin := hide (show Inv w2 base wb db rb root from by
    subst hs2e
    subst hd2e
    rcases HR.out with ⟨he, rfl⟩ | ⟨he, i, hi, hf, h, h1, h2, rfl⟩
    · rw [nextDs_no he] at hT2
      exact ⟨clk, _, _, _, _, _, _, hT2, hS, hc0, hc1⟩
    · have hno := mintP_ok (HE.out ▸ he) hf
      rw [he, nextDs_yes] at hT2
      exact ⟨clk, _, _, _, _, _, _, hT2, hS.mint hf h1 h2 hno, hc0, hc1⟩)
  have hbel := hide (((hb0.mono hT.b3).trans hB1).trans hB2)
  clear hT2 hB1 hB2 hs2e hd2e
  go_wp2_with (go_at_call 11; refine (num_any _ _).mono ?_; rintro e w3 ⟨rfl, h⟩; subst h)
  go_ret
  exact ⟨by simp, hfin.out, hbel.out⟩

set_option maxHeartbeats 800000 in
set_option maxRecDepth 100000 in
theorem tokens_revoke (base wb db rb : Nat) (root : Int) (house : ByteArray) (id : Int) (s t : ByteArray) (a b c : Int) (w : World) (hI : Inv w base wb db rb root) :
    Calls Try.prog 27 #[.pointer (some ⟨wb, 0, none⟩), .agg (opV 6 house id s t a b c)] w fun e w' => e = .returned (.bool true) ∧ Inv w' base wb db rb root ∧ Below base w w' := by
  obtain ⟨clk, ho, hcap, hs, ao, cap, ds, hT, hS, hc0, hc1⟩ := hI
  have hlt := hT.wlt
  have p0 := hT.p0
  have p1 := hT.p1
  have hfew := deeds_few hT.dep hS
  have hb0 : Below w.heap.size w (w.alloc (.cells (opV 6 house id s t a b c) 52)) := (Below.refl _ _).alloc (Nat.le_refl _) _
  have hT0 := hT.below hb0
  have hD0 := hT0.dep
  have hx0 := hide (show (w.alloc (.cells (opV 6 house id s t a b c) 52)).heap[w.heap.size]? = some (.cells (opV 6 house id s t a b c) 52 (0, 0)) from heap_alloc_new w _)
  have hx1 : ¬ RefFoot rb ao w.heap.size := fun hk => by have := hT.ref.foot_lt _ hk; omega
  have hx2 : ¬ DepFoot db ho hs w.heap.size := fun hk => by have := (hT.dep.foot hk).2; omega
  obtain ⟨E, hE⟩ : ∃ E, E = revokeP (manageF (heldF root clk hs house id) (house.toList == s.toList)) hs s a := ⟨_, rfl⟩
  have HE := hide hE
  have HE' := hide (hE.trans (revoke_agree hS root clk house id s a))
  clear hE
  go_enter Try.func27, Try.ntmps27
  go_wp2_with fail
  go_region_held3 (fun w' => w'.cell? ⟨wb, 0, none⟩ = some (.pointer (some ⟨db, 0, none⟩)) ∧ w'.cell? ⟨wb, 1, none⟩ = some (.pointer (some ⟨rb, 0, none⟩)) ∧ w'.cell? ⟨w.heap.size, 1, none⟩ = some (.string house) ∧ w'.cell? ⟨w.heap.size, 2, none⟩ = some (.int .i64 id) ∧ w'.cell? ⟨w.heap.size, 3, none⟩ = some (.string s) ∧ w'.cell? ⟨w.heap.size, 4, none⟩ = some (.string t) ∧ w'.cell? ⟨w.heap.size, 5, none⟩ = some (.int .i64 a) ∧ w'.cell? ⟨w.heap.size, 6, none⟩ = some (.int .i64 b) ∧ w'.cell? ⟨w.heap.size, 7, none⟩ = some (.int .i64 c)) (first | exact HK.out | go_keep) ((go_at_call 37; refine (revoke_any db root clk ho hcap hs house id s a _ ?_ E HE.out).mono ?_; exact hD0.same rfl; rintro e w1 ⟨rfl, hst⟩; have HT1 := hide (two_dstep hT0 hx0.out hx1 hx2 hst rfl rfl rfl rfl); have HK := hide (after_kept HT1.out); clear hst))
  obtain ⟨ho1, hcap1, hs1, ao1, cap1, ds1, hT1, ⟨hR, hds⟩, hB1, hy0, hy1, hy2⟩ := HT1.out
  subst hds
  have hR1 := hT1.ref
  have HR := hide hR
  have HY := hide hy0
  clear HT1 HK hR hy0
  go_wp2_with fail
  go_region_held3 (fun w' => w'.cell? ⟨wb, 0, none⟩ = some (.pointer (some ⟨db, 0, none⟩)) ∧ w'.cell? ⟨wb, 1, none⟩ = some (.pointer (some ⟨rb, 0, none⟩)) ∧ w'.cell? ⟨w.heap.size, 1, none⟩ = some (.string house) ∧ w'.cell? ⟨w.heap.size, 2, none⟩ = some (.int .i64 id) ∧ w'.cell? ⟨w.heap.size, 3, none⟩ = some (.string s) ∧ w'.cell? ⟨w.heap.size, 4, none⟩ = some (.string t) ∧ w'.cell? ⟨w.heap.size, 5, none⟩ = some (.int .i64 a) ∧ w'.cell? ⟨w.heap.size, 6, none⟩ = some (.int .i64 b) ∧ w'.cell? ⟨w.heap.size, 7, none⟩ = some (.int .i64 c)) (first | exact HK.out | go_keep) ((go_at_call 48; refine (rrevoke_any rb root clk ao1 cap1 ds1 house id s a _ ?_ hfew E HE'.out).mono ?_; exact hR1.same rfl; rintro e w2 ⟨rfl, hst⟩; have HT2 := hide (two_rstep hT1 HY.out hy1 hy2 hst rfl rfl rfl rfl); have HK := hide (after_kept HT2.out); clear hst))
  obtain ⟨ho2, hcap2, hs2, ao2, cap2, ds2, hT2, ⟨hs2e, hd2e⟩, hB2, _, _, _⟩ := HT2.out
  clear HT2 HK
  have hfin := hide (show Inv w2 base wb db rb root from by
    subst hs2e
    subst hd2e
    rcases HR.out with ⟨he, rfl⟩ | ⟨he, i, hi, hf, j, hj, hft, h, h1, h2, rfl⟩
    · rw [nextDs_no he] at hT2
      exact ⟨clk, _, _, _, _, _, _, hT2, hS, hc0, hc1⟩
    · have hno := revokeP_ok (HE.out ▸ he) hf hft
      rw [he, nextDs_yes] at hT2
      exact ⟨clk, _, _, _, _, _, _, hT2, hS.revoke hf hft h1 h2 hno, hc0, hc1⟩)
  have hbel := hide (((hb0.mono hT.b3).trans hB1).trans hB2)
  clear hT2 hB1 hB2 hs2e hd2e
  go_wp2_with (go_at_call 11; refine (num_any _ _).mono ?_; rintro e w3 ⟨rfl, h⟩; subst h)
  go_ret
  exact ⟨by simp, hfin.out, hbel.out⟩

end Go.Proofs.Ytdddbinlkljbcaa
