/-
  The two depots side by side in one memory.
-/
import Derived.Test.YtdddbinlkljbcaaAgree
namespace Go.Proofs.Ytdddbinlkljbcaa
open Go.RowKit

structure Two (w : World) (base wb db rb : Nat) (root cD cR : Int) (ho : Option Addr) (hcap : Nat) (hs : List Hse) (ao : Option Addr) (cap : Nat) (ds : List Deed) : Prop where
  p0 : w.cell? ⟨wb, 0, none⟩ = some (.pointer (some ⟨db, 0, none⟩))
  p1 : w.cell? ⟨wb, 1, none⟩ = some (.pointer (some ⟨rb, 0, none⟩))
  dep : DepAt w db root cD ho hcap hs
  ref : RefAt w rb root cR ao cap ds
  a1 : ∀ k, DepFoot db ho hs k → ¬ RefFoot rb ao k
  a2 : ¬ DepFoot db ho hs wb
  a3 : ¬ RefFoot rb ao wb
  b1 : ∀ k, DepFoot db ho hs k → base ≤ k
  b2 : ∀ k, RefFoot rb ao k → base ≤ k
  b3 : base ≤ w.heap.size

section
variable {w w' : World} {base wb db rb : Nat} {root cD cR cD' cR' : Int} {ho ho' : Option Addr} {hcap hcap' : Nat} {hs hs' : List Hse} {ao ao' : Option Addr} {cap cap' : Nat} {ds ds' : List Deed}

theorem Two.wlt (h : Two w base wb db rb root cD cR ho hcap hs ao cap ds) : wb < w.heap.size := World.block_lt_of_cell? w _ h.p0

theorem Two.dstep (h : Two w base wb db rb root cD cR ho hcap hs ao cap ds) (hd : DepAt w' db root cD' ho' hcap' hs') (hc : Chg (DepFoot db ho hs) w w') (hf : ∀ k, DepFoot db ho' hs' k → DepFoot db ho hs k ∨ w.heap.size ≤ k) :
    Two w' base wb db rb root cD' cR ho' hcap' hs' ao cap ds ∧ Below base w w' := by
  have hw : w'.heap[wb]? = w.heap[wb]? := hc.block wb h.wlt h.a2
  refine ⟨⟨(World.cell?_of_block hw).trans h.p0, (World.cell?_of_block hw).trans h.p1, hd, h.ref.keep (fun k hk => hc.block k (h.ref.foot_lt k hk) (fun hk' => h.a1 k hk' hk)), ?_, ?_, h.a3, ?_, h.b2, Nat.le_trans h.b3 hc.size⟩, hc.below h.b3 h.b1⟩
  · intro k hk hr
    rcases hf k hk with h1 | h1
    · exact h.a1 k h1 hr
    · have := h.ref.foot_lt k hr; omega
  · intro hk
    rcases hf wb hk with h1 | h1
    · exact h.a2 h1
    · have := h.wlt; omega
  · intro k hk
    rcases hf k hk with h1 | h1
    · exact h.b1 k h1
    · have := h.b3; omega

theorem Two.rstep (h : Two w base wb db rb root cD cR ho hcap hs ao cap ds) (hd : RefAt w' rb root cR' ao' cap' ds') (hc : Chg (RefFoot rb ao) w w') (hf : ∀ k, RefFoot rb ao' k → RefFoot rb ao k ∨ w.heap.size ≤ k) :
    Two w' base wb db rb root cD cR' ho hcap hs ao' cap' ds' ∧ Below base w w' := by
  have hw : w'.heap[wb]? = w.heap[wb]? := hc.block wb h.wlt h.a3
  refine ⟨⟨(World.cell?_of_block hw).trans h.p0, (World.cell?_of_block hw).trans h.p1, h.dep.keep (fun k hk => hc.block k (h.dep.foot hk).2 (h.a1 k hk)), hd, ?_, h.a2, ?_, h.b1, ?_, Nat.le_trans h.b3 hc.size⟩, hc.below h.b3 h.b2⟩
  · intro k hk hr
    rcases hf k hr with h1 | h1
    · exact h.a1 k hk h1
    · have := (h.dep.foot hk).2; omega
  · intro hk
    rcases hf wb hk with h1 | h1
    · exact h.a3 h1
    · have := h.wlt; omega
  · intro k hk
    rcases hf k hk with h1 | h1
    · exact h.b2 k h1
    · have := h.b3; omega

theorem Two.below (h : Two w base wb db rb root cD cR ho hcap hs ao cap ds) (hb : Below w.heap.size w w') : Two w' base wb db rb root cD cR ho hcap hs ao cap ds :=
  (h.dstep (h.dep.below hb) (Chg.ofBelow hb) (fun _ h => Or.inl h)).1

theorem DepAt.same (h : DepAt w db root cD ho hcap hs) (hh : w'.heap = w.heap) : DepAt w' db root cD ho hcap hs := h.keep fun k _ => by rw [hh]
theorem RefAt.same (h : RefAt w rb root cR ao cap ds) (hh : w'.heap = w.heap) : RefAt w' rb root cR ao cap ds := h.keep fun k _ => by rw [hh]

theorem Chg.start_of {S : Nat → Prop} {W : World} (h : Chg S W w') (h0 : W.heap = w.heap) (h1 : W.os = w.os) (h2 : W.tape = w.tape) (h3 : W.output = w.output) : Chg S w w' :=
  ⟨h.os.trans h1, h.tape.trans h2, h.output.trans h3, by have := h.size; rw [h0] at this; exact this, fun k hk hn => by rw [h.block k (by rw [h0]; exact hk) hn, h0]⟩

theorem below_start_of {W : World} (h : Below W.heap.size W w') (h0 : W.heap = w.heap) (h1 : W.os = w.os) (h2 : W.tape = w.tape) (h3 : W.output = w.output) : Below w.heap.size w w' :=
  ⟨h.os.trans h1, h.tape.trans h2, h.output.trans h3, by have := h.size; rw [h0] at this; exact this, fun k hk => by rw [h.block k (by rw [h0]; exact hk), h0]⟩

end

/-- The two depots, tied. -/
def Inv (w : World) (base wb db rb : Nat) (root : Int) : Prop :=
  ∃ c ho hcap hs ao cap ds, Two w base wb db rb root c c ho hcap hs ao cap ds ∧ Sim hs ds ∧ 0 ≤ c ∧ c ≤ 1099511627776

theorem Inv.below {w w' : World} {base wb db rb : Nat} {root : Int} (h : Inv w base wb db rb root) (hb : Below w.heap.size w w') : Inv w' base wb db rb root := by
  obtain ⟨c, ho, hcap, hs, ao, cap, ds, h1, h2⟩ := h
  exact ⟨c, ho, hcap, hs, ao, cap, ds, h1.below hb, h2⟩

theorem deeds_few {w : World} {db : Nat} {root c : Int} {ho : Option Addr} {hcap : Nat} {hs : List Hse} {ds : List Deed} (h : DepAt w db root c ho hcap hs) (s : Sim hs ds) : ds.length ≤ 1000000000000 := by
  have := weight_le hs h.tlen
  have h6 := h.len
  rw [s.s6]
  omega

end Go.Proofs.Ytdddbinlkljbcaa
