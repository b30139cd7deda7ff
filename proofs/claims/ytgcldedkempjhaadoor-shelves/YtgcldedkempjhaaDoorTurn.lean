/-
  depotkeep: what a turn shows; the book's mints and revokes.
-/
import Derived.Test.YtgcldedkempjhaaDoorBook
import Derived.Test.YtgcldedkempjhaaDoorRingMint
import Derived.Deep.RegionHeld3
namespace Go.Proofs.YtgcldedkempjhaaDoor
open Go.RowKit

abbrev kH : ByteArray := ⟨#[104]⟩
abbrev kG : ByteArray := ⟨#[103]⟩

structure TurnD where
  who : Int
  kind : Int
  id : Int
  of : ByteArray
  s : ByteArray
  t : ByteArray
  a : Int
  b : Int
  c : Int

/-- A turn, as a value. -/
abbrev turnV (x : TurnD) : Array Value :=
  #[.int .i64 x.who, .int .i64 x.kind, .int .i64 x.id, .string x.of, .string x.s, .string x.t, .int .i64 x.a, .int .i64 x.b, .int .i64 x.c]

def pickF (c : Int) : Int := if c < 0 then (-(c + 1)) % 4 else c % 4

def showsH (who : Int) : ByteArray := if pickF who == 1 then kH else if pickF who == 2 then kG else ⟨#[]⟩
def showsI (who id : Int) : Int := if pickF who == 1 then id else if pickF who == 2 then id else 77

theorem tmod4 (c : Int) (h : c < 0) : -(c + 1).tmod 4 = (-(c + 1)) % 4 := by
  have h1 : (-(c + 1)).tmod 4 = (-(c + 1)) % 4 := Int.tmod_eq_emod_of_nonneg (by omega)
  rw [← h1, Int.neg_tmod]

set_option maxHeartbeats 400000 in
theorem pick_any (c : Int) (w : World) (h1 : -9223372036854775808 ≤ c) (h2 : c ≤ 9223372036854775807) :
    Calls Tryd.prog 16 #[.int .i64 c, .int .i64 4] w fun e w' => e = .returned (.int .i64 (pickF c)) ∧ w' = w := by
  by_cases h0 : c < 0
  · have hf := hide (show pickF c = (-(c + 1)) % 4 by simp [pickF, h0])
    go_enter Tryd.func16, Tryd.ntmps16
    go_wp2
    go_ret
    exact ⟨ret_int (by rw [hf.out]; exact tmod4 c h0), rfl⟩
  · have hf := hide (show pickF c = c % 4 by simp [pickF, h0])
    go_enter Tryd.func16, Tryd.ntmps16
    go_wp2
    go_ret
    exact ⟨ret_int (by rw [hf.out]), rfl⟩

set_option maxHeartbeats 400000 in
theorem shows_any (x : TurnD) (house : ByteArray) (id : Int) (w : World) (h1 : -9223372036854775808 ≤ x.who) (h2 : x.who ≤ 9223372036854775807) (e1 : house = showsH x.who) (e2 : id = showsI x.who x.id) :
    Calls Tryd.prog 33 #[.agg (turnV x)] w fun e w' => e = .returned (.tuple #[.string house, .int .i64 id]) ∧ Below w.heap.size w w' := by
  have Hp := hide (fun W => pick_any x.who W h1 h2)
  subst e1
  subst e2
  have HH := hide (show showsH x.who = if pickF x.who == 1 then kH else if pickF x.who == 2 then kG else ⟨#[]⟩ from rfl)
  have HI := hide (show showsI x.who x.id = if pickF x.who == 1 then x.id else if pickF x.who == 2 then x.id else 77 from rfl)
  rw [HH.out, HI.out]
  clear HH HI
  generalize pickF x.who = p at *
  cases c1 : (p == 1) with
  | true =>
    simp only [if_true]
    go_enter Tryd.func33, Tryd.ntmps33
    go_wp2_with fail
    refine (Hp.out _).mono ?_
    rintro e w1 ⟨rfl, h⟩
    subst h
    go_wp2_with fail
    go_quiet (fail)
    go_wp2_with fail
    go_ret2
    exact ⟨rfl, below_drawn ((Below.refl _ _).alloc (Nat.le_refl _) _) _⟩
  | false =>
    cases c2 : (p == 2) with
    | true =>
      simp only [if_true, Bool.false_eq_true, if_false]
      go_enter Tryd.func33, Tryd.ntmps33
      go_wp2_with fail
      refine (Hp.out _).mono ?_
      rintro e w1 ⟨rfl, h⟩
      subst h
      go_wp2_with fail
      go_quiet (fail)
      go_wp2_with fail
      go_ret2
      exact ⟨rfl, below_drawn ((Below.refl _ _).alloc (Nat.le_refl _) _) _⟩
    | false =>
      simp only [Bool.false_eq_true, if_false]
      go_enter Tryd.func33, Tryd.ntmps33
      go_wp2_with fail
      refine (Hp.out _).mono ?_
      rintro e w1 ⟨rfl, h⟩
      subst h
      go_wp2_with fail
      go_ret2
      exact ⟨rfl, (Below.refl _ _).alloc (Nat.le_refl _) _⟩

theorem Tryd.infoBk : (Tryd.prog.info? 30).map (fun i => (i.zero, i.size, i.bytes)) = some (some (.agg #[.string ⟨#[]⟩, .int .i64 0, .int .i64 0, .int .i64 0, .bool false]), 5, 48) := by kernel_rfl

/-- What a call leaves of the book. -/
def BookStep (w w' : World) (bb : Nat) (now : Int) (ao : Option Addr) (R : List Bk → Prop) : Prop :=
  ∃ ao' cap' bs', KBookAt w' bb now ao' cap' bs' ∧ R bs' ∧ Chg (BookFoot bb ao) w w' ∧ ∀ k, BookFoot bb ao' k → BookFoot bb ao k ∨ w.heap.size ≤ k

theorem BookStep.ofBelow {w w' : World} {bb : Nat} {now : Int} {ao : Option Addr} {cap : Nat} {bs : List Bk} {R : List Bk → Prop} (hr : KBookAt w bb now ao cap bs) (hb : Below w.heap.size w w') (hR : R bs) : BookStep w w' bb now ao R :=
  ⟨ao, cap, bs, hr.below hb, hR, Chg.ofBelow hb, fun _ h => Or.inl h⟩

theorem BookStep.behind {w w1 w' : World} {bb : Nat} {now : Int} {ao : Option Addr} {R : List Bk → Prop} (hb : Below w.heap.size w w1) (h : BookStep w1 w' bb now ao R) : BookStep w w' bb now ao R := by
  obtain ⟨ao', cap', bs', h1, h0, h2, h3⟩ := h
  exact ⟨ao', cap', bs', h1, h0, (Chg.ofBelow hb).trans h2 (fun _ h => Or.inl h), fun k hk => (h3 k hk).elim Or.inl (fun h => Or.inr (Nat.le_trans hb.size h))⟩

theorem BookStep.err {w w' : World} {bb : Nat} {now : Int} {ao : Option Addr} {cap : Nat} {bs : List Bk} {E F : Int} {R : Int → List Bk → Prop} (hr : KBookAt w bb now ao cap bs) (hb : Below w.heap.size w w') (hE : E = F) (hF : F ≠ 0)
    (hR : ∀ E, E ≠ 0 → R E bs) : Ending.returned (.int .i64 F) = .returned (.int .i64 E) ∧ BookStep w w' bb now ao (R E) := by
  subst hE
  exact ⟨rfl, BookStep.ofBelow hr hb (hR _ hF)⟩

def bmintE (r : Int) (same isHG : Bool) (a b c : Int) (old : Bool) (n : Nat) : Int :=
  if r == 0 then 3 else if r != 4 && (r != 3 || !same) then 4 else if !isHG then 7 else if a < 1 ∨ 3 < a ∨ b < 1 ∨ c < 1 then 1 else if old then 5 else if 8 ≤ n then 6 else 0

def isHG (of : ByteArray) : Bool := of.toList == kH.toList || of.toList == kG.toList

theorem hg1 {of : ByteArray} (h : of.toList = [104]) : isHG of = true := by simp [isHG, h]
theorem hg2 {of : ByteArray} (h : (!of.toList == [104]) = false ∨ (!of.toList == [103]) = false) : isHG of = true := by
  rcases h with h | h <;> simp at h <;> simp [isHG, h]
theorem hg0 {of : ByteArray} (h : (!of.toList == [104]) = true ∧ (!of.toList == [103]) = true) : isHG of = false := by
  simp at h
  simp [isHG, h.1, h.2]

section
variable {r : Int} {same hg : Bool} {a b c : Int} {old : Bool} {n : Nat}
theorem bm3 (h : (r == 0) = true) : bmintE r same hg a b c old n = 3 := by simp [bmintE, h]
theorem bm4 (h0 : (r == 0) = false) (h4 : ¬ r = 4) (h : ¬ r = 3 ∨ same = false) : bmintE r same hg a b c old n = 4 := by
  have : (r != 4 && (r != 3 || !same)) = true := by
    rcases h with h | h
    · simp [h4, h]
    · simp [h4, h]
  simp [bmintE, h0, this]
theorem bmP (h0 : (r == 0) = false) (hp : r = 4 ∨ (r = 3 ∧ same = true)) : bmintE r same hg a b c old n = if !hg then 7 else if a < 1 ∨ 3 < a ∨ b < 1 ∨ c < 1 then 1 else if old then 5 else if 8 ≤ n then 6 else 0 := by
  have : (r != 4 && (r != 3 || !same)) = false := by
    rcases hp with h | ⟨h, h'⟩
    · simp [h]
    · simp [h, h']
  simp only [bmintE, h0, this]
  simp
theorem bm7 (h0 : (r == 0) = false) (hp : r = 4 ∨ (r = 3 ∧ same = true)) (h : hg = false) : bmintE r same hg a b c old n = 7 := by rw [bmP h0 hp]; simp [h]
theorem bm1 (h0 : (r == 0) = false) (hp : r = 4 ∨ (r = 3 ∧ same = true)) (h : hg = true) (ha : a < 1 ∨ 3 < a ∨ b < 1 ∨ c < 1) : bmintE r same hg a b c old n = 1 := by rw [bmP h0 hp, h, if_neg (by decide), if_pos ha]
theorem bm5 (h0 : (r == 0) = false) (hp : r = 4 ∨ (r = 3 ∧ same = true)) (h : hg = true) (ha : ¬ (a < 1 ∨ 3 < a ∨ b < 1 ∨ c < 1)) (ho : old = true) : bmintE r same hg a b c old n = 5 := by rw [bmP h0 hp, h, if_neg (by decide), if_neg ha, if_pos ho]
theorem bm6 (h0 : (r == 0) = false) (hp : r = 4 ∨ (r = 3 ∧ same = true)) (h : hg = true) (ha : ¬ (a < 1 ∨ 3 < a ∨ b < 1 ∨ c < 1)) (ho : old = false) (hn : 8 ≤ n) : bmintE r same hg a b c old n = 6 := by
  rw [bmP h0 hp, h, if_neg (by decide), if_neg ha, ho, if_neg (by decide), if_pos hn]
theorem bm0 (h0 : (r == 0) = false) (hp : r = 4 ∨ (r = 3 ∧ same = true)) (h : hg = true) (ha : ¬ (a < 1 ∨ 3 < a ∨ b < 1 ∨ c < 1)) (ho : old = false) (hn : ¬ 8 ≤ n) : bmintE r same hg a b c old n = 0 := by
  rw [bmP h0 hp, h, if_neg (by decide), if_neg ha, ho, if_neg (by decide), if_neg hn]
end

def BMintR (E : Int) (x : TurnD) (bs bs' : List Bk) : Prop := (E ≠ 0 ∧ bs' = bs) ∨ (E = 0 ∧ bs' = bs ++ [⟨x.of, x.b, x.a, x.c, false⟩])

theorem book_push {w w' : World} {bb : Nat} {now : Int} {ao : Option Addr} {cap : Nat} {bs : List Bk} {x : TurnD} {g' cap' : Nat} (h : KBookAt w bb now ao cap bs) (hchg : Chg (blockOf ao) w w')
    (hown : w'.ownsRow (bb + 1) 30 5 (.slice (some ⟨g', 0, none⟩) (bs.length + 1) cap') (bs.length + 1) (bksCells bs ++ [.string x.of, .int .i64 x.b, .int .i64 x.a, .int .i64 x.c, .bool false]))
    (hg : blockOf ao g' ∨ w.heap.size ≤ g') {E : Int} (hE : E = 0) (hl : bs.length < 1000 := by omega) :
    BookStep w (w'.setCell ⟨bb, 0, none⟩ (.slice (some ⟨g', 0, none⟩) (bs.length + 1) cap')) bb now ao (BMintR E x bs) := by
  have hnb : ¬ blockOf ao bb := fun ⟨a, e, eb⟩ => by subst e; have := (h.own.lt a.block rfl).1; omega
  have hk : w'.heap[bb]? = w.heap[bb]? := hchg.block bb h.lt hnb
  have e0 := (World.cell?_of_block (a := ⟨bb, 0, none⟩) hk).trans h.c0
  refine ⟨some ⟨g', 0, none⟩, cap', bs ++ [⟨x.of, x.b, x.a, x.c, false⟩], ⟨?_, ?_, ?_, ?_, ?_, ?_⟩, Or.inr ⟨hE, rfl⟩, ?_, ?_⟩
  · rw [cell_setCell_same e0]; simp
  · rw [cell_setCell_ne (by omega)]; exact (World.cell?_of_block (a := ⟨bb, 1, none⟩) hk).trans h.c1
  · rw [frozen_setCell]; exact (World.frozen?_of_block (a := ⟨bb, 0, none⟩) hk).trans h.f0
  · rw [frozen_setCell]; exact (World.frozen?_of_block (a := ⟨bb, 1, none⟩) hk).trans h.f1
  · have hd : bksCells (bs ++ [⟨x.of, x.b, x.a, x.c, false⟩]) = bksCells bs ++ [.string x.of, .int .i64 x.b, .int .i64 x.a, .int .i64 x.c, .bool false] := by simp [bksCells, Bk.cells]
    rw [hd, List.length_append, List.length_singleton]
    exact ownsRow_setCell_below hown (Nat.lt_succ_self bb) _
  · simp; omega
  · exact (hchg.mono (S' := BookFoot bb ao) (fun _ h => Or.inr h)).setCell (p := ⟨bb, 0, none⟩) (Or.inl (Or.inl rfl)) _
  · intro k hk
    rcases hk with rfl | ⟨a, e, rfl⟩
    · exact Or.inl (Or.inl rfl)
    · injection e with e
      subst e
      exact hg.elim (fun h => Or.inl (Or.inr h)) Or.inr

end Go.Proofs.YtgcldedkempjhaaDoor
