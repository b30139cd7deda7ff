/-
  tokens.Ring: Mint, Revoke.
-/
import Derived.Test.YtgcldedkempjhabGreatDoorRows
import Derived.Test.YtgcldedkempjhabGreatDoorBaseRow
namespace Go.Proofs.YtgcldedkempjhabGreatDoor
section
open Go.RowKit

structure Tok where
  num : Int
  role : Int
  till : Int
  gone : Bool

def Tok.cells (x : Tok) : List Value := [.int .i64 x.num, .int .i64 x.role, .int .i64 x.till, .bool x.gone]

def toksCells (ts : List Tok) : List Value := ts.flatMap Tok.cells

theorem toksCells_get (ts : List Tok) (k j : Nat) (hk : k < ts.length) (hj : j < 4) : (toksCells ts)[4 * k + j]? = (ts[k]).cells[j]? := by
  induction ts generalizing k with
  | nil => simp at hk
  | cons x ts ih =>
    have hl : x.cells.length = 4 := rfl
    cases k with
    | zero =>
      show (x.cells ++ toksCells ts)[4 * 0 + j]? = _
      rw [List.getElem?_append_left (by rw [hl]; omega)]
      simp
    | succ k =>
      show (x.cells ++ toksCells ts)[4 * (k + 1) + j]? = _
      rw [List.getElem?_append_right (by rw [hl]; omega), hl, show 4 * (k + 1) + j - 4 = 4 * k + j from by omega]
      rw [ih k (by simpa using hk)]
      simp

/-- A ring at the cell b, o: its row's cells are those of the tokens ts. -/
structure RingAt (w : World) (base b o : Nat) (ao : Option Addr) (cap : Nat) (ts : List Tok) : Prop where
  c : w.cell? ⟨b, o, none⟩ = some (.slice ao ts.length cap)
  f : w.frozen? ⟨b, o, none⟩ = false
  own : w.ownsRow base 134 4 (.slice ao ts.length cap) ts.length (toksCells ts)

structure TokAt (w : World) (g o : Nat) (x : Tok) : Prop where
  d0 : w.cell? ⟨g, o, none⟩ = some (.int .i64 x.num)
  d1 : w.cell? ⟨g, o + 1, none⟩ = some (.int .i64 x.role)
  d2 : w.cell? ⟨g, o + 2, none⟩ = some (.int .i64 x.till)
  d3 : w.cell? ⟨g, o + 3, none⟩ = some (.bool x.gone)
  f3 : w.frozen? ⟨g, o + 3, none⟩ = false

theorem RingAt.tok {w : World} {base b o : Nat} {ao : Option Addr} {cap : Nat} {ts : List Tok} (h : RingAt w base b o ao cap ts) (k : Nat) (hk : k < ts.length) :
    ∃ g, ao = some ⟨g, 0, none⟩ ∧ g < w.heap.size ∧ TokAt w g (k * 4) ts[k] := by
  rcases h.own.2 with ⟨hn, h0⟩ | ⟨g, cp, cur, hv, _, hg, _⟩
  · omega
  · have hao : ao = some ⟨g, 0, none⟩ := by injection hv
    have key : ∀ j u, (ts[k]).cells[j]? = some u → w.cell? ⟨g, k * 4 + j, none⟩ = some u := by
      intro j u hu
      have hj : j < 4 := (List.getElem?_eq_some_iff.1 hu).1
      have hget := toksCells_get ts k j hk hj
      have := h.own.cells (g := g) (by rw [hao]; rfl) (4 * k + j) u (hget.trans hu)
      rw [← this]
      congr 1
      unfold Addr.add; split <;> simp_all <;> omega
    exact ⟨g, hao, (Array.getElem?_eq_some_iff.1 hg).1, key 0 _ rfl, key 1 _ rfl, key 2 _ rfl, key 3 _ rfl, frozen_of_heap hg _⟩

theorem RingAt.lt {w : World} {base b o : Nat} {ao : Option Addr} {cap : Nat} {ts : List Tok} (h : RingAt w base b o ao cap ts) : b < w.heap.size := World.block_lt_of_cell? w _ h.c

set_option maxHeartbeats 400000 in
theorem ringFind_some (base b o : Nat) (ao : Option Addr) (cap : Nat) (ts : List Tok) (n : Int) (w : World) (hr : RingAt w base b o ao cap ts) (hlen : ts.length ≤ 1000)
    (i : Nat) (hi : i < ts.length) (hm : ts[i].num = n) (hno : ∀ j, (hj : j < ts.length) → j < i → ts[j].num ≠ n) :
    Calls Tryz.prog 86 #[.pointer (some ⟨b, o, none⟩), .int .i64 n] w fun e w' => e = .returned (.int .i64 i) ∧ w' = w := by
  have c := hr.c
  have HM := hide hm
  have HN := hide hno
  clear hm hno
  go_enter Tryz.func86, Tryz.ntmps86
  go_wp2
  go_loop [5] (fun x => ∃ k : Nat, k ≤ i ∧ x = .int .i64 k) (fun x => ts.length - (intOf x).toNat)
  case atStart => exact ⟨0, Nat.zero_le _, rfl⟩
  case round =>
    obtain ⟨k, hk, rfl⟩ := hrel
    obtain ⟨g, rfl, hg, hx⟩ := hr.tok k (by omega)
    have d0 := hx.d0
    by_cases hlt : k < i
    · have h1 : (ts[k].num == n) = false := beq_eq_false_iff_ne.2 (HN.out k (by omega) hlt)
      go_wp2
      go_round
      case rel => exact ⟨k + 1, by omega, by go_num⟩
      case measure => simp [intOf] <;> omega
    · obtain rfl : k = i := by omega
      have h1 : (ts[k].num == n) = true := beq_iff_eq.2 HM.out
      go_wp2
      go_ret
      exact ⟨rfl, rfl⟩

set_option maxHeartbeats 400000 in
theorem ringFind_none (base b o : Nat) (ao : Option Addr) (cap : Nat) (ts : List Tok) (n : Int) (w : World) (hr : RingAt w base b o ao cap ts) (hlen : ts.length ≤ 1000)
    (hno : ∀ j, (hj : j < ts.length) → ts[j].num ≠ n) :
    Calls Tryz.prog 86 #[.pointer (some ⟨b, o, none⟩), .int .i64 n] w fun e w' => e = .returned (.int .i64 (-1)) ∧ w' = w := by
  have c := hr.c
  have HN := hide hno
  clear hno
  go_enter Tryz.func86, Tryz.ntmps86
  go_wp2
  go_loop [5] (fun x => ∃ k : Nat, k ≤ ts.length ∧ x = .int .i64 k) (fun x => ts.length - (intOf x).toNat)
  case atStart => exact ⟨0, Nat.zero_le _, rfl⟩
  case round =>
    obtain ⟨k, hk, rfl⟩ := hrel
    by_cases hlt : k < ts.length
    · obtain ⟨g, rfl, hg, hx⟩ := hr.tok k (by omega)
      have d0 := hx.d0
      have h1 : (ts[k].num == n) = false := beq_eq_false_iff_ne.2 (HN.out k (by omega))
      go_wp2
      go_round
      case rel => exact ⟨k + 1, by omega, by go_num⟩
      case measure => simp [intOf] <;> omega
    · go_wp2
      go_ret
      exact ⟨rfl, rfl⟩

def tokF (ts : List Tok) (n : Int) : Option Tok := ts.find? fun t => t.num == n

theorem tok_cases (ts : List Tok) (n : Int) :
    (∃ i, ∃ hi : i < ts.length, ts[i].num = n ∧ (∀ j, (hj : j < ts.length) → j < i → ts[j].num ≠ n) ∧ tokF ts n = some ts[i]) ∨
    ((∀ j, (hj : j < ts.length) → ts[j].num ≠ n) ∧ tokF ts n = none) := by
  induction ts with
  | nil => exact Or.inr ⟨fun j hj => by simp at hj, rfl⟩
  | cons t ts ih =>
    by_cases ht : t.num = n
    · exact Or.inl ⟨0, by simp, by simpa using ht, fun j _ h => by omega, by simp [tokF, ht]⟩
    · have hb : (t.num == n) = false := beq_eq_false_iff_ne.2 ht
      rcases ih with ⟨i, hi, h1, h2, h3⟩ | ⟨h1, h2⟩
      · refine Or.inl ⟨i + 1, by simp; omega, by simpa using h1, ?_, ?_⟩
        · intro j hj hlt
          cases j with
          | zero => simpa using ht
          | succ j => simpa using h2 j (by simpa using hj) (by omega)
        · simp only [tokF, List.find?_cons, hb] at *
          simpa using h3
      · refine Or.inr ⟨?_, ?_⟩
        · intro j hj
          cases j with
          | zero => simpa using ht
          | succ j => simpa using h1 j (by simpa using hj)
        · simp only [tokF, List.find?_cons, hb] at *
          exact h2

def roleT (ts : List Tok) (n clock : Int) : Int :=
  match tokF ts n with
  | none => 0
  | some t => if t.gone || decide (t.till ≤ clock) then 0 else t.role

set_option maxHeartbeats 400000 in
theorem ringRole_any (base b o : Nat) (ao : Option Addr) (cap : Nat) (ts : List Tok) (n clock : Int) (w : World) (hr : RingAt w base b o ao cap ts) (hlen : ts.length ≤ 1000) :
    Calls Tryz.prog 85 #[.pointer (some ⟨b, o, none⟩), .int .i64 n, .int .i64 clock] w fun e w' => e = .returned (.int .i64 (roleT ts n clock)) ∧ Below w.heap.size w w' := by
  have c := hr.c
  rcases tok_cases ts n with ⟨i, hi, h1, h2, h3⟩ | ⟨h1, h3⟩
  · obtain ⟨g, rfl, hg, hx⟩ := hr.tok i hi
    obtain ⟨d0, d1, d2, d3, f3⟩ := hx
    have Hc := hide (ringFind_some base b o _ cap ts n w hr hlen i hi h1 h2)
    have HF := hide (show roleT ts n clock = if ts[i].gone || decide (ts[i].till ≤ clock) then 0 else ts[i].role by simp [roleT, h3])
    clear h1 h2 h3
    go_enter Tryz.func85, Tryz.ntmps85
    go_wp2_with fail
    refine Hc.out.mono ?_
    rintro e w1 ⟨rfl, h⟩
    subst h
    go_wp2_with fail
    · go_ret
      exact ⟨ret_int (by rw [HF.out]; simp [*]), (Below.refl _ _).alloc (Nat.le_refl _) _⟩
    · go_ret
      exact ⟨ret_int (by rw [HF.out]; simp [*]), (Below.refl _ _).alloc (Nat.le_refl _) _⟩
    · go_ret
      exact ⟨ret_int (by rw [HF.out, if_neg]; simp [*]), (Below.refl _ _).alloc (Nat.le_refl _) _⟩
  · have Hc := hide (ringFind_none base b o ao cap ts n w hr hlen h1)
    have HF := hide (show roleT ts n clock = 0 by simp [roleT, h3])
    clear h1 h3
    go_enter Tryz.func85, Tryz.ntmps85
    go_wp2_with fail
    refine Hc.out.mono ?_
    rintro e w1 ⟨rfl, h⟩
    subst h
    go_wp2_with fail
    go_ret
    exact ⟨ret_int HF.out.symm, Below.refl _ _⟩

end

section
open Go.RowKit

theorem Tryz.infoTok : (Tryz.prog.info? 134).map (fun i => (i.zero, i.size, i.bytes)) = some (some (.agg #[.int .i64 0, .int .i64 0, .int .i64 0, .bool false]), 4, 32) := by kernel_rfl

def mintT (ts : List Tok) (role fresh till : Int) : Int :=
  if role < 1 ∨ 3 < role ∨ fresh < 1 ∨ till < 1 then 1 else if (tokF ts fresh).isSome then 5 else if 8 ≤ ts.length then 6 else 0

/-- A ring with one token more: its row, grown; then the ring's own cell. -/
def RingPush (w w' : World) (base b o : Nat) (ao : Option Addr) (ts : List Tok) (t : Tok) : Prop :=
  ∃ g' cap' w1, w1.ownsRow base 134 4 (.slice (some ⟨g', 0, none⟩) (ts.length + 1) cap') (ts.length + 1) (toksCells ts ++ t.cells) ∧ Chg (blockOf ao) w w1 ∧ (blockOf ao g' ∨ w.heap.size ≤ g') ∧
    w' = w1.setCell ⟨b, o, none⟩ (.slice (some ⟨g', 0, none⟩) (ts.length + 1) cap')

set_option maxHeartbeats 800000 in
set_option maxRecDepth 100000 in
theorem ringMint_any (base b o : Nat) (ao : Option Addr) (cap : Nat) (ts : List Tok) (role fresh till : Int) (w : World) (hr : RingAt w base b o ao cap ts) (hlen : ts.length ≤ 1000)
    (hab : ¬ blockOf ao b) (hbase : base ≤ w.heap.size) (E : Int) (hE : E = mintT ts role fresh till) :
    Calls Tryz.prog 48 #[.pointer (some ⟨b, o, none⟩), .int .i64 role, .int .i64 fresh, .int .i64 till] w fun e w' => e = .returned (.int .i64 E) ∧
      ((E ≠ 0 ∧ w' = w) ∨ (E = 0 ∧ RingPush w w' base b o ao ts ⟨fresh, role, till, false⟩)) := by
  have c := hr.c
  have hf := hr.f
  have hbl := hr.lt
  have hown := hr.own
  have HE := hide hE
  clear hE
  by_cases ha : role < 1 ∨ 3 < role ∨ fresh < 1 ∨ till < 1
  · have H1 := hide (show E = 1 by rw [HE.out, mintT, if_pos ha])
    have HA := hide ha
    clear ha
    go_enter Tryz.func48, Tryz.ntmps48
    go_wp2_with fail
    all_goals first | (go_ret; rw [H1.out]; exact ⟨rfl, Or.inl ⟨by decide, rfl⟩⟩) | (exfalso; have := HA.out; omega)
  · obtain ⟨a1, a2, a3, a4⟩ : 1 ≤ role ∧ role ≤ 3 ∧ 1 ≤ fresh ∧ 1 ≤ till := by omega
    have HM := hide (show mintT ts role fresh till = if (tokF ts fresh).isSome then 5 else if 8 ≤ ts.length then 6 else 0 by rw [mintT, if_neg ha])
    clear ha
    rcases tok_cases ts fresh with ⟨i, hi, h1, h2, h3⟩ | ⟨h1, h3⟩
    · have Hc := hide (ringFind_some base b o _ cap ts fresh w hr hlen i hi h1 h2)
      have H5 := hide (show E = 5 by rw [HE.out, HM.out, h3]; rfl)
      clear h1 h2 h3
      go_enter Tryz.func48, Tryz.ntmps48
      go_wp2_with fail
      refine Hc.out.mono ?_
      rintro e w1 ⟨rfl, h⟩
      subst h
      go_wp2_with fail
      go_ret
      rw [H5.out]
      exact ⟨rfl, Or.inl ⟨by decide, rfl⟩⟩
    · have Hc := hide (ringFind_none base b o ao cap ts fresh w hr hlen h1)
      by_cases h8 : 8 ≤ ts.length
      · have H6 := hide (show E = 6 by rw [HE.out, HM.out, h3, if_pos h8]; rfl)
        clear h1 h3
        go_enter Tryz.func48, Tryz.ntmps48
        go_wp2_with fail
        refine Hc.out.mono ?_
        rintro e w1 ⟨rfl, h⟩
        subst h
        go_wp2_with fail
        go_ret
        rw [H6.out]
        exact ⟨rfl, Or.inl ⟨by decide, rfl⟩⟩
      · have H0 := hide (show E = 0 by rw [HE.out, HM.out, h3, if_neg h8]; rfl)
        clear h1 h3
        obtain ⟨i0, ti, hz0, hz1, hz2⟩ := info_parts Tryz.infoTok
        go_enter Tryz.func48, Tryz.ntmps48
        go_wp2_with fail
        refine Hc.out.mono ?_
        rintro e w1 ⟨rfl, h⟩
        subst h
        go_wp2_with (at_builtin; refine wpList_append_own2 _ rfl (.tmp 37) (.tmp 42) 82 rfl base 134 i0 (.agg #[.int .i64 0, .int .i64 0, .int .i64 0, .bool false]) 4 32 Tryz.underlying82 ti hz0 hz1 hz2 rfl (by decide) (.slice ao ts.length cap) ts.length (toksCells ts) rfl (hown.alloc _) ⟨w1.heap.size, 0, none⟩ 1 1 [.int .i64 fresh, .int .i64 role, .int .i64 till, .bool false] rfl rfl (news_at (t := 134) (fr := (0, 0)) (heap_alloc_new w1 _)) ?_ (by unfold maxLen; omega) (by omega) (by simp; omega) (by omega) ?_)
        · intro u hu
          simp at hu
          rcases hu with rfl | rfl | rfl | rfl <;> rfl
        · intro g' cap' w' hown' hgrow hnew
          have hchg : Chg (blockOf ao) w1 w' := Chg.ofGrown hgrow rfl rfl rfl (by simp) (fun k hk => Below.heap_alloc _ _ _ hk) (fun k hk => Or.inl (row_of hk))
          have HN := hide (show blockOf ao g' ∨ w1.heap.size ≤ g' from hnew.elim (fun h => Or.inl (row_of h)) (fun h => Or.inr (by omega)))
          clear hnew hgrow
          have hk : w'.heap[b]? = w1.heap[b]? := hchg.block b hbl hab
          have k2 := (World.cell?_of_block (a := ⟨b, o, none⟩) hk).trans c
          have kf := (World.frozen?_of_block (a := ⟨b, o, none⟩) hk).trans hf
          clear hk
          go_wp2_with fail
          go_ret
          rw [H0.out]
          exact ⟨rfl, Or.inr ⟨rfl, g', cap', w', hown', hchg, HN.out, rfl⟩⟩

theorem toksCells_revoke (ts : List Tok) (i : Nat) (hi : i < ts.length) : toksCells (ts.set i { ts[i] with gone := true }) = (toksCells ts).set (i * 4 + 3) (.bool true) := by
  induction ts generalizing i with
  | nil => simp at hi
  | cons t ts ih =>
    have hl : t.cells.length = 4 := rfl
    cases i with
    | zero =>
      show ({ t with gone := true } : Tok).cells ++ toksCells ts = (t.cells ++ toksCells ts).set (0 * 4 + 3) (.bool true)
      rw [List.set_append_left _ _ (by rw [hl]; omega)]
      rfl
    | succ i =>
      have hi' : i < ts.length := by simpa using hi
      show t.cells ++ toksCells (ts.set i { ts[i] with gone := true }) = (t.cells ++ toksCells ts).set ((i + 1) * 4 + 3) (.bool true)
      rw [List.set_append_right _ _ (by rw [hl]; omega), hl, ih i hi', show (i + 1) * 4 + 3 - 4 = i * 4 + 3 from by omega]

def revokeT (ts : List Tok) (old : Int) : Int :=
  match tokF ts old with
  | none => 7
  | some t => if t.gone then 7 else 0

/-- A ring of which one token was revoked. -/
def RingGone (w w' : World) (ao : Option Addr) (ts : List Tok) (old : Int) : Prop :=
  ∃ i, ∃ hi : i < ts.length, ∃ g, ao = some ⟨g, 0, none⟩ ∧ ts[i].num = old ∧ ts[i].gone = false ∧ (∀ j, (hj : j < ts.length) → j < i → ts[j].num ≠ old) ∧ w' = w.setCell ⟨g, i * 4 + 3, none⟩ (.bool true)

set_option maxHeartbeats 800000 in
set_option maxRecDepth 100000 in
theorem ringRevoke_any (base b o : Nat) (ao : Option Addr) (cap : Nat) (ts : List Tok) (old : Int) (w : World) (hr : RingAt w base b o ao cap ts) (hlen : ts.length ≤ 1000) (E : Int) (hE : E = revokeT ts old) :
    Calls Tryz.prog 53 #[.pointer (some ⟨b, o, none⟩), .int .i64 old] w fun e w' => e = .returned (.int .i64 E) ∧
      ((E ≠ 0 ∧ w' = w) ∨ (E = 0 ∧ RingGone w w' ao ts old)) := by
  have c := hr.c
  rcases tok_cases ts old with ⟨i, hi, h1, h2, h3⟩ | ⟨h1, h3⟩
  · obtain ⟨g, rfl, hg, hx⟩ := hr.tok i hi
    obtain ⟨d0, d1, d2, d3, f3⟩ := hx
    have Hc := hide (ringFind_some base b o _ cap ts old w hr hlen i hi h1 h2)
    have HP := hide (And.intro h1 h2)
    cases hgn : ts[i].gone with
    | true =>
      have H7 := hide (show E = 7 by rw [hE, revokeT, h3]; simp [hgn])
      clear h1 h2 h3 hE
      go_enter Tryz.func53, Tryz.ntmps53
      go_wp2_with fail
      refine Hc.out.mono ?_
      rintro e w1 ⟨rfl, h⟩
      subst h
      go_wp2_with fail
      go_ret
      rw [H7.out]
      exact ⟨rfl, Or.inl ⟨by decide, rfl⟩⟩
    | false =>
      have H0 := hide (show E = 0 by rw [hE, revokeT, h3]; simp [hgn])
      clear h1 h2 h3 hE
      go_enter Tryz.func53, Tryz.ntmps53
      go_wp2_with fail
      refine Hc.out.mono ?_
      rintro e w1 ⟨rfl, h⟩
      subst h
      go_wp2_with fail
      go_ret
      rw [H0.out]
      exact ⟨rfl, Or.inr ⟨rfl, i, hi, g, rfl, HP.out.1, hgn, HP.out.2, rfl⟩⟩
  · have Hc := hide (ringFind_none base b o ao cap ts old w hr hlen h1)
    have H7 := hide (show E = 7 by rw [hE, revokeT, h3])
    clear h1 h3 hE
    go_enter Tryz.func53, Tryz.ntmps53
    go_wp2_with fail
    refine Hc.out.mono ?_
    rintro e w1 ⟨rfl, h⟩
    subst h
    go_wp2_with fail
    go_ret
    rw [H7.out]
    exact ⟨rfl, Or.inl ⟨by decide, rfl⟩⟩

end

end Go.Proofs.YtgcldedkempjhabGreatDoor
