/-
  tokens.Ring: Mint, Revoke.
-/
import Derived.Test.YtgcldedkempjhaaDoorRing
namespace Go.Proofs.YtgcldedkempjhaaDoor
open Go.RowKit

theorem Tryd.infoTok : (Tryd.prog.info? 158).map (fun i => (i.zero, i.size, i.bytes)) = some (some (.agg #[.int .i64 0, .int .i64 0, .int .i64 0, .bool false]), 4, 32) := by kernel_rfl

def mintT (ts : List Tok) (role fresh till : Int) : Int :=
  if role < 1 ∨ 3 < role ∨ fresh < 1 ∨ till < 1 then 1 else if (tokF ts fresh).isSome then 5 else if 8 ≤ ts.length then 6 else 0

/-- A ring with one token more: its row, grown; then the ring's own cell. -/
def RingPush (w w' : World) (base b o : Nat) (ao : Option Addr) (ts : List Tok) (t : Tok) : Prop :=
  ∃ g' cap' w1, w1.ownsRow base 158 4 (.slice (some ⟨g', 0, none⟩) (ts.length + 1) cap') (ts.length + 1) (toksCells ts ++ t.cells) ∧ Chg (blockOf ao) w w1 ∧ (blockOf ao g' ∨ w.heap.size ≤ g') ∧
    w' = w1.setCell ⟨b, o, none⟩ (.slice (some ⟨g', 0, none⟩) (ts.length + 1) cap')

set_option maxHeartbeats 800000 in
set_option maxRecDepth 100000 in
theorem ringMint_any (base b o : Nat) (ao : Option Addr) (cap : Nat) (ts : List Tok) (role fresh till : Int) (w : World) (hr : RingAt w base b o ao cap ts) (hlen : ts.length ≤ 1000)
    (hab : ¬ blockOf ao b) (hbase : base ≤ w.heap.size) (E : Int) (hE : E = mintT ts role fresh till) :
    Calls Tryd.prog 71 #[.pointer (some ⟨b, o, none⟩), .int .i64 role, .int .i64 fresh, .int .i64 till] w fun e w' => e = .returned (.int .i64 E) ∧
      ((E ≠ 0 ∧ w' = w) ∨ (E = 0 ∧ RingPush w w' base b o ao ts ⟨fresh, role, till, false⟩)) := by
  have c := hr.c
  have hf := hr.f
  have hbl := hr.lt
  have hown := hr.own
  have HE := hide hE
  clear hE
  by_cases ha : role < 1 ∨ 3 < role ∨ fresh < 1 ∨ till < 1
  · have H1 := hide (show E = 1 by rw [HE.out, mintT, if_pos ha])
    have HA := hide ha
    clear ha
    go_enter Tryd.func71, Tryd.ntmps71
    go_wp2_with fail
    all_goals first | (go_ret; rw [H1.out]; exact ⟨rfl, Or.inl ⟨by decide, rfl⟩⟩) | (exfalso; have := HA.out; omega)
  · obtain ⟨a1, a2, a3, a4⟩ : 1 ≤ role ∧ role ≤ 3 ∧ 1 ≤ fresh ∧ 1 ≤ till := by omega
    have HM := hide (show mintT ts role fresh till = if (tokF ts fresh).isSome then 5 else if 8 ≤ ts.length then 6 else 0 by rw [mintT, if_neg ha])
    clear ha
    rcases tok_cases ts fresh with ⟨i, hi, h1, h2, h3⟩ | ⟨h1, h3⟩
    · have Hc := hide (ringFind_some base b o _ cap ts fresh w hr hlen i hi h1 h2)
      have H5 := hide (show E = 5 by rw [HE.out, HM.out, h3]; rfl)
      clear h1 h2 h3
      go_enter Tryd.func71, Tryd.ntmps71
      go_wp2_with fail
      refine Hc.out.mono ?_
      rintro e w1 ⟨rfl, h⟩
      subst h
      go_wp2_with fail
      go_ret
      rw [H5.out]
      exact ⟨rfl, Or.inl ⟨by decide, rfl⟩⟩
    · have Hc := hide (ringFind_none base b o ao cap ts fresh w hr hlen h1)
      by_cases h8 : 8 ≤ ts.length
      · have H6 := hide (show E = 6 by rw [HE.out, HM.out, h3, if_pos h8]; rfl)
        clear h1 h3
        go_enter Tryd.func71, Tryd.ntmps71
        go_wp2_with fail
        refine Hc.out.mono ?_
        rintro e w1 ⟨rfl, h⟩
        subst h
        go_wp2_with fail
        go_ret
        rw [H6.out]
        exact ⟨rfl, Or.inl ⟨by decide, rfl⟩⟩
      · have H0 := hide (show E = 0 by rw [HE.out, HM.out, h3, if_neg h8]; rfl)
        clear h1 h3
        obtain ⟨i0, ti, hz0, hz1, hz2⟩ := info_parts Tryd.infoTok
        go_enter Tryd.func71, Tryd.ntmps71
        go_wp2_with fail
        refine Hc.out.mono ?_
        rintro e w1 ⟨rfl, h⟩
        subst h
        go_wp2_with (at_builtin; refine wpList_append_own2 _ rfl (.tmp 37) (.tmp 42) 94 rfl base 158 i0 (.agg #[.int .i64 0, .int .i64 0, .int .i64 0, .bool false]) 4 32 Tryd.underlying94 ti hz0 hz1 hz2 rfl (by decide) (.slice ao ts.length cap) ts.length (toksCells ts) rfl (hown.alloc _) ⟨w1.heap.size, 0, none⟩ 1 1 [.int .i64 fresh, .int .i64 role, .int .i64 till, .bool false] rfl rfl (news_at (t := 158) (fr := (0, 0)) (heap_alloc_new w1 _)) ?_ (by unfold maxLen; omega) (by omega) (by simp; omega) (by omega) ?_)
        · intro u hu
          simp at hu
          rcases hu with rfl | rfl | rfl | rfl <;> rfl
        · intro g' cap' w' hown' hgrow hnew
          have hchg : Chg (blockOf ao) w1 w' := Chg.ofGrown hgrow rfl rfl rfl (by simp) (fun k hk => Below.heap_alloc _ _ _ hk) (fun k hk => Or.inl (row_of hk))
          have HN := hide (show blockOf ao g' ∨ w1.heap.size ≤ g' from hnew.elim (fun h => Or.inl (row_of h)) (fun h => Or.inr (by omega)))
          clear hnew hgrow
          have hk : w'.heap[b]? = w1.heap[b]? := hchg.block b hbl hab
          have k2 := (World.cell?_of_block (a := ⟨b, o, none⟩) hk).trans c
          have kf := (World.frozen?_of_block (a := ⟨b, o, none⟩) hk).trans hf
          clear hk
          go_wp2_with fail
          go_ret
          rw [H0.out]
          exact ⟨rfl, Or.inr ⟨rfl, g', cap', w', hown', hchg, HN.out, rfl⟩⟩

theorem toksCells_revoke (ts : List Tok) (i : Nat) (hi : i < ts.length) : toksCells (ts.set i { ts[i] with gone := true }) = (toksCells ts).set (i * 4 + 3) (.bool true) := by
  induction ts generalizing i with
  | nil => simp at hi
  | cons t ts ih =>
    have hl : t.cells.length = 4 := rfl
    cases i with
    | zero =>
      show ({ t with gone := true } : Tok).cells ++ toksCells ts = (t.cells ++ toksCells ts).set (0 * 4 + 3) (.bool true)
      rw [List.set_append_left _ _ (by rw [hl]; omega)]
      rfl
    | succ i =>
      have hi' : i < ts.length := by simpa using hi
      show t.cells ++ toksCells (ts.set i { ts[i] with gone := true }) = (t.cells ++ toksCells ts).set ((i + 1) * 4 + 3) (.bool true)
      rw [List.set_append_right _ _ (by rw [hl]; omega), hl, ih i hi', show (i + 1) * 4 + 3 - 4 = i * 4 + 3 from by omega]

def revokeT (ts : List Tok) (old : Int) : Int :=
  match tokF ts old with
  | none => 7
  | some t => if t.gone then 7 else 0

/-- A ring of which one token was revoked. -/
def RingGone (w w' : World) (ao : Option Addr) (ts : List Tok) (old : Int) : Prop :=
  ∃ i, ∃ hi : i < ts.length, ∃ g, ao = some ⟨g, 0, none⟩ ∧ ts[i].num = old ∧ ts[i].gone = false ∧ (∀ j, (hj : j < ts.length) → j < i → ts[j].num ≠ old) ∧ w' = w.setCell ⟨g, i * 4 + 3, none⟩ (.bool true)

set_option maxHeartbeats 800000 in
set_option maxRecDepth 100000 in
theorem ringRevoke_any (base b o : Nat) (ao : Option Addr) (cap : Nat) (ts : List Tok) (old : Int) (w : World) (hr : RingAt w base b o ao cap ts) (hlen : ts.length ≤ 1000) (E : Int) (hE : E = revokeT ts old) :
    Calls Tryd.prog 98 #[.pointer (some ⟨b, o, none⟩), .int .i64 old] w fun e w' => e = .returned (.int .i64 E) ∧
      ((E ≠ 0 ∧ w' = w) ∨ (E = 0 ∧ RingGone w w' ao ts old)) := by
  have c := hr.c
  rcases tok_cases ts old with ⟨i, hi, h1, h2, h3⟩ | ⟨h1, h3⟩
  · obtain ⟨g, rfl, hg, hx⟩ := hr.tok i hi
    obtain ⟨d0, d1, d2, d3, f3⟩ := hx
    have Hc := hide (ringFind_some base b o _ cap ts old w hr hlen i hi h1 h2)
    have HP := hide (And.intro h1 h2)
    cases hgn : ts[i].gone with
    | true =>
      have H7 := hide (show E = 7 by rw [hE, revokeT, h3]; simp [hgn])
      clear h1 h2 h3 hE
      go_enter Tryd.func98, Tryd.ntmps98
      go_wp2_with fail
      refine Hc.out.mono ?_
      rintro e w1 ⟨rfl, h⟩
      subst h
      go_wp2_with fail
      go_ret
      rw [H7.out]
      exact ⟨rfl, Or.inl ⟨by decide, rfl⟩⟩
    | false =>
      have H0 := hide (show E = 0 by rw [hE, revokeT, h3]; simp [hgn])
      clear h1 h2 h3 hE
      go_enter Tryd.func98, Tryd.ntmps98
      go_wp2_with fail
      refine Hc.out.mono ?_
      rintro e w1 ⟨rfl, h⟩
      subst h
      go_wp2_with fail
      go_ret
      rw [H0.out]
      exact ⟨rfl, Or.inr ⟨rfl, i, hi, g, rfl, HP.out.1, hgn, HP.out.2, rfl⟩⟩
  · have Hc := hide (ringFind_none base b o ao cap ts old w hr hlen h1)
    have H7 := hide (show E = 7 by rw [hE, revokeT, h3])
    clear h1 h3 hE
    go_enter Tryd.func98, Tryd.ntmps98
    go_wp2_with fail
    refine Hc.out.mono ?_
    rintro e w1 ⟨rfl, h⟩
    subst h
    go_wp2_with fail
    go_ret
    rw [H7.out]
    exact ⟨rfl, Or.inl ⟨by decide, rfl⟩⟩

end Go.Proofs.YtgcldedkempjhaaDoor
