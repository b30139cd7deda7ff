/-
  depotref: candidate, wants, chosen.
-/
import Derived.Test.YtgcldedkempjhabGreatDoorTwo
import Derived.Test.YtgcldedkempjhabGreatDoorRefShow
import Derived.Test.YtgcldedkempjhabGreatDoorRefWants
import Derived.Test.YtgcldedkempjhabGreatDoorRefSlv
import Derived.Deep.DeepCutAuto
import Derived.Laws.OwnMore
namespace Go.Proofs.YtgcldedkempjhabGreatDoor
open Go.RowKit

/-- 'append' of elements that lie anywhere behind those of a slice that owns its row. -/
theorem run_append_any {P : Program} (w : World) (base : Nat) (t ty e : TypeId) (i : TypeInfo) (z : Value) (size bytes : Nat) (h1 : P.underlying t = some (.slice e)) (h2 : P.info? e = some i) (h3 : i.zero = some z) (h4 : i.size = size) (h5 : i.bytes = bytes) (h6 : z.cells.size = size) (h7 : 0 < size)
    (v : Value) (n : Nat) (xs : List Value) (hown : w.ownsRow base e size v n xs) (oao : Option Addr) (m c : Nat) (news : List Value) (hl : news.length = m * size) (hsrc : ∀ j u, news[j]? = some u → ∃ ad, oao = some ad ∧ w.cell? (ad.add j) = some u) (h1c : ∀ u ∈ news, u.oneCell' = true)
    (b1 : n + m ≤ maxLen) (b2 : (n + m) * bytes ≤ 140737488355328) (hbase : base ≤ w.heap.size) :
    ∃ ao' cap' w', (Builtin.append_ #[t, t] ty #[v, .slice oao m c]).run P w = .ok (.slice ao' (n + m) cap') w' ∧ w'.ownsRow base e size (.slice ao' (n + m) cap') (n + m) (xs ++ news) ∧ w.grownBy w' v.ownBlock ∧ ∀ k, blockOf ao' k → v.ownBlock = some k ∨ w.heap.size ≤ k := by
  by_cases hm : m = 0
  · subst hm
    have hn : news = [] := List.eq_nil_of_length_eq_zero (by simpa using hl)
    subst hn
    obtain ⟨ao0, cap0, hv, hle⟩ : ∃ ao0 cap0, v = .slice ao0 n cap0 ∧ n ≤ cap0 := by
      rcases hown.2 with ⟨hv, h0⟩ | ⟨g, cap, cur, hv, _, _, hle, _⟩
      · exact ⟨none, 0, by rw [hv, h0], by omega⟩
      · exact ⟨_, cap, hv, hle⟩
    subst hv
    refine ⟨ao0, cap0, w, run_append_zero w t ty e i h1 h2 ao0 oao n cap0 c hle, by simpa using hown, ⟨rfl, rfl, rfl, Nat.le_refl _, fun _ _ _ => rfl⟩, ?_⟩
    rintro k ⟨ad, rfl, rfl⟩
    exact Or.inl rfl
  · have hpos : 0 < news.length := by rw [hl]; exact Nat.mul_pos (Nat.pos_of_ne_zero hm) h7
    obtain ⟨ad, rfl, _⟩ := hsrc 0 _ (List.getElem?_eq_getElem hpos)
    have hsrc' : ∀ j u, news[j]? = some u → w.cell? (ad.add j) = some u := fun j u hu => by
      obtain ⟨ad', e, h⟩ := hsrc j u hu
      injection e with e
      subst e
      exact h
    obtain ⟨v', w', hrun, r1, r2, r3⟩ := run_append_own2 (P := P) w base t ty e i z size bytes h1 h2 h3 h4 h5 h6 h7 v n xs hown ad m c news hl hsrc' h1c b1 b2 hbase
    rcases r1.2 with ⟨_, h0⟩ | ⟨g', cap', _, hv', _⟩
    · omega
    · subst hv'
      refine ⟨_, cap', w', hrun, r1, r2, ?_⟩
      rintro k ⟨a, e1, rfl⟩
      injection e1 with e1
      subst e1
      exact r3 _ rfl

theorem wpList_append_any {P : Program} (w : World) {ops : Array Oper} {rest : List Oper} {o : Oper} {a : Act} {Q : Exit → Act → World → Prop} (hgd : o.guard = none) (s x : Operand) (t : TypeId)
    (ho : o.op = .call { callee := .builtin .append, args := #[s, x], argTypes := #[t, t] })
    (base : Nat) (e : TypeId) (i : TypeInfo) (z : Value) (size bytes : Nat) (h1 : P.underlying t = some (.slice e)) (h2 : P.info? e = some i) (h3 : i.zero = some z) (h4 : i.size = size) (h5 : i.bytes = bytes) (h6 : z.cells.size = size) (h7 : 0 < size)
    (v : Value) (n : Nat) (xs : List Value) (hs : a.eval s = v) (hown : w.ownsRow base e size v n xs) (oao : Option Addr) (m c : Nat) (hx : a.eval x = .slice oao m c) (news : List Value) (hl : news.length = m * size) (hsrc : ∀ j u, news[j]? = some u → ∃ ad, oao = some ad ∧ w.cell? (ad.add j) = some u) (h1c : ∀ u ∈ news, u.oneCell' = true)
    (b1 : n + m ≤ maxLen) (b2 : (n + m) * bytes ≤ 140737488355328) (hbase : base ≤ w.heap.size)
    (h : ∀ ao' cap' w', w'.ownsRow base e size (.slice ao' (n + m) cap') (n + m) (xs ++ news) → w.grownBy w' v.ownBlock → (∀ k, blockOf ao' k → v.ownBlock = some k ∨ w.heap.size ≤ k) → wpList P ops Q rest (a.put o.dst (.slice ao' (n + m) cap')) w') :
    wpList P ops Q (o :: rest) a w :=
  wpList_plain hgd fun K hK => by
    obtain ⟨ao', cap', w', hrun, r1, r2, r3⟩ := run_append_any (P := P) w base t o.type e i z size bytes h1 h2 h3 h4 h5 h6 h7 v n xs hown oao m c news hl hsrc h1c b1 b2 hbase
    unfold Oper.wp execOp
    simp only [ho, resolve, invoke, builtin, Sem.run_bind, Sem.run_pure, Result.andThen_ok, List.map_toArray, List.map_cons, List.map_nil, hs, hx, hrun]
    exact hK _ _ (h ao' cap' w' r1 r2 r3)

/-- 'append' of elements that lie anywhere behind none. -/
theorem wpList_append_nil {P : Program} (w : World) {ops : Array Oper} {rest : List Oper} {o : Oper} {a : Act} {Q : Exit → Act → World → Prop} (hgd : o.guard = none) (s x : Operand) (t : TypeId)
    (ho : o.op = .call { callee := .builtin .append, args := #[s, x], argTypes := #[t, t] })
    (base : Nat) (e : TypeId) (i : TypeInfo) (z : Value) (size bytes : Nat) (h1 : P.underlying t = some (.slice e)) (h2 : P.info? e = some i) (h3 : i.zero = some z) (h4 : i.size = size) (h5 : i.bytes = bytes) (h6 : z.cells.size = size) (h7 : 0 < size)
    (hs : a.eval s = .slice none 0 0) (oao : Option Addr) (m c : Nat) (hx : a.eval x = .slice oao m c) (news : List Value) (hl : news.length = m * size) (hsrc : ∀ j u, news[j]? = some u → ∃ ad, oao = some ad ∧ w.cell? (ad.add j) = some u) (h1c : ∀ u ∈ news, u.oneCell' = true)
    (b1 : m ≤ maxLen) (b2 : m * bytes ≤ 140737488355328) (hbase : base ≤ w.heap.size)
    (h : ∀ ao' cap' w', w'.ownsRow base e size (.slice ao' m cap') m news → w.grownBy w' none → wpList P ops Q rest (a.put o.dst (.slice ao' m cap')) w') :
    wpList P ops Q (o :: rest) a w := by
  refine wpList_append_any w hgd s x t ho base e i z size bytes h1 h2 h3 h4 h5 h6 h7 (.slice none 0 0) 0 [] hs (World.ownsRow_nil _ _ _ _) oao m c hx news hl hsrc h1c (by omega) (by rw [Nat.zero_add]; exact b2) hbase ?_
  intro ao' cap' w' r1 r2 _
  rw [Nat.zero_add, List.nil_append] at r1
  rw [Nat.zero_add]
  exact h ao' cap' w' r1 r2

/-- Records of three cells in memory, wherever they lie. -/
def CRow {α : Type} (f : α → List Value) (w : World) (ao : Option Addr) (l : List α) : Prop :=
  ∀ k (hk : k < l.length), ∃ g o, ao = some ⟨g, o, none⟩ ∧ g < w.heap.size ∧ ∀ j u, (f l[k])[j]? = some u → w.cell? ⟨g, o + k * 3 + j, none⟩ = some u

section
variable {α : Type} {f : α → List Value}

theorem CRow.below {w w' : World} {ao : Option Addr} {l : List α} (h : CRow f w ao l) (hb : Below w.heap.size w w') : CRow f w' ao l := by
  intro k hk
  obtain ⟨g, o, e, hg, h0⟩ := h k hk
  exact ⟨g, o, e, Nat.lt_of_lt_of_le hg hb.size, fun j u hu => (hb.cell (p := ⟨g, _, none⟩) hg).trans (h0 j u hu)⟩

theorem CRow.nil (w : World) (ao : Option Addr) : CRow f w ao [] := fun k hk => by simp at hk

theorem CRow.tail {w : World} {g o : Nat} {x : α} {t : List α} (h : CRow f w (some ⟨g, o, none⟩) (x :: t)) : CRow f w (some ⟨g, o + 3, none⟩) t := by
  intro k hk
  obtain ⟨g', o', e, hg, h0⟩ := h (k + 1) (by simpa using hk)
  injection e with e
  injection e with e1 e2
  subst e1; subst e2
  simp only [List.getElem_cons_succ] at h0
  refine ⟨g, o + 3, rfl, hg, fun j u hu => ?_⟩
  rw [show o + 3 + k * 3 + j = o + (k + 1) * 3 + j by omega]
  exact h0 j u hu

theorem flat_got {n : Nat} (hf : ∀ x, (f x).length = n) : ∀ (l : List α) (j : Nat) (u : Value), (l.flatMap f)[j]? = some u → ∃ k, ∃ hk : k < l.length, ∃ i, i < n ∧ j = k * n + i ∧ (f l[k])[i]? = some u := by
  intro l
  induction l with
  | nil => intro j u h; simp at h
  | cons x t ih =>
    intro j u h
    rw [List.flatMap_cons] at h
    by_cases hj : j < n
    · rw [List.getElem?_append_left (by rw [hf]; exact hj)] at h
      exact ⟨0, by simp, j, hj, by omega, by simpa using h⟩
    · rw [List.getElem?_append_right (by rw [hf]; omega), hf] at h
      obtain ⟨k, hk, i, hi, e, hu⟩ := ih _ _ h
      refine ⟨k + 1, by simp; omega, i, hi, ?_, by simpa using hu⟩
      rw [Nat.succ_mul]; omega

theorem CRow.src (hf : ∀ x, (f x).length = 3) {w : World} {ao : Option Addr} {l : List α} (h : CRow f w ao l) : ∀ j u, (l.flatMap f)[j]? = some u → ∃ ad, ao = some ad ∧ w.cell? (ad.add j) = some u := by
  intro j u hu
  obtain ⟨k, hk, i, hi, rfl, hx⟩ := flat_got hf l j u hu
  obtain ⟨g, o, e, _, h0⟩ := h k hk
  refine ⟨_, e, ?_⟩
  have hadd : (⟨g, o, none⟩ : Addr).add (k * 3 + i) = ⟨g, o + k * 3 + i, none⟩ := by
    unfold Addr.add; split <;> simp_all <;> omega
  rw [hadd]
  exact h0 i u hx

theorem flat3_length (hf : ∀ x, (f x).length = 3) (l : List α) : (l.flatMap f).length = l.length * 3 := by
  induction l with
  | nil => rfl
  | cons x t ih => rw [List.flatMap_cons, List.length_append, ih, hf, List.length_cons]; omega

theorem CRow.ofOwn (hf : ∀ x, (f x).length = 3) {w : World} {base : Nat} {e : TypeId} {ao : Option Addr} {n cap : Nat} {l : List α} (h : w.ownsRow base e 3 (.slice ao n cap) n (l.flatMap f)) : CRow f w ao l := by
  intro k hk
  have hl : (l.flatMap f).length = n * 3 := h.1
  rw [flat3_length hf] at hl
  have hn : n = l.length := by omega
  subst hn
  obtain ⟨g, hg, hlt, _, hc, _⟩ := row_cell (n := 3) (f := f) (l := l) hf h k hk
  exact ⟨g, 0, hg, hlt, fun j u hu => by rw [Nat.zero_add]; exact hc j u hu⟩

end

theorem dwantCells_length (x : WantD) : (dwantCells x).length = 3 := rfl

/-- A pick in memory. -/
def pickCells (ds : List Deed) (p : ByteArray × Nat) : List Value := [.string p.1, .int .i64 p.2, .string (whoR ds p.1)]

theorem pickCells_length (ds : List Deed) (p : ByteArray × Nat) : (pickCells ds p).length = 3 := rfl

theorem picks_one (ds : List Deed) (l : List (ByteArray × Nat)) : ∀ u ∈ l.flatMap (pickCells ds), u.oneCell' = true := by
  intro u hu
  obtain ⟨x, _, hx⟩ := List.mem_flatMap.1 hu
  simp [pickCells] at hx
  rcases hx with rfl | rfl | rfl <;> rfl

theorem dwants_one (ws : List WantD) : ∀ u ∈ dwantsCells ws, u.oneCell' = true := by
  intro u hu
  unfold dwantsCells at hu
  obtain ⟨x, _, hx⟩ := List.mem_flatMap.1 hu
  simp [dwantCells] at hx
  rcases hx with rfl | rfl | rfl <;> rfl


set_option maxHeartbeats 800000 in
set_option maxRecDepth 100000 in
theorem chosen_any (ds : List Deed) (ao : Option Addr) (cap : Nat) (l : List (ByteArray × Nat)) (s : ByteArray) (w : World) (hrow : CRow (pickCells ds) w ao l) (hl : l.length ≤ 10000000) :
    Calls Tryz.prog 105 #[.slice ao l.length cap, .string s] w fun e w' => e = .returned (.int .i64 (picked l s)) ∧ Below w.heap.size w w' := by
  have HR := hide hrow
  clear hrow
  go_enter Tryz.func105, Tryz.ntmps105
  go_wp2_with fail
  go_loopw [5] (fun i wr => ∃ k : Nat, k ≤ l.length ∧ i = .int .i64 k ∧ picked l s = picked (l.drop k) s ∧ Below w.heap.size w wr) (fun i _ => l.length - (intOf i).toNat)
  case atStart => exact ⟨0, Nat.zero_le _, rfl, rfl, Below.refl _ _⟩
  case round =>
    obtain ⟨k, hk, rfl, hp, hb⟩ := hrel
    by_cases hlt : k < l.length
    · obtain ⟨g, o, rfl, hg, hc⟩ := (HR.out.below hb) k hlt
      have d0 : wr.cell? ⟨g, o + k * 3, none⟩ = some (.string l[k].1) := hc 0 _ rfl
      have d1 : wr.cell? ⟨g, o + k * 3 + 1, none⟩ = some (.int .i64 l[k].2) := hc 1 _ rfl
      have hst : picked (l.drop k) s = if l[k].1 = s then l[k].2 else picked (l.drop (k + 1)) s := by rw [List.drop_eq_getElem_cons hlt]; rfl
      rw [hst] at hp
      clear hst hc
      cases heq : (l[k].1.toList == s.toList) with
      | true =>
        have HF := hide (show picked l s = l[k].2 by rw [hp, if_pos (key_inj (beq_iff_eq.1 heq))])
        clear hp
        go_wp2_with fail
        go_ret
        exact ⟨by rw [HF.out]; rfl, hb⟩
      | false =>
        have HF := hide (show picked l s = picked (l.drop (k + 1)) s by rw [hp, if_neg (fun e => by rw [e] at heq; simp at heq)])
        clear hp
        go_wp2_with fail
        go_roundw
        case rel => exact ⟨k + 1, by omega, by go_num, HF.out, hb⟩
        case measure => simp [intOf] <;> omega
    · have HF := hide (show picked l s = 0 by rw [hp, List.drop_eq_nil_of_le (by omega)]; rfl)
      clear hp
      go_wp2_with fail
      go_ret
      exact ⟨by rw [HF.out]; rfl, hb⟩

/-- The wants that were asked, up to a place: is there one of just this version of this name? -/
theorem alone_step (ask : List WantD) (nm : ByteArray) (v : Int) (k : Nat) (hk : k < ask.length) : aloneW (ask.take (k + 1)) nm v = (aloneW (ask.take k) nm v || (decide (ask[k].name.toList = nm.toList) && (decide (ask[k].lo = v) && decide (ask[k].hi = v)))) := by
  unfold aloneW
  rw [List.take_succ_eq_append_getElem hk, List.any_append]
  congr 1
  rw [Bool.eq_iff_iff]
  simp

set_option maxHeartbeats 1600000 in
set_option maxRecDepth 100000 in
theorem cand_any (rb : Nat) (root time : Int) (ao : Option Addr) (cap : Nat) (ds : List Deed) (house : ByteArray) (so : Option Addr) (sc : Nat) (ask : List WantD) (nm : ByteArray) (v : Int) (w : World)
    (hr : RefAt w rb root time ao cap ds) (hlen : ds.length ≤ 1000000000000) (hs : nm.size ≤ 1000000000) (hrow : CRow dwantCells w so ask) (ha : ask.length ≤ 6) :
    Calls Tryz.prog 106 #[.pointer (some ⟨rb, 0, none⟩), .string house, .slice so ask.length sc, .string nm, .int .i64 v] w fun e w' => e = .returned (.bool (candOkR ds house ask nm v)) ∧ Below w.heap.size w w' := by
  have Hs := hide (rseen_any rb root time ao cap ds house nm w hr hlen hs)
  have HRel := hide (fun o p W h => release_any rb root time ao cap ds o p v W h hlen)
  have HY := hide (fun o p W h => yanked_any rb root time ao cap ds o p v W h hlen)
  have HR := hide hr
  have HC := hide hrow
  obtain ⟨C, hC⟩ : ∃ C, C = candOkR ds house ask nm v := ⟨_, rfl⟩
  rw [← hC]
  unfold candOkR at hC
  clear hr hrow
  generalize ownerF ds nm = p at *
  obtain ⟨o, pk⟩ := p
  simp only at hC Hs
  have HCC := hide hC
  clear hC
  generalize seenE ds house nm = sn at *
  generalize hrl : relF ds o pk v = rl at *
  generalize hyk : yankF ds o pk v = yk at *
  have HRL := hide hrl
  have HYK := hide hyk
  clear hrl hyk
  go_enter Tryz.func106, Tryz.ntmps106
  go_wp2_with fail
  refine Hs.out.mono ?_
  rintro e w1 ⟨rfl, hb1⟩
  go_wp2_with fail
  refine (HRel.out _ _ _ (HR.out.below hb1)).mono ?_
  rintro e w2 ⟨⟨x, _, rfl⟩, hb2⟩
  rw [HRL.out]
  have hb3 := below_call hb1 hb2
  have hb4 := hb3.alloc hb3.size (.cells #[.string x.kind, .string x.house, .int .i64 x.who, .string x.pack, .string x.to, .int .i64 x.num, .int .i64 x.role, .int .i64 x.till, .string x.wants] 93)
  go_wp2_with fail
  refine (HY.out _ _ _ (HR.out.below hb4)).mono ?_
  rintro e w3 ⟨rfl, hb5⟩
  rw [HYK.out]
  have hb6 := below_call hb4 hb5
  clear hb1 hb2 hb3 hb4 hb5 Hs HRel HY
  go_wp2_with fail
  go_loopw [16, 17] (fun y i wr => ∃ k : Nat, k ≤ ask.length ∧ i = .int .i64 k ∧ y = .bool (yk && !aloneW (ask.take k) nm v) ∧ Below w.heap.size w wr) (fun _ i _ => ask.length - (intOf i).toNat)
  case atStart => exact ⟨0, Nat.zero_le _, rfl, by simp [aloneW], hb6⟩
  case round =>
    obtain ⟨k, hk, rfl, rfl, hb⟩ := hrel
    by_cases hlt : k < ask.length
    · obtain ⟨g, oo, rfl, hg, hc⟩ := (HC.out.below hb) k hlt
      have d0 : wr.cell? ⟨g, oo + k * 3, none⟩ = some (.string ask[k].name) := hc 0 _ rfl
      have d1 : wr.cell? ⟨g, oo + k * 3 + 1, none⟩ = some (.int .i64 ask[k].lo) := hc 1 _ rfl
      have d2 : wr.cell? ⟨g, oo + k * 3 + 2, none⟩ = some (.int .i64 ask[k].hi) := hc 2 _ rfl
      have hst := alone_step ask nm v k hlt
      clear hc
      generalize aloneW (ask.take k) nm v = al at *
      generalize hA2 : aloneW (ask.take (k + 1)) nm v = al2 at *
      have HA2 := hide hA2
      clear hA2
      generalize ask[k] = x at *
      have HST := hide hst
      clear hst
      go_wp2_with fail
      all_goals
        go_roundw
        case rel => exact ⟨k + 1, by omega, by go_num, by rw [HA2.out, HST.out]; simp [*], hb⟩
        case measure => simp [intOf] <;> omega
    · obtain rfl : k = ask.length := by omega
      rw [List.take_length]
      have HCF := hide (show C = (sn && (rl.isSome && !(yk && !aloneW ask nm v))) from HCC.out)
      clear HCC
      generalize aloneW ask nm v = al at *
      generalize rl.isSome = rs at *
      cases sn <;> cases rs <;> cases yk <;> cases al
      all_goals
        have HCG := hide (HCF.out)
        clear HCF
        go_wp2_with fail
        go_ret
        exact ⟨by rw [HCG.out]; rfl, hb⟩


set_option maxHeartbeats 800000 in
set_option maxRecDepth 100000 in
theorem rwants_any (rb : Nat) (root time : Int) (ao : Option Addr) (cap : Nat) (ds : List Deed) (nm : ByteArray) (v : Int) (w : World)
    (hr : RefAt w rb root time ao cap ds) (hlen : ds.length ≤ 1000000000000) (hs : nm.size ≤ 1000000000) (x : Deed) (hx : relF ds (ownerF ds nm).1 (ownerF ds nm).2 v = some x) (hxs : x.wants.size ≤ 1000000000) (ws : List WantD) (hw : wantsF x.wants = some ws) :
    Calls Tryz.prog 107 #[.pointer (some ⟨rb, 0, none⟩), .string nm, .int .i64 v] w fun e w' => (∃ wo wc, e = .returned (.slice wo ws.length wc) ∧ CRow dwantCells w' wo ws) ∧ Below w.heap.size w w' := by
  have Ho := hide (owner_any rb root time ao cap ds nm w hr hlen hs)
  have HRel := hide (fun o p W h => release_any rb root time ao cap ds o p v W h hlen)
  have HW := hide (fun W => wants_any x.wants W hxs)
  have HR := hide hr
  have HX := hide hx
  have HWS := hide hw
  clear hr hx hw
  generalize ownerF ds nm = p at *
  obtain ⟨o, pk⟩ := p
  simp only at Ho HX
  go_enter Tryz.func107, Tryz.ntmps107
  go_wp2_with fail
  refine Ho.out.mono ?_
  rintro e w1 ⟨rfl, hb1⟩
  go_wp2_with fail
  refine (HRel.out _ _ _ (HR.out.below hb1)).mono ?_
  rintro e w2 ⟨⟨y, hy, rfl⟩, hb2⟩
  have hyx : y = x := by
    rcases hy with ⟨h, _⟩ | h
    · rw [HX.out] at h; cases h
    · rw [HX.out] at h; injection h with h; exact h.symm
  subst hyx
  rw [HX.out]
  have hb3 := below_call hb1 hb2
  have hb4 := hb3.alloc hb3.size (.cells #[.string y.kind, .string y.house, .int .i64 y.who, .string y.pack, .string y.to, .int .i64 y.num, .int .i64 y.role, .int .i64 y.till, .string y.wants] 93)
  clear hy hb1 hb2 Ho HRel
  go_wp2_with fail
  refine (HW.out _).mono ?_
  rintro e w3 ⟨⟨wo, n, wc, rfl, hrow⟩, hb5⟩
  obtain ⟨rfl, hown⟩ := hrow _ HWS.out
  have HC := hide (CRow.ofOwn dwantCells_length hown)
  have hb6 := below_call hb4 hb5
  clear hrow hown hb5 hb4 hb3
  go_wp2_with fail
  go_ret
  exact ⟨⟨wo, wc, rfl, HC.out⟩, hb6⟩

/-- 'append' of elements that lie anywhere, as one step of a region that draws its order. -/
theorem step_append_any {P : Program} {ops : Array Oper} {o : Oper} {a : Act} {w : World} {K : Act → World → Prop} {Q : Exit → Act → World → Prop} {E : Prop}
    (hg : o.guard = none) (s x : Operand) (t : TypeId) (hop : o.op = Op.call { callee := Callee.builtin Builtin.append, args := #[s, x], argTypes := #[t, t] })
    (base : Nat) (e : TypeId) (i : TypeInfo) (z : Value) (size bytes : Nat) (h1 : P.underlying t = some (.slice e)) (h2 : P.info? e = some i) (h3 : i.zero = some z) (h4 : i.size = size) (h5 : i.bytes = bytes) (h6 : z.cells.size = size) (h7 : 0 < size)
    (v : Value) (n : Nat) (xs : List Value) (hs : a.eval s = v) (hown : w.ownsRow base e size v n xs) (oao : Option Addr) (m c : Nat) (hx : a.eval x = .slice oao m c) (news : List Value) (hl : news.length = m * size) (hsrc : ∀ j u, news[j]? = some u → ∃ ad, oao = some ad ∧ w.cell? (ad.add j) = some u) (h1c : ∀ u ∈ news, u.oneCell' = true)
    (b1 : n + m ≤ maxLen) (b2 : (n + m) * bytes ≤ 140737488355328) (hbase : base ≤ w.heap.size)
    (hK : ∀ ao' cap' w', w'.ownsRow base e size (.slice ao' (n + m) cap') (n + m) (xs ++ news) → w.grownBy w' v.ownBlock → (∀ k, blockOf ao' k → v.ownBlock = some k ∨ w.heap.size ≤ k) → K (a.put o.dst (.slice ao' (n + m) cap')) w') :
    if Region.wanted o (yielded ops a.tmps) = true then Oper.wp P o a w K Q else E := by
  have hw : Region.wanted o (yielded ops a.tmps) = true := by simp [Region.wanted, hg]
  rw [if_pos hw]
  obtain ⟨ao', cap', w', hrun, r1, r2, r3⟩ := run_append_any (P := P) w base t o.type e i z size bytes h1 h2 h3 h4 h5 h6 h7 v n xs hown oao m c news hl hsrc h1c b1 b2 hbase
  unfold Oper.wp
  simp [execOp, hop, resolve, invoke, builtin, hs, hx, hrun, Result.andThen]
  exact hK ao' cap' w' r1 r2 r3

/-- How solve ends. -/
def SolveAs (ds : List Deed) (most : Nat) (r : Res ByteArray) (e : Ending) (w' : World) : Prop :=
  match r with
  | none => e = .returned (.tuple #[.int .i64 2, .slice none 0 0, .int .i64 (most : Int)])
  | some (left, none) => e = .returned (.tuple #[.int .i64 0, .slice none 0 0, .int .i64 ((most - left : Nat) : Int)])
  | some (left, some c) => ∃ ao cap, e = .returned (.tuple #[.int .i64 1, .slice ao c.length cap, .int .i64 ((most - left : Nat) : Int)]) ∧ CRow (pickCells ds) w' ao c.reverse

theorem Tryz.infoRPick : (Tryz.prog.info? 168).map (fun i => (i.zero, i.size, i.bytes)) = some (some (.agg #[.string ⟨#[]⟩, .int .i64 0, .string ⟨#[]⟩]), 3, 40) := by kernel_rfl

theorem own_cap {w : World} {base : Nat} {e : TypeId} {size : Nat} {ao : Option Addr} {n c : Nat} {xs : List Value} (h : w.ownsRow base e size (.slice ao n c) n xs) : n ≤ c := by
  rcases h.2 with ⟨hv, h0⟩ | ⟨g, cp, cur, hv, _, _, h, _⟩
  · omega
  · injection hv with _ _ e3
    omega

theorem candRW_at {ds : List Deed} {house : ByteArray} {ask : List WantD} {nm : ByteArray} {n : Nat} (h : n < 9) : candRW ds house ask nm (n + 1) = (candR ds house ask nm ((n : Int) + 1)).map (List.map WantD.wt) := by
  unfold candRW
  rw [if_pos ⟨by omega, by omega⟩]
  rfl

/-- What the tries of a want tell, by the version and the steps that are left. -/
structure TrySp (ds : List Deed) (house : ByteArray) (ask : List WantD) (k : Nat) (x : WantD) (t : List WantD) (ch : List (ByteArray × Nat)) (most : Nat) (TR : Nat → Nat → Res ByteArray) : Prop where
  top : solve (candRW ds house ask) (k + 1) ((x :: t).map WantD.wt) ch most = TR x.hi.toNat most
  under : ∀ u left : Nat, (u : Int) < x.lo → TR u left = some (left, none)
  skp : ∀ n left : Nat, n < 9 → candOkR ds house ask x.name ((n : Int) + 1) = false → TR (n + 1) left = TR n left
  brk : ∀ n : Nat, n < 9 → x.lo ≤ (n : Int) + 1 → (n : Int) + 1 ≤ x.hi → candOkR ds house ask x.name ((n : Int) + 1) = true → TR (n + 1) 0 = none
  fld : ∀ n left left' : Nat, n < 9 → x.lo ≤ (n : Int) + 1 → (n : Int) + 1 ≤ x.hi → candOkR ds house ask x.name ((n : Int) + 1) = true → solve (candRW ds house ask) k ((t ++ wantsR ds x.name ((n : Int) + 1)).map WantD.wt) ((x.name, n + 1) :: ch) left = some (left', none) → TR (n + 1) (left + 1) = TR n left'
  els : ∀ (n left : Nat) (r : Res ByteArray), n < 9 → x.lo ≤ (n : Int) + 1 → (n : Int) + 1 ≤ x.hi → candOkR ds house ask x.name ((n : Int) + 1) = true → solve (candRW ds house ask) k ((t ++ wantsR ds x.name ((n : Int) + 1)).map WantD.wt) ((x.name, n + 1) :: ch) left = r → (∀ y, r ≠ some (y, none)) → TR (n + 1) (left + 1) = r

theorem try_sp (ds : List Deed) (house : ByteArray) (ask : List WantD) (k : Nat) {x : WantD} (t : List WantD) {ch : List (ByteArray × Nat)} (most : Nat) (h0 : picked ch x.name = 0) (hg : WGood x) : ∃ TR, TrySp ds house ask k x t ch most TR := by
  have hcand : ∀ n : Nat, n < 9 → x.lo ≤ (n : Int) + 1 → (n : Int) + 1 ≤ x.hi → candOkR ds house ask x.name ((n : Int) + 1) = true → (if x.wt.has ((n + 1 : Nat) : Int) then candRW ds house ask x.name (n + 1) else none) = some ((wantsR ds x.name ((n : Int) + 1)).map WantD.wt) := by
    intro n h9 h1 h2 h3
    have hh : x.wt.has ((n + 1 : Nat) : Int) = true := by
      unfold Wt.has
      rw [Bool.and_eq_true]
      exact ⟨decide_eq_true (by show x.lo ≤ _; omega), decide_eq_true (by show _ ≤ x.hi; omega)⟩
    rw [if_pos hh, candRW_at h9]
    unfold candR
    rw [if_pos h3]
    rfl
  refine ⟨tries (solve (candRW ds house ask) k) (candRW ds house ask x.name) (t.map WantD.wt) ch x.wt, ?_, ?_, ?_, ?_, ?_, ?_⟩
  · have h1 := solve_at (cand := candRW ds house ask) (k := k) (left := most) (skip_at (w := x.wt) (t := t.map WantD.wt) h0)
    rw [List.map_cons, h1]
    have hn : x.hi.toNat ≤ 9 := by have := hg.2.2.2; omega
    have h2 := tries_above (f := solve (candRW ds house ask) k) (cand := candRW ds house ask x.name) (rest := t.map WantD.wt) (ch := ch) (w := x.wt) (left := most) x.hi.toNat (by show x.hi ≤ _; omega) (9 - x.hi.toNat)
    rw [show x.hi.toNat + (9 - x.hi.toNat) = 9 by omega] at h2
    exact h2
  · intro u left h
    exact tries_under (w := x.wt) u h
  · intro n left h9 h
    refine tries_skip ?_
    have hno : candR ds house ask x.name ((n : Int) + 1) = none := by
      unfold candR
      rw [h]; rfl
    rw [candRW_at h9, hno]
    simp
  · intro n h9 h1 h2 h3
    exact tries_broke (hcand n h9 h1 h2 h3)
  · intro n left left' h9 h1 h2 h3 h4
    rw [List.map_append] at h4
    exact tries_failed (hcand n h9 h1 h2 h3) h4
  · intro n left r h9 h1 h2 h3 h4 h5
    rw [List.map_append] at h4
    exact tries_else (hcand n h9 h1 h2 h3) h4 h5

end Go.Proofs.YtgcldedkempjhabGreatDoor
