/-
  depot.Depot: offerTo: a search is offered all that the holder sees.
-/
import Derived.Test.YtgcldedkempjhabGreatDoorSlvSort
namespace Go.Proofs.YtgcldedkempjhabGreatDoor
section
open Go.RowKit

/-- A search for what was asked while it is offered versions: what was offered till now. -/
structure OffInv (S : SD) (U : List ByteArray) (ask : List WantD) (cd : Nat → Nat → Option (List WantD)) : Prop where
  ns : NsOk S.names U
  ok : OfrOk S.ents
  lnk : LinksOf S.names S.list ask
  a6 : ask.length ≤ 6
  ask : S.asked = ask.length
  ch : ∀ e ∈ S.ents, e.ch = 0
  off : ∀ i, (hi : i < S.ents.length) → ∀ v, OfrIs S.names (S.ents[i].ofr v).ws (cd i v)
  far : ∀ i v, S.ents.length ≤ i → cd i v = none

theorem SD.names_len (S : SD) : S.names.length = S.ents.length := by simp [SD.names]

theorem OffInv.lst {S : SD} {U : List ByteArray} {ask : List WantD} {cd : Nat → Nat → Option (List WantD)} (h : OffInv S U ask cd) : ∀ x ∈ S.list, x.n < S.ents.length := fun x hx => by
  have := h.lnk.lt x hx
  rwa [S.names_len] at this

theorem OffInv.len {S : SD} {U : List ByteArray} {ask : List WantD} {cd : Nat → Nat → Option (List WantD)} (h : OffInv S U ask cd) : S.list.length = S.asked := h.lnk.len.trans h.ask.symm

theorem Grown.pre {S S' : SD} {ns : List ByteArray} (g : Grown S S' ns) : ∃ new, ns = S.names ++ new := by
  obtain ⟨new, nao, ncap, rfl, _, e⟩ := g
  refine ⟨new.map fun e => e.name, ?_⟩
  rw [← e]
  simp [SD.names]

theorem OffInv.grown {S S' : SD} {U ns : List ByteArray} {ask : List WantD} {cd : Nat → Nat → Option (List WantD)} (h : OffInv S U ask cd) (g : Grown S S' ns) (hn : NsOk ns U) : OffInv S' U ask cd := by
  have hnm := g.names
  obtain ⟨pn, hpre⟩ := g.pre
  obtain ⟨new, nao, ncap, rfl, hnew, _⟩ := g
  have hnm2 : ∀ A : SD, A.names = ns → A.names = S.names ++ pn := fun A hA => hA.trans hpre
  refine ⟨by rw [hnm]; exact hn, ?_, ?_, h.a6, h.ask, ?_, ?_, ?_⟩
  · intro i hi v l hl
    simp only at hi hl ⊢
    by_cases hlt : i < S.ents.length
    · rw [List.getElem_append_left hlt] at hl
      obtain ⟨q1, q2⟩ := h.ok i hlt v l hl
      exact ⟨q1, fun x hx => Nat.lt_of_lt_of_le (q2 x hx) (by simp)⟩
    · rw [List.getElem_append_right (by omega)] at hl
      obtain ⟨nm, e⟩ := hnew _ (List.getElem_mem (l := new) (n := i - S.ents.length) (by simp at hi; omega))
      rw [e] at hl
      cases hl
  · rw [hnm2 _ hnm]
    exact h.lnk.more
  · intro e he
    rcases List.mem_append.1 he with he | he
    · exact h.ch e he
    · obtain ⟨nm, rfl⟩ := hnew e he
      rfl
  · intro i hi v
    rw [hnm2 _ hnm]
    simp only at hi ⊢
    by_cases hlt : i < S.ents.length
    · rw [List.getElem_append_left hlt]
      exact (h.off i hlt v).more
    · rw [List.getElem_append_right (by omega)]
      obtain ⟨nm, e⟩ := hnew _ (List.getElem_mem (l := new) (n := i - S.ents.length) (by simp at hi; omega))
      rw [e, h.far i v (by omega)]
      exact ⟨rfl, fun l ws h1 => by cases h1⟩
  · intro i v hi
    simp only [List.length_append] at hi
    exact h.far i v (by omega)

/-- One version more is offered. -/
def updCd (cd : Nat → Nat → Option (List WantD)) (t v : Nat) (c : Option (List WantD)) : Nat → Nat → Option (List WantD) := fun i u => if i = t ∧ u = v then c else cd i u

theorem OffInv.offered {S S' : SD} {U ns : List ByteArray} {i v : Nat} {l : List (Wt Nat)} {ask ws : List WantD} {cd : Nat → Nat → Option (List WantD)} (h : OffInv S U ask cd) (o : Offered S S' ns i v l) (hn : NsOk ns U) (hl : l.length ≤ 6) (hb : LinksOf ns l ws) : OffInv S' U ask (updCd cd i v (some ws)) ∧ S'.names = ns := by
  obtain ⟨S1, g, hi, ao, cap, rfl⟩ := o
  have h1 := h.grown g hn
  have hlen := g.len
  have hnames : ∀ x : Ent, x.name = S1.ents[i].name → (S1.ents.set i x).map (fun e => e.name) = S1.names := by
    intro x hx
    unfold SD.names
    rw [List.map_set, hx]
    apply List.ext_getElem
    · simp
    · intro j a b
      rw [List.getElem_set]
      split
      · rename_i e; subst e; simp
      · rfl
  have hnm : SD.names { S1 with ents := S1.ents.set i (S1.ents[i].offer v ⟨ao, cap, some l⟩) } = S1.names := hnames (S1.ents[i].offer v ⟨ao, cap, some l⟩) rfl
  refine ⟨⟨?_, ?_, ?_, h1.a6, h1.ask, ?_, ?_, ?_⟩, hnm.trans g.names⟩
  · rw [hnm]
    exact h1.ns
  · intro j hj u k hk
    simp only [List.length_set] at hj hk ⊢
    rw [List.getElem_set] at hk
    split at hk
    · rename_i e
      subst e
      unfold Ent.offer at hk
      simp only at hk
      split at hk
      · injection hk with hk
        subst hk
        exact ⟨hl, fun x hx => by rw [hlen]; exact hb.lt x hx⟩
      · exact h1.ok i hi u k hk
    · exact h1.ok j hj u k hk
  · rw [hnm]
    exact h1.lnk
  · intro e he
    rcases List.mem_or_eq_of_mem_set he with he | rfl
    · exact h1.ch e he
    · exact h1.ch S1.ents[i] (List.getElem_mem hi)
  · intro j hj u
    rw [hnm]
    simp only [List.length_set] at hj ⊢
    rw [List.getElem_set]
    unfold updCd
    split
    · rename_i e
      subst e
      unfold Ent.offer
      simp only
      by_cases hu : u = v
      · rw [if_pos hu, if_pos ⟨trivial, hu⟩]
        refine ⟨rfl, fun a b e1 e2 => ?_⟩
        injection e1 with e1
        injection e2 with e2
        rw [← e1, ← e2, g.names]
        exact hb
      · rw [if_neg hu, if_neg (fun hc => hu hc.2)]
        exact h1.off i hi u
    · rename_i hne
      rw [if_neg (fun hc => hne hc.1.symm)]
      exact h1.off j hj u
  · intro j u hj
    simp only [List.length_set] at hj
    unfold updCd
    rw [if_neg (fun hc => by omega)]
    exact h1.far j u hj

theorem Offered.told {S S' : SD} {ns : List ByteArray} {i v : Nat} {l : List (Wt Nat)} (o : Offered S S' ns i v l) : S'.told = S.told := by
  obtain ⟨S1, g, hi, ao, cap, rfl⟩ := o
  exact (g.list).2.2.1

/-- What the search is offered of a version, and that it can be read. -/
def LookOk (w : World) (sb : Nat) (U : List ByteArray) (lk : Int → Option Ed) : Prop :=
  ∀ v e, lk v = some e → ∃ base, w.ownsRow base 172 3 (.slice e.wao e.wants.length e.wcap) e.wants.length (wantsCells e.wants) ∧ (∀ k, blockOf e.wao k → k < sb) ∧ e.wants.length ≤ 6 ∧ ∀ x ∈ e.wants, x.name.toList ∈ keysOf U

/-- A search that is offered versions: what stays as it is. -/
structure OffMid (w wr : World) (sb : Nat) (S S' : SD) (U : List ByteArray) (ask : List WantD) (cd : Nat → Nat → Option (List WantD)) : Prop where
  at_ : SAt wr sb S'
  inv : OffInv S' U ask cd
  told : S'.told = S.told
  pre : ∃ new, S'.names = S.names ++ new
  bel : Below sb w wr
  chg : Chg (fun k => k = sb ∨ blockOf S.nao k) w wr
  nao : ∀ k, blockOf S'.nao k → blockOf S.nao k ∨ w.heap.size ≤ k

theorem OffMid.next {w wr w2 : World} {sb : Nat} {S S1 S2 : SD} {U : List ByteArray} {ask : List WantD} {cd cd2 : Nat → Nat → Option (List WantD)} (h : OffMid w wr sb S S1 U ask cd) (h2 : SAt w2 sb S2) (hi : OffInv S2 U ask cd2) (ht : S2.told = S1.told) (hg : ∃ new, S2.names = S1.names ++ new) (hb : Below sb wr w2) (hc : Chg (fun k => k = sb ∨ blockOf S1.nao k) wr w2) (hn : ∀ k, blockOf S2.nao k → blockOf S1.nao k ∨ wr.heap.size ≤ k) : OffMid w w2 sb S S2 U ask cd2 :=
  ⟨h2, hi, ht.trans h.told, by
    obtain ⟨n1, e1⟩ := h.pre
    obtain ⟨n2, e2⟩ := hg
    exact ⟨n1 ++ n2, by rw [e2, e1, List.append_assoc]⟩, h.bel.trans hb, h.chg.trans hc (by
    rintro k (h1 | h1)
    · exact Or.inl (Or.inl h1)
    · exact (h.nao k h1).imp Or.inr id), fun k hk => (hn k hk).elim (h.nao k) (fun hge => Or.inr (Nat.le_trans h.chg.size hge))⟩

theorem OffMid.below {w wr w2 : World} {sb : Nat} {S S1 : SD} {U : List ByteArray} {ask : List WantD} {cd : Nat → Nat → Option (List WantD)} (h : OffMid w wr sb S S1 U ask cd) (hb : Below wr.heap.size wr w2) : OffMid w w2 sb S S1 U ask cd :=
  h.next (h.at_.below hb) h.inv rfl ⟨[], by simp⟩ (hb.mono (Nat.le_of_lt h.at_.lt)) (Chg.ofBelow hb) (fun _ h => Or.inl h)

theorem OffMid.at_t {w wr : World} {sb : Nat} {S S1 : SD} {U : List ByteArray} {ask : List WantD} {cd : Nat → Nat → Option (List WantD)} (h : OffMid w wr sb S S1 U ask cd) {t : Nat} {nm : ByteArray} (ht : S.names[t]? = some nm) : S1.names[t]? = some nm := by
  obtain ⟨new, e⟩ := h.pre
  rw [e, List.getElem?_append_left (List.getElem?_eq_some_iff.1 ht).1]
  exact ht

/-- What a search is offered of a version. -/
def candE (ask : List WantD) (nm : ByteArray) (v : Int) (o : Option Ed) : Option (List WantD) := o.bind fun e => if e.off && !(aloneW ask nm v) then none else some e.wants

/-- One version is offered. -/
theorem offer_step (sb : Nat) (S S1 : SD) (U : List ByteArray) (ask : List WantD) (cd : Nat → Nat → Option (List WantD)) (t : Nat) (nm : ByteArray) (v : Nat) (lk : Int → Option Ed) (w wr : World) (hlk : LookOk w sb U lk) (h : OffMid w wr sb S S1 U ask cd) (ht : S.names[t]? = some nm) (hc0 : cd t v = none) (hU : U.length ≤ 600) (hv1 : 1 ≤ v) (hv : v ≤ 9) (e : Ed) (he : lk v = some e) :
    Calls Tryz.prog 121 #[.pointer (some ⟨sb, 0, none⟩), .string nm, .int .i64 v, .slice e.wao e.wants.length e.wcap, .bool e.off] wr fun ε w' => ε = .returned (.tuple #[]) ∧ ∃ S2, OffMid w w' sb S S2 U ask (updCd cd t v (candE ask nm v (some e))) ∧ Chg (fun k => k = sb ∨ blockOf S1.nao k) wr w' ∧ ∀ k, blockOf S2.nao k → blockOf S1.nao k ∨ wr.heap.size ≤ k := by
  obtain ⟨base, hrow, hbl, h6, hsub⟩ := hlk v e he
  have ht1 := h.at_t ht
  have hn := h.inv.ns.le
  have hne : S1.names.length = S1.ents.length := S1.names_len
  have hrow' := ownsRow_keep hrow (fun k hk => h.bel.block k (hbl k hk))
  have hpl := placeN_at h.inv.ns.nd ht1
  have htl : t < S1.names.length := (List.getElem?_eq_some_iff.1 ht1).1
  have hal := alone_is h.inv.lnk h.inv.ns.nd htl (ix_of ht1) v
  have htake : S1.list.take S1.asked = S1.list := List.take_of_length_le (Nat.le_of_eq h.inv.len)
  have hlo := linkedN_ok h.inv.ns e.wants hsub
  have hli := linkedN_is S1.names e.wants
  have hlen : (linkedN S1.names e.wants).1.length ≤ 6 := by
    have := (linkedN_lens S1.names e.wants e.wants.length (Nat.le_refl _)).1
    rw [List.take_length] at this
    omega
  have yes : (e.off = false ∨ aloneW ask nm v = true) → Calls Tryz.prog 121 #[.pointer (some ⟨sb, 0, none⟩), .string nm, .int .i64 v, .slice e.wao e.wants.length e.wcap, .bool e.off] wr fun ε w' => ε = .returned (.tuple #[]) ∧ ∃ S2, OffMid w w' sb S S2 U ask (updCd cd t v (candE ask nm v (some e))) ∧ Chg (fun k => k = sb ∨ blockOf S1.nao k) wr w' ∧ ∀ k, blockOf S2.nao k → blockOf S1.nao k ∨ wr.heap.size ≤ k := fun hy => by
    have hce : candE ask nm v (some e) = some e.wants := by
      unfold candE
      rcases hy with hy | hy <;> simp [hy]
    rw [hce]
    refine (offer_yes sb S1 nm v e.wao e.wcap base e.wants e.off wr h.at_ (by rw [h.inv.len]; exact Nat.le_refl _) hv1 hv (by omega) hrow' hbl (by rw [htake, hpl, hal]; exact hy)).mono ?_
    rintro ε w' ⟨rfl, S2, q1, q2, q3, q4, q5⟩
    unfold offerN at q2
    rw [hpl] at q2
    obtain ⟨r1, r2⟩ := h.inv.offered q2 hlo.1 hlen hli.2
    exact ⟨rfl, S2, h.next q1 r1 q2.told (by rw [r2]; exact hli.1) q3 q4 q5, q4, q5⟩
  cases hoff : e.off with
  | false => rw [← hoff]; exact yes (Or.inl hoff)
  | true =>
    cases ha : aloneW ask nm v with
    | true => rw [← hoff]; exact yes (Or.inr ha)
    | false =>
      have hce : updCd cd t v (candE ask nm v (some e)) = cd := by
        have : candE ask nm v (some e) = none := by simp [candE, hoff, ha]
        rw [this]
        funext i u
        unfold updCd
        split
        · rename_i hc
          rw [hc.1, hc.2, hc0]
        · rfl
      rw [hce]
      refine (offer_not sb S1 nm v _ wr h.at_ (by rw [h.inv.len]; exact Nat.le_refl _) hv1 hv (by omega) (by rw [htake, hpl, hal]; exact ha)).mono ?_
      rintro ε w' ⟨rfl, S2, q1, q2, q3, q4, q5⟩
      rw [hpl] at q2
      refine ⟨rfl, S2, h.next q1 (h.inv.grown q2 h.inv.ns) (q2.list).2.2.1 ?_ q3 q4 q5, q4, q5⟩
      rw [q2.names]
      exact ⟨[], by simp⟩

/-- What is offered when the versions below n of one name were. -/
def cdN (cd : Nat → Nat → Option (List WantD)) (ask : List WantD) (nm : ByteArray) (lk : Int → Option Ed) (t n : Nat) : Nat → Nat → Option (List WantD) := fun i u => if i = t ∧ 1 ≤ u ∧ u < n then candE ask nm u (lk u) else cd i u

theorem cdN_start (cd : Nat → Nat → Option (List WantD)) (ask : List WantD) (nm : ByteArray) (lk : Int → Option Ed) (t : Nat) : cdN cd ask nm lk t 1 = cd := by
  funext i u
  unfold cdN
  rw [if_neg (by omega)]

theorem cdN_free {cd : Nat → Nat → Option (List WantD)} {ask : List WantD} {nm : ByteArray} {lk : Int → Option Ed} {t : Nat} (h : ∀ v, cd t v = none) (n : Nat) : cdN cd ask nm lk t n t n = none := by
  unfold cdN
  rw [if_neg (by omega)]
  exact h n

theorem cdN_next {cd : Nat → Nat → Option (List WantD)} {ask : List WantD} {nm : ByteArray} {lk : Int → Option Ed} {t n : Nat} (hn : 1 ≤ n) : updCd (cdN cd ask nm lk t n) t n (candE ask nm n (lk n)) = cdN cd ask nm lk t (n + 1) := by
  funext i u
  unfold updCd cdN
  by_cases h1 : i = t ∧ u = n
  · rw [if_pos h1, if_pos ⟨h1.1, by omega, by omega⟩, h1.2]
  · rw [if_neg h1]
    by_cases h2 : i = t ∧ 1 ≤ u ∧ u < n
    · rw [if_pos h2, if_pos ⟨h2.1, h2.2.1, by omega⟩]
    · rw [if_neg h2, if_neg (fun hc => by
        by_cases hu : u = n
        · exact h1 ⟨hc.1, hu⟩
        · exact h2 ⟨hc.1, hc.2.1, by omega⟩)]

theorem cdN_skip {cd : Nat → Nat → Option (List WantD)} {ask : List WantD} {nm : ByteArray} {lk : Int → Option Ed} {t n : Nat} (h : ∀ v, cd t v = none) (hn : 1 ≤ n) (hl : lk n = none) : cdN cd ask nm lk t n = cdN cd ask nm lk t (n + 1) := by
  rw [← cdN_next hn]
  funext i u
  unfold updCd
  split
  · rename_i hc
    rw [hc.1, hc.2, cdN_free h, hl]
    rfl
  · rfl

set_option maxHeartbeats 1600000 in
set_option maxRecDepth 100000 in
theorem offerAll_any (sb : Nat) (S : SD) (U : List ByteArray) (oo : Option Addr) (sp : Addr) (l nm : ByteArray) (lk : Int → Option Ed) (ask : List WantD) (cd : Nat → Nat → Option (List WantD)) (t : Nat) (w : World) (hr : SAt w sb S) (hi : OffInv S U ask cd) (hlk : LookOk w sb U lk) (ht : S.names[t]? = some nm) (hcd : ∀ v, cd t v = none) (hU : U.length ≤ 600)
    (HL : ∀ W, Below sb w W → ∀ v : Int, Calls Tryz.prog 120 #[.pointer (some sp), .string l, .int .i64 v] W fun e w' => e = .returned (.tuple (lookV (lk v))) ∧ Below W.heap.size W w') :
    Calls Tryz.prog 114 #[.agg #[.pointer oo, .pointer (some sp), .string l], .pointer (some ⟨sb, 0, none⟩), .string nm] w fun e w' => e = .returned (.tuple #[]) ∧ ∃ S', OffMid w w' sb S S' U ask (cdN cd ask nm lk t 10) := by
  have HL' := hide HL
  have HLK := hide hlk
  have hslt := hr.lt
  have HSF := hide (show ∀ k, (k = sb ∨ blockOf S.nao k) → k < w.heap.size from by
    rintro k (rfl | hk)
    · exact hslt
    · exact (blockOf_lt hr.nown hk).2)
  have HM0 := hide (show OffMid w (w.alloc (.cells #[.pointer oo, .pointer (some sp), .string l] 113)) sb S S U ask (cdN cd ask nm lk t 1) from (cdN_start cd ask nm lk t).symm ▸ OffMid.below ⟨hr, hi, rfl, ⟨[], by simp⟩, Below.refl _ _, Chg.refl _ _, fun _ h => Or.inl h⟩ ((Below.refl _ _).alloc (Nat.le_refl _) _))
  have HT := hide ht
  have HC := hide hcd
  clear HL hlk hr hi ht hcd
  go_enter Tryz.func114, Tryz.ntmps114
  go_wp2_with fail
  go_loopw [6, 7, 8, 9] (fun v _ _ _ wr => ∃ (n : Nat) (S1 : SD), 1 ≤ n ∧ n ≤ 10 ∧ v = .int .i64 n ∧ OffMid w wr sb S S1 U ask (cdN cd ask nm lk t n) ∧ wr.heap[w.heap.size]? = some (.cells #[.pointer oo, .pointer (some sp), .string l] 113 (0, 0)) ∧ ¬ blockOf S1.nao w.heap.size) (fun v _ _ _ _ => 10 - (intOf v).toNat)
  case atStart => exact ⟨1, S, Nat.le_refl _, by omega, rfl, HM0.out, heap_alloc_new w _, fun hk => by have := HSF.out _ (Or.inr hk); omega⟩
  case round =>
    obtain ⟨n, S1, h1, h10, rfl, hm, hbox, hnb⟩ := hrel
    clear HM0
    by_cases hlt : n ≤ 9
    · have b1 : wr.cell? ⟨w.heap.size, 1, none⟩ = some (.pointer (some sp)) := (cell_of_heap hbox 1).trans rfl
      have b2 : wr.cell? ⟨w.heap.size, 2, none⟩ = some (.string l) := (cell_of_heap hbox 2).trans rfl
      have hwr : w.heap.size < wr.heap.size := (Array.getElem?_eq_some_iff.1 hbox).1
      have HLn := hide (HL'.out wr hm.bel (n : Int))
      have HM := hide hm
      have HBX := hide hbox
      have HNB := hide hnb
      clear hbox hnb
      cases hlkn : lk (n : Int) with
      | none =>
        rw [hlkn] at HLn
        rw [cdN_skip HC.out h1 hlkn] at HM
        clear hlkn
        go_wp2_with fail
        refine HLn.out.mono ?_
        rintro e w2 ⟨rfl, hb2⟩
        have HB2 := hide hb2
        clear hb2
        simp only [lookV]
        go_wp2_with fail
        go_roundw
        case rel => exact ⟨n + 1, S1, by omega, by omega, by go_num, HM.out.below HB2.out, (HB2.out.block _ hwr).trans HBX.out, HNB.out⟩
        case measure => simp [intOf] <;> omega
      | some ed =>
        rw [hlkn] at HLn
        have HLKN := hide hlkn
        clear hlkn
        go_wp2_with fail
        refine HLn.out.mono ?_
        rintro e w2 ⟨rfl, hb2⟩
        have HM2 := hide (HM.out.below hb2)
        have HBX2 := hide ((hb2.block _ hwr).trans HBX.out)
        have hw2 : w.heap.size < w2.heap.size := Nat.lt_of_lt_of_le hwr hb2.size
        have HO := hide (offer_step sb S S1 U ask _ t nm n lk w w2 HLK.out HM2.out HT.out (cdN_free HC.out n) hU h1 hlt ed HLKN.out)
        clear hb2
        simp only [lookV]
        go_wp2_with fail
        refine HO.out.mono ?_
        rintro e w3 ⟨rfl, S2, hm3, hc3, hn3⟩
        have HF := hide (show OffMid w w3 sb S S2 U ask (cdN cd ask nm lk t (n + 1)) ∧ w3.heap[w.heap.size]? = some (.cells #[.pointer oo, .pointer (some sp), .string l] 113 (0, 0)) ∧ ¬ blockOf S2.nao w.heap.size from ⟨by rw [← HLKN.out, cdN_next h1] at hm3; exact hm3, (hc3.block _ hw2 (by
          rintro (h | h)
          · omega
          · exact HNB.out h)).trans HBX2.out, fun hk => (hn3 _ hk).elim HNB.out (fun h => by omega)⟩)
        clear hm3 hc3 hn3
        go_wp2_with fail
        go_roundw
        case rel => exact ⟨n + 1, S2, by omega, by omega, by go_num, HF.out⟩
        case measure => simp [intOf] <;> omega
    · obtain rfl : n = 10 := by omega
      go_wp2_with fail
      first | go_end0 | refine bodyPost_ret (results_none rfl _ _ _) rfl ?_
      exact ⟨rfl, S1, hm⟩

end

section
open Go.RowKit

def candP (ask : List WantD) (nm : ByteArray) (v : Int) (o : Option PEd) : Option (List WantD) := o.bind fun e => if e.off && !(aloneW ask nm v) then none else some e.wants

theorem candE_pure (ask : List WantD) (nm : ByteArray) (v : Int) (o : Option Ed) : candP ask nm v (o.map Ed.pure) = candE ask nm v o := by
  cases o with
  | none => rfl
  | some e => rfl

/-- What holders of a house are offered of a version. -/
def candD (P : PDep) (house : ByteArray) (ask : List WantD) (nm : ByteArray) (v : Int) : Option (List WantD) :=
  match placeF P nm with
  | (some h, l) => if ((h.name.toList == house.toList) || grtF h.grs l house) && phas h.eds l then candP ask nm v (pedF h.eds l v) else none
  | (none, l) => if phas P.pub l then candP ask nm v (pedF P.pub l v) else none

/-- What seen and Look tell of a name. -/
structure SeenAs (db : Nat) (D : DepD) (house nm : ByteArray) (oo : Option Addr) (sp : Addr) (l : ByteArray) (lk : Int → Option Ed) (sees : Bool) : Prop where
  seen : ∀ W, DepAt W db D → Calls Tryz.prog 70 #[.pointer (some ⟨db, 0, none⟩), .string house, .string nm] W fun e w' =>
      e = .returned (.tuple #[.agg (if sees then #[.pointer oo, .pointer (some sp), .string l] else #[.pointer none, .pointer none, .string ⟨#[]⟩]), .bool sees]) ∧ Below W.heap.size W w'
  look : ∀ W, DepAt W db D → ∀ v : Int, Calls Tryz.prog 120 #[.pointer (some sp), .string l, .int .i64 v] W fun e w' => e = .returned (.tuple (lookV (lk v))) ∧ Below W.heap.size W w'
  has : ∀ v e, lk v = some e → D.hasEd e
  cand : ∀ ask v, candD D.pure house ask nm v = if sees then candE ask nm v (lk v) else none

theorem seen_all (db : Nat) (D : DepD) (house nm : ByteArray) (w : World) (hr : DepAt w db D) (hs : nm.size ≤ 4611686018427387000) : ∃ oo sp l lk sees, SeenAs db D house nm oo sp l lk sees := by
  have houseCase : ∀ (a b : ByteArray) (i : Nat) (hi : i < D.hs.length), splitF nm = (a, b, true) → FirstH D.hs a i → hseF D.pure.hs a = some D.hs[i].pure → ∃ oo sp l lk sees, SeenAs db D house nm oo sp l lk sees := by
    intro a b i hi hsp hf h3
    obtain ⟨g, hg, _⟩ := hr.house i hi
    have hp : placeF D.pure nm = (some D.hs[i].pure, b) := by unfold placeF; rw [hsp]; simp only [if_true]; rw [h3]
    have hel := hr.elen i hi
    have hsh : ∀ W, DepAt W db D → ShelfAt W (db + 1) g (i * 5 + 2) D.hs[i].eao D.hs[i].ecap D.hs[i].eds := by
      intro W hW
      obtain ⟨g2, hg2, _, _, _, _, hsh, _⟩ := hW.house i hi
      rw [hg] at hg2
      injection hg2 with hg2
      injection hg2 with hg2
      subst hg2
      exact hsh
    refine ⟨some ⟨g, i * 5, none⟩, ⟨g, i * 5 + 2, none⟩, b, fun v => edF D.hs[i].eds b v, (D.hs[i].name.toList == house.toList || grtF D.hs[i].grs b house) && hasE D.hs[i].eds b, ?_, ?_, ?_, ?_⟩
    · intro W hW
      exact seen_gen db D house nm (some ⟨g, i * 5, none⟩) ⟨g, i * 5 + 2, none⟩ b _ _ W hW (fun V hV => placeOf_house db D nm a b V hV hs hsp i hi hf g hg) (fun V hV => isOpen_house db D i hi g hg _ b house V hV) (fun V hV => shelfHas_any (db + 1) g (i * 5 + 2) _ _ _ b V (hsh V hV) (by omega))
    · intro W hW v
      exact shelfLook_any (db + 1) g (i * 5 + 2) _ _ _ b v W (hsh W hW) (by omega)
    · intro v e he
      exact Or.inr ⟨D.hs[i], List.getElem_mem hi, List.mem_of_find?_eq_some he⟩
    · intro ask v
      unfold candD
      rw [hp]
      simp only [Hse.pure, hasE_pure, edF_pure, candE_pure]
  have pubCase : placeF D.pure nm = (none, nm) → ((splitF nm).2.2 = false ∨ ∀ j, (hj : j < D.hs.length) → (D.hs[j].name.toList == (splitF nm).1.toList) = false) → ∃ oo sp l lk sees, SeenAs db D house nm oo sp l lk sees := by
    intro hp hno
    have hpl := hr.plen
    refine ⟨none, ⟨db, 3, none⟩, nm, fun v => edF D.pub nm v, true && hasE D.pub nm, ?_, ?_, ?_, ?_⟩
    · intro W hW
      exact seen_gen db D house nm none ⟨db, 3, none⟩ nm _ _ W hW (fun V hV => placeOf_pub db D nm V hV hs hno) (fun V hV => isOpen_pub _ nm house V) (fun V hV => shelfHas_any (db + 1) db 3 _ _ _ nm V hV.public.1 (by omega))
    · intro W hW v
      exact shelfLook_any (db + 1) db 3 _ _ _ nm v W hW.public.1 (by omega)
    · intro v e he
      exact Or.inl (List.mem_of_find?_eq_some he)
    · intro ask v
      unfold candD
      rw [hp]
      simp only [DepD.pure, hasE_pure, edF_pure, candE_pure, Bool.true_and]
  cases hc : (splitF nm).2.2 with
  | false => exact pubCase (by unfold placeF; rw [hc]; rfl) (Or.inl hc)
  | true =>
    rcases hse_cases D (splitF nm).1 with ⟨i, hi, h1, h3⟩ | ⟨h1, h3⟩
    · exact houseCase (splitF nm).1 (splitF nm).2.1 i hi (by rw [← hc]) h1 h3
    · exact pubCase (by unfold placeF; rw [hc]; simp only [if_true]; rw [h3]) (Or.inr h1)

/-- What is offered when the first t names were told. -/
def cdT (P : PDep) (house : ByteArray) (ask : List WantD) (ns : List ByteArray) (t : Nat) : Nat → Nat → Option (List WantD) := fun i v => if i < t ∧ 1 ≤ v ∧ v < 10 then (ns[i]?).bind fun nm => candD P house ask nm v else none

theorem cdT_more {P : PDep} {house : ByteArray} {ask : List WantD} {ns : List ByteArray} (new : List ByteArray) {t : Nat} (h : t ≤ ns.length) : cdT P house ask (ns ++ new) t = cdT P house ask ns t := by
  funext i v
  unfold cdT
  split
  · rename_i hc
    rw [List.getElem?_append_left (by omega)]
  · rfl

theorem cdT_zero (P : PDep) (house : ByteArray) (ask : List WantD) (ns : List ByteArray) : cdT P house ask ns 0 = fun _ _ => none := by
  funext i v
  unfold cdT
  rw [if_neg (by omega)]

theorem cdT_next {P : PDep} {house : ByteArray} {ask : List WantD} {ns : List ByteArray} {t : Nat} {nm : ByteArray} (ht : ns[t]? = some nm) (lk : Int → Option Ed) (h : ∀ v, candD P house ask nm v = candE ask nm v (lk v)) : cdN (cdT P house ask ns t) ask nm lk t 10 = cdT P house ask ns (t + 1) := by
  funext i v
  unfold cdN
  by_cases h1 : i = t ∧ 1 ≤ v ∧ v < 10
  · rw [if_pos h1]
    unfold cdT
    rw [if_pos ⟨by omega, h1.2.1, h1.2.2⟩, h1.1, ht]
    exact (h v).symm
  · rw [if_neg h1]
    unfold cdT
    by_cases h2 : i < t ∧ 1 ≤ v ∧ v < 10
    · rw [if_pos h2, if_pos ⟨by omega, h2.2⟩]
    · rw [if_neg h2, if_neg (fun hc => by
        by_cases hi : i = t
        · exact h1 ⟨hi, hc.2⟩
        · exact h2 ⟨by omega, hc.2⟩)]

theorem cdT_none {P : PDep} {house : ByteArray} {ask : List WantD} {ns : List ByteArray} {t : Nat} {nm : ByteArray} (ht : ns[t]? = some nm) (h : ∀ v, candD P house ask nm v = none) : cdT P house ask ns t = cdT P house ask ns (t + 1) := by
  rw [← cdT_next ht (fun _ => none) (fun v => by rw [h v]; rfl)]
  funext i v
  unfold cdN
  split
  · rename_i hc
    unfold cdT
    rw [if_neg (by omega)]
    rfl
  · rfl

/-- A search at the head of a round: name and more are what Next told. -/
structure ToMid (w wr : World) (sb : Nat) (U : List ByteArray) (P : PDep) (house : ByteArray) (ask : List WantD) (nm : ByteArray) (b : Bool) (S : SD) : Prop where
  at_ : SAt wr sb S
  bel : Below sb w wr
  inv : OffInv S U ask (cdT P house ask S.names (if b then S.told - 1 else S.told))
  le : S.told ≤ S.ents.length
  yes : b = true → 1 ≤ S.told ∧ S.names[S.told - 1]? = some nm
  no : b = false → S.told = S.ents.length

/-- Next, as offerTo calls it. -/
theorem next_to {w wr : World} {sb : Nat} {U : List ByteArray} {P : PDep} {house : ByteArray} {ask : List WantD} {S : SD} (h : SAt wr sb S) (hb : Below sb w wr) (hi : OffInv S U ask (cdT P house ask S.names S.told)) (hle : S.told ≤ S.ents.length) :
    Calls Tryz.prog 113 #[.pointer (some ⟨sb, 0, none⟩)] wr fun e w' => ∃ (nm : ByteArray) (b : Bool) (S2 : SD), e = .returned (.tuple #[.string nm, .bool b]) ∧ ToMid w w' sb U P house ask nm b S2 ∧ (if b then S.told < S2.told else S2.told = S.told) := by
  by_cases hlt : S.told < S.ents.length
  · refine (next_yes sb S wr h hlt).mono ?_
    rintro e w' ⟨rfl, h1, h2⟩
    refine ⟨_, true, _, rfl, ⟨h1, hb.trans h2, ?_, hlt, fun _ => ⟨Nat.le_add_left _ _, ?_⟩, (fun hc => by cases hc)⟩, ?_⟩
    · obtain ⟨q1, q2, q3, q4, q5, q6, q7, q8⟩ := hi
      exact ⟨q1, q2, q3, q4, q5, q6, q7, q8⟩
    · show (S.ents.map fun e => e.name)[S.told + 1 - 1]? = _
      rw [Nat.add_sub_cancel, List.getElem?_map, List.getElem?_eq_getElem hlt]
      rfl
    · simp only [if_true]
      exact Nat.lt_succ_self _
  · have he : S.told = S.ents.length := by omega
    refine (next_no sb S wr h (by omega)).mono ?_
    rintro e w' ⟨rfl, h1⟩
    exact ⟨_, false, S, rfl, ⟨h.below h1, hb.trans (h1.mono (Nat.le_of_lt h.lt)), hi, hle, (fun hc => by cases hc), fun _ => he⟩, rfl⟩

def toldOf (w : World) (sb : Nat) : Nat := match w.cell? ⟨sb, 3, none⟩ with
  | some (.int _ n) => n.toNat
  | _ => 0

theorem SAt.toldOf {w : World} {sb : Nat} {S : SD} (h : SAt w sb S) : toldOf w sb = S.told := by
  unfold Go.Proofs.YtgcldedkempjhabGreatDoor.toldOf
  rw [h.head.c3]
  simp

def toLeft (n : Nat) (w : World) (sb : Nat) (v : Value) : Nat := 2 * (n + 1 - toldOf w sb) + (match v with | .bool true => 1 | _ => 0)

theorem to_less {w wr w2 : World} {sb : Nat} {U : List ByteArray} {P : PDep} {house nm nm2 : ByteArray} {ask : List WantD} {b : Bool} {S S1 S2 : SD} (h : ToMid w wr sb U P house ask nm true S) (ht : S1.told = S.told) (h2 : ToMid w w2 sb U P house ask nm2 b S2) (hif : if b then S1.told < S2.told else S2.told = S1.told) : toLeft U.length w2 sb (.bool b) < toLeft U.length wr sb (.bool true) := by
  unfold toLeft
  rw [h.at_.toldOf, h2.at_.toldOf]
  have h3 := h2.inv.ns.le
  rw [S2.names_len] at h3
  have h4 := h2.le
  cases b with
  | true =>
    simp only [if_true] at hif ⊢
    omega
  | false =>
    simp only [Bool.false_eq_true, if_false] at hif ⊢
    omega

/-- One name is offered. -/
theorem to_round (db : Nat) (D : DepD) (house : ByteArray) (sb : Nat) (U : List ByteArray) (ask : List WantD) (nm : ByteArray) (S : SD) (oo : Option Addr) (sp : Addr) (l : ByteArray) (lk : Int → Option Ed) (w wr : World) (hd : ∀ W, Below sb w W → DepAt W db D) (hwants : ∀ e, D.hasEd e → (∀ k, blockOf e.wao k → k < sb) ∧ ∀ x ∈ e.wants, x.name.toList ∈ keysOf U) (hU : U.length ≤ 600) (h : ToMid w wr sb U D.pure house ask nm true S) (hs : SeenAs db D house nm oo sp l lk true) :
    Calls Tryz.prog 114 #[.agg #[.pointer oo, .pointer (some sp), .string l], .pointer (some ⟨sb, 0, none⟩), .string nm] wr fun e w' => e = .returned (.tuple #[]) ∧ ∃ S', SAt w' sb S' ∧ Below sb w w' ∧ OffInv S' U ask (cdT D.pure house ask S'.names S'.told) ∧ S'.told ≤ S'.ents.length ∧ S'.told = S.told := by
  obtain ⟨h1, hnm⟩ := h.yes rfl
  have hle := h.le
  have hinv := h.inv
  simp only [if_true] at hinv
  have hD := hd wr h.bel
  refine (offerAll_any sb S U oo sp l nm lk ask _ (S.told - 1) wr h.at_ hinv ?_ hnm ?_ hU ?_).mono ?_
  · intro v e he
    have hh := hs.has v e he
    refine ⟨db + 1, hD.rows.want e hh, (hwants e hh).1, ?_, (hwants e hh).2⟩
    rcases hh with hp | ⟨x, hx, he⟩
    · exact (hD.lens.r e.pure (List.mem_map_of_mem hp)).1
    · exact (hD.lens.q x.pure (List.mem_map_of_mem hx) e.pure (List.mem_map_of_mem he)).1
  · intro v
    unfold cdT
    rw [if_neg (by omega)]
  · intro W hW v
    exact hs.look W (hd W (h.bel.trans hW)) v
  · rintro e w' ⟨rfl, S', hm⟩
    have ht := hm.told
    have hgrow : S.ents.length ≤ S'.ents.length := by
      obtain ⟨new, e⟩ := hm.pre
      have := congrArg List.length e
      rw [List.length_append, S'.names_len, S.names_len] at this
      omega
    refine ⟨rfl, S', hm.at_, h.bel.trans hm.bel, ?_, by omega, ht⟩
    have := hm.inv
    rw [cdT_next hnm lk (fun v => by rw [hs.cand]; rfl)] at this
    obtain ⟨new, e⟩ := hm.pre
    rw [ht, e, cdT_more new (by rw [S.names_len]; omega)]
    rw [Nat.sub_add_cancel h1] at this
    exact this

theorem toList_bytes' (s : ByteArray) : s.toList = bytes s := ByteArray.toList_eq s

theorem toList_size {a b : ByteArray} (h : a.toList = b.toList) : a.size = b.size := by
  have := congrArg List.length h
  rw [toList_bytes', toList_bytes', bytes_length, bytes_length] at this
  exact this

set_option maxHeartbeats 1600000 in
set_option maxRecDepth 100000 in
theorem offerTo_any (db : Nat) (D : DepD) (house : ByteArray) (sb : Nat) (U : List ByteArray) (ask : List WantD) (S : SD) (w : World) (hd : ∀ W, Below sb w W → DepAt W db D) (hwants : ∀ e, D.hasEd e → (∀ k, blockOf e.wao k → k < sb) ∧ ∀ x ∈ e.wants, x.name.toList ∈ keysOf U) (hU : U.length ≤ 600) (hsz : ∀ u ∈ U, u.size ≤ 9) (hs : SAt w sb S) (hi : OffInv S U ask (fun _ _ => none)) (ht : S.told = 0) :
    Calls Tryz.prog 101 #[.pointer (some ⟨db, 0, none⟩), .pointer (some ⟨sb, 0, none⟩), .string house] w fun e w' => e = .returned (.tuple #[]) ∧ Below sb w w' ∧ ∃ S', SAt w' sb S' ∧ OffInv S' U ask (cdT D.pure house ask S'.names S'.ents.length) := by
  have HN := hide (next_to (w := w) (P := D.pure) (house := house) hs (Below.refl sb w) (by rw [ht, cdT_zero]; exact hi) (by omega))
  have HD := hide hd
  have HW := hide hwants
  have HS := hide (show ∀ wr nm S1, ToMid w wr sb U D.pure house ask nm true S1 → ∃ oo sp l lk sees, SeenAs db D house nm oo sp l lk sees from fun wr nm S1 h => by
    refine seen_all db D house nm wr (hd wr h.bel) ?_
    obtain ⟨_, h2⟩ := h.yes rfl
    have h3 := h.inv.ns.sub nm.toList (List.mem_map_of_mem (List.mem_of_getElem? h2))
    obtain ⟨u, hu, e⟩ := List.mem_map.1 h3
    have := hsz u hu
    rw [toList_size e] at this
    omega)
  clear hd hwants hs hi ht hsz
  go_enter Tryz.func101, Tryz.ntmps101
  go_wp2_with fail
  refine HN.out.mono ?_
  rintro e w1 ⟨nm, b, S1, rfl, hm, _⟩
  have HM := hide hm
  clear hm HN
  go_wp2_with fail
  go_loopw [6, 7, 8, 9] (fun x y _ _ wr => ∃ (nm : ByteArray) (b : Bool) (S1 : SD), x = .string nm ∧ y = .bool b ∧ ToMid w wr sb U D.pure house ask nm b S1) (fun _ y _ _ wr => toLeft U.length wr sb y)
  case atStart => exact ⟨nm, b, S1, rfl, rfl, HM.out⟩
  case round =>
    clear HM
    obtain ⟨nm, b, S1, rfl, rfl, hm⟩ := hrel
    cases b with
    | false =>
      go_wp2_with fail
      first | go_end0 | refine bodyPost_ret (results_none rfl _ _ _) rfl ?_
      refine ⟨rfl, hm.bel, S1, hm.at_, ?_⟩
      have h1 := hm.inv
      have h2 := hm.no rfl
      simp only [Bool.false_eq_true, if_false] at h1
      rw [h2] at h1
      exact h1
    | true =>
      obtain ⟨oo, sp, l, lk, sees, hsee⟩ := HS.out wr nm S1 hm
      have HM := hide hm
      have HE := hide (hsee.seen wr (HD.out wr hm.bel))
      have hwr := hm.at_.lt
      have hsw : sb ≤ wr.heap.size := Nat.le_of_lt hwr
      clear hm
      go_wp2_with fail
      refine HE.out.mono ?_
      rintro e w2 ⟨rfl, hb2⟩
      have hb3 : Below wr.heap.size wr (w2.alloc (.cells (if sees then #[.pointer oo, .pointer (some sp), .string l] else #[.pointer none, .pointer none, .string ⟨#[]⟩]) 113)) := hb2.alloc hb2.size _
      cases sees with
      | false =>
        have hnx := next_to (w := w) (P := D.pure) (house := house) (HM.out.at_.below hb3) (HM.out.bel.trans (hb3.mono hsw)) (by
          obtain ⟨q1, q2⟩ := HM.out.yes rfl
          have := HM.out.inv
          simp only [if_true] at this
          rw [cdT_none q2 (fun v => by rw [hsee.cand]; rfl), Nat.sub_add_cancel q1] at this
          exact this) HM.out.le
        have HX := hide hnx
        clear hnx hb2 hb3 hsee HE
        go_wp2_with fail
        refine HX.out.mono ?_
        rintro e w4 ⟨nm2, b2, S2, rfl, hm2, hif⟩
        have HM2 := hide hm2
        have HIF := hide hif
        clear hm2 hif
        go_wp2_with fail
        go_roundw
        case rel => exact ⟨nm2, b2, S2, rfl, rfl, HM2.out⟩
        case measure => exact to_less HM.out rfl HM2.out HIF.out
      | true =>
        have hm3 : ToMid w _ sb U D.pure house ask nm true S1 := ⟨HM.out.at_.below hb3, HM.out.bel.trans (hb3.mono hsw), HM.out.inv, HM.out.le, HM.out.yes, HM.out.no⟩
        have HO := hide (to_round db D house sb U ask nm S1 oo sp l lk w _ HD.out HW.out hU hm3 hsee)
        clear hb2 hb3 hsee HE hm3
        go_wp2_with fail
        refine HO.out.mono ?_
        rintro e w3 ⟨rfl, S3, h1, h2, h3, h4, h5⟩
        have HX := hide (next_to (w := w) (P := D.pure) (house := house) h1 h2 h3 h4)
        have HT := hide h5
        clear h1 h2 h3 h4 h5
        go_wp2_with fail
        refine HX.out.mono ?_
        rintro e w4 ⟨nm2, b2, S2, rfl, hm2, hif⟩
        have HM2 := hide hm2
        have HIF := hide hif
        clear hm2 hif
        go_wp2_with fail
        go_roundw
        case rel => exact ⟨nm2, b2, S2, rfl, rfl, HM2.out⟩
        case measure => exact to_less HM.out HT.out HM2.out HIF.out

end

end Go.Proofs.YtgcldedkempjhabGreatDoor
