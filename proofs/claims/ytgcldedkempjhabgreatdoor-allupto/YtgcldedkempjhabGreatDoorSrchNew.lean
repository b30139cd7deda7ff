/-
  search.New.
-/
import Derived.Test.YtgcldedkempjhabGreatDoorSrchSet
namespace Go.Proofs.YtgcldedkempjhabGreatDoor
section
open Go.RowKit

theorem placeN_lt (ns : List ByteArray) (nm : ByteArray) : (placeN ns nm).1 < (placeN ns nm).2.length := by
  unfold placeN
  split
  · rename_i i hi
    exact (List.findIdx?_eq_some_iff_getElem.1 hi).1
  · simp

theorem placeN_mono (ns : List ByteArray) (nm : ByteArray) : ns.length ≤ (placeN ns nm).2.length := by
  unfold placeN
  split <;> simp

theorem linkedN_mono (ns : List ByteArray) (ws : List WantD) : ns.length ≤ (linkedN ns ws).2.length := by
  have key : ∀ (p : List (Wt Nat) × List ByteArray), p.2.length ≤ (ws.foldl linkStep p).2.length := by
    induction ws with
    | nil => intro p; exact Nat.le_refl _
    | cons x t ih =>
      intro p
      have h1 := placeN_mono p.2 x.name
      have h2 := ih (linkStep p x)
      exact Nat.le_trans h1 h2
  exact key ([], ns)

/-- What an offer does: the names that become known; the place; the links. -/
def offerN (ns : List ByteArray) (nm : ByteArray) (ws : List WantD) : Nat × List (Wt Nat) × List ByteArray := ((placeN ns nm).1, (linkedN (placeN ns nm).2 ws).1, (linkedN (placeN ns nm).2 ws).2)

theorem Grown.ent {S S' : SD} {ns : List ByteArray} (h : Grown S S' ns) {i : Nat} (hi : i < S.ents.length) : ∃ hi' : i < S'.ents.length, S'.ents[i] = S.ents[i] := by
  obtain ⟨new, nao, ncap, rfl, _, _⟩ := h
  exact ⟨by simp; omega, by simp [List.getElem_append_left hi]⟩

theorem Grown.list {S S' : SD} {ns : List ByteArray} (h : Grown S S' ns) : S'.list = S.list ∧ S'.asked = S.asked ∧ S'.told = S.told ∧ S'.left = S.left ∧ S'.lao = S.lao := by
  obtain ⟨new, nao, ncap, rfl, _, _⟩ := h
  exact ⟨rfl, rfl, rfl, rfl, rfl⟩

set_option maxHeartbeats 1600000 in
set_option maxRecDepth 100000 in
/-- An offer that is none: a version that was taken back. -/
theorem offer_not (sb : Nat) (S : SD) (nm : ByteArray) (v : Nat) (lv : Value) (w : World) (hr : SAt w sb S) (ha : S.asked ≤ S.list.length) (hv1 : 1 ≤ v) (hv : v ≤ 9) (hl : S.ents.length < 10000) (h0 : aloneN (S.list.take S.asked) (placeN S.names nm).1 v = false) :
    Calls Tryz.prog 121 #[.pointer (some ⟨sb, 0, none⟩), .string nm, .int .i64 v, lv, .bool true] w fun e w' => e = .returned (.tuple #[]) ∧ ∃ S', SAt w' sb S' ∧ Grown S S' (placeN S.names nm).2 ∧ Below sb w w' ∧ Chg (fun k => k = sb ∨ blockOf S.nao k) w w' ∧ ∀ k, blockOf S'.nao k → blockOf S.nao k ∨ w.heap.size ≤ k := by
  have HP := hide (place_any sb S nm w hr hl)
  have HR := hide hr
  have H0 := hide h0
  clear h0 hr
  go_enter Tryz.func121, Tryz.ntmps121
  go_wp2_with fail
  refine HP.out.mono ?_
  rintro e w1 ⟨rfl, S1, h1, g1, hc1, hn1⟩
  obtain ⟨e1, e2, _⟩ := g1.list
  have HB1 := hide (show Below sb w w1 from hc1.below (Nat.le_of_lt HR.out.lt) (by
    rintro k (rfl | hk)
    · exact Nat.le_refl _
    · have := (blockOf_lt HR.out.nown hk).1; omega))
  have HCH := hide (And.intro hc1 hn1)
  have HA := hide (alone_any sb S1 (placeN S.names nm).1 v w1 h1 (by rw [e1, e2]; exact ha))
  rw [e1, e2, H0.out] at HA
  have HS1 := hide (And.intro h1 g1)
  clear HP H0 hc1 h1 g1 e1 e2 hn1
  generalize (placeN S.names nm).1 = pl at *
  go_wp2_with fail
  refine HA.out.mono ?_
  rintro e w2 ⟨rfl, hb2⟩
  have HF := hide (show Below sb w w2 from HB1.out.trans (hb2.mono (Nat.le_of_lt HS1.out.1.lt)))
  have HS2 := hide (HS1.out.1.below hb2)
  have HC2 := hide (show Chg (fun k => k = sb ∨ blockOf S.nao k) w w2 from HCH.out.1.trans (Chg.ofBelow (S := fun k => k = sb ∨ blockOf S.nao k) hb2) (fun _ h => Or.inl h))
  clear hb2
  go_wp2_with fail
  first | go_end0 | refine bodyPost_ret (results_none rfl _ _ _) rfl ?_
  exact ⟨rfl, S1, HS2.out, HS1.out.2, HF.out, HC2.out, HCH.out.2⟩

/-- The last of an offer: it is laid down. -/
theorem offer_laid {w w3 : World} {sb : Nat} {S S1 S2 : SD} {ns : List ByteArray} {ao : Option Addr} {cap : Nat} {l : List (Wt Nat)} {pl v : Nat} {wm : World} (hm : LinkMid wm w3 sb S1 ao cap l ns S2) (h1 : SAt wm sb S1) (hB : Below sb w wm) (hCm : Chg (fun k => k = sb ∨ blockOf S.nao k) w wm) (hN1 : ∀ k, blockOf S1.nao k → blockOf S.nao k ∨ w.heap.size ≤ k) (hg1 : Grown S S1 (S1.names)) (hpl : pl < S2.ents.length) (hv : v ≤ 9) {g : Nat} (hg : S2.nao = some ⟨g, 0, none⟩) :
    (∃ S', SAt ((w3.setCell ⟨g, pl * 22 + 1 + v * 2, none⟩ (.bool true)).setCell ⟨g, pl * 22 + 1 + v * 2 + 1, none⟩ (.slice ao l.length cap)) sb S' ∧ Offered S S' ns pl v l ∧ ∀ k, blockOf S'.nao k → blockOf S.nao k ∨ w.heap.size ≤ k) ∧
      Below sb w ((w3.setCell ⟨g, pl * 22 + 1 + v * 2, none⟩ (.bool true)).setCell ⟨g, pl * 22 + 1 + v * 2 + 1, none⟩ (.slice ao l.length cap)) ∧
      Chg (fun k => k = sb ∨ blockOf S.nao k) w ((w3.setCell ⟨g, pl * 22 + 1 + v * 2, none⟩ (.bool true)).setCell ⟨g, pl * 22 + 1 + v * 2 + 1, none⟩ (.slice ao l.length cap)) := by
  have hgs : sb + 1 ≤ g := (blockOf_lt hm.at_.nown ⟨_, hg, rfl⟩).1
  have hlt := h1.lt
  have hn2 : ∀ k, blockOf S2.nao k → blockOf S.nao k ∨ w.heap.size ≤ k := fun k hk => (hm.nao k hk).elim (hN1 k) (fun h => Or.inr (Nat.le_trans hCm.size h))
  have hgp : (g = sb ∨ blockOf S.nao g) ∨ w.heap.size ≤ g := (hn2 g ⟨_, hg, rfl⟩).imp Or.inr id
  refine ⟨⟨_, hm.at_.setOffer hg hpl v (by omega) ⟨ao, cap, some l⟩ (ownsRow_base hm.row (by omega)) ?_ rfl, ⟨S2, hg1.trans hm.gr, hpl, ao, cap, rfl⟩, hn2⟩, ?_, ?_⟩
  · intro k hk hk'
    rw [(hm.gr.list).2.2.2.2] at hk'
    have := (blockOf_lt h1.lown hk').2
    have := (blockOf_lt hm.row hk).1
    omega
  · exact ((hB.trans hm.bel).setCell (p := ⟨g, _, none⟩) (by show sb ≤ g; omega) _).setCell (p := ⟨g, _, none⟩) (by show sb ≤ g; omega) _
  · refine Chg.setCell (S := fun k => k = sb ∨ blockOf S.nao k) (Chg.setCell (S := fun k => k = sb ∨ blockOf S.nao k) (hCm.trans hm.chg ?_) (p := ⟨g, _, none⟩) hgp _) (p := ⟨g, _, none⟩) hgp _
    rintro k (h | h)
    · exact Or.inl (Or.inl h)
    · exact (hN1 k h).imp Or.inr id

set_option maxHeartbeats 1600000 in
set_option maxRecDepth 100000 in
theorem offer_yes (sb : Nat) (S : SD) (nm : ByteArray) (v : Nat) (wao : Option Addr) (wcap wbase : Nat) (ws : List WantD) (yk : Bool) (w : World) (hr : SAt w sb S) (ha : S.asked ≤ S.list.length) (hv1 : 1 ≤ v) (hv : v ≤ 9) (hl : S.ents.length + ws.length + 1 < 10000)
    (hw : w.ownsRow wbase 172 3 (.slice wao ws.length wcap) ws.length (wantsCells ws)) (hwb : ∀ k, blockOf wao k → k < sb) (h0 : yk = false ∨ aloneN (S.list.take S.asked) (placeN S.names nm).1 v = true) :
    Calls Tryz.prog 121 #[.pointer (some ⟨sb, 0, none⟩), .string nm, .int .i64 v, .slice wao ws.length wcap, .bool yk] w fun e w' => e = .returned (.tuple #[]) ∧
      ∃ S', SAt w' sb S' ∧ Offered S S' (offerN S.names nm ws).2.2 (offerN S.names nm ws).1 v (offerN S.names nm ws).2.1 ∧ Below sb w w' ∧ Chg (fun k => k = sb ∨ blockOf S.nao k) w w' ∧ ∀ k, blockOf S'.nao k → blockOf S.nao k ∨ w.heap.size ≤ k := by
  have HP := hide (place_any sb S nm w hr (by omega))
  have HR := hide hr
  have H0 := hide h0
  have HW := hide hw
  have HWB := hide hwb
  clear h0 hr hw hwb
  have key : ∀ (w1 wm : World) (S1 : SD), SAt w1 sb S1 → Grown S S1 (placeN S.names nm).2 → Below sb w w1 → Below w1.heap.size w1 wm →
      Calls Tryz.prog 112 #[.pointer (some ⟨sb, 0, none⟩), .slice wao ws.length wcap] wm fun e w3 => ∃ ao cap S2, e = .returned (.slice ao ws.length cap) ∧ LinkMid wm w3 sb S1 ao cap (offerN S.names nm ws).2.1 (offerN S.names nm ws).2.2 S2 := by
    intro w1 wm S1 h1 g1 hB hb
    have hm1 := h1.below hb
    have hBm : Below sb w wm := hB.trans (hb.mono (Nat.le_of_lt h1.lt))
    have hln := g1.len
    have hpn := placeN_len S.names nm
    have e0 : S.names.length = S.ents.length := by simp [SD.names]
    have q := linked_any sb S1 wao wcap wbase ws wm hm1 (by omega) (ownsRow_keep HW.out (fun k hk => hBm.block k (HWB.out k hk))) HWB.out
    rw [g1.names] at q
    exact q
  have hlen : ∀ (wm w3 : World) (S1 S2 : SD) (ao : Option Addr) (cap : Nat), LinkMid wm w3 sb S1 ao cap (offerN S.names nm ws).2.1 (offerN S.names nm ws).2.2 S2 → (offerN S.names nm ws).1 < S2.ents.length ∧ (offerN S.names nm ws).2.1.length = ws.length := by
    intro wm w3 S1 S2 ao cap hm
    have h1 := hm.gr.len
    have h2 := placeN_lt S.names nm
    have h3 := linkedN_mono (placeN S.names nm).2 ws
    have h4 := (linkedN_lens (placeN S.names nm).2 ws ws.length (Nat.le_refl _)).1
    rw [List.take_length] at h4
    refine ⟨?_, h4⟩
    show (placeN S.names nm).1 < _
    have e : (offerN S.names nm ws).2.2 = (linkedN (placeN S.names nm).2 ws).2 := rfl
    rw [e] at h1
    omega
  have HK := hide key
  have HLN := hide hlen
  clear key hlen
  have hpe : (offerN S.names nm ws).1 = (placeN S.names nm).1 := rfl
  have fin : ∀ (w1 wm w3 : World) (S1 S2 : SD) (ao : Option Addr) (cap g : Nat), SAt w1 sb S1 → Grown S S1 (placeN S.names nm).2 → Below sb w w1 → Chg (fun k => k = sb ∨ blockOf S.nao k) w w1 → (∀ k, blockOf S1.nao k → blockOf S.nao k ∨ w.heap.size ≤ k) → Below w1.heap.size w1 wm → LinkMid wm w3 sb S1 ao cap (offerN S.names nm ws).2.1 (offerN S.names nm ws).2.2 S2 → S2.nao = some ⟨g, 0, none⟩ →
      (∃ S', SAt ((w3.setCell ⟨g, (placeN S.names nm).1 * 22 + 1 + v * 2, none⟩ (.bool true)).setCell ⟨g, (placeN S.names nm).1 * 22 + 1 + v * 2 + 1, none⟩ (.slice ao ws.length cap)) sb S' ∧ Offered S S' (offerN S.names nm ws).2.2 (offerN S.names nm ws).1 v (offerN S.names nm ws).2.1 ∧ ∀ k, blockOf S'.nao k → blockOf S.nao k ∨ w.heap.size ≤ k) ∧
        Below sb w ((w3.setCell ⟨g, (placeN S.names nm).1 * 22 + 1 + v * 2, none⟩ (.bool true)).setCell ⟨g, (placeN S.names nm).1 * 22 + 1 + v * 2 + 1, none⟩ (.slice ao ws.length cap)) ∧
        Chg (fun k => k = sb ∨ blockOf S.nao k) w ((w3.setCell ⟨g, (placeN S.names nm).1 * 22 + 1 + v * 2, none⟩ (.bool true)).setCell ⟨g, (placeN S.names nm).1 * 22 + 1 + v * 2 + 1, none⟩ (.slice ao ws.length cap)) := by
    intro w1 wm w3 S1 S2 ao cap g h1 g1 hB hC1 hN1 hb hm hg
    obtain ⟨q1, q2⟩ := HLN.out wm w3 S1 S2 ao cap hm
    have := offer_laid (w := w) (S := S) hm (h1.below hb) (hB.trans (hb.mono (Nat.le_of_lt h1.lt))) (hC1.trans (Chg.ofBelow (S := fun k => k = sb ∨ blockOf S.nao k) hb) (fun _ h => Or.inl h)) hN1 (by rw [g1.names]; exact g1) q1 hv hg
    rw [q2] at this
    exact this
  have HFIN := hide fin
  clear fin
  generalize offerN S.names nm ws = off at *
  go_enter Tryz.func121, Tryz.ntmps121
  go_wp2_with fail
  refine HP.out.mono ?_
  rintro e w1 ⟨rfl, S1, h1, g1, hc1, hn1⟩
  obtain ⟨e1, e2, _⟩ := g1.list
  have HB1 := hide (show Below sb w w1 from hc1.below (Nat.le_of_lt HR.out.lt) (by
    rintro k (rfl | hk)
    · exact Nat.le_refl _
    · have := (blockOf_lt HR.out.nown hk).1; omega))
  have HCH := hide (And.intro hc1 hn1)
  have HS1 := hide (And.intro h1 g1)
  cases yk with
  | false =>
    clear HP H0 hc1 h1 g1 e1 e2 hn1
    have HLk := hide (HK.out w1 w1 S1 HS1.out.1 HS1.out.2 HB1.out (Below.refl _ _))
    go_wp2_with fail
    refine HLk.out.mono ?_
    rintro e w3 ⟨ao, cap, S2, rfl, hm⟩
    obtain ⟨q1, q2⟩ := HLN.out _ _ _ _ _ _ hm
    rw [hpe] at q1
    obtain ⟨g, hg, hglt, hgs, _, _, dv, df⟩ := hm.at_.ent _ q1
    obtain ⟨d1, d2⟩ := dv v (by omega)
    have c2 := hm.at_.head.c2
    have hn2 := hm.at_.nl
    rw [hg] at c2
    have HF := hide (HFIN.out w1 w1 w3 S1 S2 ao cap g HS1.out.1 HS1.out.2 HB1.out HCH.out.1 HCH.out.2 (Below.refl _ _) hm hg)
    generalize (placeN S.names nm).1 = pl at *
    clear hm dv HLk HK HLN HFIN HS1 HB1
    go_wp2_with fail
    first | go_end0 | refine bodyPost_ret (results_none rfl _ _ _) rfl ?_
    obtain ⟨⟨S', a1, a2, a4⟩, a3, a5⟩ := HF.out
    exact ⟨rfl, S', a1, a2, a3, a5, a4⟩
  | true =>
    have HA := hide (alone_any sb S1 (placeN S.names nm).1 v w1 h1 (by rw [e1, e2]; exact ha))
    rw [e1, e2, H0.out.resolve_left (by decide)] at HA
    clear HP H0 hc1 h1 g1 e1 e2 hn1
    go_wp2_with fail
    refine HA.out.mono ?_
    rintro e w2 ⟨rfl, hb2⟩
    have HLk := hide (HK.out w1 w2 S1 HS1.out.1 HS1.out.2 HB1.out hb2)
    have HB2 := hide hb2
    clear hb2
    go_wp2_with fail
    refine HLk.out.mono ?_
    rintro e w3 ⟨ao, cap, S2, rfl, hm⟩
    obtain ⟨q1, q2⟩ := HLN.out _ _ _ _ _ _ hm
    rw [hpe] at q1
    obtain ⟨g, hg, hglt, hgs, _, _, dv, df⟩ := hm.at_.ent _ q1
    obtain ⟨d1, d2⟩ := dv v (by omega)
    have c2 := hm.at_.head.c2
    have hn2 := hm.at_.nl
    rw [hg] at c2
    have HF := hide (HFIN.out w1 w2 w3 S1 S2 ao cap g HS1.out.1 HS1.out.2 HB1.out HCH.out.1 HCH.out.2 HB2.out hm hg)
    generalize (placeN S.names nm).1 = pl at *
    clear hm dv HLk HK HLN HFIN HS1 HB1 HB2 HA
    go_wp2_with fail
    first | go_end0 | refine bodyPost_ret (results_none rfl _ _ _) rfl ?_
    obtain ⟨⟨S', a1, a2, a4⟩, a3, a5⟩ := HF.out
    exact ⟨rfl, S', a1, a2, a3, a5, a4⟩

end

section
open Go.RowKit

/-- A search for what was asked: nothing is offered yet. -/
structure Fresh (S : SD) (ws : List WantD) : Prop where
  list : S.list = (linkedN [] ws).1
  asked : S.asked = ws.length
  names : S.names = (linkedN [] ws).2
  told : S.told = 0
  ents : ∀ e ∈ S.ents, ∃ nm, e = newEnt nm

abbrev S0 (n : Nat) : SD := ⟨[], none, 0, n, [], none, 0, 0, 0⟩

theorem SAt.zero (w : World) (n : Nat) : SAt (w.alloc (.cells #[.slice none 0 0, .int .i64 n, .slice none 0 0, .int .i64 0, .int .i64 0] 178)) w.heap.size (S0 n) := by
  have h := heap_alloc_new w (.cells #[.slice none 0 0, .int .i64 n, .slice none 0 0, .int .i64 0, .int .i64 0] 178)
  exact ⟨⟨(cell_of_heap h 0).trans rfl, (cell_of_heap h 1).trans rfl, (cell_of_heap h 2).trans rfl, (cell_of_heap h 3).trans rfl, (cell_of_heap h 4).trans rfl, fun j => frozen_of_heap h j⟩, World.ownsRow_nil _ _ _ _, World.ownsRow_nil _ _ _ _, (fun e he => by cases he), (fun e he => by cases he), Nat.zero_le _, Nat.zero_le _⟩

theorem fresh_laid {w w3 : World} {n : Nat} {S2 : SD} {ns : List ByteArray} {ao : Option Addr} {cap : Nat} {l : List (Wt Nat)} {o : Obj} (_h0 : SAt (w.alloc o) w.heap.size (S0 n)) (hm : LinkMid (w.alloc o) w3 w.heap.size (S0 n) ao cap l ns S2) (hl : l.length ≤ 100000) :
    ∃ S, SAt (w3.setCell ⟨w.heap.size, 0, none⟩ (.slice ao l.length cap)) w.heap.size S ∧ Below w.heap.size w (w3.setCell ⟨w.heap.size, 0, none⟩ (.slice ao l.length cap)) ∧ S.list = l ∧ S.asked = n ∧ S.names = ns ∧ S.told = 0 ∧ ∀ e ∈ S.ents, ∃ nm, e = newEnt nm := by
  obtain ⟨new, nao, ncap, rfl, hn, hnm⟩ := hm.gr
  refine ⟨_, hm.at_.setList ao cap l (ownsRow_base hm.row (by simp)) ?_ hl, ?_, rfl, rfl, hnm, rfl, ?_⟩
  · intro e he v k hk
    obtain ⟨nm, rfl⟩ := hn e (by simpa using he)
    obtain ⟨a, ha, _⟩ := hk
    cases ha
  · exact (((Below.refl _ _).alloc (Nat.le_refl _) o).trans hm.bel).setCell (p := ⟨w.heap.size, 0, none⟩) (Nat.le_refl _) _
  · intro e he
    exact hn e (by simpa using he)

set_option maxHeartbeats 800000 in
set_option maxRecDepth 100000 in
theorem snew_any (wao : Option Addr) (wcap wbase : Nat) (ws : List WantD) (w : World) (hw : w.ownsRow wbase 172 3 (.slice wao ws.length wcap) ws.length (wantsCells ws)) (hl : ws.length ≤ 1000) :
    Calls Tryz.prog 100 #[.slice wao ws.length wcap] w fun e w' => e = .returned (.pointer (some ⟨w.heap.size, 0, none⟩)) ∧ Below w.heap.size w w' ∧ ∃ S, SAt w' w.heap.size S ∧ Fresh S ws := by
  have hz := SAt.zero w ws.length
  have hb0 : Below w.heap.size w (w.alloc (.cells #[.slice none 0 0, .int .i64 ws.length, .slice none 0 0, .int .i64 0, .int .i64 0] 178)) := (Below.refl _ _).alloc (Nat.le_refl _) _
  have HL := hide (linked_any w.heap.size (S0 ws.length) wao wcap wbase ws _ hz (by simp; omega) (ownsRow_keep' hw hb0) (fun k hk => (blockOf_lt hw hk).2))
  have HZ := hide hz
  have hlen : (linkedN [] ws).1.length = ws.length := by
    have := (linkedN_lens [] ws ws.length (Nat.le_refl _)).1
    rwa [List.take_length] at this
  have HLEN := hide hlen
  clear hlen hz hw hb0
  go_enter Tryz.func100, Tryz.ntmps100
  go_wp2_with fail
  refine HL.out.mono ?_
  rintro e w3 ⟨ao, cap, S2, rfl, hm⟩
  have hm' : LinkMid (w.alloc (.cells #[.slice none 0 0, .int .i64 ws.length, .slice none 0 0, .int .i64 0, .int .i64 0] 178)) w3 w.heap.size (S0 ws.length) ao cap (linkedN [] ws).1 (linkedN [] ws).2 S2 := hm
  have c0 := hm'.at_.head.c0
  have f0 := hm'.at_.head.f 0
  have hlt := hm'.at_.lt
  have HF := hide (fresh_laid HZ.out hm' (by rw [HLEN.out]; omega))
  rw [HLEN.out] at HF
  clear hm hm' HL HZ
  go_wp2_with fail
  go_ret
  obtain ⟨S, a1, a2, a3, a4, a5, a6, a7⟩ := HF.out
  exact ⟨rfl, a2, S, a1, a3, a4, a5, a6, a7⟩

end

end Go.Proofs.YtgcldedkempjhabGreatDoor
