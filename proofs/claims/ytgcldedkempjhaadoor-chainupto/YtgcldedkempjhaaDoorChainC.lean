/-
  depotkeep: Chain.
-/
import Derived.Test.YtgcldedkempjhaaDoorChainB
import Derived.Test.YtgcldedkempjhaaDoorOpenA
import Derived.Test.YtgcldedkempjhaaDoorKnown
namespace Go.Proofs.YtgcldedkempjhaaDoor
open Go.RowKit

/-- A depot beside the logs that were written down. -/
structure CAt (w wr : World) (db : Nat) (D : DepD) (k : Nat) (h g : ByteArray) : Prop where
  dep : DepAt wr db D
  bel : Below w.heap.size w wr
  foot : ∀ j, DepFoot db D j → w.heap.size ≤ j
  sh : (hseF D.pure.hs kH).isSome = true
  sg : (hseF D.pure.hs kG).isSome = true
  lh : logK D.pure kH = h.data.toList
  lg : logK D.pure kG = g.data.toList
  c0 : 0 ≤ D.clock
  c1 : D.clock ≤ 1099511627776
  y : D.yanks ≤ k

def CInv (w wr : World) (db k : Nat) (h g : ByteArray) : Prop := ∃ D, CAt w wr db D k h g

theorem CAt.below {w wr w' : World} {db k : Nat} {D : DepD} {h g : ByteArray} (c : CAt w wr db D k h g) (hb : Below wr.heap.size wr w') : CAt w w' db D k h g :=
  ⟨c.dep.below hb, below_call c.bel hb, c.foot, c.sh, c.sg, c.lh, c.lg, c.c0, c.c1, c.y⟩

theorem ne_hg : kH.toList ≠ [] ∧ kG.toList ≠ [] := by constructor <;> simp [ByteArray.toList_eq]

theorem chain_next {w wr W w3 w5 : World} {db k : Nat} {D : DepD} {h g : ByteArray} {x : TurnD} (c : CAt w wr db D k h g) (hW : Below wr.heap.size wr W) (hst : DepStep W w3 db D (callS D.pure x)) (hb : Below w3.heap.size w3 w5) (h' g' : ByteArray)
    (eh : h'.data.toList = h.data.toList ++ moreL D.pure x kH) (eg : g'.data.toList = g.data.toList ++ moreL D.pure x kG) : CInv w w5 db (k + 1) h' g' := by
  have hsz := Nat.le_trans c.bel.size hW.size
  obtain ⟨D', hD, hP, hC, hF⟩ := hst
  obtain ⟨l1, s1⟩ := chain_step D.pure x kH c.sh ne_hg.1
  obtain ⟨l2, s2⟩ := chain_step D.pure x kG c.sg ne_hg.2
  rw [← hP] at l1 s1 l2 s2
  have hc := callS_clock (P := D.pure) (x := x) c.c0 c.c1
  have hy := callS_yanks D.pure x
  rw [← hP] at hc hy
  have hcy := c.y
  have hb3 : Below w.heap.size W w3 := hC.below hsz (fun j hj => c.foot j hj)
  refine ⟨D', CAt.below ⟨hD, (c.bel.trans (hW.mono c.bel.size)).trans hb3, ?_, s1, s2, by rw [l1, c.lh, eh], by rw [l2, c.lg, eg], hc.1, hc.2, Nat.le_trans hy (Nat.succ_le_succ hcy)⟩ hb⟩
  intro j hj
  exact (hF j hj).elim (c.foot j) (fun h => Nat.le_trans hsz h)

theorem more_err {P : PDep} {x : TurnD} {nm : ByteArray} (h : (callA P x).2.2 ≠ 0) : moreL P x nm = [] := if_neg (fun hc => h hc.1)
theorem more_yes {P : PDep} {x : TurnD} {nm : ByteArray} (h : (callA P x).2.2 = 0) (hn : ((lineW x).2.toList == nm.toList) = true) : moreL P x nm = (lineW x).1.data.toList := if_pos ⟨h, hn⟩
theorem more_no {P : PDep} {x : TurnD} {nm : ByteArray} (hn : ((lineW x).2.toList == nm.toList) = false) : moreL P x nm = [] := if_neg (fun hc => by rw [hn] at hc; exact absurd hc.2 (by decide))

theorem held_P0 : heldF P0 kH 1 = 3 ∧ heldF P0 kG 1 = 3 := by
  obtain ⟨k1, k2, k3, k4⟩ := kHG
  constructor
  · unfold heldF
    rw [if_neg (by simp), hseF_two, if_pos k3]
    simp [roleT, tokF]
  · unfold heldF
    rw [if_neg (by simp), hseF_two, k1, if_neg (by decide), if_pos k4]
    simp [roleT, tokF]

theorem hse_P0 : hseF P0.hs kH = some ⟨kH, [tok0], [], [], log0⟩ ∧ hseF P0.hs kG = some ⟨kG, [tok0], [], [], log0⟩ := by
  obtain ⟨k1, k2, k3, k4⟩ := kHG
  constructor
  · rw [hseF_two, if_pos k3]
  · rw [hseF_two, k1, if_neg (by decide), if_pos k4]

def first0 : ByteArray := ⟨#[55, 55, 58, 109, 105, 110, 116, 32, 49, 32, 51, 32]⟩ ++ ten 1099511627776 ++ ⟨#[59]⟩

theorem first0_is : first0.data.toList = log0 := by
  have h1 : Lib.itoa 77 = [55, 55] := by kernel_rfl
  have h2 : Lib.itoa 1 = [49] := by kernel_rfl
  have h3 : Lib.itoa 3 = [51] := by kernel_rfl
  simp [first0, ten, mintLine, beginL, tenL, h1, h2, h3]

theorem first0_of : (⟨log0.toArray⟩ : ByteArray) = first0 := by
  apply ByteArray.ext
  apply Array.toList_inj.1
  rw [first0_is]

theorem log_P0 : dlogP P0 kH 1 = (first0, 0) := by
  unfold dlogP
  rw [held_P0.1, if_pos (by decide), hse_P0.1]
  simp only [Option.map_some, Option.getD_some]
  rw [first0_of]

theorem head_P0 : dheadP P0 kG 1 = ((sumF first0.data.toList : Int), 0) := by
  unfold dheadP
  rw [held_P0.2, if_pos (by decide), hse_P0.2, first0_is]
  rfl

/-- What Log and Head are answered is what was written down. -/
def ToldOk (x : TurnD) (n : Int) (s : ByteArray) (e : Int) (log : ByteArray) : Prop := ∀ W, TabOk W → Calls Tryd.prog 34 #[.agg (ansW n s e), .int .i64 x.kind, .string log] W fun r w' => r = .returned (.bool true) ∧ Below W.heap.size W w'

theorem logK_house {P : PDep} {house : ByteArray} {id : Int} {log : ByteArray} (h : workF (heldF P house id) 3 = 0) (hl : logK P house = log.data.toList) : dlogP P house id = (log, 0) ∧ dheadP P house id = ((sumF log.data.toList : Int), 0) := by
  unfold dlogP dheadP
  rw [if_pos h, if_pos h]
  unfold logK at hl
  rw [hl]
  exact ⟨rfl, rfl⟩

theorem logK_err {P : PDep} {house : ByteArray} {id : Int} (h : workF (heldF P house id) 3 ≠ 0) : dlogP P house id = (⟨#[]⟩, workF (heldF P house id) 3) ∧ dheadP P house id = (0, workF (heldF P house id) 3) := by
  unfold dlogP dheadP
  rw [if_neg h, if_neg h]
  exact ⟨rfl, rfl⟩

theorem toldOk_of {P : PDep} {x : TurnD} {log : ByteArray} (hk : x.kind = 9 ∨ x.kind = 10) (hl : log.size ≤ 4611686018427387000) (h : workF (heldF P (showsH x.who) (showsI x.who x.id)) 3 = 0 → logK P (showsH x.who) = log.data.toList) :
    ToldOk x (callA P x).1 (callA P x).2.1 (callA P x).2.2 log := by
  intro W hW
  rcases hk with hk | hk
  · have e1 : callA P x = (0, (dlogP P (showsH x.who) (showsI x.who x.id)).1, (dlogP P (showsH x.who) (showsI x.who x.id)).2) := by simp [callA, hk]
    rw [e1]
    by_cases h0 : workF (heldF P (showsH x.who) (showsI x.who x.id)) 3 = 0
    · rw [(logK_house h0 (h h0)).1]
      exact told_log x.kind log W hk
    · rw [(logK_err h0).1]
      exact told_err _ _ _ W h0
  · have e1 : callA P x = ((dheadP P (showsH x.who) (showsI x.who x.id)).1, ⟨#[]⟩, (dheadP P (showsH x.who) (showsI x.who x.id)).2) := by simp [callA, hk]
    rw [e1]
    by_cases h0 : workF (heldF P (showsH x.who) (showsI x.who x.id)) 3 = 0
    · rw [(logK_house h0 (h h0)).2]
      exact told_head x.kind log W hW hl hk
    · rw [(logK_err h0).2]
      exact told_err _ _ _ W h0

theorem shows_cases (who : Int) : showsH who = kH ∨ showsH who = kG ∨ showsH who = ⟨#[]⟩ := by
  unfold showsH
  split
  · exact Or.inl rfl
  · split
    · exact Or.inr (Or.inl rfl)
    · exact Or.inr (Or.inr rfl)

/-- The log that is held against an answer. -/
theorem told_at {w wr : World} {db k : Nat} {D : DepD} {h g : ByteArray} {x : TurnD} (c : CAt w wr db D k h g) (hk : x.kind = 9 ∨ x.kind = 10) : ToldOk x (callA D.pure x).1 (callA D.pure x).2.1 (callA D.pure x).2.2 (if ((showsH x.who).toList == kG.toList) = true then g else h) := by
  have hsize : ∀ nm, (hseF D.pure.hs nm).isSome = true → (logK D.pure nm).length ≤ 4611686018427387000 := by
    intro nm hn
    unfold logK
    cases hx : hseF D.pure.hs nm with
    | none => rw [hx] at hn; cases hn
    | some y =>
      have hm := List.mem_of_find?_eq_some hx
      have h1 := c.dep.lens.l y hm
      have h2 := c.dep.lens.y
      have h3 := lines_le c.dep.lens hm
      simp only [Option.map_some, Option.getD_some]
      omega
  have hh := hsize kH c.sh
  have hg := hsize kG c.sg
  rw [c.lh] at hh
  rw [c.lg] at hg
  obtain ⟨k1, k2, k3, k4⟩ := kHG
  refine toldOk_of hk ?_ ?_
  · split
    · simpa using hg
    · simpa using hh
  · intro h0
    rcases shows_cases x.who with e | e | e
    · rw [e, k1, if_neg (by decide)]; exact c.lh
    · rw [e, k4, if_pos rfl]; exact c.lg
    · rw [e] at h0
      obtain ⟨hne, _⟩ := held_house h0
      simp at hne

theorem line_ask {x : TurnD} (hk : x.kind = 9 ∨ x.kind = 10) : lineW x = (⟨#[]⟩, ⟨#[]⟩) := by
  rcases hk with hk | hk <;> simp [lineW, hk]

theorem text_less {w wr : World} {db k : Nat} {D : DepD} {h g : ByteArray} (c : CAt w wr db D k h g) : h.size ≤ 100000000000000 ∧ g.size ≤ 100000000000000 := by
  have hsize : ∀ nm, (hseF D.pure.hs nm).isSome = true → (logK D.pure nm).length ≤ 100000000000000 := by
    intro nm hn
    unfold logK
    cases hx : hseF D.pure.hs nm with
    | none => rw [hx] at hn; cases hn
    | some y =>
      have hm := List.mem_of_find?_eq_some hx
      have h1 := c.dep.lens.l y hm
      have h2 := c.dep.lens.y
      have h3 := lines_le c.dep.lens hm
      simp only [Option.map_some, Option.getD_some]
      omega
  have hh := hsize kH c.sh
  have hg := hsize kG c.sg
  rw [c.lh] at hh
  rw [c.lg] at hg
  constructor
  · simpa using hh
  · simpa using hg

theorem line_size {x : TurnD} (hx : TurnFit x) (h5 : x.s.size ≤ 1000000000000000) (h6 : x.t.size ≤ 1000000000000000) : (lineW x).1.size ≤ 3000000000000000 := by
  have h1 := ten_size hx.a
  have h2 := ten_size hx.b
  have h3 := ten_size hx.c
  have h4 := ten_size (shows_i64 x.who hx.id)
  have z0 : (⟨#[58]⟩ : ByteArray).size = 1 := rfl
  have z1 : (⟨#[109, 105, 110, 116, 32]⟩ : ByteArray).size = 5 := rfl
  have z2 : (⟨#[32]⟩ : ByteArray).size = 1 := rfl
  have z3 : (⟨#[59]⟩ : ByteArray).size = 1 := rfl
  have z4 : (⟨#[114, 101, 118, 111, 107, 101]⟩ : ByteArray).size = 6 := rfl
  have z5 : (⟨#[112, 117, 98, 108, 105, 115, 104, 32]⟩ : ByteArray).size = 8 := rfl
  have z6 : (⟨#[98, 97, 99, 107, 32]⟩ : ByteArray).size = 5 := rfl
  have z7 : (⟨#[121, 97, 110, 107, 32]⟩ : ByteArray).size = 5 := rfl
  have z8 : (⟨#[103, 114, 97, 110, 116, 32]⟩ : ByteArray).size = 6 := rfl
  have z9 : (⟨#[]⟩ : ByteArray).size = 0 := rfl
  unfold lineW
  simp only
  repeat' split
  all_goals simp only [ByteArray.size_append]
  all_goals omega

end Go.Proofs.YtgcldedkempjhaaDoor
