/-
  depotkeep: picture: much of what a depot tells.
-/
import Derived.Test.YtgcldedkempjhabDoorKnown
namespace Go.Proofs.YtgcldedkempjhabDoor
open Go.RowKit

/-- The six names. -/
def nameK (n : Nat) : ByteArray :=
  match n with
  | 0 => ⟨#[112]⟩
  | 1 => ⟨#[113]⟩
  | 2 => ⟨#[114]⟩
  | 3 => ⟨#[104, 47, 120]⟩
  | 4 => ⟨#[104, 47, 121]⟩
  | _ => ⟨#[104, 47, 122]⟩

theorem nameK_size (n : Nat) : (nameK n).size ≤ 3 := by
  unfold nameK; split <;> decide

set_option maxHeartbeats 400000 in
theorem nameK_any (n : Nat) (hn : n < 6) (w : World) :
    Calls Tryd.prog 17 #[.int .i64 n] w fun e w' => e = .returned (.string (nameK n)) ∧ Below w.heap.size w w' := by
  have hv : n = 0 ∨ n = 1 ∨ n = 2 ∨ n = 3 ∨ n = 4 ∨ n = 5 := by omega
  rcases hv with rfl | rfl | rfl | rfl | rfl | rfl
  all_goals
    go_enter Tryd.func17, Tryd.ntmps17
    go_wp2
    go_ret
    exact ⟨rfl, (Below.refl _ _).alloc (Nat.le_refl _) _⟩

/-- An answer. -/
structure An where
  n : Int
  s : ByteArray
  e : Int

def An.cells (x : An) : List Value := [.int .i64 x.n, .string x.s, .int .i64 x.e]

def ansCells (l : List An) : List Value := l.flatMap An.cells

theorem An.cells_length (x : An) : x.cells.length = 3 := rfl

theorem Tryd.infoAns : (Tryd.prog.info? 32).map (fun i => (i.zero, i.size, i.bytes)) = some (some (.agg #[.int .i64 0, .string ⟨#[]⟩, .int .i64 0]), 3, 32) := by kernel_rfl

def mayA (P : PDep) (house : ByteArray) (id : Int) : An := ⟨(mayF (heldF P house id)).1, ⟨#[]⟩, (mayF (heldF P house id)).2⟩
def logA (P : PDep) (house : ByteArray) : An := ⟨0, (dlogP P house 1).1, (dlogP P house 1).2⟩
def headA (P : PDep) (house : ByteArray) : An := ⟨(dheadP P house 1).1, ⟨#[]⟩, (dheadP P house 1).2⟩
def showA (P : PDep) (house : ByteArray) (id : Int) (n : Nat) : An := ⟨0, (dshowP P house id (nameK n)).1, (dshowP P house id (nameK n)).2⟩

def mayL (P : PDep) (house : ByteArray) (j : Nat) : List An := (List.range j).map fun (i : Nat) => mayA P house ((i : Int) + 1)
def showL (P : PDep) (house : ByteArray) (id : Int) (j : Nat) : List An := (List.range j).map fun n => showA P house id n

theorem mayL_succ (P : PDep) (house : ByteArray) (j : Nat) : mayL P house (j + 1) = mayL P house j ++ [mayA P house ((j : Int) + 1)] := by
  unfold mayL; rw [List.range_succ, List.map_append]; rfl
theorem showL_succ (P : PDep) (house : ByteArray) (id : Int) (j : Nat) : showL P house id (j + 1) = showL P house id j ++ [showA P house id j] := by
  unfold showL; rw [List.range_succ, List.map_append]; rfl
theorem mayL_len (P : PDep) (house : ByteArray) (j : Nat) : (mayL P house j).length = j := by simp [mayL]
theorem showL_len (P : PDep) (house : ByteArray) (id : Int) (j : Nat) : (showL P house id j).length = j := by simp [showL]

/-- What is told of a house. -/
def houseL (P : PDep) (house : ByteArray) : List An := mayL P house 9 ++ [logA P house, headA P house] ++ showL P house 1 6

def clockA (P : PDep) : An := ⟨P.clock, ⟨#[]⟩, 0⟩

def picH (P : PDep) : Nat → List An
  | 0 => [clockA P]
  | 1 => [clockA P] ++ houseL P kH
  | _ => [clockA P] ++ houseL P kH ++ houseL P kG

/-- Much of what a depot tells. -/
def picP (P : PDep) : List An := picH P 2 ++ showL P ⟨#[]⟩ 77 6

theorem houseL_len (P : PDep) (house : ByteArray) : (houseL P house).length = 17 := by simp [houseL, mayL, showL]
theorem picH_len (P : PDep) (k : Nat) : (picH P k).length ≤ 35 := by
  unfold picH; split <;> simp [houseL_len]
theorem picP_len (P : PDep) : (picP P).length = 41 := by simp [picP, picH, houseL_len, showL_len]

/-- A row of answers above what was there. -/
def Pic (w wr : World) (v : Value) (L : List An) : Prop :=
  ∃ ao cp, v = .slice ao L.length cp ∧ wr.ownsRow w.heap.size 32 3 (.slice ao L.length cp) L.length (ansCells L) ∧ Below w.heap.size w wr

theorem Pic.push {w wr : World} {ao : Option Addr} {c : Nat} {L L' : List An} {y : An} (h : wr.ownsRow w.heap.size 32 3 (.slice ao (L.length + 1) c) (L.length + 1) (ansCells L ++ y.cells)) (hb : Below w.heap.size w wr) (e : L' = L ++ [y]) : Pic w wr (.slice ao (L.length + 1) c) L' := by
  subst e
  refine ⟨ao, c, by simp, ?_, hb⟩
  rw [List.length_append, List.length_singleton]
  have : ansCells (L ++ [y]) = ansCells L ++ y.cells := by simp [ansCells]
  rw [this]
  exact h

theorem Pic.push2 {w wr : World} {ao : Option Addr} {c : Nat} {L L' : List An} {y z : An} (h : wr.ownsRow w.heap.size 32 3 (.slice ao (L.length + 2) c) (L.length + 2) (ansCells L ++ (y.cells ++ z.cells))) (hb : Below w.heap.size w wr) (e : L' = L ++ [y, z]) : Pic w wr (.slice ao (L.length + 2) c) L' := by
  subst e
  refine ⟨ao, c, by simp, ?_, hb⟩
  rw [List.length_append, show [y, z].length = 2 from rfl]
  have : ansCells (L ++ [y, z]) = ansCells L ++ (y.cells ++ z.cells) := by simp [ansCells]
  rw [this]
  exact h

theorem Pic.alloc {w wr : World} {v : Value} {L : List An} (h : Pic w wr v L) (o : Obj) : Pic w (wr.alloc o) v L := by
  obtain ⟨ao, cp, h1, h2, h3⟩ := h
  exact ⟨ao, cp, h1, h2.alloc o, h3.alloc h3.size o⟩

theorem heap1_new (w : World) (o : Obj) : (w.alloc o).heap[w.heap.size]? = some o := by simp [World.alloc, -World.alloc_eq]

theorem pic_first (w : World) (n : Int) : Pic w (w.alloc (.cells #[.int .i64 n, .string ⟨#[]⟩, .int .i64 0] 32)) (.slice (some ⟨w.heap.size, 0, none⟩) 1 1) [⟨n, ⟨#[]⟩, 0⟩] :=
  ⟨some ⟨w.heap.size, 0, none⟩, 1, rfl, ⟨rfl, Or.inr ⟨w.heap.size, 1, _, rfl, Nat.le_refl _, heap1_new w _, Nat.le_refl _, by unfold maxLen; omega, rfl, rfl⟩⟩, (Below.refl _ _).alloc (Nat.le_refl _) _⟩

set_option maxHeartbeats 8000000 in
set_option maxRecDepth 100000 in
theorem picture_any (db : Nat) (D : DepD) (w : World) (hr : DepAt w db D) :
    Calls Tryd.prog 6 #[.pointer (some ⟨db, 0, none⟩)] w fun e w' => ∃ v, e = .returned v ∧ Pic w w' v (picP D.pure) := by
  have HR := hide hr
  obtain ⟨i0, ti, hz0, hz1, hz2⟩ := info_parts Tryd.infoAns
  have HC := hide (clock_any db D w hr)
  have HP0 := hide (pic_first w D.pure.clock)
  clear hr
  go_enter Tryd.func6, Tryd.ntmps6
  go_wp2_with fail
  refine HC.out.mono ?_
  rintro e w1 ⟨rfl, hw⟩
  have hw' := hw.symm
  subst hw'
  clear hw
  go_wp2_with fail
  go_loopw [3, 4, 5, 6, 7, 8, 9, 10, 11, 12, 13, 14, 15] (fun l i _ _ _ _ _ _ _ _ _ _ _ wx => (i = .int .i64 0 ∧ Pic w wx l (picH D.pure 0)) ∨ (i = .int .i64 1 ∧ Pic w wx l (picH D.pure 1)) ∨ (i = .int .i64 2 ∧ Pic w wx l (picH D.pure 2))) (fun _ i _ _ _ _ _ _ _ _ _ _ _ _ => 2 - (intOf i).toNat)
  case atStart => exact Or.inl ⟨rfl, HP0.out⟩
  case round =>
    clear HP0 HC
    rcases hrel with ⟨rfl, hP⟩ | ⟨rfl, hP⟩ | ⟨rfl, hP⟩
    · obtain ⟨ao, cp, rfl, hown, hb⟩ := hP
      have HP0 := hide (show Pic w wr (.slice ao (picH D.pure 0).length cp) (picH D.pure 0 ++ mayL D.pure kH 0) from by
        have e : picH D.pure 0 ++ mayL D.pure kH 0 = picH D.pure 0 := by simp [mayL]
        rw [e]
        exact ⟨ao, cp, rfl, hown, hb⟩)
      have HBW := hide hb
      clear hown hb
      go_wp2_with fail
      obtain ⟨wo, rfl⟩ : ∃ wo : World, wo = wr := ⟨_, rfl⟩
      go_loopw [3, 6, 7, 8] (fun l i _ _ wx => ∃ j : Nat, j ≤ 9 ∧ i = .int .i64 ((j : Int) + 1) ∧ Pic w wx l (picH D.pure 0 ++ mayL D.pure kH j)) (fun _ i _ _ _ => 10 - (intOf i).toNat)
      case atStart => exact ⟨0, by omega, rfl, HP0.out.alloc _⟩
      case round =>
        obtain ⟨j, hj, rfl, ao1, cp1, rfl, hown, hb⟩ := hrel
        clear HP0 HBW
        by_cases hlt : j < 9
        · have HM := hide (may_any db D kH ((j : Int) + 1) _ (HR.out.below hb))
          have HE := hide (show picH D.pure 0 ++ mayL D.pure kH (j + 1) = (picH D.pure 0 ++ mayL D.pure kH j) ++ [⟨(mayF (heldF D.pure kH ((j : Int) + 1))).1, ⟨#[]⟩, (mayF (heldF D.pure kH ((j : Int) + 1))).2⟩] by rw [mayL_succ, ← List.append_assoc]; rfl)
          have hL : (picH D.pure 0 ++ mayL D.pure kH j).length ≤ 50 := by have := picH_len D.pure 0; simp [mayL_len]; omega
          have hjl : ((j : Int) + 1) ≤ 9 := by omega
          generalize picH D.pure 0 ++ mayL D.pure kH j = L at *
          generalize mayF (heldF D.pure kH ((j : Int) + 1)) = q at *
          obtain ⟨q1, q2⟩ := q
          simp only at HM HE
          go_wp2_with fail
          refine HM.out.mono ?_
          rintro e w7 ⟨rfl, hb7⟩
          have hb1 := below_call hb hb7
          have hown1 := ownsRow_keep' hown hb7
          clear HM hown hb hb7
          go_wp2_with (at_builtin; refine wpList_append_own2 _ rfl (.tmp 42) (.tmp 46) 28 rfl w.heap.size 32 i0 (.agg #[.int .i64 0, .string ⟨#[]⟩, .int .i64 0]) 3 32 Tryd.underlying28 ti hz0 hz1 hz2 rfl (by decide) _ L.length (ansCells L) rfl (hown1.alloc _) ⟨w7.heap.size, 0, none⟩ 1 1 (An.mk q1 ⟨#[]⟩ q2).cells rfl rfl (news_at (t := 32) (fr := (0, 0)) (heap1_new w7 _)) ?_ (by unfold maxLen; omega) (by omega) ?_ (by omega) ?_)
          · intro u hu
            simp [An.cells] at hu
            rcases hu with rfl | rfl | rfl <;> rfl
          · have := hb1.size; simp; omega
          · intro g' cap' w9 hown2 hgrow _
            have hb3 : Below w.heap.size w w9 := (hb1.alloc hb1.size _).grown hgrow (by have := hb1.size; simp; omega) (fun k' hk' => (hown1.lt k' hk').1)
            have HO := hide hown2
            clear hown1 hown2 hgrow hb1
            go_wp2_with fail
            go_roundw
            case rel => exact ⟨j + 1, by omega, by go_num, Pic.push HO.out hb3 HE.out⟩
            case measure => simp [intOf] <;> omega
        · obtain rfl : j = 9 := by omega
          have HLG := hide (fun W (h : DepAt W db D) => log_any db D kH 1 W h)
          have HHD := hide (fun W (h : DepAt W db D) => head_any db D kH 1 W h)
          have HE := hide (show (picH D.pure 0 ++ mayL D.pure kH 9 ++ [logA D.pure kH, headA D.pure kH]) ++ showL D.pure kH 1 0 = (picH D.pure 0 ++ mayL D.pure kH 9) ++ [⟨0, (dlogP D.pure kH 1).1, (dlogP D.pure kH 1).2⟩, ⟨(dheadP D.pure kH 1).1, ⟨#[]⟩, (dheadP D.pure kH 1).2⟩] by simp [showL, logA, headA])
          have hL : (picH D.pure 0 ++ mayL D.pure kH 9).length ≤ 50 := by have := picH_len D.pure 0; simp [mayL_len]; omega
          have HK := hide (show (picH D.pure 0 ++ mayL D.pure kH 9 ++ [logA D.pure kH, headA D.pure kH]) ++ showL D.pure kH 1 6 = picH D.pure (0 + 1) by simp [picH, houseL])
          generalize picH D.pure 0 ++ mayL D.pure kH 9 = L at *
          generalize dlogP D.pure kH 1 = lg at *
          obtain ⟨l1, l2⟩ := lg
          generalize dheadP D.pure kH 1 = hd at *
          obtain ⟨d1, d2⟩ := hd
          simp only at HLG HHD HE
          go_wp2_with fail
          refine (HLG.out _ (HR.out.below hb)).mono ?_
          rintro e w7 ⟨rfl, hb7⟩
          have hb1 := below_call hb hb7
          have hown1 := ownsRow_keep' hown hb7
          clear HLG hown hb hb7
          go_wp2_with fail
          refine (HHD.out _ (HR.out.below hb1)).mono ?_
          rintro e w8 ⟨rfl, hb8⟩
          have hbn := below_call hb1 hb8
          have hown3 := ownsRow_keep' hown1 hb8
          clear HHD hown1 hb1 hb8
          have hb1 := hbn
          have hown1 := hown3
          clear hbn hown3
          go_wp2_with (at_builtin; refine wpList_append_own2 _ rfl (.tmp 60) (.tmp 67) 28 rfl w.heap.size 32 i0 (.agg #[.int .i64 0, .string ⟨#[]⟩, .int .i64 0]) 3 32 Tryd.underlying28 ti hz0 hz1 hz2 rfl (by decide) _ L.length (ansCells L) rfl (hown1.alloc _) ⟨w8.heap.size, 0, none⟩ 2 2 ((An.mk 0 l1 l2).cells ++ (An.mk d1 ⟨#[]⟩ d2).cells) rfl rfl (news_at (t := 32) (fr := (0, 0)) (heap1_new w8 _)) ?_ (by unfold maxLen; omega) (by omega) ?_ (by omega) ?_)
          · intro u hu
            simp [An.cells] at hu
            rcases hu with rfl | rfl | rfl | rfl | rfl | rfl <;> rfl
          · have := hb1.size; simp; omega
          · intro g' cap' w9 hown2 hgrow _
            have hb3 : Below w.heap.size w w9 := (hb1.alloc hb1.size _).grown hgrow (by have := hb1.size; simp; omega) (fun k' hk' => (hown1.lt k' hk').1)
            have HO := hide hown2
            clear hown1 hown2 hgrow hb1
            have HP1 := hide (Pic.push2 HO.out hb3 HE.out)
            clear HO hb3 HE
            go_wp2_with fail
            go_loopw [3, 13, 14, 15] (fun l i _ _ wx => ∃ j : Nat, j ≤ 6 ∧ i = .int .i64 (j : Int) ∧ Pic w wx l ((L ++ [logA D.pure kH, headA D.pure kH]) ++ showL D.pure kH 1 j)) (fun _ i _ _ _ => 6 - (intOf i).toNat)
            case atStart => exact ⟨0, by omega, rfl, HP1.out⟩
            case round =>
              obtain ⟨j, hj, rfl, ao2, cp2, rfl, hown, hb⟩ := hrel
              clear HP1
              by_cases hlt : j < 6
              · have HN := hide (fun W => nameK_any j hlt W)
                have HS := hide (fun W (h : DepAt W db D) => show_any db D kH 1 (nameK j) W h (by have := nameK_size j; omega))
                have HE := hide (show (L ++ [logA D.pure kH, headA D.pure kH]) ++ showL D.pure kH 1 (j + 1) = ((L ++ [logA D.pure kH, headA D.pure kH]) ++ showL D.pure kH 1 j) ++ [⟨0, (dshowP D.pure kH 1 (nameK j)).1, (dshowP D.pure kH 1 (nameK j)).2⟩] by rw [showL_succ, ← List.append_assoc]; rfl)
                have hL2 : ((L ++ [logA D.pure kH, headA D.pure kH]) ++ showL D.pure kH 1 j).length ≤ 70 := by simp [showL_len]; omega
                have hjl : (j : Int) < 6 := by omega
                generalize (L ++ [logA D.pure kH, headA D.pure kH]) ++ showL D.pure kH 1 j = M at *
                generalize dshowP D.pure kH 1 (nameK j) = q at *
                obtain ⟨q1, q2⟩ := q
                simp only at HS HE
                go_wp2_with fail
                refine (HN.out _).mono ?_
                rintro e w7 ⟨rfl, hb7⟩
                have hbm := below_call hb hb7
                have hownm := ownsRow_keep' hown hb7
                clear HN hown hb hb7
                go_wp2_with fail
                refine (HS.out _ (HR.out.below hbm)).mono ?_
                rintro e w8 ⟨rfl, hb8⟩
                have hb1 := below_call hbm hb8
                have hown1 := ownsRow_keep' hownm hb8
                clear HS hownm hbm hb8
                go_wp2_with (at_builtin; refine wpList_append_own2 _ rfl (.tmp 81) (.tmp 85) 28 rfl w.heap.size 32 i0 (.agg #[.int .i64 0, .string ⟨#[]⟩, .int .i64 0]) 3 32 Tryd.underlying28 ti hz0 hz1 hz2 rfl (by decide) _ M.length (ansCells M) rfl (hown1.alloc _) ⟨w8.heap.size, 0, none⟩ 1 1 (An.mk 0 q1 q2).cells rfl rfl (news_at (t := 32) (fr := (0, 0)) (heap1_new w8 _)) ?_ (by unfold maxLen; omega) (by omega) ?_ (by omega) ?_)
                · intro u hu
                  simp [An.cells] at hu
                  rcases hu with rfl | rfl | rfl <;> rfl
                · have := hb1.size; simp; omega
                · intro g' cap' w9 hown2 hgrow _
                  have hb3 : Below w.heap.size w w9 := (hb1.alloc hb1.size _).grown hgrow (by have := hb1.size; simp; omega) (fun k' hk' => (hown1.lt k' hk').1)
                  have HO := hide hown2
                  clear hown1 hown2 hgrow hb1
                  go_wp2_with fail
                  go_roundw
                  case rel => exact ⟨j + 1, by omega, by go_num, Pic.push HO.out hb3 HE.out⟩
                  case measure => simp [intOf] <;> omega
              · obtain rfl : j = 6 := by omega
                have HF := hide (show Pic w wr (.slice ao2 ((L ++ [logA D.pure kH, headA D.pure kH]) ++ showL D.pure kH 1 6).length cp2) (picH D.pure (0 + 1)) from by rw [← HK.out]; exact ⟨ao2, cp2, rfl, hown, hb⟩)
                clear hown hb
                generalize ((L ++ [logA D.pure kH, headA D.pure kH]) ++ showL D.pure kH 1 6).length = ll at *
                go_wp2_with fail
                go_roundw
                case rel => exact Or.inr (Or.inl ⟨by go_num, HF.out⟩)
                case measure => simp [intOf] <;> omega
    · obtain ⟨ao, cp, rfl, hown, hb⟩ := hP
      have HP0 := hide (show Pic w wr (.slice ao (picH D.pure 1).length cp) (picH D.pure 1 ++ mayL D.pure kG 0) from by
        have e : picH D.pure 1 ++ mayL D.pure kG 0 = picH D.pure 1 := by simp [mayL]
        rw [e]
        exact ⟨ao, cp, rfl, hown, hb⟩)
      have HBW := hide hb
      clear hown hb
      go_wp2_with fail
      obtain ⟨wo, rfl⟩ : ∃ wo : World, wo = wr := ⟨_, rfl⟩
      go_loopw [3, 6, 7, 8] (fun l i _ _ wx => ∃ j : Nat, j ≤ 9 ∧ i = .int .i64 ((j : Int) + 1) ∧ Pic w wx l (picH D.pure 1 ++ mayL D.pure kG j)) (fun _ i _ _ _ => 10 - (intOf i).toNat)
      case atStart => exact ⟨0, by omega, rfl, HP0.out.alloc _⟩
      case round =>
        obtain ⟨j, hj, rfl, ao1, cp1, rfl, hown, hb⟩ := hrel
        clear HP0 HBW
        by_cases hlt : j < 9
        · have HM := hide (may_any db D kG ((j : Int) + 1) _ (HR.out.below hb))
          have HE := hide (show picH D.pure 1 ++ mayL D.pure kG (j + 1) = (picH D.pure 1 ++ mayL D.pure kG j) ++ [⟨(mayF (heldF D.pure kG ((j : Int) + 1))).1, ⟨#[]⟩, (mayF (heldF D.pure kG ((j : Int) + 1))).2⟩] by rw [mayL_succ, ← List.append_assoc]; rfl)
          have hL : (picH D.pure 1 ++ mayL D.pure kG j).length ≤ 50 := by have := picH_len D.pure 1; simp [mayL_len]; omega
          have hjl : ((j : Int) + 1) ≤ 9 := by omega
          generalize picH D.pure 1 ++ mayL D.pure kG j = L at *
          generalize mayF (heldF D.pure kG ((j : Int) + 1)) = q at *
          obtain ⟨q1, q2⟩ := q
          simp only at HM HE
          go_wp2_with fail
          refine HM.out.mono ?_
          rintro e w7 ⟨rfl, hb7⟩
          have hb1 := below_call hb hb7
          have hown1 := ownsRow_keep' hown hb7
          clear HM hown hb hb7
          go_wp2_with (at_builtin; refine wpList_append_own2 _ rfl (.tmp 42) (.tmp 46) 28 rfl w.heap.size 32 i0 (.agg #[.int .i64 0, .string ⟨#[]⟩, .int .i64 0]) 3 32 Tryd.underlying28 ti hz0 hz1 hz2 rfl (by decide) _ L.length (ansCells L) rfl (hown1.alloc _) ⟨w7.heap.size, 0, none⟩ 1 1 (An.mk q1 ⟨#[]⟩ q2).cells rfl rfl (news_at (t := 32) (fr := (0, 0)) (heap1_new w7 _)) ?_ (by unfold maxLen; omega) (by omega) ?_ (by omega) ?_)
          · intro u hu
            simp [An.cells] at hu
            rcases hu with rfl | rfl | rfl <;> rfl
          · have := hb1.size; simp; omega
          · intro g' cap' w9 hown2 hgrow _
            have hb3 : Below w.heap.size w w9 := (hb1.alloc hb1.size _).grown hgrow (by have := hb1.size; simp; omega) (fun k' hk' => (hown1.lt k' hk').1)
            have HO := hide hown2
            clear hown1 hown2 hgrow hb1
            go_wp2_with fail
            go_roundw
            case rel => exact ⟨j + 1, by omega, by go_num, Pic.push HO.out hb3 HE.out⟩
            case measure => simp [intOf] <;> omega
        · obtain rfl : j = 9 := by omega
          have HLG := hide (fun W (h : DepAt W db D) => log_any db D kG 1 W h)
          have HHD := hide (fun W (h : DepAt W db D) => head_any db D kG 1 W h)
          have HE := hide (show (picH D.pure 1 ++ mayL D.pure kG 9 ++ [logA D.pure kG, headA D.pure kG]) ++ showL D.pure kG 1 0 = (picH D.pure 1 ++ mayL D.pure kG 9) ++ [⟨0, (dlogP D.pure kG 1).1, (dlogP D.pure kG 1).2⟩, ⟨(dheadP D.pure kG 1).1, ⟨#[]⟩, (dheadP D.pure kG 1).2⟩] by simp [showL, logA, headA])
          have hL : (picH D.pure 1 ++ mayL D.pure kG 9).length ≤ 50 := by have := picH_len D.pure 1; simp [mayL_len]; omega
          have HK := hide (show (picH D.pure 1 ++ mayL D.pure kG 9 ++ [logA D.pure kG, headA D.pure kG]) ++ showL D.pure kG 1 6 = picH D.pure (1 + 1) by simp [picH, houseL])
          generalize picH D.pure 1 ++ mayL D.pure kG 9 = L at *
          generalize dlogP D.pure kG 1 = lg at *
          obtain ⟨l1, l2⟩ := lg
          generalize dheadP D.pure kG 1 = hd at *
          obtain ⟨d1, d2⟩ := hd
          simp only at HLG HHD HE
          go_wp2_with fail
          refine (HLG.out _ (HR.out.below hb)).mono ?_
          rintro e w7 ⟨rfl, hb7⟩
          have hb1 := below_call hb hb7
          have hown1 := ownsRow_keep' hown hb7
          clear HLG hown hb hb7
          go_wp2_with fail
          refine (HHD.out _ (HR.out.below hb1)).mono ?_
          rintro e w8 ⟨rfl, hb8⟩
          have hbn := below_call hb1 hb8
          have hown3 := ownsRow_keep' hown1 hb8
          clear HHD hown1 hb1 hb8
          have hb1 := hbn
          have hown1 := hown3
          clear hbn hown3
          go_wp2_with (at_builtin; refine wpList_append_own2 _ rfl (.tmp 60) (.tmp 67) 28 rfl w.heap.size 32 i0 (.agg #[.int .i64 0, .string ⟨#[]⟩, .int .i64 0]) 3 32 Tryd.underlying28 ti hz0 hz1 hz2 rfl (by decide) _ L.length (ansCells L) rfl (hown1.alloc _) ⟨w8.heap.size, 0, none⟩ 2 2 ((An.mk 0 l1 l2).cells ++ (An.mk d1 ⟨#[]⟩ d2).cells) rfl rfl (news_at (t := 32) (fr := (0, 0)) (heap1_new w8 _)) ?_ (by unfold maxLen; omega) (by omega) ?_ (by omega) ?_)
          · intro u hu
            simp [An.cells] at hu
            rcases hu with rfl | rfl | rfl | rfl | rfl | rfl <;> rfl
          · have := hb1.size; simp; omega
          · intro g' cap' w9 hown2 hgrow _
            have hb3 : Below w.heap.size w w9 := (hb1.alloc hb1.size _).grown hgrow (by have := hb1.size; simp; omega) (fun k' hk' => (hown1.lt k' hk').1)
            have HO := hide hown2
            clear hown1 hown2 hgrow hb1
            have HP1 := hide (Pic.push2 HO.out hb3 HE.out)
            clear HO hb3 HE
            go_wp2_with fail
            go_loopw [3, 13, 14, 15] (fun l i _ _ wx => ∃ j : Nat, j ≤ 6 ∧ i = .int .i64 (j : Int) ∧ Pic w wx l ((L ++ [logA D.pure kG, headA D.pure kG]) ++ showL D.pure kG 1 j)) (fun _ i _ _ _ => 6 - (intOf i).toNat)
            case atStart => exact ⟨0, by omega, rfl, HP1.out⟩
            case round =>
              obtain ⟨j, hj, rfl, ao2, cp2, rfl, hown, hb⟩ := hrel
              clear HP1
              by_cases hlt : j < 6
              · have HN := hide (fun W => nameK_any j hlt W)
                have HS := hide (fun W (h : DepAt W db D) => show_any db D kG 1 (nameK j) W h (by have := nameK_size j; omega))
                have HE := hide (show (L ++ [logA D.pure kG, headA D.pure kG]) ++ showL D.pure kG 1 (j + 1) = ((L ++ [logA D.pure kG, headA D.pure kG]) ++ showL D.pure kG 1 j) ++ [⟨0, (dshowP D.pure kG 1 (nameK j)).1, (dshowP D.pure kG 1 (nameK j)).2⟩] by rw [showL_succ, ← List.append_assoc]; rfl)
                have hL2 : ((L ++ [logA D.pure kG, headA D.pure kG]) ++ showL D.pure kG 1 j).length ≤ 70 := by simp [showL_len]; omega
                have hjl : (j : Int) < 6 := by omega
                generalize (L ++ [logA D.pure kG, headA D.pure kG]) ++ showL D.pure kG 1 j = M at *
                generalize dshowP D.pure kG 1 (nameK j) = q at *
                obtain ⟨q1, q2⟩ := q
                simp only at HS HE
                go_wp2_with fail
                refine (HN.out _).mono ?_
                rintro e w7 ⟨rfl, hb7⟩
                have hbm := below_call hb hb7
                have hownm := ownsRow_keep' hown hb7
                clear HN hown hb hb7
                go_wp2_with fail
                refine (HS.out _ (HR.out.below hbm)).mono ?_
                rintro e w8 ⟨rfl, hb8⟩
                have hb1 := below_call hbm hb8
                have hown1 := ownsRow_keep' hownm hb8
                clear HS hownm hbm hb8
                go_wp2_with (at_builtin; refine wpList_append_own2 _ rfl (.tmp 81) (.tmp 85) 28 rfl w.heap.size 32 i0 (.agg #[.int .i64 0, .string ⟨#[]⟩, .int .i64 0]) 3 32 Tryd.underlying28 ti hz0 hz1 hz2 rfl (by decide) _ M.length (ansCells M) rfl (hown1.alloc _) ⟨w8.heap.size, 0, none⟩ 1 1 (An.mk 0 q1 q2).cells rfl rfl (news_at (t := 32) (fr := (0, 0)) (heap1_new w8 _)) ?_ (by unfold maxLen; omega) (by omega) ?_ (by omega) ?_)
                · intro u hu
                  simp [An.cells] at hu
                  rcases hu with rfl | rfl | rfl <;> rfl
                · have := hb1.size; simp; omega
                · intro g' cap' w9 hown2 hgrow _
                  have hb3 : Below w.heap.size w w9 := (hb1.alloc hb1.size _).grown hgrow (by have := hb1.size; simp; omega) (fun k' hk' => (hown1.lt k' hk').1)
                  have HO := hide hown2
                  clear hown1 hown2 hgrow hb1
                  go_wp2_with fail
                  go_roundw
                  case rel => exact ⟨j + 1, by omega, by go_num, Pic.push HO.out hb3 HE.out⟩
                  case measure => simp [intOf] <;> omega
              · obtain rfl : j = 6 := by omega
                have HF := hide (show Pic w wr (.slice ao2 ((L ++ [logA D.pure kG, headA D.pure kG]) ++ showL D.pure kG 1 6).length cp2) (picH D.pure (1 + 1)) from by rw [← HK.out]; exact ⟨ao2, cp2, rfl, hown, hb⟩)
                clear hown hb
                generalize ((L ++ [logA D.pure kG, headA D.pure kG]) ++ showL D.pure kG 1 6).length = ll at *
                go_wp2_with fail
                go_roundw
                case rel => exact Or.inr (Or.inr ⟨by go_num, HF.out⟩)
                case measure => simp [intOf] <;> omega
    · obtain ⟨ao, cp, rfl, hown, hb⟩ := hP
      have HP0 := hide (show Pic w wr (.slice ao (picH D.pure 2).length cp) (picH D.pure 2 ++ showL D.pure ⟨#[]⟩ 77 0) from by
        have e : picH D.pure 2 ++ showL D.pure ⟨#[]⟩ 77 0 = picH D.pure 2 := by simp [showL]
        rw [e]
        exact ⟨ao, cp, rfl, hown, hb⟩)
      clear hown hb
      have hL := picH_len D.pure 2
      have HK := hide (show picH D.pure 2 ++ showL D.pure ⟨#[]⟩ 77 6 = picP D.pure from rfl)
      generalize picH D.pure 2 = L at *
      go_wp2_with fail
      obtain ⟨wo, rfl⟩ : ∃ wo : World, wo = wr := ⟨_, rfl⟩
      go_loopw [3, 16, 17, 18] (fun l i _ _ wx => ∃ j : Nat, j ≤ 6 ∧ i = .int .i64 (j : Int) ∧ Pic w wx l (L ++ showL D.pure ⟨#[]⟩ 77 j)) (fun _ i _ _ _ => 6 - (intOf i).toNat)
      case atStart => exact ⟨0, by omega, rfl, HP0.out⟩
      case round =>
        obtain ⟨j, hj, rfl, ao2, cp2, rfl, hown, hb⟩ := hrel
        clear HP0
        by_cases hlt : j < 6
        · have HN := hide (fun W => nameK_any j hlt W)
          have HS := hide (fun W (h : DepAt W db D) => show_any db D ⟨#[]⟩ 77 (nameK j) W h (by have := nameK_size j; omega))
          have HE := hide (show L ++ showL D.pure ⟨#[]⟩ 77 (j + 1) = (L ++ showL D.pure ⟨#[]⟩ 77 j) ++ [⟨0, (dshowP D.pure ⟨#[]⟩ 77 (nameK j)).1, (dshowP D.pure ⟨#[]⟩ 77 (nameK j)).2⟩] by rw [showL_succ, ← List.append_assoc]; rfl)
          have hL2 : (L ++ showL D.pure ⟨#[]⟩ 77 j).length ≤ 70 := by simp [showL_len]; omega
          have hjl : (j : Int) < 6 := by omega
          generalize L ++ showL D.pure ⟨#[]⟩ 77 j = M at *
          generalize dshowP D.pure ⟨#[]⟩ 77 (nameK j) = q at *
          obtain ⟨q1, q2⟩ := q
          simp only at HS HE
          go_wp2_with fail
          refine (HN.out _).mono ?_
          rintro e w7 ⟨rfl, hb7⟩
          have hbm := below_call hb hb7
          have hownm := ownsRow_keep' hown hb7
          clear HN hown hb hb7
          go_wp2_with fail
          refine (HS.out _ (HR.out.below hbm)).mono ?_
          rintro e w8 ⟨rfl, hb8⟩
          have hb1 := below_call hbm hb8
          have hown1 := ownsRow_keep' hownm hb8
          clear HS hownm hbm hb8
          go_wp2_with (at_builtin; refine wpList_append_own2 _ rfl (.tmp 98) (.tmp 102) 28 rfl w.heap.size 32 i0 (.agg #[.int .i64 0, .string ⟨#[]⟩, .int .i64 0]) 3 32 Tryd.underlying28 ti hz0 hz1 hz2 rfl (by decide) _ M.length (ansCells M) rfl (hown1.alloc _) ⟨w8.heap.size, 0, none⟩ 1 1 (An.mk 0 q1 q2).cells rfl rfl (news_at (t := 32) (fr := (0, 0)) (heap1_new w8 _)) ?_ (by unfold maxLen; omega) (by omega) ?_ (by omega) ?_)
          · intro u hu
            simp [An.cells] at hu
            rcases hu with rfl | rfl | rfl <;> rfl
          · have := hb1.size; simp; omega
          · intro g' cap' w9 hown2 hgrow _
            have hb3 : Below w.heap.size w w9 := (hb1.alloc hb1.size _).grown hgrow (by have := hb1.size; simp; omega) (fun k' hk' => (hown1.lt k' hk').1)
            have HO := hide hown2
            clear hown1 hown2 hgrow hb1
            go_wp2_with fail
            go_roundw
            case rel => exact ⟨j + 1, by omega, by go_num, Pic.push HO.out hb3 HE.out⟩
            case measure => simp [intOf] <;> omega
        · obtain rfl : j = 6 := by omega
          have HF := hide (show Pic w wr (.slice ao2 (L ++ showL D.pure ⟨#[]⟩ 77 6).length cp2) (picP D.pure) from by rw [← HK.out]; exact ⟨ao2, cp2, rfl, hown, hb⟩)
          clear hown hb
          generalize (L ++ showL D.pure ⟨#[]⟩ 77 6).length = ll at *
          go_wp2_with fail
          go_ret
          exact ⟨_, rfl, HF.out⟩

end Go.Proofs.YtgcldedkempjhabDoor
