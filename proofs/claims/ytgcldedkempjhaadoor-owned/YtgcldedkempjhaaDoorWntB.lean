/-
  wants.Parse.
-/
import Derived.Test.YtgcldedkempjhaaDoorWntA
import Derived.Test.YtgcldedkempjhaaDoorBaseRow
namespace Go.Proofs.YtgcldedkempjhaaDoor
open Go.RowKit

theorem Tryd.infoWant : (Tryd.prog.info? 164).map (fun i => (i.zero, i.size, i.bytes)) = some (some (.agg #[.string ⟨#[]⟩, .int .i64 0, .int .i64 0]), 3, 32) := by kernel_rfl

def wantsCells (ws : List WantD) : List Value := ws.flatMap wantCells

/-- The pieces that are read ahead of place k. -/
def piecesTo (s : ByteArray) (k : Nat) : List ByteArray := if k ≤ s.size then (cutTo s 44 k).1 else cutF s 44

theorem piecesTo_same (s : ByteArray) (k : Nat) (h : k < s.size) (hb : ((s[k].toNat : Int) == 44) = false) : piecesTo s (k + 1) = (cutTo s 44 k).1 ∧ cutTo s 44 (k + 1) = cutTo s 44 k := by
  have e : cutTo s 44 (k + 1) = cutTo s 44 k := by
    show (if (byteAt s k == 44) = true then _ else _) = _
    rw [byteAt_lt s k h, hb]; rfl
  exact ⟨by rw [piecesTo, if_pos (by omega), e], e⟩

/-- At a comma: a piece more. -/
theorem piecesTo_comma (s : ByteArray) (k : Nat) (h : k < s.size) (hb : ((s[k].toNat : Int) == 44) = true) :
    piecesTo s (k + 1) = (cutTo s 44 k).1 ++ [s.extract (cutTo s 44 k).2 k] ∧ (cutTo s 44 (k + 1)).2 = k + 1 ∧ ∃ r, cutF s 44 = (cutTo s 44 k).1 ++ [s.extract (cutTo s 44 k).2 k] ++ r := by
  have e : cutTo s 44 (k + 1) = ((cutTo s 44 k).1 ++ [s.extract (cutTo s 44 k).2 k], k + 1) := by
    show (if (byteAt s k == 44) = true then _ else _) = _
    rw [byteAt_lt s k h, hb]; rfl
  refine ⟨by rw [piecesTo, if_pos (by omega), e], by rw [e], ?_⟩
  obtain ⟨r, hr⟩ := cutF_prefix s 44 (k + 1) h
  rw [e] at hr
  exact ⟨r, hr⟩

theorem piecesTo_end (s : ByteArray) :
    piecesTo s (s.size + 1) = (cutTo s 44 s.size).1 ++ [s.extract (cutTo s 44 s.size).2 s.size] ∧ ∃ r, cutF s 44 = (cutTo s 44 s.size).1 ++ [s.extract (cutTo s 44 s.size).2 s.size] ++ r :=
  ⟨by rw [piecesTo, if_neg (by omega)]; rfl, [], by simp [cutF]⟩

theorem wantsF_bad {s : ByteArray} {p r : List ByteArray} {x : ByteArray} {ws : List WantD} (he : s.toList.isEmpty = false) (hc : cutF s 44 = p ++ [x] ++ r) (hp : p.mapM wantF = some ws) (hbad : 6 ≤ ws.length ∨ wantF x = none) : wantsF s = none := by
  unfold wantsF
  rw [he, hc]
  exact piecesF_bad hp (by rw [← mapM_len _ _ hp]; exact hbad)

theorem wantsF_good {s : ByteArray} {ws : List WantD} (he : s.toList.isEmpty = false) (hp : (cutF s 44).mapM wantF = some ws) (hl : ws.length ≤ 6) : wantsF s = some ws := by
  unfold wantsF piecesF
  rw [he, if_neg (by decide), if_pos (by rw [← mapM_len _ _ hp]; exact hl), hp]

theorem wants_push {p : List ByteArray} {x : ByteArray} {ws : List WantD} {a : WantD} (hp : p.mapM wantF = some ws) (hx : wantF x = some a) : (p ++ [x]).mapM wantF = some (ws ++ [a]) := by
  rw [mapM_snoc, hp, hx]

/-- What Parse answers. -/
def ParsedAs (w w' : World) (s : ByteArray) (e : Ending) : Prop :=
  ∃ ao n cap, e = .returned (.tuple #[.slice ao n cap, .bool (wantsF s).isSome]) ∧ ∀ ws, wantsF s = some ws → n = ws.length ∧ w'.ownsRow w.heap.size 164 3 (.slice ao ws.length cap) ws.length (wantsCells ws)

theorem parsed_no {w w' : World} {s : ByteArray} (h : wantsF s = none) : ParsedAs w w' s (.returned (.tuple #[.slice none 0 0, .bool false])) :=
  ⟨none, 0, 0, by rw [h]; rfl, fun ws hw => by rw [h] at hw; cases hw⟩


set_option maxHeartbeats 1600000 in
set_option maxRecDepth 100000 in
theorem parse_full (s : ByteArray) (w : World) (hs : s.size ≤ 4611686018427387000) (he : s.toList.isEmpty = false) :
    Calls Tryd.prog 84 #[.string s] w fun e w' => ParsedAs w w' s e ∧ Below w.heap.size w w' := by
  obtain ⟨i0, ti, hz0, hz1, hz2⟩ := info_parts Tryd.infoWant
  go_enter Tryd.func84, Tryd.ntmps84
  go_wp2_with fail
  have HE := hide he
  clear he
  go_loopw [4, 5, 6, 7, 8] (fun v fr i _ _ wr => ∃ (k : Nat) (ws : List WantD) (ao : Option Addr) (cp : Nat), v = .slice ao ws.length cp ∧ k ≤ s.size + 1 ∧ i = .int .i64 k ∧ (k ≤ s.size → fr = .int .i64 ((cutTo s 44 k).2 : Nat)) ∧ (piecesTo s k).mapM wantF = some ws ∧ ws.length ≤ 6 ∧ wr.ownsRow w.heap.size 164 3 (.slice ao ws.length cp) ws.length (wantsCells ws) ∧ Below w.heap.size w wr) (fun _ _ i _ _ _ => s.size + 1 - (intOf i).toNat)
  case atStart => exact ⟨0, [], none, 0, rfl, Nat.zero_le _, rfl, fun _ => rfl, by simp [piecesTo, cutTo], by simp, World.ownsRow_nil _ _ _ _, Below.refl _ _⟩
  case round =>
    obtain ⟨k, ws, ao, cp, rfl, hk, rfl, hfr, hm, hl6, hown, hb⟩ := hrel
    by_cases hle : k ≤ s.size
    · have hfr' := hfr hle
      subst hfr'
      clear hfr
      obtain ⟨hl1, hl2⟩ := cutTo_le s 44 k
      have HM := hide (show (cutTo s 44 k).1.mapM wantF = some ws by rw [piecesTo, if_pos hle] at hm; exact hm)
      clear hm
      have HX := hide (show (s.extract (cutTo s 44 k).2 k).size ≤ 4611686018427387904 by rw [ByteArray.size_extract]; omega)
      by_cases hlt : k < s.size
      · cases ht : ((s[k].toNat : Int) == 44) with
        | false =>
          have HQ := hide (piecesTo_same s k hlt ht)
          have ht' : ((s[k].toNat : Int) != 44) = true := by rw [bne, ht]; rfl
          clear ht
          go_wp2_with fail
          go_roundw
          case rel => exact ⟨k + 1, ws, ao, cp, rfl, by omega, by go_num, fun _ => by rw [HQ.out.2], by rw [HQ.out.1]; exact HM.out, hl6, hown, hb⟩
          case measure => simp [intOf] <;> omega
        | true =>
          have HQ := hide (piecesTo_comma s k hlt ht)
          have HBAD := hide (show 6 ≤ ws.length ∨ wantF (s.extract (cutTo s 44 k).2 k) = none → wantsF s = none from fun h => by
            obtain ⟨_, _, r, hr⟩ := HQ.out
            exact wantsF_bad HE.out hr HM.out h)
          have HGOOD := hide (show ∀ a, wantF (s.extract (cutTo s 44 k).2 k) = some a → (piecesTo s (k + 1)).mapM wantF = some (ws ++ [a]) from fun a h => by rw [HQ.out.1]; exact wants_push HM.out h)
          have HQ2 := hide HQ.out.2.1
          have ht' : ((s[k].toNat : Int) != 44) = false := by rw [bne, ht]; rfl
          clear ht HQ
          generalize (cutTo s 44 k).2 = f at *
          by_cases h6 : 6 ≤ ws.length
          · have HN := hide (HBAD.out (Or.inl h6))
            go_wp2_with fail
            go_ret2
            exact ⟨parsed_no HN.out, hb⟩
          · cases hx : wantF (s.extract f k) with
            | none =>
              have HN := hide (HBAD.out (Or.inr hx))
              have HP := hide (fun W => parseOne_none (s.extract f k) W HX.out hx)
              clear hx
              go_wp2_with fail
              refine (HP.out _).mono ?_
              rintro e w1 ⟨rfl, hb1⟩
              have hb2 := below_call hb hb1
              go_wp2_with fail
              go_ret2
              exact ⟨parsed_no HN.out, hb2.alloc hb2.size _⟩
            | some a =>
              have HG := hide (HGOOD.out a hx)
              have HP := hide (fun W => parseOne_some (s.extract f k) W HX.out a hx)
              clear hx
              go_wp2_with fail
              refine (HP.out _).mono ?_
              rintro e w1 ⟨rfl, hb1⟩
              have hb2 := below_call hb hb1
              have hown1 := ownsRow_keep' hown hb1
              clear HP
              go_wp2_with (at_builtin; refine wpList_append_own2 _ rfl (.tmp 40) (.tmp 42) 131 rfl w.heap.size 164 i0 (.agg #[.string ⟨#[]⟩, .int .i64 0, .int .i64 0]) 3 32 Tryd.underlying131 ti hz0 hz1 hz2 rfl (by decide) _ ws.length (wantsCells ws) rfl ((hown1.alloc _).alloc _) ⟨w1.heap.size + 1, 0, none⟩ 1 1 (wantCells a) rfl rfl (news_at (t := 164) (fr := (0, 0)) (heap2_new w1 _ _)) ?_ (by unfold maxLen; omega) (by omega) ?_ (by omega) ?_)
              · intro u hu
                simp [wantCells] at hu
                rcases hu with rfl | rfl | rfl <;> rfl
              · have := hb2.size; simp; omega
              · intro g' cap' w2 hown2 hgrow _
                have hb3 : Below w.heap.size w w2 := ((hb2.alloc hb2.size _).alloc (by have := hb2.size; simp; omega) _).grown hgrow (by have := hb2.size; simp; omega) (fun k' hk' => (hown1.lt k' hk').1)
                have HO := hide hown2
                clear hown hown1 hown2 hgrow hb hb1 hb2
                go_wp2_with fail
                go_roundw
                case rel => exact ⟨k + 1, ws ++ [a], some ⟨g', 0, none⟩, cap', by simp, by omega, by go_num, fun _ => by rw [HQ2.out]; go_num, HG.out, by simp; omega, by simpa [wantsCells, wantCells] using HO.out, hb3⟩
                case measure => simp [intOf] <;> omega
      · obtain rfl : k = s.size := by omega
        have HQ := hide (piecesTo_end s)
        have HBAD := hide (show 6 ≤ ws.length ∨ wantF (s.extract (cutTo s 44 s.size).2 s.size) = none → wantsF s = none from fun h => by
          obtain ⟨_, r, hr⟩ := HQ.out
          exact wantsF_bad HE.out hr HM.out h)
        have HGOOD := hide (show ∀ a, wantF (s.extract (cutTo s 44 s.size).2 s.size) = some a → (piecesTo s (s.size + 1)).mapM wantF = some (ws ++ [a]) from fun a h => by rw [HQ.out.1]; exact wants_push HM.out h)
        clear HQ
        generalize (cutTo s 44 s.size).2 = f at *
        by_cases h6 : 6 ≤ ws.length
        · have HN := hide (HBAD.out (Or.inl h6))
          go_wp2_with fail
          go_ret2
          exact ⟨parsed_no HN.out, hb⟩
        · cases hx : wantF (s.extract f s.size) with
          | none =>
            have HN := hide (HBAD.out (Or.inr hx))
            have HP := hide (fun W => parseOne_none (s.extract f s.size) W HX.out hx)
            clear hx
            go_wp2_with fail
            refine (HP.out _).mono ?_
            rintro e w1 ⟨rfl, hb1⟩
            have hb2 := below_call hb hb1
            go_wp2_with fail
            go_ret2
            exact ⟨parsed_no HN.out, hb2.alloc hb2.size _⟩
          | some a =>
            have HG := hide (HGOOD.out a hx)
            have HP := hide (fun W => parseOne_some (s.extract f s.size) W HX.out a hx)
            clear hx
            go_wp2_with fail
            refine (HP.out _).mono ?_
            rintro e w1 ⟨rfl, hb1⟩
            have hb2 := below_call hb hb1
            have hown1 := ownsRow_keep' hown hb1
            clear HP
            go_wp2_with (at_builtin; refine wpList_append_own2 _ rfl (.tmp 40) (.tmp 42) 131 rfl w.heap.size 164 i0 (.agg #[.string ⟨#[]⟩, .int .i64 0, .int .i64 0]) 3 32 Tryd.underlying131 ti hz0 hz1 hz2 rfl (by decide) _ ws.length (wantsCells ws) rfl ((hown1.alloc _).alloc _) ⟨w1.heap.size + 1, 0, none⟩ 1 1 (wantCells a) rfl rfl (news_at (t := 164) (fr := (0, 0)) (heap2_new w1 _ _)) ?_ (by unfold maxLen; omega) (by omega) ?_ (by omega) ?_)
            · intro u hu
              simp [wantCells] at hu
              rcases hu with rfl | rfl | rfl <;> rfl
            · have := hb2.size; simp; omega
            · intro g' cap' w2 hown2 hgrow _
              have hb3 : Below w.heap.size w w2 := ((hb2.alloc hb2.size _).alloc (by have := hb2.size; simp; omega) _).grown hgrow (by have := hb2.size; simp; omega) (fun k' hk' => (hown1.lt k' hk').1)
              have HO := hide hown2
              clear hown hown1 hown2 hgrow hb hb1 hb2
              go_wp2_with fail
              go_roundw
              case rel => exact ⟨s.size + 1, ws ++ [a], some ⟨g', 0, none⟩, cap', by simp, by omega, by go_num, fun h => absurd h (by omega), HG.out, by simp; omega, by simpa [wantsCells, wantCells] using HO.out, hb3⟩
              case measure => simp [intOf] <;> omega
    · obtain rfl : k = s.size + 1 := by omega
      have HW := hide (wantsF_good HE.out (show (cutF s 44).mapM wantF = some ws by rw [piecesTo, if_neg hle] at hm; exact hm) hl6)
      clear hm hfr
      go_wp2_with fail
      go_ret2
      refine ⟨⟨_, ws.length, cp, by rw [HW.out]; rfl, fun ws' hw => ?_⟩, hb⟩
      rw [HW.out] at hw
      injection hw with hw
      subst hw
      exact ⟨rfl, hown⟩

set_option maxHeartbeats 400000 in
theorem parse_any (s : ByteArray) (w : World) (hs : s.size ≤ 4611686018427387000) :
    Calls Tryd.prog 84 #[.string s] w fun e w' => ParsedAs w w' s e ∧ Below w.heap.size w w' := by
  cases he : s.toList.isEmpty with
  | false => exact parse_full s w hs he
  | true =>
    have HW := hide (show wantsF s = some [] by unfold wantsF; rw [he]; rfl)
    go_enter Tryd.func84, Tryd.ntmps84
    go_wp2_with fail
    go_ret2
    refine ⟨⟨none, 0, 0, by rw [HW.out]; rfl, fun ws' hw => ?_⟩, Below.refl _ _⟩
    rw [HW.out] at hw
    injection hw with hw
    subst hw
    exact ⟨rfl, World.ownsRow_nil _ _ _ _⟩

end Go.Proofs.YtgcldedkempjhaaDoor
