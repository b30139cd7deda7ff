/-
  wants.Parse.
-/
import Derived.Test.YtgcldedkempjhabGreatDoorWords
import Derived.Lib.ConvBytes
import Derived.Laws.IdiomStrings
import Derived.Test.YtgcldedkempjhabGreatDoorBaseRow
namespace Go.Proofs.YtgcldedkempjhabGreatDoor
section
open Go.RowKit

theorem copied (name : ByteArray) (w : World) : ∃ wb cp, (convert 9 81 (.string name)).run Tryz.prog w = .ok (.slice (some ⟨w.heap.size, 0, none⟩) name.size cp) wb ∧
    (convert 81 9 (.slice (some ⟨w.heap.size, 0, none⟩) name.size cp)).run Tryz.prog wb = .ok (.string name) wb ∧ Below w.heap.size w wb ∧ w.heap.size < wb.heap.size := by
  have h1 := Lib.run_convert_string_bytes (P := Tryz.prog) w 9 81 5 name Tryz.underlying9 Tryz.underlying81 Tryz.underlying5
  refine ⟨_, _, h1, ?_, ⟨?_, ?_, ?_, ?_, ?_⟩, ?_⟩
  · have h2 := run_convert_bytes_back (P := Tryz.prog) (Lib.bytesWorld w 5 name) 81 9 5 ⟨w.heap.size, 0, none⟩ (grownCap w name.size 0 5) name.data.toList Tryz.underlying81 Tryz.underlying5 Tryz.underlying9 ?_
    · exact h2
    · intro j hj
      have hadd : (⟨w.heap.size, 0, none⟩ : Addr).add j = ⟨w.heap.size, j, none⟩ := by unfold Addr.add; split <;> simp_all
      rw [hadd, Lib.bytesWorld_cell w 5 name j (by simpa using hj), List.getD_eq_getElem?_getD, List.getElem?_eq_getElem hj]
      rfl
  · rfl
  · rfl
  · rfl
  · rw [Lib.bytesWorld_size]; omega
  · intro k hk; exact Lib.bytesWorld_at_old w _ name k hk
  · rw [Lib.bytesWorld_size]; omega

set_option maxHeartbeats 400000 in
theorem digit_any (b : Int) (w : World) (h0 : 0 ≤ b) (h1 : b ≤ 255) :
    Calls Tryz.prog 117 #[.int .u8 b] w fun e w' => e = .returned (.int .i64 (digF b)) ∧ w' = w := by
  by_cases h : b < 49 ∨ 57 < b
  · have HF := hide (show digF b = 0 by unfold digF; rw [if_pos h])
    have H := hide h
    clear h
    go_enter Tryz.func117, Tryz.ntmps117
    go_wp2
    all_goals first | (go_ret; exact ⟨ret_int HF.out.symm, rfl⟩) | (exfalso; have := H.out; omega)
  · have HF := hide (show digF b = b - 48 by unfold digF; rw [if_neg h])
    have h2 : 49 ≤ b := by omega
    have h3 : b ≤ 57 := by omega
    clear h
    go_enter Tryz.func117, Tryz.ntmps117
    go_wp2
    go_ret
    exact ⟨ret_int HF.out.symm, rfl⟩

/-- One want as the program hands it on. -/
def wantCells (x : WantD) : List Value := [.string x.name, .int .i64 x.lo, .int .i64 x.hi]

def noWant : WantD := ⟨⟨#[]⟩, 0, 0⟩

def wantOr (o : Option WantD) : WantD := o.getD noWant

set_option maxHeartbeats 400000 in
theorem parseOne_short (s : ByteArray) (w : World) (hs : s.size < 4) :
    Calls Tryz.prog 110 #[.string s] w fun e w' => e = .returned (.tuple #[.agg (wantCells noWant).toArray, .bool false]) ∧ Below w.heap.size w w' := by
  go_enter Tryz.func110, Tryz.ntmps110
  go_wp2
  refine bodyPost_ret (v := .tuple #[.agg (wantCells noWant).toArray, .bool false]) (by simp [results, Tryz.results110, go_sem, wantCells, noWant]) rfl ⟨rfl, (Below.refl _ _).alloc (Nat.le_refl _) _⟩

theorem below_set3 {B : Nat} {w wr : World} (hb : Below B w wr) {b : Nat} (h : B ≤ b) (v0 v1 v2 : Value) :
    Below B w (((wr.setCell ⟨b, 0, none⟩ v0).setCell ⟨b, 1, none⟩ v1).setCell ⟨b, 2, none⟩ v2) :=
  ((hb.setCell h _).setCell h _).setCell h _

set_option maxHeartbeats 800000 in
set_option maxRecDepth 100000 in
theorem parseOne_long (s : ByteArray) (n : Nat) (w : World) (hn : s.size = n + 4) (hs : s.size ≤ 4611686018427387904) :
    Calls Tryz.prog 110 #[.string s] w fun e w' => e = .returned (.tuple #[.agg (wantCells (wantOr (wantF s))).toArray, .bool (wantF s).isSome]) ∧ Below w.heap.size w w' := by
  have HF := hide (show wantF s = if (s[n].toNat : Int) ≠ 32 ∨ (s[n + 2].toNat : Int) ≠ 45 then none else if digF (s[n + 1].toNat : Int) < 1 ∨ digF (s[n + 3].toNat : Int) < digF (s[n + 1].toNat : Int) then none else if nameF (s.extract 0 n) then some ⟨s.extract 0 n, digF (s[n + 1].toNat : Int), digF (s[n + 3].toNat : Int)⟩ else none by
    unfold wantF
    have e : s.size - 4 = n := by omega
    rw [if_neg (by omega), e, byteAt_lt s n (by omega), byteAt_lt s (n + 1) (by omega), byteAt_lt s (n + 2) (by omega), byteAt_lt s (n + 3) (by omega)])
  have u1 : (s[n + 1].toNat : Int) ≤ 255 := by have := s[n + 1].toNat_lt; omega
  have u3 : (s[n + 3].toNat : Int) ≤ 255 := by have := s[n + 3].toNat_lt; omega
  have Hd1 := hide (fun W => digit_any (s[n + 1].toNat : Int) W (Int.natCast_nonneg _) u1)
  have Hd3 := hide (fun W => digit_any (s[n + 3].toNat : Int) W (Int.natCast_nonneg _) u3)
  have Hnm := hide (fun W => isName_any (s.extract 0 n) W (by rw [ByteArray.size_extract]; omega))
  generalize digF (s[n + 1].toNat : Int) = d1 at *
  generalize digF (s[n + 3].toNat : Int) = d3 at *
  clear u1 u3
  go_enter Tryz.func110, Tryz.ntmps110
  go_wp2_with fail
  · have hnone : wantF s = none := by
      rw [HF.out, if_pos]
      have : (s[n + 2].toNat : Int) ≠ 45 := by rcases ‹(n : Int) < 0 ∨ _› with h | h; omega; simpa using h
      exact Or.inr this
    rw [hnone]
    refine bodyPost_ret (v := .tuple #[.agg (wantCells noWant).toArray, .bool false]) (by simp [results, Tryz.results110, go_sem, wantCells, noWant]) rfl ⟨rfl, (Below.refl _ _).alloc (Nat.le_refl _) _⟩
  · have H1 := hide (show ¬ ((s[n].toNat : Int) ≠ 32 ∨ (s[n + 2].toNat : Int) ≠ 45) by simp_all)
    refine (Hd1.out _).mono ?_
    rintro e w1 ⟨rfl, h⟩
    subst h
    go_wp2_with fail
    refine (Hd3.out _).mono ?_
    rintro e w1 ⟨rfl, h⟩
    subst h
    go_wp2_with fail
    · have hnone : wantF s = none := by rw [HF.out, if_neg H1.out, if_pos (by omega)]
      rw [hnone]
      refine bodyPost_ret (v := .tuple #[.agg (wantCells noWant).toArray, .bool false]) (by simp [results, Tryz.results110, go_sem, wantCells, noWant]) rfl ⟨rfl, (Below.refl _ _).alloc (Nat.le_refl _) _⟩
    · have H2 := hide (show ¬ (d1 < 1 ∨ d3 < d1) by omega)
      refine (Hnm.out _).mono ?_
      rintro e w2 ⟨rfl, hb⟩
      have hlt : w.heap.size < w2.heap.size := new_lt hb
      have hb2 : Below w.heap.size w w2 := below_alloc_call (Below.refl _ _) hb
      have hres : w2.heap[w.heap.size]? = some (.cells (wantCells noWant).toArray 172 (0, 0)) := by rw [hb.block w.heap.size (by simp)]; exact heap_alloc_new w _
      cases hnm : nameF (s.extract 0 n) with
      | false =>
        have hnone : wantF s = none := by rw [HF.out, if_neg H1.out, if_neg H2.out, hnm]; rfl
        have HR := hide hnone
        clear hnone hnm
        have r0 : w2.cell? ⟨w.heap.size, 0, none⟩ = some _ := (cell_of_heap hres 0).trans rfl
        have r1 : w2.cell? ⟨w.heap.size, 1, none⟩ = some _ := (cell_of_heap hres 1).trans rfl
        have r2 : w2.cell? ⟨w.heap.size, 2, none⟩ = some _ := (cell_of_heap hres 2).trans rfl
        have rf := frozen_of_heap hres
        clear Hd1 Hd3 Hnm HF
        go_wp2_with fail
        rw [HR.out]
        refine bodyPost_ret (v := .tuple #[.agg (wantCells noWant).toArray, .bool false]) (by simp [results, Tryz.results110, go_sem, wantCells, noWant, r0, r1, r2]) rfl ⟨rfl, ?_⟩
        exact below_set3 hb2 (Nat.le_refl _) _ _ _
      | true =>
        have hsome : wantF s = some ⟨s.extract 0 n, d1, d3⟩ := by rw [HF.out, if_neg H1.out, if_neg H2.out, hnm]; rfl
        have HR := hide hsome
        clear hsome hnm Hd1 Hd3 Hnm HF
        generalize s.extract 0 n = nm at *
        obtain ⟨wb, cp, k1, k2, hbw, hszb⟩ := copied nm w2
        have hb3 := below_call hb2 hbw
        have hres' : wb.heap[w.heap.size]? = some (.cells (wantCells noWant).toArray 172 (0, 0)) := by rw [hbw.block w.heap.size hlt]; exact hres
        have r0 : wb.cell? ⟨w.heap.size, 0, none⟩ = some _ := (cell_of_heap hres' 0).trans rfl
        have r1 : wb.cell? ⟨w.heap.size, 1, none⟩ = some _ := (cell_of_heap hres' 1).trans rfl
        have r2 : wb.cell? ⟨w.heap.size, 2, none⟩ = some _ := (cell_of_heap hres' 2).trans rfl
        have rf := frozen_of_heap hres'
        go_wp2_with fail
        rw [HR.out]
        refine bodyPost_ret (v := .tuple #[.agg (wantCells ⟨nm, d1, d3⟩).toArray, .bool true]) (by simp [results, Tryz.results110, go_sem, wantCells, r0, r1, r2]) rfl ⟨rfl, ?_⟩
        exact below_set3 hb3 (Nat.le_refl _) _ _ _
    · have hnone : wantF s = none := by rw [HF.out, if_neg H1.out, if_pos (by omega)]
      rw [hnone]
      refine bodyPost_ret (v := .tuple #[.agg (wantCells noWant).toArray, .bool false]) (by simp [results, Tryz.results110, go_sem, wantCells, noWant]) rfl ⟨rfl, (Below.refl _ _).alloc (Nat.le_refl _) _⟩
  · have hnone : wantF s = none := by rw [HF.out, if_pos]; simp_all
    rw [hnone]
    refine bodyPost_ret (v := .tuple #[.agg (wantCells noWant).toArray, .bool false]) (by simp [results, Tryz.results110, go_sem, wantCells, noWant]) rfl ⟨rfl, (Below.refl _ _).alloc (Nat.le_refl _) _⟩

theorem parseOne_any (s : ByteArray) (w : World) (hs : s.size ≤ 4611686018427387904) :
    Calls Tryz.prog 110 #[.string s] w fun e w' => e = .returned (.tuple #[.agg (wantCells (wantOr (wantF s))).toArray, .bool (wantF s).isSome]) ∧ Below w.heap.size w w' := by
  by_cases h : s.size < 4
  · have : wantF s = none := by unfold wantF; rw [if_pos h]
    rw [this]
    exact parseOne_short s w h
  · exact parseOne_long s (s.size - 4) w (by omega) hs

theorem parseOne_none (s : ByteArray) (w : World) (hs : s.size ≤ 4611686018427387904) (h : wantF s = none) :
    Calls Tryz.prog 110 #[.string s] w fun e w' => e = .returned (.tuple #[.agg #[.string ⟨#[]⟩, .int .i64 0, .int .i64 0], .bool false]) ∧ Below w.heap.size w w' := by
  have := parseOne_any s w hs
  rw [h] at this
  exact this

theorem parseOne_some (s : ByteArray) (w : World) (hs : s.size ≤ 4611686018427387904) (a : WantD) (h : wantF s = some a) :
    Calls Tryz.prog 110 #[.string s] w fun e w' => e = .returned (.tuple #[.agg #[.string a.name, .int .i64 a.lo, .int .i64 a.hi], .bool true]) ∧ Below w.heap.size w w' := by
  have := parseOne_any s w hs
  rw [h] at this
  exact this

end

section
open Go.RowKit

theorem Tryz.infoWant : (Tryz.prog.info? 172).map (fun i => (i.zero, i.size, i.bytes)) = some (some (.agg #[.string ⟨#[]⟩, .int .i64 0, .int .i64 0]), 3, 32) := by kernel_rfl

def wantsCells (ws : List WantD) : List Value := ws.flatMap wantCells

/-- The pieces that are read ahead of place k. -/
def piecesTo (s : ByteArray) (k : Nat) : List ByteArray := if k ≤ s.size then (cutTo s 44 k).1 else cutF s 44

theorem piecesTo_same (s : ByteArray) (k : Nat) (h : k < s.size) (hb : ((s[k].toNat : Int) == 44) = false) : piecesTo s (k + 1) = (cutTo s 44 k).1 ∧ cutTo s 44 (k + 1) = cutTo s 44 k := by
  have e : cutTo s 44 (k + 1) = cutTo s 44 k := by
    show (if (byteAt s k == 44) = true then _ else _) = _
    rw [byteAt_lt s k h, hb]; rfl
  exact ⟨by rw [piecesTo, if_pos (by omega), e], e⟩

/-- At a comma: a piece more. -/
theorem piecesTo_comma (s : ByteArray) (k : Nat) (h : k < s.size) (hb : ((s[k].toNat : Int) == 44) = true) :
    piecesTo s (k + 1) = (cutTo s 44 k).1 ++ [s.extract (cutTo s 44 k).2 k] ∧ (cutTo s 44 (k + 1)).2 = k + 1 ∧ ∃ r, cutF s 44 = (cutTo s 44 k).1 ++ [s.extract (cutTo s 44 k).2 k] ++ r := by
  have e : cutTo s 44 (k + 1) = ((cutTo s 44 k).1 ++ [s.extract (cutTo s 44 k).2 k], k + 1) := by
    show (if (byteAt s k == 44) = true then _ else _) = _
    rw [byteAt_lt s k h, hb]; rfl
  refine ⟨by rw [piecesTo, if_pos (by omega), e], by rw [e], ?_⟩
  obtain ⟨r, hr⟩ := cutF_prefix s 44 (k + 1) h
  rw [e] at hr
  exact ⟨r, hr⟩

theorem piecesTo_end (s : ByteArray) :
    piecesTo s (s.size + 1) = (cutTo s 44 s.size).1 ++ [s.extract (cutTo s 44 s.size).2 s.size] ∧ ∃ r, cutF s 44 = (cutTo s 44 s.size).1 ++ [s.extract (cutTo s 44 s.size).2 s.size] ++ r :=
  ⟨by rw [piecesTo, if_neg (by omega)]; rfl, [], by simp [cutF]⟩

theorem wantsF_bad {s : ByteArray} {p r : List ByteArray} {x : ByteArray} {ws : List WantD} (he : s.toList.isEmpty = false) (hc : cutF s 44 = p ++ [x] ++ r) (hp : p.mapM wantF = some ws) (hbad : 6 ≤ ws.length ∨ wantF x = none) : wantsF s = none := by
  unfold wantsF
  rw [he, hc]
  exact piecesF_bad hp (by rw [← mapM_len _ _ hp]; exact hbad)

theorem wantsF_good {s : ByteArray} {ws : List WantD} (he : s.toList.isEmpty = false) (hp : (cutF s 44).mapM wantF = some ws) (hl : ws.length ≤ 6) : wantsF s = some ws := by
  unfold wantsF piecesF
  rw [he, if_neg (by decide), if_pos (by rw [← mapM_len _ _ hp]; exact hl), hp]

theorem wants_push {p : List ByteArray} {x : ByteArray} {ws : List WantD} {a : WantD} (hp : p.mapM wantF = some ws) (hx : wantF x = some a) : (p ++ [x]).mapM wantF = some (ws ++ [a]) := by
  rw [mapM_snoc, hp, hx]

/-- What Parse answers. -/
def ParsedAs (w w' : World) (s : ByteArray) (e : Ending) : Prop :=
  ∃ ao n cap, e = .returned (.tuple #[.slice ao n cap, .bool (wantsF s).isSome]) ∧ ∀ ws, wantsF s = some ws → n = ws.length ∧ w'.ownsRow w.heap.size 172 3 (.slice ao ws.length cap) ws.length (wantsCells ws)

theorem parsed_no {w w' : World} {s : ByteArray} (h : wantsF s = none) : ParsedAs w w' s (.returned (.tuple #[.slice none 0 0, .bool false])) :=
  ⟨none, 0, 0, by rw [h]; rfl, fun ws hw => by rw [h] at hw; cases hw⟩


set_option maxHeartbeats 1600000 in
set_option maxRecDepth 100000 in
theorem parse_full (s : ByteArray) (w : World) (hs : s.size ≤ 4611686018427387000) (he : s.toList.isEmpty = false) :
    Calls Tryz.prog 91 #[.string s] w fun e w' => ParsedAs w w' s e ∧ Below w.heap.size w w' := by
  obtain ⟨i0, ti, hz0, hz1, hz2⟩ := info_parts Tryz.infoWant
  go_enter Tryz.func91, Tryz.ntmps91
  go_wp2_with fail
  have HE := hide he
  clear he
  go_loopw [4, 5, 6, 7, 8] (fun v fr i _ _ wr => ∃ (k : Nat) (ws : List WantD) (ao : Option Addr) (cp : Nat), v = .slice ao ws.length cp ∧ k ≤ s.size + 1 ∧ i = .int .i64 k ∧ (k ≤ s.size → fr = .int .i64 ((cutTo s 44 k).2 : Nat)) ∧ (piecesTo s k).mapM wantF = some ws ∧ ws.length ≤ 6 ∧ wr.ownsRow w.heap.size 172 3 (.slice ao ws.length cp) ws.length (wantsCells ws) ∧ Below w.heap.size w wr) (fun _ _ i _ _ _ => s.size + 1 - (intOf i).toNat)
  case atStart => exact ⟨0, [], none, 0, rfl, Nat.zero_le _, rfl, fun _ => rfl, by simp [piecesTo, cutTo], by simp, World.ownsRow_nil _ _ _ _, Below.refl _ _⟩
  case round =>
    obtain ⟨k, ws, ao, cp, rfl, hk, rfl, hfr, hm, hl6, hown, hb⟩ := hrel
    by_cases hle : k ≤ s.size
    · have hfr' := hfr hle
      subst hfr'
      clear hfr
      obtain ⟨hl1, hl2⟩ := cutTo_le s 44 k
      have HM := hide (show (cutTo s 44 k).1.mapM wantF = some ws by rw [piecesTo, if_pos hle] at hm; exact hm)
      clear hm
      have HX := hide (show (s.extract (cutTo s 44 k).2 k).size ≤ 4611686018427387904 by rw [ByteArray.size_extract]; omega)
      by_cases hlt : k < s.size
      · cases ht : ((s[k].toNat : Int) == 44) with
        | false =>
          have HQ := hide (piecesTo_same s k hlt ht)
          have ht' : ((s[k].toNat : Int) != 44) = true := by rw [bne, ht]; rfl
          clear ht
          go_wp2_with fail
          go_roundw
          case rel => exact ⟨k + 1, ws, ao, cp, rfl, by omega, by go_num, fun _ => by rw [HQ.out.2], by rw [HQ.out.1]; exact HM.out, hl6, hown, hb⟩
          case measure => simp [intOf] <;> omega
        | true =>
          have HQ := hide (piecesTo_comma s k hlt ht)
          have HBAD := hide (show 6 ≤ ws.length ∨ wantF (s.extract (cutTo s 44 k).2 k) = none → wantsF s = none from fun h => by
            obtain ⟨_, _, r, hr⟩ := HQ.out
            exact wantsF_bad HE.out hr HM.out h)
          have HGOOD := hide (show ∀ a, wantF (s.extract (cutTo s 44 k).2 k) = some a → (piecesTo s (k + 1)).mapM wantF = some (ws ++ [a]) from fun a h => by rw [HQ.out.1]; exact wants_push HM.out h)
          have HQ2 := hide HQ.out.2.1
          have ht' : ((s[k].toNat : Int) != 44) = false := by rw [bne, ht]; rfl
          clear ht HQ
          generalize (cutTo s 44 k).2 = f at *
          by_cases h6 : 6 ≤ ws.length
          · have HN := hide (HBAD.out (Or.inl h6))
            go_wp2_with fail
            go_ret2
            exact ⟨parsed_no HN.out, hb⟩
          · cases hx : wantF (s.extract f k) with
            | none =>
              have HN := hide (HBAD.out (Or.inr hx))
              have HP := hide (fun W => parseOne_none (s.extract f k) W HX.out hx)
              clear hx
              go_wp2_with fail
              refine (HP.out _).mono ?_
              rintro e w1 ⟨rfl, hb1⟩
              have hb2 := below_call hb hb1
              go_wp2_with fail
              go_ret2
              exact ⟨parsed_no HN.out, hb2.alloc hb2.size _⟩
            | some a =>
              have HG := hide (HGOOD.out a hx)
              have HP := hide (fun W => parseOne_some (s.extract f k) W HX.out a hx)
              clear hx
              go_wp2_with fail
              refine (HP.out _).mono ?_
              rintro e w1 ⟨rfl, hb1⟩
              have hb2 := below_call hb hb1
              have hown1 := ownsRow_keep' hown hb1
              clear HP
              go_wp2_with (at_builtin; refine wpList_append_own2 _ rfl (.tmp 40) (.tmp 42) 139 rfl w.heap.size 172 i0 (.agg #[.string ⟨#[]⟩, .int .i64 0, .int .i64 0]) 3 32 Tryz.underlying139 ti hz0 hz1 hz2 rfl (by decide) _ ws.length (wantsCells ws) rfl ((hown1.alloc _).alloc _) ⟨w1.heap.size + 1, 0, none⟩ 1 1 (wantCells a) rfl rfl (news_at (t := 172) (fr := (0, 0)) (heap2_new w1 _ _)) ?_ (by unfold maxLen; omega) (by omega) ?_ (by omega) ?_)
              · intro u hu
                simp [wantCells] at hu
                rcases hu with rfl | rfl | rfl <;> rfl
              · have := hb2.size; simp; omega
              · intro g' cap' w2 hown2 hgrow _
                have hb3 : Below w.heap.size w w2 := ((hb2.alloc hb2.size _).alloc (by have := hb2.size; simp; omega) _).grown hgrow (by have := hb2.size; simp; omega) (fun k' hk' => (hown1.lt k' hk').1)
                have HO := hide hown2
                clear hown hown1 hown2 hgrow hb hb1 hb2
                go_wp2_with fail
                go_roundw
                case rel => exact ⟨k + 1, ws ++ [a], some ⟨g', 0, none⟩, cap', by simp, by omega, by go_num, fun _ => by rw [HQ2.out]; go_num, HG.out, by simp; omega, by simpa [wantsCells, wantCells] using HO.out, hb3⟩
                case measure => simp [intOf] <;> omega
      · obtain rfl : k = s.size := by omega
        have HQ := hide (piecesTo_end s)
        have HBAD := hide (show 6 ≤ ws.length ∨ wantF (s.extract (cutTo s 44 s.size).2 s.size) = none → wantsF s = none from fun h => by
          obtain ⟨_, r, hr⟩ := HQ.out
          exact wantsF_bad HE.out hr HM.out h)
        have HGOOD := hide (show ∀ a, wantF (s.extract (cutTo s 44 s.size).2 s.size) = some a → (piecesTo s (s.size + 1)).mapM wantF = some (ws ++ [a]) from fun a h => by rw [HQ.out.1]; exact wants_push HM.out h)
        clear HQ
        generalize (cutTo s 44 s.size).2 = f at *
        by_cases h6 : 6 ≤ ws.length
        · have HN := hide (HBAD.out (Or.inl h6))
          go_wp2_with fail
          go_ret2
          exact ⟨parsed_no HN.out, hb⟩
        · cases hx : wantF (s.extract f s.size) with
          | none =>
            have HN := hide (HBAD.out (Or.inr hx))
            have HP := hide (fun W => parseOne_none (s.extract f s.size) W HX.out hx)
            clear hx
            go_wp2_with fail
            refine (HP.out _).mono ?_
            rintro e w1 ⟨rfl, hb1⟩
            have hb2 := below_call hb hb1
            go_wp2_with fail
            go_ret2
            exact ⟨parsed_no HN.out, hb2.alloc hb2.size _⟩
          | some a =>
            have HG := hide (HGOOD.out a hx)
            have HP := hide (fun W => parseOne_some (s.extract f s.size) W HX.out a hx)
            clear hx
            go_wp2_with fail
            refine (HP.out _).mono ?_
            rintro e w1 ⟨rfl, hb1⟩
            have hb2 := below_call hb hb1
            have hown1 := ownsRow_keep' hown hb1
            clear HP
            go_wp2_with (at_builtin; refine wpList_append_own2 _ rfl (.tmp 40) (.tmp 42) 139 rfl w.heap.size 172 i0 (.agg #[.string ⟨#[]⟩, .int .i64 0, .int .i64 0]) 3 32 Tryz.underlying139 ti hz0 hz1 hz2 rfl (by decide) _ ws.length (wantsCells ws) rfl ((hown1.alloc _).alloc _) ⟨w1.heap.size + 1, 0, none⟩ 1 1 (wantCells a) rfl rfl (news_at (t := 172) (fr := (0, 0)) (heap2_new w1 _ _)) ?_ (by unfold maxLen; omega) (by omega) ?_ (by omega) ?_)
            · intro u hu
              simp [wantCells] at hu
              rcases hu with rfl | rfl | rfl <;> rfl
            · have := hb2.size; simp; omega
            · intro g' cap' w2 hown2 hgrow _
              have hb3 : Below w.heap.size w w2 := ((hb2.alloc hb2.size _).alloc (by have := hb2.size; simp; omega) _).grown hgrow (by have := hb2.size; simp; omega) (fun k' hk' => (hown1.lt k' hk').1)
              have HO := hide hown2
              clear hown hown1 hown2 hgrow hb hb1 hb2
              go_wp2_with fail
              go_roundw
              case rel => exact ⟨s.size + 1, ws ++ [a], some ⟨g', 0, none⟩, cap', by simp, by omega, by go_num, fun h => absurd h (by omega), HG.out, by simp; omega, by simpa [wantsCells, wantCells] using HO.out, hb3⟩
              case measure => simp [intOf] <;> omega
    · obtain rfl : k = s.size + 1 := by omega
      have HW := hide (wantsF_good HE.out (show (cutF s 44).mapM wantF = some ws by rw [piecesTo, if_neg hle] at hm; exact hm) hl6)
      clear hm hfr
      go_wp2_with fail
      go_ret2
      refine ⟨⟨_, ws.length, cp, by rw [HW.out]; rfl, fun ws' hw => ?_⟩, hb⟩
      rw [HW.out] at hw
      injection hw with hw
      subst hw
      exact ⟨rfl, hown⟩

set_option maxHeartbeats 400000 in
theorem parse_any (s : ByteArray) (w : World) (hs : s.size ≤ 4611686018427387000) :
    Calls Tryz.prog 91 #[.string s] w fun e w' => ParsedAs w w' s e ∧ Below w.heap.size w w' := by
  cases he : s.toList.isEmpty with
  | false => exact parse_full s w hs he
  | true =>
    have HW := hide (show wantsF s = some [] by unfold wantsF; rw [he]; rfl)
    go_enter Tryz.func91, Tryz.ntmps91
    go_wp2_with fail
    go_ret2
    refine ⟨⟨none, 0, 0, by rw [HW.out]; rfl, fun ws' hw => ?_⟩, Below.refl _ _⟩
    rw [HW.out] at hw
    injection hw with hw
    subst hw
    exact ⟨rfl, World.ownsRow_nil _ _ _ _⟩

end

end Go.Proofs.YtgcldedkempjhabGreatDoor
