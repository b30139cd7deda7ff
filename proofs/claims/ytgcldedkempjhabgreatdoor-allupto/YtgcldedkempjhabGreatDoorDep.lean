/-
  depot.Depot: find, held, mayManage, mayWork.
-/
import Derived.Test.YtgcldedkempjhabGreatDoorDepMem
import Derived.BigQuiet
namespace Go.Proofs.YtgcldedkempjhabGreatDoor
open Go.RowKit

def hseF (hs : List PHse) (nm : ByteArray) : Option PHse := hs.find? fun h => h.name.toList == nm.toList

/-- The first house of this name. -/
def FirstH (hs : List Hse) (nm : ByteArray) (i : Nat) : Prop := ∃ hi : i < hs.length, (hs[i].name.toList == nm.toList) = true ∧ ∀ j, (hj : j < hs.length) → j < i → (hs[j].name.toList == nm.toList) = false

theorem hse_cases (D : DepD) (nm : ByteArray) :
    (∃ i, ∃ hi : i < D.hs.length, FirstH D.hs nm i ∧ hseF D.pure.hs nm = some D.hs[i].pure) ∨ ((∀ j, (hj : j < D.hs.length) → (D.hs[j].name.toList == nm.toList) = false) ∧ hseF D.pure.hs nm = none) := by
  have hm : hseF D.pure.hs nm = (D.hs.find? fun h => h.name.toList == nm.toList).map Hse.pure := by
    show (D.hs.map Hse.pure).find? _ = _
    rw [List.find?_map]
    rfl
  rcases find_cases (fun h : Hse => h.name.toList == nm.toList) D.hs with ⟨i, hi, h1, h2, h3⟩ | ⟨h1, h3⟩
  · exact Or.inl ⟨i, hi, ⟨hi, h1, h2⟩, by rw [hm, h3]; rfl⟩
  · exact Or.inr ⟨h1, by rw [hm, h3]; rfl⟩

section
variable {w w' : World} {db : Nat} {D : DepD}

/-- A house's cells, and its four rows. -/
theorem DepAt.house (h : DepAt w db D) (i : Nat) (hi : i < D.hs.length) :
    ∃ g, D.ho = some ⟨g, 0, none⟩ ∧ g < w.heap.size ∧ db < g ∧ w.cell? ⟨g, i * 5, none⟩ = some (.string D.hs[i].name) ∧ RingAt w (db + 1) g (i * 5 + 1) D.hs[i].ao D.hs[i].cap D.hs[i].toks ∧
      ShelfAt w (db + 1) g (i * 5 + 2) D.hs[i].eao D.hs[i].ecap D.hs[i].eds ∧ BookAt w (db + 1) g (i * 5 + 3) D.hs[i].gao D.hs[i].gcap D.hs[i].grs ∧ JAt w (db + 1) g (i * 5 + 4) D.hs[i].lao D.hs[i].lcap D.hs[i].log ∧ ∀ f, ¬ blockOf (D.hs[i].row f).ao g := by
  obtain ⟨g, hg, hlt, hb, hc, hf⟩ := row_cell Hse.cells_length h.head.own i hi
  refine ⟨g, hg, hlt, hb, hc 0 _ rfl, ⟨hc 1 _ rfl, hf _, h.rows.row _ _ (D.row_at hi .ring)⟩, ⟨hc 2 _ rfl, hf _, h.rows.row _ _ (D.row_at hi .shelf)⟩, ⟨hc 3 _ rfl, hf _, h.rows.row _ _ (D.row_at hi .book)⟩, ⟨hc 4 _ rfl, hf _, h.rows.row _ _ (D.row_at hi .log)⟩, ?_⟩
  intro f hk
  exact (h.row_apart (D.row_at hi f) hk).2.1 ⟨_, hg, rfl⟩

theorem DepAt.public (h : DepAt w db D) : ShelfAt w (db + 1) db 3 D.po D.pcap D.pub ∧ ¬ blockOf D.po db :=
  ⟨⟨h.head.c3, h.head.f 3, h.rows.row .pub _ rfl⟩, fun hk => (h.row_apart (q := .pub) rfl hk).1 rfl⟩

theorem DepAt.hlen (h : DepAt w db D) : D.hs.length ≤ 6 := by have := h.lens.h; simpa [DepD.pure] using this
theorem DepAt.tlen (h : DepAt w db D) (i : Nat) (hi : i < D.hs.length) : D.hs[i].toks.length ≤ 8 := h.lens.t D.hs[i].pure (List.mem_map_of_mem (List.getElem_mem hi))
theorem DepAt.elen (h : DepAt w db D) (i : Nat) (hi : i < D.hs.length) : D.hs[i].eds.length ≤ 12 := by
  have := h.lens.e D.hs[i].pure (List.mem_map_of_mem (List.getElem_mem hi))
  simpa [Hse.pure] using this
theorem DepAt.glen (h : DepAt w db D) (i : Nat) (hi : i < D.hs.length) : D.hs[i].grs.length ≤ 6 := h.lens.g D.hs[i].pure (List.mem_map_of_mem (List.getElem_mem hi))
theorem DepAt.plen (h : DepAt w db D) : D.pub.length ≤ 24 := by have := h.lens.p; simpa [DepD.pure] using this

end

theorem RingAt.same {w w' : World} {base b o : Nat} {ao : Option Addr} {cap : Nat} {ts : List Tok} (h : RingAt w base b o ao cap ts) (hh : w'.heap = w.heap) : RingAt w' base b o ao cap ts :=
  ⟨(World.cell?_of_block (by rw [hh])).trans h.c, (World.frozen?_of_block (by rw [hh])).trans h.f, ownsRow_keep h.own (fun _ _ => by rw [hh])⟩

set_option maxHeartbeats 400000 in
theorem depFind_some (db : Nat) (D : DepD) (nm : ByteArray) (w : World) (hr : DepAt w db D) (i : Nat) (hi : i < D.hs.length) (hf : FirstH D.hs nm i) (g : Nat) (hg : D.ho = some ⟨g, 0, none⟩) :
    Calls Tryz.prog 43 #[.pointer (some ⟨db, 0, none⟩), .string nm] w fun e w' => e = .returned (.pointer (some ⟨g, i * 5, none⟩)) ∧ w' = w := by
  have c := hr.head.c2
  have hlen := hr.hlen
  rw [hg] at c
  obtain ⟨_, hm, hno⟩ := hf
  have HM := hide hm
  have HN := hide hno
  clear hm hno
  go_enter Tryz.func43, Tryz.ntmps43
  go_wp2
  go_loop [5] (fun x => ∃ k : Nat, k ≤ i ∧ x = .int .i64 k) (fun x => D.hs.length - (intOf x).toNat)
  case atStart => exact ⟨0, Nat.zero_le _, rfl⟩
  case round =>
    obtain ⟨k, hk, rfl⟩ := hrel
    obtain ⟨g1, hg1, _, _, d0, _⟩ := hr.house k (by omega)
    rw [hg] at hg1
    injection hg1 with hg1
    injection hg1 with hg1
    subst hg1
    by_cases hlt : k < i
    · have h1 := HN.out k (by omega) hlt
      go_wp2
      go_round
      case rel => exact ⟨k + 1, by omega, by go_num⟩
      case measure => simp [intOf] <;> omega
    · obtain rfl : k = i := by omega
      have h1 := HM.out
      go_wp2
      go_ret
      exact ⟨rfl, rfl⟩

set_option maxHeartbeats 400000 in
theorem depFind_none (db : Nat) (D : DepD) (nm : ByteArray) (w : World) (hr : DepAt w db D) (hno : ∀ j, (hj : j < D.hs.length) → (D.hs[j].name.toList == nm.toList) = false) :
    Calls Tryz.prog 43 #[.pointer (some ⟨db, 0, none⟩), .string nm] w fun e w' => e = .returned (.pointer none) ∧ w' = w := by
  have c := hr.head.c2
  have hlen := hr.hlen
  have HN := hide hno
  clear hno
  go_enter Tryz.func43, Tryz.ntmps43
  go_wp2
  go_loop [5] (fun x => ∃ k : Nat, k ≤ D.hs.length ∧ x = .int .i64 k) (fun x => D.hs.length - (intOf x).toNat)
  case atStart => exact ⟨0, Nat.zero_le _, rfl⟩
  case round =>
    obtain ⟨k, hk, rfl⟩ := hrel
    by_cases hlt : k < D.hs.length
    · obtain ⟨g, hg, _, _, d0, _⟩ := hr.house k (by omega)
      rw [hg] at c
      have h1 := HN.out k (by omega)
      go_wp2
      go_round
      case rel => exact ⟨k + 1, by omega, by go_num⟩
      case measure => simp [intOf] <;> omega
    · go_wp2
      go_ret
      exact ⟨rfl, rfl⟩

def heldF (P : PDep) (house : ByteArray) (id : Int) : Int :=
  if house.toList.isEmpty then (if id == P.root then 4 else 0) else
  match hseF P.hs house with
  | none => 0
  | some h => roleT h.toks id P.clock

set_option maxHeartbeats 400000 in
theorem held_any (db : Nat) (D : DepD) (house : ByteArray) (id : Int) (w : World) (hr : DepAt w db D) :
    Calls Tryz.prog 40 #[.pointer (some ⟨db, 0, none⟩), .string house, .int .i64 id] w fun e w' => e = .returned (.int .i64 (heldF D.pure house id)) ∧ Below w.heap.size w w' := by
  have c0 := hr.head.c0
  have c1 := hr.head.c1
  have hdb := hr.lt
  cases hemp : house.toList.isEmpty with
  | true =>
    cases hid : (id == D.root) with
    | true =>
      have hfin := hide (show heldF D.pure house id = 4 by simp [heldF, DepD.pure, hemp, hid])
      go_enter Tryz.func40, Tryz.ntmps40
      go_wp2
      go_ret
      exact ⟨ret_int hfin.out.symm, Below.refl _ _⟩
    | false =>
      have hfin := hide (show heldF D.pure house id = 0 by simp [heldF, DepD.pure, hemp, hid])
      go_enter Tryz.func40, Tryz.ntmps40
      go_wp2
      go_ret
      exact ⟨ret_int hfin.out.symm, Below.refl _ _⟩
  | false =>
    rcases hse_cases D house with ⟨i, hi, h1, h3⟩ | ⟨h1, h3⟩
    · obtain ⟨g, hg, _, _, d0, hring, _⟩ := hr.house i hi
      have hfin := hide (show heldF D.pure house id = roleT D.hs[i].toks id D.clock by rw [heldF, hemp, h3]; rfl)
      have Hc := hide (depFind_some db D house w hr i hi h1 g hg)
      have htl := hr.tlen i hi
      clear h1 h3
      go_enter Tryz.func40, Tryz.ntmps40
      go_wp2_with fail
      refine Hc.out.mono ?_
      rintro e w1 ⟨rfl, h⟩
      subst h
      go_wp2_with fail
      go_region_with (go_at_call 85; refine (ringRole_any (db + 1) g (i * 5 + 1) D.hs[i].ao D.hs[i].cap D.hs[i].toks id D.clock _ ?_ ?_).mono ?_; exact hring.same rfl; omega; rintro e w2 ⟨rfl, hb⟩)
      all_goals
        have hb' : Below w1.heap.size w1 w2 := ⟨hb.os, hb.tape, hb.output, hb.size, hb.block⟩
        clear hb
        go_wp2_with fail
        go_ret
        exact ⟨ret_int hfin.out.symm, hb'⟩
    · have hfin := hide (show heldF D.pure house id = 0 by rw [heldF, hemp, h3]; rfl)
      have Hc := hide (depFind_none db D house w hr h1)
      clear h1 h3
      go_enter Tryz.func40, Tryz.ntmps40
      go_wp2_with fail
      refine Hc.out.mono ?_
      rintro e w1 ⟨rfl, h⟩
      subst h
      go_wp2_with fail
      go_ret
      exact ⟨ret_int hfin.out.symm, Below.refl _ _⟩

def manageF (r : Int) (same : Bool) : Int := if r == 0 then 3 else if r == 4 then 0 else if r == 3 then (if same then 0 else 4) else 4

set_option maxHeartbeats 400000 in
theorem mayManage_any (db : Nat) (D : DepD) (house : ByteArray) (id : Int) (of : ByteArray) (w : World) (hr : DepAt w db D) :
    Calls Tryz.prog 47 #[.pointer (some ⟨db, 0, none⟩), .string house, .int .i64 id, .string of] w fun e w' =>
      e = .returned (.int .i64 (manageF (heldF D.pure house id) (house.toList == of.toList))) ∧ Below w.heap.size w w' := by
  have Hc := hide (held_any db D house id w hr)
  generalize heldF D.pure house id = r at *
  go_enter Tryz.func47, Tryz.ntmps47
  go_wp2_with fail
  refine Hc.out.mono ?_
  rintro e w1 ⟨rfl, hb⟩
  go_wp2_with fail
  all_goals
    go_ret
    exact ⟨ret_int (by simp [manageF, *]), hb⟩

def workF (r least : Int) : Int := if r == 0 then 3 else if r < least ∨ r = 4 then 4 else 0

theorem held_house {P : PDep} {house : ByteArray} {id least : Int} (h : workF (heldF P house id) least = 0) : house.toList.isEmpty = false ∧ ∃ x, hseF P.hs house = some x := by
  unfold heldF at h
  cases he : house.toList.isEmpty with
  | true =>
    rw [he] at h
    simp only [if_true] at h
    split at h
    · simp [workF] at h
    · simp [workF] at h
  | false =>
    rw [he] at h
    refine ⟨rfl, ?_⟩
    cases hh : hseF P.hs house with
    | some x => exact ⟨x, rfl⟩
    | none =>
      rw [hh] at h
      simp [workF] at h

set_option maxHeartbeats 400000 in
theorem mayWork_no (db : Nat) (D : DepD) (house : ByteArray) (id least : Int) (w : World) (hr : DepAt w db D) (E : Int) (hE : workF (heldF D.pure house id) least = E) (h0 : E ≠ 0) :
    Calls Tryz.prog 59 #[.pointer (some ⟨db, 0, none⟩), .string house, .int .i64 id, .int .i64 least] w fun e w' =>
      e = .returned (.tuple #[.pointer none, .int .i64 E]) ∧ Below w.heap.size w w' := by
  have Hc := hide (held_any db D house id w hr)
  generalize heldF D.pure house id = r at *
  have HE := hide hE
  have H0 := hide h0
  clear hE h0
  go_enter Tryz.func59, Tryz.ntmps59
  go_wp2_with fail
  refine Hc.out.mono ?_
  rintro e w1 ⟨rfl, hb⟩
  by_cases t0 : r = 0
  · have hE : E = 3 := by rw [← HE.out, t0]; rfl
    subst hE
    have t1 : (r == 0) = true := beq_iff_eq.2 t0
    clear t0
    go_wp2_with fail
    go_ret2
    exact ⟨rfl, hb⟩
  · have t1 : (r == 0) = false := beq_eq_false_iff_ne.2 t0
    have hE : (r < least ∨ r = 4) ∧ E = 4 := by
      have h1 := HE.out
      have h2 := H0.out
      unfold workF at h1
      rw [t1, if_neg (by decide)] at h1
      split at h1
      · exact ⟨‹_›, h1.symm⟩
      · exact absurd h1.symm h2
    obtain ⟨hor, rfl⟩ := hE
    have HOR := hide hor
    clear hor t0
    go_wp2_with fail
    all_goals first
      | (go_ret2; exact ⟨rfl, hb⟩)
      | (exfalso; have := HOR.out; simp_all; omega)

set_option maxHeartbeats 400000 in
theorem mayWork_yes (db : Nat) (D : DepD) (house : ByteArray) (id least : Int) (w : World) (hr : DepAt w db D) (h0 : workF (heldF D.pure house id) least = 0) (i : Nat) (hi : i < D.hs.length) (hf : FirstH D.hs house i) (g : Nat) (hg : D.ho = some ⟨g, 0, none⟩) :
    Calls Tryz.prog 59 #[.pointer (some ⟨db, 0, none⟩), .string house, .int .i64 id, .int .i64 least] w fun e w' =>
      e = .returned (.tuple #[.pointer (some ⟨g, i * 5, none⟩), .int .i64 0]) ∧ Below w.heap.size w w' := by
  have Hc := hide (held_any db D house id w hr)
  have Hf := hide (fun W h => depFind_some db D house W h i hi hf g hg)
  generalize heldF D.pure house id = r at *
  have hh : (r == 0) = false ∧ ¬ r < least ∧ (r == 4) = false := by
    unfold workF at h0
    split at h0
    · cases h0
    · rename_i h1
      split at h0
      · cases h0
      · rename_i h2
        refine ⟨by simpa using h1, fun h => h2 (Or.inl h), beq_eq_false_iff_ne.2 fun h => h2 (Or.inr h)⟩
  obtain ⟨t1, t2, t3⟩ := hh
  clear h0
  go_enter Tryz.func59, Tryz.ntmps59
  go_wp2_with fail
  refine Hc.out.mono ?_
  rintro e w1 ⟨rfl, hb⟩
  go_wp2_with fail
  refine (Hf.out _ (hr.below hb)).mono ?_
  rintro e w2 ⟨rfl, h⟩
  subst h
  go_wp2_with fail
  go_ret2
  exact ⟨rfl, hb⟩

end Go.Proofs.YtgcldedkempjhabGreatDoor
