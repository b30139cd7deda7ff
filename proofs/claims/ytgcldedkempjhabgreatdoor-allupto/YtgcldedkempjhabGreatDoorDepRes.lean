/-
  depot.Depot: Resolve.
-/
import Derived.Test.YtgcldedkempjhabGreatDoorRunName
namespace Go.Proofs.YtgcldedkempjhabGreatDoor
open Go.RowKit

/-- The names that a search can meet. -/
def namesU (P : PDep) (ask : List WantD) : List ByteArray :=
  (ask.map fun x => x.name) ++ ((P.hs.flatMap fun h => h.eds.flatMap fun e => e.wants.map fun x => x.name) ++ P.pub.flatMap fun e => e.wants.map fun x => x.name)

theorem flat_len {α β : Type} (f : α → List β) (n : Nat) (l : List α) (h : ∀ x ∈ l, (f x).length ≤ n) : (l.flatMap f).length ≤ l.length * n := by
  induction l with
  | nil => simp
  | cons a t ih =>
    rw [List.flatMap_cons, List.length_append, List.length_cons, Nat.succ_mul]
    have h1 := h a (by simp)
    have h2 := ih (fun x hx => h x (by simp [hx]))
    omega

theorem namesU_len {P : PDep} (h : Lens P) {ask : List WantD} (ha : WsOk ask) : (namesU P ask).length ≤ 600 := by
  have h1 := flat_len (fun x : PHse => x.eds.flatMap fun e => e.wants.map fun x => x.name) 72 P.hs (fun x hx => by
    have := flat_len (fun e : PEd => e.wants.map fun x => x.name) 6 x.eds (fun e he => by simpa using (h.q x hx e he).1)
    have h2 := h.e x hx
    omega)
  have h2 := flat_len (fun e : PEd => e.wants.map fun x => x.name) 6 P.pub (fun e he => by simpa using (h.r e he).1)
  have h3 := h.h
  have h4 := h.p
  have h5 := ha.1
  unfold namesU
  rw [List.length_append, List.length_append, List.length_map]
  omega

theorem namesU_size {P : PDep} (h : Lens P) {ask : List WantD} (ha : WsOk ask) : ∀ u ∈ namesU P ask, u.size ≤ 9 := by
  intro u hu
  unfold namesU at hu
  rcases List.mem_append.1 hu with hu | hu
  · obtain ⟨x, hx, rfl⟩ := List.mem_map.1 hu
    exact ha.2 x hx
  · rcases List.mem_append.1 hu with hu | hu
    · obtain ⟨y, hy, hu⟩ := List.mem_flatMap.1 hu
      obtain ⟨e, he, hu⟩ := List.mem_flatMap.1 hu
      obtain ⟨x, hx, rfl⟩ := List.mem_map.1 hu
      exact (h.q y hy e he).2 x hx
    · obtain ⟨e, he, hu⟩ := List.mem_flatMap.1 hu
      obtain ⟨x, hx, rfl⟩ := List.mem_map.1 hu
      exact (h.r e he).2 x hx

theorem namesU_has {D : DepD} {ask : List WantD} {e : Ed} (he : D.hasEd e) : ∀ x ∈ e.wants, x.name.toList ∈ keysOf (namesU D.pure ask) := by
  intro x hx
  refine List.mem_map_of_mem ?_
  unfold namesU
  refine List.mem_append_right _ ?_
  rcases he with hp | ⟨h, hh, hp⟩
  · refine List.mem_append_right _ (List.mem_flatMap.2 ⟨e.pure, List.mem_map_of_mem hp, List.mem_map_of_mem (f := fun x : WantD => x.name) hx⟩)
  · refine List.mem_append_left _ (List.mem_flatMap.2 ⟨h.pure, List.mem_map_of_mem hh, List.mem_flatMap.2 ⟨e.pure, List.mem_map_of_mem hp, List.mem_map_of_mem (f := fun x : WantD => x.name) hx⟩⟩)

/-- A fresh search was offered nothing. -/
theorem fresh_inv {S : SD} {ask : List WantD} {U : List ByteArray} (h : Fresh S ask) (ha : ask.length ≤ 6) (hU : ∀ x ∈ ask, x.name.toList ∈ keysOf U) : OffInv S U ask (fun _ _ => none) := by
  have h1 := linkedN_ok (ns := []) (U := U) ⟨by simp [keysOf], fun x hx => by cases hx⟩ ask hU
  have h2 := linkedN_is [] ask
  refine ⟨by rw [h.names]; exact h1.1, ?_, by rw [h.names, h.list]; exact h2.2, ha, h.asked, ?_, ?_, fun _ _ _ => rfl⟩
  · intro i hi v l hl
    obtain ⟨nm, e⟩ := h.ents S.ents[i] (List.getElem_mem hi)
    rw [e] at hl
    cases hl
  · intro e he
    obtain ⟨nm, rfl⟩ := h.ents e he
    rfl
  · intro i hi v
    obtain ⟨nm, e⟩ := h.ents S.ents[i] (List.getElem_mem hi)
    rw [e]
    exact ⟨rfl, fun l ws h1 => by cases h1⟩

theorem run_pks {S : SD} {U : List ByteArray} {ask : List WantD} {cd : Nat → Nat → Option (List WantD)} (h : OffInv S U ask cd) (hU : U.length ≤ 600) (hs : ∀ u ∈ U, u.size ≤ 9) (b : Nat) : (runP S.ents S.list b).1.length ≤ 600 ∧ ∀ p ∈ (runP S.ents S.list b).1, PkOk p := by
  have hn := h.ns.le
  rw [S.names_len] at hn
  unfold runP
  cases hsv : solve (candN S.ents) S.ents.length S.list [] b with
  | none => exact ⟨Nat.zero_le _, fun p hp => by cases hp⟩
  | some r =>
    obtain ⟨left, o⟩ := r
    cases o with
    | none => exact ⟨Nat.zero_le _, fun p hp => by cases hp⟩
    | some chl =>
      simp only
      have hgl : GoodW (fun i => i < S.ents.length) S.list := h.lst
      have hgk : GoodK (fun i => i < S.ents.length) (candN S.ents) := fun i hi v l hl x hx => by
        rw [candN_at S.ents hi] at hl
        exact (h.ok i hi v l hl).2 x hx
      have hch := solve_chOk hgk hgl hsv
      constructor
      · have := picksP_len (chEnts S.ents chl) (chEnts S.ents chl).length (Nat.le_refl _)
        rw [List.take_length, chEnts_length] at this
        omega
      · intro p hp
        have hnd1 : ((entPks (chEnts S.ents chl)).map fun p => p.name).Nodup := entPks_nodup (by rw [chEnts_names]; exact keys_nodup h.ns.nd)
        rw [picksP_sort, (sortPk_is hnd1).2, mem_entPks] at hp
        obtain ⟨e, he, hc, rfl⟩ := hp
        obtain ⟨i, hi, rfl⟩ := List.getElem_of_mem he
        rw [chEnts_length] at hi
        rw [chEnts_get S.ents chl i hi] at hc ⊢
        refine ⟨?_, (hch.v _ (mem_picked hc)).2⟩
        have h3 := h.ns.sub S.ents[i].name.toList (List.mem_map_of_mem (List.mem_of_getElem? (ents_name S hi)))
        obtain ⟨u, hu, e⟩ := List.mem_map.1 h3
        have := hs u hu
        rw [toList_size e] at this
        exact this

/-- What Resolve tells a holder. -/
def resolveP (P : PDep) (house text : ByteArray) (budget : Int) : ByteArray × Int × Int :=
  match wantsF text with
  | none => (⟨#[]⟩, 0, 8)
  | some ask => if budget < 0 ∨ 1000000 < budget then (⟨#[]⟩, 0, 1) else
    (if (runW (candW P house ask) ask budget.toNat).2.2 = 0 then writtenP P (runW (candW P house ask) ask budget.toNat).1 else ⟨#[]⟩, (runW (candW P house ask) ask budget.toNat).2.1, (runW (candW P house ask) ask budget.toNat).2.2)

set_option maxHeartbeats 1600000 in
set_option maxRecDepth 100000 in
theorem resolveFor_any (db : Nat) (D : DepD) (house text : ByteArray) (budget : Int) (w : World) (hr : DepAt w db D) (hs : text.size ≤ 4611686018427387000) :
    Calls Tryz.prog 77 #[.pointer (some ⟨db, 0, none⟩), .string house, .string text, .int .i64 budget] w fun e w' =>
      e = .returned (.tuple #[.string (resolveP D.pure house text budget).1, .int .i64 (resolveP D.pure house text budget).2.1, .int .i64 (resolveP D.pure house text budget).2.2]) ∧ Below w.heap.size w w' := by
  have HP := hide (parse_any text w hs)
  have HR := hide hr
  clear hr
  unfold resolveP
  cases hw : wantsF text with
  | none =>
    go_enter Tryz.func77, Tryz.ntmps77
    go_wp2_with fail
    refine HP.out.mono ?_
    rintro e w1 ⟨⟨ao, n, cap, rfl, _⟩, hb1⟩
    rw [hw]
    simp only [Option.isSome]
    go_wp2_with fail
    go_ret3
    exact ⟨rfl, hb1⟩
  | some ask =>
    have hok := wantsF_ok hw
    by_cases hbud : budget < 0 ∨ 1000000 < budget
    · simp only [if_pos hbud]
      go_enter Tryz.func77, Tryz.ntmps77
      go_wp2_with fail
      refine HP.out.mono ?_
      rintro e w1 ⟨⟨ao, n, cap, rfl, _⟩, hb1⟩
      rw [hw]
      simp only [Option.isSome]
      by_cases hneg : budget < 0
      · clear hbud
        go_wp2_with fail
        go_ret3
        exact ⟨rfl, hb1⟩
      · have hbig : 1000000 < budget := hbud.resolve_left hneg
        clear hbud
        go_wp2_with fail
        go_ret3
        exact ⟨rfl, hb1⟩
    · simp only [if_neg hbud]
      obtain ⟨b, rfl⟩ : ∃ b : Nat, budget = b := ⟨budget.toNat, by omega⟩
      have hble : b ≤ 1000000 := by omega
      have h1 : ¬ (b : Int) < 0 := by omega
      have h2 : ¬ (1000000 : Int) < b := by omega
      clear hbud
      rw [Int.toNat_natCast]
      generalize hrE : runW (candW D.pure house ask) ask b = r
      obtain ⟨pk, st, er⟩ := r
      have HRE := hide hrE
      clear hrE
      go_enter Tryz.func77, Tryz.ntmps77
      go_wp2_with fail
      refine HP.out.mono ?_
      rintro e w1 ⟨⟨ao, n, cap, rfl, hrow⟩, hb1⟩
      obtain ⟨rfl, hrow'⟩ := hrow ask hw
      rw [hw]
      simp only [Option.isSome]
      have HN := hide (snew_any ao cap _ ask w1 hrow' (by have := hok.1; omega))
      clear hrow hrow' HP
      go_wp2_with fail
      refine HN.out.mono ?_
      rintro e w2 ⟨rfl, hb2, S, hS, hF⟩
      have hD1 := HR.out.below hb1
      have hUl := namesU_len HR.out.lens hok
      have HOT := hide (offerTo_any db D house w1.heap.size (namesU D.pure ask) ask S w2 (fun W hW => hD1.below (hb2.trans hW)) (fun e he => ⟨fun k hk => (blockOf_lt (hD1.rows.want e he) hk).2, namesU_has he⟩) hUl (namesU_size HR.out.lens hok) hS (fresh_inv hF hok.1 (fun x hx => List.mem_map_of_mem (List.mem_append_left _ (List.mem_map_of_mem (f := fun x : WantD => x.name) hx)))) hF.told)
      clear hS hF HN
      go_wp2_with fail
      refine HOT.out.mono ?_
      rintro e w3 ⟨rfl, hb3, S3, hS3, hI3⟩
      have hl3 : S3.ents.length ≤ 600 := by have := hI3.ns.le; rw [S3.names_len] at this; omega
      have hll : S3.list.length ≤ 6 := by rw [hI3.lnk.len]; exact hok.1
      have HRUN := hide (run_any w1.heap.size S3 b w3 hS3 hI3.ok hI3.lst (by omega) hI3.ch hble)
      have hpk := run_pks hI3 hUl (namesU_size HR.out.lens hok) b
      rw [run_is hI3 hUl, HRE.out] at HRUN hpk
      have hD4 : ∀ W, Below w1.heap.size w3 W → DepAt W db D := fun W hW => hD1.below ((hb2.trans hb3).trans hW)
      have HD4 := hide hD4
      have HB3 := hide (show Below w1.heap.size w1 w3 from hb2.trans hb3)
      have HB1 := hide hb1
      have HPK := hide hpk
      clear hS3 hI3 HOT hD1 hD4 hb2 hb3 hb1 hpk
      go_wp2_with fail
      refine HRUN.out.mono ?_
      rintro e w4 ⟨ao4, cap4, rfl, hrow4, hb4⟩
      have HB4 := hide (show Below w.heap.size w w4 from HB1.out.trans ((HB3.out.trans hb4).mono HB1.out.size))
      have hsz4 : w1.heap.size ≤ w4.heap.size := Nat.le_trans HB3.out.size hb4.size
      by_cases her : er = 0
      · subst her
        have HW := hide (written_any db D ao4 cap4 _ pk w4 (HD4.out w4 hb4) hrow4 HPK.out.2 (by have := HPK.out.1; omega))
        clear HRUN hrow4 hb4 HD4 HB3 HPK
        simp only
        go_wp2_with fail
        refine HW.out.mono ?_
        rintro e w5 ⟨rfl, hb5⟩
        go_wp2_with fail
        go_ret3
        exact ⟨rfl, below_call HB4.out hb5⟩
      · have hz : (er == 0) = false := by rw [beq_eq_false_iff_ne]; exact her
        have hz' : (er != 0) = true := by rw [bne, hz]; rfl
        clear HRUN hrow4 hb4 HD4 HB3 HPK
        simp only
        go_wp2_with fail
        go_ret3
        exact ⟨rfl, HB4.out⟩

def dresolveP (P : PDep) (house : ByteArray) (id : Int) (text : ByteArray) (budget : Int) : ByteArray × Int × Int :=
  if (heldF P house id == 0) = true then (⟨#[]⟩, 0, 3) else resolveP P house text budget

set_option maxHeartbeats 800000 in
set_option maxRecDepth 100000 in
theorem resolve_any (db : Nat) (D : DepD) (house : ByteArray) (id : Int) (text : ByteArray) (budget : Int) (w : World) (hr : DepAt w db D) (hs : text.size ≤ 4611686018427387000) :
    Calls Tryz.prog 34 #[.pointer (some ⟨db, 0, none⟩), .string house, .int .i64 id, .string text, .int .i64 budget] w fun e w' =>
      e = .returned (.tuple #[.string (dresolveP D.pure house id text budget).1, .int .i64 (dresolveP D.pure house id text budget).2.1, .int .i64 (dresolveP D.pure house id text budget).2.2]) ∧ Below w.heap.size w w' := by
  have Hh := hide (held_any db D house id w hr)
  have Hr := hide (fun W (h : DepAt W db D) => resolveFor_any db D house text budget W h hs)
  have HR := hide hr
  clear hr
  unfold dresolveP
  generalize heldF D.pure house id = r at *
  generalize resolveP D.pure house text budget = q at *
  obtain ⟨q1, q2, q3⟩ := q
  cases h0 : (r == 0) with
  | true =>
    go_enter Tryz.func34, Tryz.ntmps34
    go_wp2_with fail
    refine Hh.out.mono ?_
    rintro e w1 ⟨rfl, hb1⟩
    go_wp2_with fail
    go_ret3
    exact ⟨rfl, hb1⟩
  | false =>
    go_enter Tryz.func34, Tryz.ntmps34
    go_wp2_with fail
    refine Hh.out.mono ?_
    rintro e w1 ⟨rfl, hb1⟩
    go_wp2_with fail
    refine (Hr.out w1 (HR.out.below hb1)).mono ?_
    rintro e w2 ⟨rfl, hb2⟩
    go_wp2_with fail
    go_ret3
    exact ⟨rfl, below_call hb1 hb2⟩

end Go.Proofs.YtgcldedkempjhabGreatDoor
