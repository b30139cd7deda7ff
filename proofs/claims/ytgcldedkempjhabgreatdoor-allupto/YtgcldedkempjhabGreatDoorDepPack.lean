/-
  depot.Depot: Feed, Publish, Yank, Grant.
-/
import Derived.Test.YtgcldedkempjhabGreatDoorDepMint
namespace Go.Proofs.YtgcldedkempjhabGreatDoor
open Go.RowKit

def pedP (label : ByteArray) (v : Int) (e : PEd) : Bool := e.ver == v && e.label.toList == label.toList

def pedF (es : List PEd) (label : ByteArray) (v : Int) : Option PEd := es.find? (pedP label v)

theorem edF_pure (es : List Ed) (label : ByteArray) (v : Int) : pedF (es.map Ed.pure) label v = (edF es label v).map Ed.pure := by
  unfold pedF edF
  rw [List.find?_map]
  rfl

def phas (es : List PEd) (label : ByteArray) : Bool := es.any fun e => e.label.toList == label.toList

theorem hasE_pure (es : List Ed) (label : ByteArray) : phas (es.map Ed.pure) label = hasE es label := by
  unfold phas hasE
  rw [List.any_map]
  rfl

def playF (es : List PEd) (label : ByteArray) (v : Int) (text : ByteArray) (room : Int) : Int :=
  if v < 1 ∨ 9 < v then 1 else if (wantsF text).isSome = false then 8 else if (pedF es label v).isSome then 5 else if room ≤ es.length then 6 else 0

theorem layF_pure (es : List Ed) (label : ByteArray) (v : Int) (text : ByteArray) (room : Int) : playF (es.map Ed.pure) label v text room = layF es label v text room := by
  unfold playF layF
  rw [edF_pure, Option.isSome_map, List.length_map]

theorem mem_mapM {α β : Type} (f : α → Option β) : ∀ (l : List α) (r : List β), l.mapM f = some r → ∀ y ∈ r, ∃ x, f x = some y := by
  intro l
  induction l with
  | nil => intro r h y hy; simp at h; subst h; cases hy
  | cons x t ih =>
    intro r h y hy
    rw [List.mapM_cons] at h
    simp only [Option.bind_eq_bind, Option.bind_eq_some_iff, Option.pure_def, Option.some.injEq] at h
    obtain ⟨a, ha, b, hb, rfl⟩ := h
    rcases List.mem_cons.1 hy with rfl | hy
    · exact ⟨x, ha⟩
    · exact ih b hb y hy

theorem nameF_size {s : ByteArray} (h : nameF s = true) : s.size ≤ 9 := by
  rcases cut_name h with ⟨a, b, _, _, ha, hb, e⟩ | ⟨_, _, hw⟩
  · have h1 := say_len ha
    have h2 := say_len hb
    have := congrArg List.length e
    rw [bytes_length, List.length_append, List.length_cons, bytes_length, bytes_length] at this
    omega
  · have := say_len hw
    omega

theorem wantsF_ok {s : ByteArray} {ws : List WantD} (h : wantsF s = some ws) : WsOk ws := by
  unfold wantsF piecesF at h
  split at h
  · injection h with h; subst h; exact ⟨by simp, fun x hx => by cases hx⟩
  · split at h
    · rename_i h6
      refine ⟨by rw [mapM_len _ _ h]; exact h6, fun x hx => ?_⟩
      obtain ⟨p, hp⟩ := mem_mapM _ _ _ h x hx
      obtain ⟨a, d1, d2, hw, rfl⟩ := wantF_is hp
      exact nameF_size hw.2.1
    · cases h

theorem wantsF_len {s : ByteArray} {ws : List WantD} (h : wantsF s = some ws) : ws.length ≤ 6 := (wantsF_ok h).1

theorem wants_six (text : ByteArray) : WsOk ((wantsF text).getD []) := by
  cases h : wantsF text with
  | none => exact ⟨by simp, fun x hx => by cases hx⟩
  | some ws => exact wantsF_ok h

theorem layF_room {es : List Ed} {label : ByteArray} {v : Int} {text : ByteArray} {room : Int} (h : layF es label v text room = 0) : (es.length : Int) < room := by
  unfold layF at h
  split at h
  · cases h
  · split at h
    · cases h
    · split at h
      · cases h
      · split at h
        · cases h
        · omega

def dfeedP (P : PDep) (name : ByteArray) (v : Int) (text : ByteArray) : Int := if nameF name = false then 2 else playF P.pub name v text 24

def dfeedS (P : PDep) (name : ByteArray) (v : Int) (text : ByteArray) : PDep := { P with pub := P.pub ++ [⟨name, v, (wantsF text).getD [], false⟩] }

set_option maxHeartbeats 800000 in
set_option maxRecDepth 100000 in
theorem feed_any (db : Nat) (D : DepD) (name : ByteArray) (v : Int) (text : ByteArray) (w : World) (hr : DepAt w db D) (hs : name.size ≤ 4611686018427387000) (ht : text.size ≤ 4611686018427387000) (E : Int) (hE : E = dfeedP D.pure name v text) :
    Calls Tryz.prog 24 #[.pointer (some ⟨db, 0, none⟩), .string name, .int .i64 v, .string text] w fun e w' =>
      e = .returned (.int .i64 E) ∧ DepStep w w' db D (stepP E D.pure (dfeedS D.pure name v text)) := by
  have Hn := hide (isName_any name w (by omega))
  cases hn : nameF name with
  | false =>
    have H2 := hide (show E = 2 by rw [hE, dfeedP, hn]; rfl)
    have HN := hide hn
    clear hE hn
    go_enter Tryz.func24, Tryz.ntmps24
    go_wp2_with fail
    refine Hn.out.mono ?_
    rintro e w1 ⟨rfl, hb⟩
    rw [HN.out]
    go_wp2_with fail
    go_ret
    exact DepStep.err hr hb H2.out (by decide)
  | true =>
    have HE := hide (show E = layF D.pub name v text 24 by rw [hE, dfeedP, hn, if_neg (by decide)]; exact layF_pure D.pub name v text 24)
    have HN := hide hn
    clear hE hn
    go_enter Tryz.func24, Tryz.ntmps24
    go_wp2_with fail
    refine Hn.out.mono ?_
    rintro e w1 ⟨rfl, hb⟩
    rw [HN.out]
    have hr1 := hr.below hb
    obtain ⟨hsh, hnb⟩ := hr1.public
    have hpl := hr1.plen
    have hdb := hr1.lt
    go_wp2_with fail
    refine (shelfLay_any (db + 1) db 3 D.po D.pcap D.pub name v text 24 _ hsh (by omega) hnb (by omega) ht E HE.out).mono ?_
    rintro e w4 ⟨rfl, hst⟩
    go_wp2_with fail
    go_ret
    refine ⟨rfl, DepStep.behind hb ?_⟩
    rcases hst with ⟨he, hb4⟩ | ⟨he, w0, x, ws, hb0, hw, hx, hwo, g', cap', w5, q1, q2, q3, rfl⟩
    · unfold stepP
      rw [if_neg he]
      exact DepStep.ofBelow hr1 hb4
    · refine DepStep.ok he ?_
      have hroom := layF_room (HE.out ▸ he)
      have hx1 : x.wants = ws := by rw [hx]
      have := DepStep.pushPub (w' := w5.setCell ⟨db, 3, none⟩ (.slice (some ⟨g', 0, none⟩) (D.pub.length + 1) cap')) hr1 hb0 (some ⟨g', 0, none⟩) cap' (D.pub ++ [x]) (by simpa [edsCells] using q1) q2 ?_ ?_ (by simp; omega) ?_ (by simp)
      · have e : dfeedS D.pure name v text = { D.pure with pub := (D.pub ++ [x]).map Ed.pure } := by
          unfold dfeedS
          rw [hw, hx]
          simp [DepD.pure, Ed.pure]
        rw [e]
        exact this
      · rintro k ⟨a, e, rfl⟩
        injection e with e
        subst e
        exact q3
      · intro e he'
        rcases List.mem_append.1 he' with h | h
        · exact Or.inl h
        · simp at h
          subst h
          refine Or.inr ⟨?_, fun k hk => (blockOf_lt hwo hk).1⟩
          unfold WantOk
          rw [hx1]
          exact ownsRow_base hwo (by omega)
      · intro e he'
        rcases List.mem_append.1 he' with h | h
        · exact hr1.lens.r e.pure (List.mem_map_of_mem h)
        · simp at h
          subst h
          rw [hx1]
          exact wantsF_ok hw

def dpublishP (P : PDep) (house : ByteArray) (id : Int) (pack : ByteArray) (v : Int) (text : ByteArray) : Int :=
  if workF (heldF P house id) 2 ≠ 0 then workF (heldF P house id) 2 else if wordF pack = false then 2 else
  match hseF P.hs house with
  | none => 0
  | some h => playF h.eds pack v text 12

def dpublishS (P : PDep) (house : ByteArray) (id : Int) (pack : ByteArray) (v : Int) (text : ByteArray) : PDep := P.upd house fun h => { h with eds := h.eds ++ [⟨pack, v, (wantsF text).getD [], false⟩], log := h.log ++ publishLine id pack.data.toList v }

/-- Who may work in a house: the house, or the error. -/
theorem work_cases {w : World} {db : Nat} {D : DepD} (hr : DepAt w db D) (house : ByteArray) (id least : Int) :
    (workF (heldF D.pure house id) least ≠ 0) ∨ (workF (heldF D.pure house id) least = 0 ∧ ∃ i, ∃ hi : i < D.hs.length, FirstH D.hs house i ∧ hseF D.pure.hs house = some D.hs[i].pure ∧ ∃ g, D.ho = some ⟨g, 0, none⟩) := by
  by_cases h : workF (heldF D.pure house id) least = 0
  · refine Or.inr ⟨h, ?_⟩
    obtain ⟨_, x, hx⟩ := held_house h
    rcases hse_cases D house with ⟨i, hi, h1, h3⟩ | ⟨_, h3⟩
    · obtain ⟨g, hg, _⟩ := hr.house i hi
      exact ⟨i, hi, h1, h3, g, hg⟩
    · rw [h3] at hx; cases hx
  · exact Or.inl h

theorem layF_ver {es : List Ed} {label : ByteArray} {v : Int} {text : ByteArray} {room : Int} (h : layF es label v text room = 0) : 1 ≤ v ∧ v ≤ 9 := by
  unfold layF at h
  split at h
  · cases h
  · omega

theorem publish_to {w w0 w1 w5 : World} {db : Nat} {D : DepD} (hr : DepAt w db D) {i : Nat} (hi : i < D.hs.length) {house : ByteArray} (hf : FirstH D.hs house i) {g : Nat} (hg : D.ho = some ⟨g, 0, none⟩) (h3 : hseF D.pure.hs house = some D.hs[i].pure)
    {pack : ByteArray} {v : Int} {text : ByteArray} {x : Ed} {ws : List WantD} (hb0 : Below w.heap.size w w0) (hws : wantsF text = some ws) (hx : x = Ed.mk pack v x.wao x.wcap ws false)
    (hwo : w0.ownsRow w.heap.size 172 3 (.slice x.wao ws.length x.wcap) ws.length (wantsCells ws)) {g' cap' : Nat}
    (q1 : w5.ownsRow (db + 1) 143 4 (.slice (some ⟨g', 0, none⟩) (D.hs[i].eds.length + 1) cap') (D.hs[i].eds.length + 1) (edsCells D.hs[i].eds ++ x.cells)) (q2 : Chg (blockOf D.hs[i].eao) w0 w5) (q3 : blockOf D.hs[i].eao g' ∨ w0.heap.size ≤ g')
    (hw : w1 = w5.setCell ⟨g, i * 5 + 2, none⟩ (.slice (some ⟨g', 0, none⟩) (D.hs[i].eds.length + 1) cap')) (hroom : D.hs[i].eds.length < 12) : HseTo w w1 db D i hi (D.pure.upd house fun h => { h with eds := h.eds ++ [⟨pack, v, (wantsF text).getD [], false⟩] }) := by
  have hx1 : x.wants = ws := by rw [hx]
  have hx2 : x.pure = ⟨pack, v, (wantsF text).getD [], false⟩ := by rw [hws, hx]; rfl
  obtain ⟨k1, k2⟩ := DepTo.pushHouse (w' := w1) (f := .shelf) (x := { D.hs[i] with eds := D.hs[i].eds ++ [x], eao := some ⟨g', 0, none⟩, ecap := cap' }) hr hb0 hi hf hg (F := fun h => { h with eds := h.eds ++ [⟨pack, v, (wantsF text).getD [], false⟩] })
    (by simp [Hse.pure, hx2]) (by
      intro f' hne
      match f', hne with
      | none, _ => rfl
      | some (some false), hne => exact absurd rfl hne
      | some (some true), _ => rfl
      | some none, _ => rfl) rfl (by simpa [RowOk, Hse.row, edsCells] using q1) q2 (by
      rintro k ⟨a, e, rfl⟩
      injection e with e
      subst e
      exact q3) (by
      intro e he'
      rcases List.mem_append.1 he' with h | h
      · exact Or.inl h
      · simp at h
        subst h
        refine Or.inr ⟨?_, fun k hk => (blockOf_lt hwo hk).1⟩
        unfold WantOk
        rw [hx1]
        exact ownsRow_base hwo (by have := hr.lt; omega)) (by
      refine hr.lens.upd house _ fun y hy => ?_
      rw [h3] at hy
      injection hy with hy
      subst hy
      obtain ⟨l1, l2, l3, l4, l5, l6⟩ := lens_of hr.lens h3
      refine ⟨l1, ?_, l3, l4, ?_, fun e he => (List.mem_append.1 he).elim (l6 e) (fun h => by simp at h; subst h; exact wants_six text)⟩
      · simp [Hse.pure]
        omega
      · refine Nat.le_trans l5 ?_
        simp only [PHse.lines, List.length_append]
        omega) (by simpa [Hse.row, Fam.idx] using hw)
  exact ⟨_, _, k1, rfl, rfl, rfl, rfl, rfl, rfl, k2⟩

theorem publish_lens {D : DepD} (h : Lens D.pure) {house : ByteArray} {i : Nat} {hi : i < D.hs.length} (h3 : hseF D.pure.hs house = some D.hs[i].pure) {id v : Int} {pack text : ByteArray} (hroom : D.hs[i].eds.length < 12) (hl : (publishLine id pack.data.toList v).length ≤ 120) :
    Lens (dpublishS D.pure house id pack v text) := by
  refine h.upd house _ fun x hx => ?_
  rw [h3] at hx
  injection hx with hx
  subst hx
  obtain ⟨l1, l2, l3, l4, l5, l6⟩ := lens_of h h3
  refine ⟨l1, ?_, l3, l4, line_room l5 hl rfl ?_, fun e he => (List.mem_append.1 he).elim (l6 e) (fun h => by simp at h; subst h; exact wants_six text)⟩
  · simp [Hse.pure]
    omega
  · simp [PHse.lines]
    omega

set_option maxHeartbeats 800000 in
set_option maxRecDepth 100000 in
theorem publish_any (db : Nat) (D : DepD) (house : ByteArray) (id : Int) (pack : ByteArray) (v : Int) (text : ByteArray) (w : World) (hr : DepAt w db D) (ht : text.size ≤ 4611686018427387000) (hid : I64 id) (E : Int) (hE : E = dpublishP D.pure house id pack v text) :
    Calls Tryz.prog 26 #[.pointer (some ⟨db, 0, none⟩), .string house, .int .i64 id, .string pack, .int .i64 v, .string text] w fun e w' =>
      e = .returned (.int .i64 E) ∧ DepStep w w' db D (stepP E D.pure (dpublishS D.pure house id pack v text)) := by
  rcases work_cases hr house id 2 with hm | ⟨hm, i, hi, hf, h3, g, hg⟩
  · have HE := hide (show E = workF (heldF D.pure house id) 2 by rw [hE, dpublishP, if_pos hm])
    have Hc := hide (mayWork_no db D house id 2 w hr _ rfl hm)
    generalize workF (heldF D.pure house id) 2 = m at *
    have t1 : (m != 0) = true := bne_iff_ne.2 hm
    have HM := hide hm
    clear hE hm
    go_enter Tryz.func26, Tryz.ntmps26
    go_wp2_with fail
    refine Hc.out.mono ?_
    rintro e w1 ⟨rfl, hb⟩
    go_wp2_with fail
    go_ret
    exact DepStep.err hr hb HE.out HM.out
  · have HE := hide (show E = if wordF pack = false then 2 else layF D.hs[i].eds pack v text 12 by rw [hE, dpublishP, if_neg (by simpa using hm), h3]; simp only [Hse.pure, layF_pure])
    have Hc := hide (mayWork_yes db D house id 2 w hr hm i hi hf g hg)
    have Hw := hide (isWord_any pack)
    have HF := hide hf
    have H3 := hide h3
    clear hE hm hf h3
    cases hwd : wordF pack with
    | false =>
      have H2 := hide (show E = 2 by rw [HE.out, hwd]; rfl)
      have HW := hide hwd
      clear HE hwd
      go_enter Tryz.func26, Tryz.ntmps26
      go_wp2_with fail
      refine Hc.out.mono ?_
      rintro e w1 ⟨rfl, hb⟩
      go_wp2_with fail
      refine (Hw.out _).mono ?_
      rintro e w2 ⟨rfl, h⟩
      subst h
      rw [HW.out]
      go_wp2_with fail
      go_ret
      exact DepStep.err hr hb H2.out (by decide)
    | true =>
      have HE2 := hide (show E = layF D.hs[i].eds pack v text 12 by rw [HE.out, hwd]; rfl)
      have HW := hide hwd
      clear HE hwd
      go_enter Tryz.func26, Tryz.ntmps26
      go_wp2_with fail
      refine Hc.out.mono ?_
      rintro e w1 ⟨rfl, hb⟩
      have hr1 := hr.below hb
      have hel := hr1.elen i hi
      obtain ⟨g2, hg2, hglt, hdg, d0, _, hsh, _, _, hnb⟩ := hr1.house i hi
      rw [hg] at hg2
      injection hg2 with hg2
      injection hg2 with hg2
      subst hg2
      go_wp2_with fail
      refine (Hw.out _).mono ?_
      rintro e w2 ⟨rfl, h⟩
      subst h
      rw [HW.out]
      go_wp2_with fail
      refine (shelfLay_any (db + 1) g (i * 5 + 2) D.hs[i].eao D.hs[i].ecap D.hs[i].eds pack v text 12 _ hsh (by omega) (hnb .shelf) (by omega) ht E HE2.out).mono ?_
      rintro e w4 ⟨rfl, hst⟩
      rcases hst with ⟨he, hb4⟩ | ⟨he, w0, x, ws, hb0, hws, hx, hwo, g', cap', w5, q1, q2, q3, hw4⟩
      · have t1 : (E != 0) = true := bne_iff_ne.2 he
        go_wp2_with fail
        go_ret
        refine ⟨rfl, DepStep.behind hb ?_⟩
        unfold stepP
        rw [if_neg he]
        exact DepStep.ofBelow hr1 hb4
      · have hroom := layF_room (HE2.out ▸ he)
        have hver := layF_ver (HE2.out ▸ he)
        subst he
        have hto := publish_to hr1 hi HF.out hg H3.out hb0 hws hx hwo q1 q2 q3 hw4 (by omega)
        obtain ⟨hj, hnl, hbs, htg, htab, htb, hfin⟩ := hto.logged HF.out hg
        have HFIN := hide hfin
        have hll := log_room hr1 i hi
        have HL := hide (publish_lens (D := D) (id := id) (v := v) (text := text) hr1.lens H3.out (by omega) (publishLine_le hid HW.out (i64_nine hver)))
        have hwl := say_len HW.out
        clear hto hfin q1 q2 q3 hw4 hb0 hws hx hwo
        go_wp2_with fail
        refine (jPublish_any (db + 1) g (i * 5 + 4) D.hs[i].lao D.hs[i].lcap D.hs[i].log id pack v _ hj hnl hbs htab htb htg (by omega) hid hwl (i64_nine hver)).mono ?_
        rintro e w6 ⟨rfl, hp⟩
        go_wp2_with fail
        go_ret
        refine ⟨rfl, DepStep.behind hb (DepStep.ok rfl ?_)⟩
        have := HFIN.out _ _ hp (by
          rw [upd_twice]
          · exact HL.out
          · exact fun _ => rfl)
        rw [upd_twice] at this
        · exact this
        · exact fun _ => rfl

def dyankP (P : PDep) (house : ByteArray) (id : Int) (pack : ByteArray) (v : Int) : Int :=
  if workF (heldF P house id) 2 ≠ 0 then workF (heldF P house id) 2 else if wordF pack = false then 2 else
  match hseF P.hs house with
  | none => 0
  | some h => if (pedF h.eds pack v).isSome then 0 else 7

def yankEds (es : List PEd) (pack : ByteArray) (v : Int) (off : Bool) : List PEd := updF (pedP pack v) (fun e => { e with off := off }) es

def dyankS (P : PDep) (house : ByteArray) (id : Int) (pack : ByteArray) (v : Int) (off : Bool) : PDep :=
  ({ P with yanks := P.yanks + 1 } : PDep).upd house fun h => { h with eds := yankEds h.eds pack v off, log := h.log ++ yankLine id pack.data.toList v off }

theorem yank_pure (es : List Ed) (pack : ByteArray) (v : Int) (off : Bool) (j : Nat) (hj : j < es.length) (h1 : edP pack v es[j] = true) (h2 : ∀ k, (hk : k < es.length) → k < j → edP pack v es[k] = false) :
    (es.set j { es[j] with off := off }).map Ed.pure = yankEds (es.map Ed.pure) pack v off := by
  unfold yankEds
  rw [updF_set (pedP pack v) _ (es.map Ed.pure) j (by simpa using hj) (by simpa [Ed.pure, pedP, edP] using h1) (fun k hk hlt => by
    have := h2 k (by simpa using hk) hlt
    simpa [Ed.pure, pedP, edP] using this)]
  rw [List.map_set]
  simp [Ed.pure]

theorem yank_six {es : List PEd} {pack : ByteArray} {v : Int} {off : Bool} (h : ∀ e ∈ es, WsOk e.wants) : ∀ e ∈ yankEds es pack v off, WsOk e.wants := by
  unfold yankEds
  induction es with
  | nil => intro e he; cases he
  | cons y t ih =>
    intro e he
    unfold updF at he
    split at he
    · rcases List.mem_cons.1 he with rfl | he
      · exact h y (by simp)
      · exact h e (by simp [he])
    · rcases List.mem_cons.1 he with rfl | he
      · exact h _ (by simp)
      · exact ih (fun z hz => h z (by simp [hz])) e he

theorem yank_to {w w1 : World} {db : Nat} {D : DepD} (hr : DepAt w db D) {i : Nat} (hi : i < D.hs.length) {house : ByteArray} (hf : FirstH D.hs house i) (h3 : hseF D.pure.hs house = some D.hs[i].pure) {pack : ByteArray} {v : Int} {off : Bool}
    (hown : w.ownsRow (db + 1) 143 4 (.slice D.hs[i].eao D.hs[i].eds.length D.hs[i].ecap) D.hs[i].eds.length (edsCells D.hs[i].eds))
    (j : Nat) (hj : j < D.hs[i].eds.length) (g' : Nat) (q1 : D.hs[i].eao = some ⟨g', 0, none⟩) (q2 : edP pack v D.hs[i].eds[j] = true) (q3 : ∀ k, (hk : k < D.hs[i].eds.length) → k < j → edP pack v D.hs[i].eds[k] = false)
    (hw : w1 = w.setCell ⟨g', j * 4 + 3, none⟩ (.bool off)) (hy : D.yanks < 200000000000) : HseTo w w1 db D i hi (({ D.pure with yanks := D.pure.yanks + 1 } : PDep).upd house fun h => { h with eds := yankEds h.eds pack v off }) := by
  subst hw
  obtain ⟨k1, k2⟩ := DepTo.setRow (w' := w.setCell ⟨g', j * 4 + 3, none⟩ (.bool off)) (f := .shelf) (x := { D.hs[i] with eds := D.hs[i].eds.set j { D.hs[i].eds[j] with off := off } }) hr hi hf (F := fun h => { h with eds := yankEds h.eds pack v off })
    (by simp only [Hse.pure]; rw [yank_pure _ _ _ _ j hj q2 q3]) (by
      intro f' hne
      match f', hne with
      | none, _ => rfl
      | some (some false), hne => exact absurd rfl hne
      | some (some true), _ => rfl
      | some none, _ => rfl) (by simp [Hse.cells]) (by
      have ho := hown
      rw [q1] at ho
      have := ownsRow_set ho (j * 4 + 3) (.bool off)
      rw [edsCells, ← flat_set Ed.cells 4 Ed.cells_length D.hs[i].eds j 3 { D.hs[i].eds[j] with off := off } (.bool off) hj (by decide) rfl] at this
      simpa [RowOk, Hse.row, q1, edsCells] using this) ((Chg.refl _ _).setCell (Or.inl ⟨_, q1, rfl⟩) _) rfl (by
      intro e he'
      rcases List.mem_or_eq_of_mem_set he' with h | rfl
      · exact ⟨e, h, rfl, rfl, rfl⟩
      · exact ⟨D.hs[i].eds[j], List.getElem_mem _, rfl, rfl, rfl⟩) (by
      refine hr.lens.upd house _ fun y hy => ?_
      rw [h3] at hy
      injection hy with hy
      subst hy
      obtain ⟨l1, l2, l3, l4, l5, l6⟩ := lens_of hr.lens h3
      refine ⟨l1, by simpa [yankEds, updF_length] using l2, l3, l4, ?_, yank_six l6⟩
      refine Nat.le_trans l5 ?_
      simp only [PHse.lines, yankEds, updF_length]
      omega)
  have k3 := DepTo.yanked k1.dep (show _ < _ from hy)
  refine ⟨_, _, ⟨k3.dep, k1.chg.trans k3.chg k1.foot, fun j hj => (k3.foot j hj).elim (k1.foot j) (fun hge => Or.inr (Nat.le_trans k1.chg.size hge))⟩, rfl, rfl, rfl, rfl, rfl, rfl, ?_⟩
  have e : ({ D with hs := D.hs.set i { D.hs[i] with eds := D.hs[i].eds.set j { D.hs[i].eds[j] with off := off } }, yanks := D.yanks + 1 } : DepD).pure = { ({ D with hs := D.hs.set i { D.hs[i] with eds := D.hs[i].eds.set j { D.hs[i].eds[j] with off := off } } } : DepD).pure with yanks := D.yanks + 1 } := rfl
  exact e.trans (by rw [k2]; rfl)

theorem yank_lens {D : DepD} (h : Lens D.pure) {house : ByteArray} {i : Nat} {hi : i < D.hs.length} (h3 : hseF D.pure.hs house = some D.hs[i].pure) {id v : Int} {pack : ByteArray} {off : Bool} (hy : D.yanks < 200000000000) (hl : (yankLine id pack.data.toList v off).length ≤ 120) :
    Lens (dyankS D.pure house id pack v off) := by
  have h' : Lens ({ D.pure with yanks := D.pure.yanks + 1 } : PDep) := ⟨h.h, h.t, h.e, h.g, h.p, h.w, fun x hx => by
    have := h.l x hx
    show x.log.length ≤ 120 * (x.lines + (D.pure.yanks + 1))
    omega, hy, h.q, h.r⟩
  refine h'.upd house _ fun x hx => ?_
  have hx' : hseF D.pure.hs house = some x := hx
  rw [h3] at hx'
  injection hx' with hx'
  subst hx'
  obtain ⟨l1, l2, l3, l4, l5, l6⟩ := lens_of h h3
  refine ⟨l1, by simpa [yankEds, updF_length] using l2, l3, l4, ?_, yank_six l6⟩
  simp only [PHse.lines, yankEds, updF_length, List.length_append] at l5 ⊢
  omega

set_option maxHeartbeats 800000 in
set_option maxRecDepth 100000 in
theorem yank_any (db : Nat) (D : DepD) (house : ByteArray) (id : Int) (pack : ByteArray) (v : Int) (back : Bool) (w : World) (hr : DepAt w db D) (hid : I64 id) (hv : I64 v) (hy : D.yanks < 200000000000) (E : Int) (hE : E = dyankP D.pure house id pack v) :
    Calls Tryz.prog 28 #[.pointer (some ⟨db, 0, none⟩), .string house, .int .i64 id, .string pack, .int .i64 v, .bool back] w fun e w' =>
      e = .returned (.int .i64 E) ∧ DepStep w w' db D (stepP E D.pure (dyankS D.pure house id pack v (!back))) := by
  rcases work_cases hr house id 2 with hm | ⟨hm, i, hi, hf, h3, g, hg⟩
  · have HE := hide (show E = workF (heldF D.pure house id) 2 by rw [hE, dyankP, if_pos hm])
    have Hc := hide (mayWork_no db D house id 2 w hr _ rfl hm)
    generalize workF (heldF D.pure house id) 2 = m at *
    have t1 : (m != 0) = true := bne_iff_ne.2 hm
    have HM := hide hm
    clear hE hm
    go_enter Tryz.func28, Tryz.ntmps28
    go_wp2_with fail
    refine Hc.out.mono ?_
    rintro e w1 ⟨rfl, hb⟩
    go_wp2_with fail
    go_ret
    exact DepStep.err hr hb HE.out HM.out
  · have HE := hide (show E = if wordF pack = false then 2 else if (edF D.hs[i].eds pack v).isSome then 0 else 7 by
      rw [hE, dyankP, if_neg (by simpa using hm), h3]
      simp only [Hse.pure, edF_pure, Option.isSome_map])
    have Hc := hide (mayWork_yes db D house id 2 w hr hm i hi hf g hg)
    have Hw := hide (isWord_any pack)
    have HF := hide hf
    have H3 := hide h3
    clear hE hm hf h3
    cases hwd : wordF pack with
    | false =>
      have H2 := hide (show E = 2 by rw [HE.out, hwd]; rfl)
      have HW := hide hwd
      clear HE hwd
      go_enter Tryz.func28, Tryz.ntmps28
      go_wp2_with fail
      refine Hc.out.mono ?_
      rintro e w1 ⟨rfl, hb⟩
      go_wp2_with fail
      refine (Hw.out _).mono ?_
      rintro e w2 ⟨rfl, h⟩
      subst h
      rw [HW.out]
      go_wp2_with fail
      go_ret
      exact DepStep.err hr hb H2.out (by decide)
    | true =>
      have HE2 := hide (show E = if (edF D.hs[i].eds pack v).isSome then 0 else 7 by rw [HE.out, hwd]; rfl)
      have HW := hide hwd
      clear HE hwd
      go_enter Tryz.func28, Tryz.ntmps28
      go_wp2_with fail
      refine Hc.out.mono ?_
      rintro e w1 ⟨rfl, hb⟩
      have hr1 := hr.below hb
      have hel := hr1.elen i hi
      obtain ⟨g2, hg2, hglt, hdg, d0, _, hsh, _, _, hnb⟩ := hr1.house i hi
      rw [hg] at hg2
      injection hg2 with hg2
      injection hg2 with hg2
      subst hg2
      go_wp2_with fail
      refine (Hw.out _).mono ?_
      rintro e w2 ⟨rfl, h⟩
      subst h
      rw [HW.out]
      go_wp2_with fail
      refine (shelfYank_any (db + 1) g (i * 5 + 2) D.hs[i].eao D.hs[i].ecap D.hs[i].eds pack v (!back) _ hsh (by omega) E HE2.out).mono ?_
      rintro e w4 ⟨rfl, hst⟩
      rcases hst with ⟨he, rfl⟩ | ⟨he, j, hj, g', q1, q2, q3, hw4⟩
      · have t1 : (E != 0) = true := bne_iff_ne.2 he
        go_wp2_with fail
        go_ret
        refine ⟨rfl, DepStep.behind hb ?_⟩
        have := DepStep.ofBelow hr1 (Below.refl w4.heap.size w4)
        unfold stepP
        rw [if_neg he]
        exact this
      · subst he
        have hto := yank_to hr1 hi HF.out H3.out hsh.own j hj g' q1 q2 q3 hw4 hy
        obtain ⟨hjj, hnl, hbs, htg, htab, htb, hfin⟩ := hto.logged HF.out hg
        have HFIN := hide hfin
        have hll := log_room hr1 i hi
        have HL := hide (yank_lens (D := D) (id := id) (v := v) (off := !back) hr1.lens H3.out hy (yankLine_le hid HW.out hv))
        have hwl := say_len HW.out
        clear hto hfin q1 q2 q3 hw4
        go_wp2_with fail
        refine (jYank_any (db + 1) g (i * 5 + 4) D.hs[i].lao D.hs[i].lcap D.hs[i].log id pack v back _ hjj hnl hbs htab htb htg (by omega) hid hwl hv).mono ?_
        rintro e w6 ⟨rfl, hp⟩
        go_wp2_with fail
        go_ret
        refine ⟨rfl, DepStep.behind hb (DepStep.ok rfl ?_)⟩
        have := HFIN.out _ _ hp (by
          rw [upd_twice]
          · exact HL.out
          · exact fun _ => rfl)
        rw [upd_twice] at this
        · exact this
        · exact fun _ => rfl

def dgrantP (P : PDep) (house : ByteArray) (id : Int) (pack to : ByteArray) : Int :=
  if workF (heldF P house id) 3 ≠ 0 then workF (heldF P house id) 3 else if wordF pack = false ∨ wordF to = false then 2 else
  match hseF P.hs house with
  | none => 0
  | some h => if phas h.eds pack = false then 7 else addF h.grs pack to

def dgrantS (P : PDep) (house : ByteArray) (id : Int) (pack to : ByteArray) : PDep := P.upd house fun h => { h with grs := h.grs ++ [⟨pack, to⟩], log := h.log ++ grantLine id pack.data.toList to.data.toList }

theorem addF_room {gs : List Grt} {pack to : ByteArray} (h : addF gs pack to = 0) : gs.length < 6 := by
  unfold addF at h
  split at h
  · cases h
  · split at h
    · cases h
    · omega

theorem grant_to {w w0 w1 w5 : World} {db : Nat} {D : DepD} (hr : DepAt w db D) {i : Nat} (hi : i < D.hs.length) {house : ByteArray} (hf : FirstH D.hs house i) {g : Nat} (hg : D.ho = some ⟨g, 0, none⟩) (h3 : hseF D.pure.hs house = some D.hs[i].pure)
    {pack to : ByteArray} (hb0 : Below w.heap.size w w0) {g' cap' : Nat}
    (q1 : w5.ownsRow (db + 1) 149 2 (.slice (some ⟨g', 0, none⟩) (D.hs[i].grs.length + 1) cap') (D.hs[i].grs.length + 1) (grtsCells D.hs[i].grs ++ (Grt.mk pack to).cells)) (q2 : Chg (blockOf D.hs[i].gao) w0 w5) (q3 : blockOf D.hs[i].gao g' ∨ w0.heap.size ≤ g')
    (hw : w1 = w5.setCell ⟨g, i * 5 + 3, none⟩ (.slice (some ⟨g', 0, none⟩) (D.hs[i].grs.length + 1) cap')) (hroom : D.hs[i].grs.length < 6) : HseTo w w1 db D i hi (D.pure.upd house fun h => { h with grs := h.grs ++ [⟨pack, to⟩] }) := by
  obtain ⟨k1, k2⟩ := DepTo.pushHouse (w' := w1) (f := .book) (x := { D.hs[i] with grs := D.hs[i].grs ++ [⟨pack, to⟩], gao := some ⟨g', 0, none⟩, gcap := cap' }) hr hb0 hi hf hg (F := fun h => { h with grs := h.grs ++ [⟨pack, to⟩] }) rfl (by
      intro f' hne
      match f', hne with
      | none, _ => rfl
      | some (some false), _ => rfl
      | some (some true), hne => exact absurd rfl hne
      | some none, _ => rfl) rfl (by simpa [RowOk, Hse.row, grtsCells] using q1) q2 (by
      rintro k ⟨a, e, rfl⟩
      injection e with e
      subst e
      exact q3) (fun e he => Or.inl he) (by
      refine hr.lens.upd house _ fun y hy => ?_
      rw [h3] at hy
      injection hy with hy
      subst hy
      obtain ⟨l1, l2, l3, l4, l5, l6⟩ := lens_of hr.lens h3
      refine ⟨l1, l2, ?_, l4, ?_, l6⟩
      · simp [Hse.pure]
        omega
      · refine Nat.le_trans l5 ?_
        simp only [PHse.lines, List.length_append]
        omega) (by simpa [Hse.row, Fam.idx] using hw)
  exact ⟨_, _, k1, rfl, rfl, rfl, rfl, rfl, rfl, k2⟩

theorem grant_lens {D : DepD} (h : Lens D.pure) {house : ByteArray} {i : Nat} {hi : i < D.hs.length} (h3 : hseF D.pure.hs house = some D.hs[i].pure) {id : Int} {pack to : ByteArray} (hroom : D.hs[i].grs.length < 6) (hl : (grantLine id pack.data.toList to.data.toList).length ≤ 120) :
    Lens (dgrantS D.pure house id pack to) := by
  refine h.upd house _ fun x hx => ?_
  rw [h3] at hx
  injection hx with hx
  subst hx
  obtain ⟨l1, l2, l3, l4, l5, l6⟩ := lens_of h h3
  refine ⟨l1, l2, ?_, l4, line_room l5 hl rfl ?_, l6⟩
  · simp [Hse.pure]
    omega
  · simp [PHse.lines]
    omega

set_option maxHeartbeats 800000 in
set_option maxRecDepth 100000 in
theorem grant_any (db : Nat) (D : DepD) (house : ByteArray) (id : Int) (pack to : ByteArray) (w : World) (hr : DepAt w db D) (hid : I64 id) (E : Int) (hE : E = dgrantP D.pure house id pack to) :
    Calls Tryz.prog 30 #[.pointer (some ⟨db, 0, none⟩), .string house, .int .i64 id, .string pack, .string to] w fun e w' =>
      e = .returned (.int .i64 E) ∧ DepStep w w' db D (stepP E D.pure (dgrantS D.pure house id pack to)) := by
  rcases work_cases hr house id 3 with hm | ⟨hm, i, hi, hf, h3, g, hg⟩
  · have HE := hide (show E = workF (heldF D.pure house id) 3 by rw [hE, dgrantP, if_pos hm])
    have Hc := hide (mayWork_no db D house id 3 w hr _ rfl hm)
    generalize workF (heldF D.pure house id) 3 = m at *
    have t1 : (m != 0) = true := bne_iff_ne.2 hm
    have HM := hide hm
    clear hE hm
    go_enter Tryz.func30, Tryz.ntmps30
    go_wp2_with fail
    refine Hc.out.mono ?_
    rintro e w1 ⟨rfl, hb⟩
    go_wp2_with fail
    go_ret
    exact DepStep.err hr hb HE.out HM.out
  · have HE := hide (show E = if wordF pack = false ∨ wordF to = false then 2 else if hasE D.hs[i].eds pack = false then 7 else addF D.hs[i].grs pack to by
      rw [hE, dgrantP, if_neg (by simpa using hm), h3]
      simp only [Hse.pure, hasE_pure])
    have Hc := hide (mayWork_yes db D house id 3 w hr hm i hi hf g hg)
    have Hw := hide (fun x W => isWord_any x W)
    have HF := hide hf
    have H3 := hide h3
    clear hE hm hf h3
    cases hwd : wordF pack with
    | false =>
      have H2 := hide (show E = 2 by rw [HE.out, hwd]; rfl)
      have HW := hide hwd
      clear HE hwd
      go_enter Tryz.func30, Tryz.ntmps30
      go_wp2_with fail
      refine Hc.out.mono ?_
      rintro e w1 ⟨rfl, hb⟩
      go_wp2_with fail
      refine (Hw.out _ _).mono ?_
      rintro e w2 ⟨rfl, h⟩
      subst h
      rw [HW.out]
      go_wp2_with fail
      go_ret
      exact DepStep.err hr hb H2.out (by decide)
    | true =>
      cases hwt : wordF to with
      | false =>
        have H2 := hide (show E = 2 by rw [HE.out, hwd, hwt]; rfl)
        have HW := hide hwd
        have HT := hide hwt
        clear HE hwd hwt
        go_enter Tryz.func30, Tryz.ntmps30
        go_wp2_with fail
        refine Hc.out.mono ?_
        rintro e w1 ⟨rfl, hb⟩
        go_wp2_with fail
        refine (Hw.out _ _).mono ?_
        rintro e w2 ⟨rfl, h⟩
        subst h
        rw [HW.out]
        go_wp2_with fail
        refine (Hw.out _ _).mono ?_
        rintro e w2 ⟨rfl, h⟩
        subst h
        rw [HT.out]
        go_wp2_with fail
        go_ret
        exact DepStep.err hr hb H2.out (by decide)
      | true =>
        have HE2 := hide (show E = if hasE D.hs[i].eds pack = false then 7 else addF D.hs[i].grs pack to by rw [HE.out, hwd, hwt]; rfl)
        have HW := hide hwd
        have HT := hide hwt
        clear HE hwd hwt
        cases hhas : hasE D.hs[i].eds pack with
        | false =>
          have H7 := hide (show E = 7 by rw [HE2.out, hhas]; rfl)
          have HH := hide hhas
          clear HE2 hhas
          go_enter Tryz.func30, Tryz.ntmps30
          go_wp2_with fail
          refine Hc.out.mono ?_
          rintro e w1 ⟨rfl, hb⟩
          have hr1 := hr.below hb
          have hel := hr1.elen i hi
          obtain ⟨g2, hg2, hglt, hdg, d0, _, hsh, hbk, _, hnb⟩ := hr1.house i hi
          rw [hg] at hg2
          injection hg2 with hg2
          injection hg2 with hg2
          subst hg2
          go_wp2_with fail
          refine (Hw.out _ _).mono ?_
          rintro e w2 ⟨rfl, h⟩
          subst h
          rw [HW.out]
          go_wp2_with fail
          refine (Hw.out _ _).mono ?_
          rintro e w2 ⟨rfl, h⟩
          subst h
          rw [HT.out]
          go_wp2_with fail
          refine (shelfHas_any (db + 1) g (i * 5 + 2) D.hs[i].eao D.hs[i].ecap D.hs[i].eds pack _ hsh (by omega)).mono ?_
          rintro e w3 ⟨rfl, h⟩
          subst h
          rw [HH.out]
          go_wp2_with fail
          go_ret
          exact DepStep.err hr hb H7.out (by decide)
        | true =>
          have HE3 := hide (show E = addF D.hs[i].grs pack to by rw [HE2.out, hhas]; rfl)
          have HH := hide hhas
          clear HE2 hhas
          go_enter Tryz.func30, Tryz.ntmps30
          go_wp2_with fail
          refine Hc.out.mono ?_
          rintro e w1 ⟨rfl, hb⟩
          have hr1 := hr.below hb
          have hel := hr1.elen i hi
          have hgl := hr1.glen i hi
          obtain ⟨g2, hg2, hglt, hdg, d0, _, hsh, hbk, _, hnb⟩ := hr1.house i hi
          rw [hg] at hg2
          injection hg2 with hg2
          injection hg2 with hg2
          subst hg2
          go_wp2_with fail
          refine (Hw.out _ _).mono ?_
          rintro e w2 ⟨rfl, h⟩
          subst h
          rw [HW.out]
          go_wp2_with fail
          refine (Hw.out _ _).mono ?_
          rintro e w2 ⟨rfl, h⟩
          subst h
          rw [HT.out]
          go_wp2_with fail
          refine (shelfHas_any (db + 1) g (i * 5 + 2) D.hs[i].eao D.hs[i].ecap D.hs[i].eds pack _ hsh (by omega)).mono ?_
          rintro e w3 ⟨rfl, h⟩
          subst h
          rw [HH.out]
          go_wp2_with fail
          refine (bookAdd_any (db + 1) g (i * 5 + 3) D.hs[i].gao D.hs[i].gcap D.hs[i].grs pack to _ hbk (by omega) (hnb .book) (by omega) E HE3.out).mono ?_
          rintro e w4 ⟨rfl, hst⟩
          rcases hst with ⟨he, rfl⟩ | ⟨he, w0, hb0, g', cap', w5, q1, q2, q3, hw4⟩
          · have t1 : (E != 0) = true := bne_iff_ne.2 he
            go_wp2_with fail
            go_ret
            refine ⟨rfl, DepStep.behind hb ?_⟩
            have := DepStep.ofBelow hr1 (Below.refl w4.heap.size w4)
            unfold stepP
            rw [if_neg he]
            exact this
          · have hroom := addF_room (HE3.out ▸ he)
            subst he
            have hto := grant_to hr1 hi HF.out hg H3.out hb0 q1 q2 q3 hw4 hroom
            obtain ⟨hj, hnl, hbs, htg, htab, htb, hfin⟩ := hto.logged HF.out hg
            have HFIN := hide hfin
            have hll := log_room hr1 i hi
            have HL := hide (grant_lens (D := D) (id := id) hr1.lens H3.out hroom (grantLine_le hid HW.out HT.out))
            have hwl := say_len HW.out
            have hwt := say_len HT.out
            clear hto hfin q1 q2 q3 hw4 hb0
            go_wp2_with fail
            refine (jGrant_any (db + 1) g (i * 5 + 4) D.hs[i].lao D.hs[i].lcap D.hs[i].log id pack to _ hj hnl hbs htab htb htg (by omega) hid hwl hwt).mono ?_
            rintro e w6 ⟨rfl, hp⟩
            go_wp2_with fail
            go_ret
            refine ⟨rfl, DepStep.behind hb (DepStep.ok rfl ?_)⟩
            have := HFIN.out _ _ hp (by
              rw [upd_twice]
              · exact HL.out
              · exact fun _ => rfl)
            rw [upd_twice] at this
            · exact this
            · exact fun _ => rfl

end Go.Proofs.YtgcldedkempjhabGreatDoor
