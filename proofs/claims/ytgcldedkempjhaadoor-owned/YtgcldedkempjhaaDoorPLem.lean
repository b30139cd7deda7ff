/-
  Small laws on what a depot holds.
-/
import Derived.Test.YtgcldedkempjhaaDoorDepShow
namespace Go.Proofs.YtgcldedkempjhaaDoor
open Go.RowKit

theorem hseF_snoc (hs : List PHse) (h : PHse) (nm : ByteArray) : hseF (hs ++ [h]) nm = match hseF hs nm with | some x => some x | none => if (h.name.toList == nm.toList) = true then some h else none := by
  unfold hseF
  rw [List.find?_append]
  cases hs.find? (fun h => h.name.toList == nm.toList) with
  | some x => rfl
  | none =>
    simp only [List.find?_cons, List.find?_nil, Option.none_or]
    cases (h.name.toList == nm.toList) <;> rfl

theorem hseF_key (hs : List PHse) {a b : ByteArray} (h : a.toList = b.toList) : hseF hs a = hseF hs b := by unfold hseF; rw [h]

theorem hseF_upd (hs : List PHse) (nm : ByteArray) (f : PHse → PHse) (hf : ∀ h, (f h).name = h.name) (b : ByteArray) : hseF (updH hs nm f) b = if (nm.toList == b.toList) = true then (hseF hs nm).map f else hseF hs b := by
  induction hs with
  | nil => simp [hseF, updH]
  | cons x hs ih =>
    unfold updH
    cases hx : (x.name.toList == nm.toList) with
    | true =>
      simp only [if_true]
      have hxe : x.name.toList = nm.toList := by simpa using hx
      unfold hseF
      rw [List.find?_cons, List.find?_cons, List.find?_cons, hf, hx, hxe]
      cases (nm.toList == b.toList) <;> rfl
    | false =>
      simp only [Bool.false_eq_true, if_false]
      unfold hseF at ih ⊢
      rw [List.find?_cons, List.find?_cons, List.find?_cons, hx]
      cases hb : (x.name.toList == b.toList) with
      | false => simpa using ih
      | true =>
        have : (nm.toList == b.toList) = false := by
          rw [beq_eq_false_iff_ne]
          intro e
          have hxb : x.name.toList = b.toList := by simpa using hb
          rw [← e] at hxb
          rw [hxb] at hx
          simp at hx
        rw [this]
        rfl

theorem updH_length (hs : List PHse) (nm : ByteArray) (f : PHse → PHse) : (updH hs nm f).length = hs.length := by
  induction hs with
  | nil => rfl
  | cons x hs ih =>
    unfold updH
    split
    · rfl
    · simp [ih]

theorem tokF_snoc (ts : List Tok) (t : Tok) (n : Int) : tokF (ts ++ [t]) n = match tokF ts n with | some x => some x | none => if (t.num == n) = true then some t else none := by
  unfold tokF
  rw [List.find?_append]
  cases ts.find? (fun t => t.num == n) with
  | some x => rfl
  | none =>
    simp only [List.find?_cons, List.find?_nil, Option.none_or]
    cases (t.num == n) <;> rfl

theorem tokF_rev (ts : List Tok) (old n : Int) : tokF (revTok ts old) n = (tokF ts n).map fun t => if old = n then { t with gone := true } else t := by
  induction ts with
  | nil => rfl
  | cons x ts ih =>
    have e : revTok (x :: ts) old = if (x.num == old) = true then { x with gone := true } :: ts else x :: revTok ts old := rfl
    rw [e]
    cases hx : (x.num == old) with
    | true =>
      have hxe : x.num = old := by simpa using hx
      simp only [if_true]
      unfold tokF
      rw [List.find?_cons, List.find?_cons]
      show (match ({ x with gone := true } : Tok).num == n with | true => _ | false => _) = _
      rw [hxe]
      by_cases hn : old = n
      · subst hn; simp [hxe]
      · have : (old == n) = false := beq_eq_false_iff_ne.2 hn
        rw [this]
        simp [hn]
    | false =>
      simp only [Bool.false_eq_true, if_false]
      unfold tokF at ih ⊢
      rw [List.find?_cons, List.find?_cons]
      cases hn : (x.num == n) with
      | false => exact ih
      | true =>
        have hxn : x.num = n := by simpa using hn
        have : old ≠ n := fun e => by rw [← hxn] at e; rw [e] at hx; simp at hx
        simp [this]

theorem mem_updF {α : Type} (p : α → Bool) (f : α → α) (l : List α) {y : α} (h : y ∈ updF p f l) : y ∈ l ∨ ∃ x ∈ l, y = f x := by
  induction l with
  | nil => cases h
  | cons x l ih =>
    unfold updF at h
    split at h
    · simp at h
      rcases h with rfl | h
      · exact Or.inr ⟨x, by simp, rfl⟩
      · exact Or.inl (by simp [h])
    · simp at h
      rcases h with rfl | h
      · exact Or.inl (by simp)
      · rcases ih h with h | ⟨z, hz, e⟩
        · exact Or.inl (by simp [h])
        · exact Or.inr ⟨z, by simp [hz], e⟩

theorem pedF_yank (es : List PEd) (pack : ByteArray) (v : Int) (off : Bool) (p : ByteArray) (u : Int) :
    pedF (yankEds es pack v off) p u = (pedF es p u).map fun e => if (v == u && pack.toList == p.toList) = true then { e with off := off } else e := by
  induction es with
  | nil => rfl
  | cons x es ih =>
    have e : yankEds (x :: es) pack v off = if pedP pack v x = true then { x with off := off } :: es else x :: yankEds es pack v off := rfl
    rw [e]
    cases hx : pedP pack v x with
    | true =>
      simp only [if_true]
      unfold pedF
      rw [List.find?_cons, List.find?_cons]
      have e1 : pedP p u ({ x with off := off } : PEd) = pedP p u x := rfl
      rw [e1]
      unfold pedP at hx
      rw [Bool.and_eq_true, beq_iff_eq, beq_iff_eq] at hx
      have e2 : pedP p u x = (v == u && pack.toList == p.toList) := by unfold pedP; rw [hx.1, hx.2]
      rw [e2]
      cases hc : (v == u && pack.toList == p.toList) with
      | true => simp
      | false => simp
    | false =>
      simp only [Bool.false_eq_true, if_false]
      unfold pedF at ih ⊢
      rw [List.find?_cons, List.find?_cons]
      cases hn : pedP p u x with
      | false => exact ih
      | true =>
        have : (v == u && pack.toList == p.toList) = false := by
          unfold pedP at hn hx
          rw [Bool.and_eq_true, beq_iff_eq, beq_iff_eq] at hn
          rw [hn.1, hn.2] at hx
          rw [← hx]
          cases h1 : (v == u) with
          | true =>
            have := beq_iff_eq.1 h1
            subst this
            simp only [beq_self_eq_true, Bool.true_and]
            exact Bool.eq_iff_iff.2 (by simp only [beq_iff_eq]; exact eq_comm)
          | false =>
            have : (u == v) = false := by rw [beq_eq_false_iff_ne] at h1 ⊢; exact fun e => h1 e.symm
            rw [this]; rfl
        rw [this]
        rfl

theorem tickF_bounds {c n : Int} (h0 : 0 ≤ c) (h1 : c ≤ 1099511627776) (hn : 0 ≤ n) : 0 ≤ tickF c n ∧ tickF c n ≤ 1099511627776 := by unfold tickF; split <;> omega

theorem tickno_dep (db : Nat) (D : DepD) (n : Int) (w : World) (hr : DepAt w db D) (h : n < 0) :
    Calls Tryd.prog 40 #[.pointer (some ⟨db, 0, none⟩), .int .i64 n] w fun e w' => e = .returned (.int .i64 1) ∧ DepStep w w' db D D.pure := by
  refine (tick_no db n w h).mono ?_
  rintro e w' ⟨rfl, rfl⟩
  exact ⟨rfl, DepStep.ofBelow hr (Below.refl _ _)⟩

theorem may_dep (db : Nat) (D : DepD) (house : ByteArray) (id : Int) (w : World) (hr : DepAt w db D) (r1 r2 : Int) (hE : (r1, r2) = mayF (heldF D.pure house id)) :
    Calls Tryd.prog 73 #[.pointer (some ⟨db, 0, none⟩), .string house, .int .i64 id] w fun e w' => e = .returned (.tuple #[.int .i64 r1, .int .i64 r2]) ∧ DepStep w w' db D D.pure := by
  refine (may_any db D house id w hr).mono ?_
  rintro e w' ⟨rfl, hb⟩
  rw [← hE]
  exact ⟨rfl, DepStep.ofBelow hr hb⟩

end Go.Proofs.YtgcldedkempjhaaDoor
