/-
  The program's houses and the document's deeds: what ties them, and that each call keeps the tie.
-/
import Derived.Test.YtdddbinlkljbcaaDepMint
import Derived.Test.YtdddbinlkljbcaaRefMint
namespace Go.Proofs.Ytdddbinlkljbcaa
open Go.RowKit

/-- The token of a house with a number. -/
def tk (hs : List Hse) (nm : ByteArray) (n : Int) : Option Tok :=
  match hseF hs nm with
  | none => none
  | some h => tokF h.toks n

def hcount (hs : List Hse) (nm : ByteArray) : Nat :=
  match hseF hs nm with
  | none => 0
  | some h => h.toks.length

def goneOf (o : Option Tok) : Bool :=
  match o with
  | none => false
  | some t => t.gone

def goneN (ts : List Tok) : Nat := (ts.filter fun t => t.gone).length

def weight : List Hse → Nat
  | [] => 0
  | h :: hs => 1 + h.toks.length + goneN h.toks + weight hs

structure Sim (hs : List Hse) (ds : List Deed) : Prop where
  s1 : nFound ds = hs.length
  s2 : ∀ nm, decide (0 < didF ds kFound nm) = (hseF hs nm).isSome
  s3 : ∀ nm n, (deedF ds kMint nm n).map (fun x => (x.role, x.till)) = (tk hs nm n).map (fun t => (t.role, t.till))
  s4 : ∀ nm n, (deedF ds kRevoke nm n).isSome = goneOf (tk hs nm n)
  s5 : ∀ nm, didF ds kMint nm = hcount hs nm
  s6 : ds.length = weight hs

theorem Sim.start : Sim [] [] := ⟨rfl, fun _ => rfl, fun _ _ => rfl, fun _ _ => rfl, fun _ => rfl, rfl⟩

theorem weight_le (hs : List Hse) (h : ∀ i, (hi : i < hs.length) → hs[i].toks.length ≤ 8) : weight hs ≤ hs.length * 17 := by
  induction hs with
  | nil => simp [weight]
  | cons x hs ih =>
    have h0 := h 0 (by simp)
    have hg : goneN x.toks ≤ x.toks.length := List.length_filter_le _ _
    have := ih (fun i hi => h (i + 1) (Nat.succ_lt_succ hi))
    simp [weight] at *
    omega

theorem kinds : (kFound.toList == kMint.toList) = false ∧ (kFound.toList == kRevoke.toList) = false ∧ (kMint.toList == kFound.toList) = false ∧ (kMint.toList == kRevoke.toList) = false ∧
    (kRevoke.toList == kFound.toList) = false ∧ (kRevoke.toList == kMint.toList) = false ∧ (kMint.toList == kMint.toList) = true ∧ (kFound.toList == kFound.toList) = true ∧ (kRevoke.toList == kRevoke.toList) = true := by
  refine ⟨?_, ?_, ?_, ?_, ?_, ?_, beq_self_eq_true _, beq_self_eq_true _, beq_self_eq_true _⟩ <;> simp

theorem didF_snoc (ds : List Deed) (x : Deed) (k nm : ByteArray) : didF (ds ++ [x]) k nm = didF ds k nm + if (x.kind.toList == k.toList && x.house.toList == nm.toList) then 1 else 0 := by
  unfold didF
  rw [List.filter_append, List.length_append]
  cases h : (x.kind.toList == k.toList && x.house.toList == nm.toList) <;> simp only [List.filter_cons, h] <;> rfl

theorem nFound_snoc (ds : List Deed) (x : Deed) : nFound (ds ++ [x]) = nFound ds + if (x.kind.toList == kFound.toList) then 1 else 0 := by
  unfold nFound
  rw [List.filter_append, List.length_append]
  cases h : (x.kind.toList == kFound.toList) <;> simp only [List.filter_cons, h] <;> rfl

theorem deedF_snoc (ds : List Deed) (x : Deed) (k nm : ByteArray) (n : Int) : deedF (ds ++ [x]) k nm n = if deedP k nm n x = true then some x else deedF ds k nm n := by
  unfold deedF
  rw [List.reverse_append]
  simp only [List.reverse_cons, List.reverse_nil, List.nil_append, List.singleton_append, List.find?_cons]
  cases deedP k nm n x <;> rfl

theorem hseF_snoc (hs : List Hse) (h : Hse) (nm : ByteArray) : hseF (hs ++ [h]) nm = match hseF hs nm with | some x => some x | none => if (h.name.toList == nm.toList) = true then some h else none := by
  unfold hseF
  rw [List.find?_append]
  cases hs.find? (fun h => h.name.toList == nm.toList) with
  | some x => rfl
  | none =>
    simp only [List.find?_cons, List.find?_nil, Option.none_or]
    cases (h.name.toList == nm.toList) <;> rfl

theorem tokF_snoc (ts : List Tok) (t : Tok) (n : Int) : tokF (ts ++ [t]) n = match tokF ts n with | some x => some x | none => if (t.num == n) = true then some t else none := by
  unfold tokF
  rw [List.find?_append]
  cases ts.find? (fun t => t.num == n) with
  | some x => rfl
  | none =>
    simp only [List.find?_cons, List.find?_nil, Option.none_or]
    cases (t.num == n) <;> rfl

theorem hseF_key (hs : List Hse) {a b : ByteArray} (h : a.toList = b.toList) : hseF hs a = hseF hs b := by unfold hseF; rw [h]

theorem hseF_first {hs : List Hse} {of : ByteArray} {i : Nat} {hi : i < hs.length} (hf : FirstH hs of i hi) : hseF hs of = some hs[i] := by
  rcases hse_cases hs of with ⟨j, hj, h1, h2, h3⟩ | ⟨h1, _⟩
  · rw [h3]
    have : i = j := by
      rcases Nat.lt_trichotomy i j with h | h | h
      · exact absurd hf.1 (h2 i hi h)
      · exact h
      · exact absurd h1 (hf.2 j hj h)
    subst this; rfl
  · exact absurd hf.1 (h1 i hi)

theorem hseF_set {hs : List Hse} {of : ByteArray} {i : Nat} {hi : i < hs.length} (hf : FirstH hs of i hi) (h' : Hse) (hn : h'.name.toList = of.toList) (nm : ByteArray) :
    hseF (hs.set i h') nm = if (of.toList == nm.toList) = true then some h' else hseF hs nm := by
  induction hs generalizing i with
  | nil => simp at hi
  | cons x hs ih =>
    cases i with
    | zero =>
      have hx : x.name.toList = of.toList := hf.1
      simp only [List.set_cons_zero, hseF, List.find?_cons, hn, hx]
      cases (of.toList == nm.toList) <;> rfl
    | succ i =>
      have hi' : i < hs.length := by simpa using hi
      have hx : x.name.toList ≠ of.toList := hf.2 0 (by simp) (by omega)
      have hf' : FirstH hs of i hi' := ⟨by simpa using hf.1, fun j hj hlt => hf.2 (j + 1) (Nat.succ_lt_succ hj) (by omega)⟩
      have := ih hf'
      simp only [List.set_cons_succ, hseF, List.find?_cons] at *
      cases hxn : (x.name.toList == nm.toList) with
      | false => simpa using this
      | true =>
        have hxn' : x.name.toList = nm.toList := by simpa using hxn
        have : (of.toList == nm.toList) = false := by
          rw [beq_eq_false_iff_ne]; intro e; exact hx (hxn'.trans e.symm)
        simp [this]

theorem tokF_first {ts : List Tok} {n : Int} {i : Nat} {hi : i < ts.length} (hf : FirstT ts n i hi) : tokF ts n = some ts[i] := by
  rcases tok_cases ts n with ⟨j, hj, h1, h2, h3⟩ | ⟨h1, _⟩
  · rw [h3]
    have : i = j := by
      rcases Nat.lt_trichotomy i j with h | h | h
      · exact absurd hf.1 (h2 i hi h)
      · exact h
      · exact absurd h1 (hf.2 j hj h)
    subst this; rfl
  · exact absurd hf.1 (h1 i hi)

theorem tokF_set {ts : List Tok} {old : Int} {i : Nat} {hi : i < ts.length} (hf : FirstT ts old i hi) (t' : Tok) (hn : t'.num = old) (n : Int) :
    tokF (ts.set i t') n = if (old == n) = true then some t' else tokF ts n := by
  induction ts generalizing i with
  | nil => simp at hi
  | cons x ts ih =>
    cases i with
    | zero =>
      have hx : x.num = old := hf.1
      simp only [List.set_cons_zero, tokF, List.find?_cons, hn, hx]
      cases (old == n) <;> rfl
    | succ i =>
      have hi' : i < ts.length := by simpa using hi
      have hx : x.num ≠ old := hf.2 0 (by simp) (by omega)
      have hf' : FirstT ts old i hi' := ⟨by simpa using hf.1, fun j hj hlt => hf.2 (j + 1) (Nat.succ_lt_succ hj) (by omega)⟩
      have := ih hf'
      simp only [List.set_cons_succ, tokF, List.find?_cons] at *
      cases hxn : (x.num == n) with
      | false => simpa using this
      | true =>
        have hxn' : x.num = n := by simpa using hxn
        have : (old == n) = false := by
          rw [beq_eq_false_iff_ne]; intro e; exact hx (hxn'.trans e.symm)
        simp [this]

theorem weight_snoc (hs : List Hse) (h : Hse) : weight (hs ++ [h]) = weight hs + (1 + h.toks.length + goneN h.toks) := by
  induction hs with
  | nil => simp [weight]
  | cons x hs ih => simp [weight, ih]; omega

theorem weight_set (hs : List Hse) (i : Nat) (hi : i < hs.length) (h' : Hse) (h : h'.toks.length + goneN h'.toks = hs[i].toks.length + goneN hs[i].toks + 1) : weight (hs.set i h') = weight hs + 1 := by
  induction hs generalizing i with
  | nil => simp at hi
  | cons x hs ih =>
    cases i with
    | zero =>
      have hx : h'.toks.length + goneN h'.toks = x.toks.length + goneN x.toks + 1 := h
      simp [weight]; omega
    | succ i =>
      have := ih i (by simpa using hi) (by simpa using h)
      simp [weight, this]; omega

theorem goneN_set (ts : List Tok) (i : Nat) (hi : i < ts.length) (hg : ts[i].gone = false) : goneN (ts.set i { ts[i] with gone := true }) = goneN ts + 1 := by
  induction ts generalizing i with
  | nil => simp at hi
  | cons x ts ih =>
    cases i with
    | zero =>
      have hx : x.gone = false := hg
      simp [goneN, hx]
    | succ i =>
      have := ih i (by simpa using hi) (by simpa using hg)
      simp only [goneN, List.set_cons_succ, List.filter_cons, List.getElem_cons_succ] at *
      cases x.gone <;> simp <;> simpa using this

theorem Sim.found {hs : List Hse} {ds : List Deed} (s : Sim hs ds) {id : Int} {name : ByteArray} {h : Hse} (hn : h.name.toList = name.toList) (ht : h.toks = []) (hno : hseF hs name = none) : Sim (hs ++ [h]) (ds ++ [foundD id name]) := by
  obtain ⟨k1, k2, k3, k4, k5, k6, k7, k8, k9⟩ := kinds
  have e1 : (foundD id name).kind = kFound := rfl
  have e2 : (foundD id name).house = name := rfl
  have hk : ∀ nm, (h.name.toList == nm.toList) = true → hseF hs nm = none := fun nm he => by
    rw [hseF_key hs (show nm.toList = name.toList by rw [← beq_iff_eq.1 he, hn])]; exact hno
  have htk : ∀ nm n, tk (hs ++ [h]) nm n = tk hs nm n := by
    intro nm n
    unfold tk
    rw [hseF_snoc]
    cases hh : hseF hs nm with
    | some x => rfl
    | none =>
      simp only
      by_cases hc : (h.name.toList == nm.toList) = true
      · rw [if_pos hc]; simp [ht, tokF]
      · rw [if_neg hc]
  have hm : ∀ nm n, deedF (ds ++ [foundD id name]) kMint nm n = deedF ds kMint nm n := by
    intro nm n; rw [deedF_snoc, if_neg]; simp only [deedP, e1, k1]; simp
  have hv : ∀ nm n, deedF (ds ++ [foundD id name]) kRevoke nm n = deedF ds kRevoke nm n := by
    intro nm n; rw [deedF_snoc, if_neg]; simp only [deedP, e1, k2]; simp
  refine ⟨?_, ?_, ?_, ?_, ?_, ?_⟩
  · rw [nFound_snoc, e1, k8, s.s1]; simp
  · intro nm
    rw [didF_snoc, hseF_snoc, e1, e2, k8]
    have h2 := s.s2 nm
    cases hh : hseF hs nm with
    | some x =>
      rw [hh] at h2
      simp at h2 ⊢
      omega
    | none =>
      rw [hh] at h2
      have h0 : didF ds kFound nm = 0 := by simpa using h2
      rw [h0, hn]
      cases (name.toList == nm.toList) <;> simp
  · intro nm n; rw [hm, htk]; exact s.s3 nm n
  · intro nm n; rw [hv, htk]; exact s.s4 nm n
  · intro nm
    rw [didF_snoc, e1, k1]
    simp only [Bool.false_and, Bool.false_eq_true, if_false, Nat.add_zero]
    rw [s.s5 nm]
    unfold hcount
    rw [hseF_snoc]
    cases hh : hseF hs nm with
    | some x => rfl
    | none =>
      simp only
      by_cases hc : (h.name.toList == nm.toList) = true
      · rw [if_pos hc]; simp [ht]
      · rw [if_neg hc]
  · rw [weight_snoc, ht, List.length_append, s.s6]; simp [goneN]

theorem Sim.mint {hs : List Hse} {ds : List Deed} (s : Sim hs ds) {id : Int} {of : ByteArray} {role fresh till : Int} {i : Nat} {hi : i < hs.length} (hf : FirstH hs of i hi) {h : Hse} (hn : h.name = hs[i].name)
    (ht : h.toks = hs[i].toks ++ [⟨fresh, role, till, false⟩]) (hno : tokF hs[i].toks fresh = none) : Sim (hs.set i h) (ds ++ [mintD id of role fresh till]) := by
  obtain ⟨k1, k2, k3, k4, k5, k6, k7, k8, k9⟩ := kinds
  have e1 : (mintD id of role fresh till).kind = kMint := rfl
  have e2 : (mintD id of role fresh till).house = of := rfl
  have e3 : (mintD id of role fresh till).num = fresh := rfl
  have hn' : h.name.toList = of.toList := by rw [hn]; exact hf.1
  have hof := hseF_first hf
  have hset := hseF_set hf h hn'
  refine ⟨?_, ?_, ?_, ?_, ?_, ?_⟩
  · rw [nFound_snoc, e1, k3, s.s1]; simp
  · intro nm
    rw [didF_snoc, hset, e1, k3]
    simp only [Bool.false_and, Bool.false_eq_true, if_false, Nat.add_zero]
    rw [s.s2 nm]
    by_cases hc : (of.toList == nm.toList) = true
    · rw [if_pos hc, ← hseF_key hs (beq_iff_eq.1 hc), hof]; rfl
    · rw [if_neg hc]
  · intro nm n
    rw [deedF_snoc]
    have h3 := s.s3 nm n
    unfold tk at h3 ⊢
    rw [hset]
    by_cases hc : (of.toList == nm.toList) = true
    · rw [if_pos hc]
      rw [← hseF_key hs (beq_iff_eq.1 hc), hof] at h3
      simp only at h3 ⊢
      rw [ht, tokF_snoc]
      by_cases hcn : fresh = n
      · subst hcn
        rw [hno]
        have : deedP kMint nm fresh (mintD id of role fresh till) = true := by simp only [deedP, e1, e2, e3, k7, hc]; simp
        rw [if_pos this]
        simp [mintD]
      · have : deedP kMint nm n (mintD id of role fresh till) = false := by simp only [deedP, e1, e2, e3, k7, hc]; simpa using hcn
        rw [if_neg (by rw [this]; decide), h3]
        cases tokF hs[i].toks n with
        | some x => rfl
        | none => simp [hcn]
    · rw [if_neg hc]
      have : deedP kMint nm n (mintD id of role fresh till) = false := by simp only [deedP, e1, e2, e3, k7]; simp at hc; simp [hc]
      rw [if_neg (by rw [this]; decide)]
      exact h3
  · intro nm n
    rw [deedF_snoc, if_neg (by simp only [deedP, e1, k4]; simp)]
    have h4 := s.s4 nm n
    unfold tk at h4 ⊢
    rw [hset]
    by_cases hc : (of.toList == nm.toList) = true
    · rw [if_pos hc]
      rw [← hseF_key hs (beq_iff_eq.1 hc), hof] at h4
      simp only at h4 ⊢
      rw [h4, ht, tokF_snoc]
      cases tokF hs[i].toks n with
      | some x => rfl
      | none =>
        simp only [goneOf]
        by_cases hcn : (fresh == n) = true
        · rw [if_pos hcn]
        · rw [if_neg hcn]
    · rw [if_neg hc]; exact h4
  · intro nm
    rw [didF_snoc, e1, e2, k7, s.s5 nm]
    unfold hcount
    rw [hset]
    by_cases hc : (of.toList == nm.toList) = true
    · rw [if_pos hc, ← hseF_key hs (beq_iff_eq.1 hc), hof]
      simp [hc, ht]
    · rw [if_neg hc]
      simp at hc
      simp [hc]
  · rw [weight_set hs i hi h (by rw [ht]; simp [goneN]; omega), List.length_append, s.s6]; rfl

theorem Sim.revoke {hs : List Hse} {ds : List Deed} (s : Sim hs ds) {id : Int} {of : ByteArray} {old : Int} {i : Nat} {hi : i < hs.length} (hf : FirstH hs of i hi) {j : Nat} {hj : j < hs[i].toks.length} (hft : FirstT hs[i].toks old j hj) {h : Hse} (hn : h.name = hs[i].name)
    (ht : h.toks = hs[i].toks.set j { hs[i].toks[j] with gone := true }) (hno : hs[i].toks[j].gone = false) : Sim (hs.set i h) (ds ++ [revokeD id of old]) := by
  obtain ⟨k1, k2, k3, k4, k5, k6, k7, k8, k9⟩ := kinds
  have e1 : (revokeD id of old).kind = kRevoke := rfl
  have e2 : (revokeD id of old).house = of := rfl
  have e3 : (revokeD id of old).num = old := rfl
  have hn' : h.name.toList = of.toList := by rw [hn]; exact hf.1
  have hof := hseF_first hf
  have hset := hseF_set hf h hn'
  have htok := tokF_first hft
  have htset := tokF_set hft { hs[i].toks[j] with gone := true } hft.1
  refine ⟨?_, ?_, ?_, ?_, ?_, ?_⟩
  · rw [nFound_snoc, e1, k5, s.s1]; simp
  · intro nm
    rw [didF_snoc, hset, e1, k5]
    simp only [Bool.false_and, Bool.false_eq_true, if_false, Nat.add_zero]
    rw [s.s2 nm]
    by_cases hc : (of.toList == nm.toList) = true
    · rw [if_pos hc, ← hseF_key hs (beq_iff_eq.1 hc), hof]; rfl
    · rw [if_neg hc]
  · intro nm n
    rw [deedF_snoc, if_neg (by simp only [deedP, e1, k6]; simp)]
    have h3 := s.s3 nm n
    unfold tk at h3 ⊢
    rw [hset]
    by_cases hc : (of.toList == nm.toList) = true
    · rw [if_pos hc]
      rw [← hseF_key hs (beq_iff_eq.1 hc), hof] at h3
      simp only at h3 ⊢
      rw [h3, ht, htset]
      by_cases hcn : (old == n) = true
      · rw [if_pos hcn, ← beq_iff_eq.1 hcn, htok]; rfl
      · rw [if_neg hcn]
    · rw [if_neg hc]; exact h3
  · intro nm n
    rw [deedF_snoc]
    have h4 := s.s4 nm n
    unfold tk at h4 ⊢
    rw [hset]
    by_cases hc : (of.toList == nm.toList) = true
    · rw [if_pos hc]
      rw [← hseF_key hs (beq_iff_eq.1 hc), hof] at h4
      simp only at h4 ⊢
      rw [ht, htset]
      by_cases hcn : (old == n) = true
      · have : deedP kRevoke nm n (revokeD id of old) = true := by simp only [deedP, e1, e2, e3, k9, hc, hcn]; rfl
        rw [if_pos this, if_pos hcn]; rfl
      · have : deedP kRevoke nm n (revokeD id of old) = false := by simp only [deedP, e1, e2, e3, k9, hc]; simpa using hcn
        rw [if_neg (by rw [this]; decide), if_neg hcn]; exact h4
    · rw [if_neg hc]
      have : deedP kRevoke nm n (revokeD id of old) = false := by simp only [deedP, e1, e2, e3, k9]; simp at hc; simp [hc]
      rw [if_neg (by rw [this]; decide)]
      exact h4
  · intro nm
    rw [didF_snoc, e1, k6]
    simp only [Bool.false_and, Bool.false_eq_true, if_false, Nat.add_zero]
    rw [s.s5 nm]
    unfold hcount
    rw [hset]
    by_cases hc : (of.toList == nm.toList) = true
    · rw [if_pos hc, ← hseF_key hs (beq_iff_eq.1 hc), hof]
      simp [ht]
    · rw [if_neg hc]
  · have hg := goneN_set hs[i].toks j hj hno
    rw [weight_set hs i hi h (by rw [ht, List.length_set, hg]; omega), List.length_append, s.s6]; rfl

end Go.Proofs.Ytdddbinlkljbcaa
