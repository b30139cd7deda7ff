/-
  The document's answers of stage 2, as plain functions of what was done.
-/
import Derived.Test.YtgcldedkempjhabGreatDoorDepShow
import Derived.Test.YtgcldedkempjhabGreatDoorRefMint
import Derived.Test.YtgcldedkempjhabGreatDoorRefPackC
import Derived.Test.YtgcldedkempjhabGreatDoorWords
import Derived.Test.YtgcldedkempjhabGreatDoorShelfTell
namespace Go.Proofs.YtgcldedkempjhabGreatDoor
section
open Go.RowKit

/-- The token of a house with a number. -/
def tk (hs : List PHse) (nm : ByteArray) (n : Int) : Option Tok :=
  match hseF hs nm with
  | none => none
  | some h => tokF h.toks n

def hcount (hs : List PHse) (nm : ByteArray) : Nat :=
  match hseF hs nm with
  | none => 0
  | some h => h.toks.length

def stock (hs : List PHse) (nm : ByteArray) : List PEd :=
  match hseF hs nm with
  | none => []
  | some h => h.eds

def grsOf (hs : List PHse) (nm : ByteArray) : List Grt :=
  match hseF hs nm with
  | none => []
  | some h => h.grs

def goneOf (o : Option Tok) : Bool :=
  match o with
  | none => false
  | some t => t.gone

def offOf (o : Option PEd) : Bool :=
  match o with
  | none => false
  | some e => e.off

def isD (k nm : ByteArray) (x : Deed) : Bool := x.kind.toList == k.toList && x.house.toList == nm.toList

def PEd.key (e : PEd) : ByteArray × Int × Option (List WantD) := (e.label, e.ver, some e.wants)
def Deed.key (x : Deed) : ByteArray × Int × Option (List WantD) := (x.pack, x.num, wantsF x.wants)
def Grt.key (g : Grt) : ByteArray × ByteArray := (g.pack, g.to)
def Deed.gkey (x : Deed) : ByteArray × ByteArray := (x.pack, x.to)

abbrev noB : ByteArray := ⟨#[]⟩

def logOf (hs : List PHse) (nm : ByteArray) : List UInt8 :=
  match hseF hs nm with
  | none => []
  | some h => h.log

/-- The line of a deed. -/
def lineD (x : Deed) : List UInt8 :=
  if (x.kind.toList == kMint.toList) = true then mintLine x.who x.num x.role x.till
  else if (x.kind.toList == kRevoke.toList) = true then revokeLine x.who x.num
  else if (x.kind.toList == kGrant.toList) = true then grantLine x.who x.pack.data.toList x.to.data.toList
  else beginL x.who x.kind.data.toList ++ (sayL x.pack.data.toList ++ (tenL x.num ++ [59]))

/-- Does a deed lay a line behind the log of a house? -/
def logP (nm : ByteArray) (x : Deed) : Bool := x.house.toList == nm.toList && !(x.kind.toList == kFound.toList) && !(x.kind.toList == kFeed.toList)

def logD (ds : List Deed) (nm : ByteArray) : List UInt8 := (ds.filter (logP nm)).flatMap lineD

theorem logD_snoc (ds : List Deed) (x : Deed) (nm : ByteArray) : logD (ds ++ [x]) nm = logD ds nm ++ if logP nm x = true then lineD x else [] := by
  unfold logD
  rw [List.filter_append, List.flatMap_append]
  cases h : logP nm x <;> simp [h]

/-- A number that is written without a sign. -/
def Up (n : Int) : Prop := 0 ≤ n ∧ n ≤ 9223372036854775807

/-- A deed whose numbers are written without signs. -/
def DeedUp (x : Deed) : Prop := Up x.who ∧ Up x.num ∧ Up x.role ∧ Up x.till

structure Sim (P : PDep) (ds : List Deed) : Prop where
  s1 : nFound ds = P.hs.length
  s2 : ∀ nm, decide (0 < didF ds kFound nm) = (hseF P.hs nm).isSome
  s3 : ∀ nm n, (deedF ds kMint nm n).map (fun x => (x.role, x.till)) = (tk P.hs nm n).map (fun t => (t.role, t.till))
  s4 : ∀ nm n, (deedF ds kRevoke nm n).isSome = goneOf (tk P.hs nm n)
  s5 : ∀ nm, didF ds kMint nm = hcount P.hs nm
  s7 : ∀ nm, (stock P.hs nm).map PEd.key = (ds.filter (isD kPublish nm)).map Deed.key
  s8 : ∀ nm pack v, yankF ds nm pack v = offOf (pedF (stock P.hs nm) pack v)
  s9 : ∀ nm, (grsOf P.hs nm).map Grt.key = (ds.filter (isD kGrant nm)).map Deed.gkey
  s10 : P.pub.map PEd.key = (ds.filter (isD kFeed noB)).map Deed.key
  s11 : ∀ e ∈ P.pub, e.off = false
  s12 : ∀ nm n t, tk P.hs nm n = some t → 1 ≤ t.role ∧ t.role ≤ 3
  s13 : ∀ nm, ∀ e ∈ stock P.hs nm, 1 ≤ e.ver ∧ e.ver ≤ 9
  s14 : ∀ e ∈ P.pub, 1 ≤ e.ver ∧ e.ver ≤ 9
  s15 : ∀ nm, logOf P.hs nm = logD ds nm
  s16 : P.yanks ≤ ds.length

theorem Sim.start (root clock : Int) : Sim ⟨root, clock, [], [], 0⟩ [] :=
  ⟨rfl, fun _ => rfl, fun _ _ => rfl, fun _ _ => rfl, fun _ => rfl, fun _ => rfl, fun _ _ _ => rfl, fun _ => rfl, rfl, (fun _ h => by cases h), (fun _ _ _ h => by cases h), (fun _ _ h => by cases h), (fun _ h => by cases h), fun _ => rfl, Nat.le_refl _⟩

theorem Sim.clock {P : PDep} {ds : List Deed} (s : Sim P ds) (t : Int) : Sim { P with clock := t } ds := ⟨s.s1, s.s2, s.s3, s.s4, s.s5, s.s7, s.s8, s.s9, s.s10, s.s11, s.s12, s.s13, s.s14, s.s15, s.s16⟩

theorem didF_snoc (ds : List Deed) (x : Deed) (k nm : ByteArray) : didF (ds ++ [x]) k nm = didF ds k nm + if (x.kind.toList == k.toList && x.house.toList == nm.toList) then 1 else 0 := by
  unfold didF
  rw [List.filter_append, List.length_append]
  cases h : (x.kind.toList == k.toList && x.house.toList == nm.toList) <;> simp only [List.filter_cons, h] <;> rfl

theorem nFound_snoc (ds : List Deed) (x : Deed) : nFound (ds ++ [x]) = nFound ds + if (x.kind.toList == kFound.toList) then 1 else 0 := by
  unfold nFound
  rw [List.filter_append, List.length_append]
  cases h : (x.kind.toList == kFound.toList) <;> simp only [List.filter_cons, h] <;> rfl

theorem deedF_snoc (ds : List Deed) (x : Deed) (k nm : ByteArray) (n : Int) : deedF (ds ++ [x]) k nm n = if deedP k nm n x = true then some x else deedF ds k nm n := by
  unfold deedF
  rw [List.reverse_append]
  simp only [List.reverse_cons, List.reverse_nil, List.nil_append, List.singleton_append, List.find?_cons]
  cases deedP k nm n x <;> rfl

theorem filt_snoc (ds : List Deed) (x : Deed) (k nm : ByteArray) : (ds ++ [x]).filter (isD k nm) = ds.filter (isD k nm) ++ if isD k nm x = true then [x] else [] := by
  rw [List.filter_append]
  cases h : isD k nm x <;> simp [h]

theorem yankF_snoc (ds : List Deed) (x : Deed) (house pack : ByteArray) (v : Int) : yankF (ds ++ [x]) house pack v = if yankP house pack v x = true then x.kind.toList == kYank.toList else yankF ds house pack v := by
  unfold yankF
  rw [List.foldl_append]
  rfl

theorem hseF_snoc (hs : List PHse) (h : PHse) (nm : ByteArray) : hseF (hs ++ [h]) nm = match hseF hs nm with | some x => some x | none => if (h.name.toList == nm.toList) = true then some h else none := by
  unfold hseF
  rw [List.find?_append]
  cases hs.find? (fun h => h.name.toList == nm.toList) with
  | some x => rfl
  | none =>
    simp only [List.find?_cons, List.find?_nil, Option.none_or]
    cases (h.name.toList == nm.toList) <;> rfl

theorem hseF_key (hs : List PHse) {a b : ByteArray} (h : a.toList = b.toList) : hseF hs a = hseF hs b := by unfold hseF; rw [h]

theorem hseF_upd (hs : List PHse) (nm : ByteArray) (f : PHse → PHse) (hf : ∀ h, (f h).name = h.name) (b : ByteArray) : hseF (updH hs nm f) b = if (nm.toList == b.toList) = true then (hseF hs nm).map f else hseF hs b := by
  induction hs with
  | nil => simp [hseF, updH]
  | cons x hs ih =>
    unfold updH
    cases hx : (x.name.toList == nm.toList) with
    | true =>
      simp only [if_true]
      have hxe : x.name.toList = nm.toList := by simpa using hx
      unfold hseF
      rw [List.find?_cons, List.find?_cons, List.find?_cons, hf, hx, hxe]
      cases (nm.toList == b.toList) <;> rfl
    | false =>
      simp only [Bool.false_eq_true, if_false]
      unfold hseF at ih ⊢
      rw [List.find?_cons, List.find?_cons, List.find?_cons, hx]
      cases hb : (x.name.toList == b.toList) with
      | false => simpa using ih
      | true =>
        have : (nm.toList == b.toList) = false := by
          rw [beq_eq_false_iff_ne]
          intro e
          have hxb : x.name.toList = b.toList := by simpa using hb
          rw [← e] at hxb
          rw [hxb] at hx
          simp at hx
        rw [this]
        rfl

theorem updH_length (hs : List PHse) (nm : ByteArray) (f : PHse → PHse) : (updH hs nm f).length = hs.length := by
  induction hs with
  | nil => rfl
  | cons x hs ih =>
    unfold updH
    split
    · rfl
    · simp [ih]

/-- A deed of a house that is there, and the change of that house that it stands for. -/
theorem Sim.house {P : PDep} {ds : List Deed} (s : Sim P ds) {nm : ByteArray} {f : PHse → PHse} (hf : ∀ h, (f h).name = h.name) {h : PHse} (hh : hseF P.hs nm = some h) {x : Deed} (hx : x.house = nm)
    (o1 : (x.kind.toList == kFound.toList) = false) (o2 : (x.kind.toList == kFeed.toList) = false)
    (o3 : ∀ n, (if (x.kind.toList == kMint.toList && x.num == n) = true then some (x.role, x.till) else (tokF h.toks n).map fun t => (t.role, t.till)) = (tokF (f h).toks n).map fun t => (t.role, t.till))
    (o4 : ∀ n, (if (x.kind.toList == kRevoke.toList && x.num == n) = true then true else goneOf (tokF h.toks n)) = goneOf (tokF (f h).toks n))
    (o5 : (f h).toks.length = h.toks.length + if (x.kind.toList == kMint.toList) = true then 1 else 0)
    (o7 : (f h).eds.map PEd.key = h.eds.map PEd.key ++ if (x.kind.toList == kPublish.toList) = true then [x.key] else [])
    (o8 : ∀ pack v, (if yankP nm pack v x = true then x.kind.toList == kYank.toList else offOf (pedF h.eds pack v)) = offOf (pedF (f h).eds pack v))
    (o9 : (f h).grs.map Grt.key = h.grs.map Grt.key ++ if (x.kind.toList == kGrant.toList) = true then [x.gkey] else [])
    (o12 : ∀ n t, tokF (f h).toks n = some t → 1 ≤ t.role ∧ t.role ≤ 3) (o13 : ∀ e ∈ (f h).eds, 1 ≤ e.ver ∧ e.ver ≤ 9) (o15 : (f h).log = h.log ++ lineD x) :
    Sim (P.upd nm f) (ds ++ [x]) := by
  have hu := hseF_upd P.hs nm f hf
  have yes : ∀ b, (nm.toList == b.toList) = true → hseF (P.upd nm f).hs b = some (f h) := fun b hb => by
    show hseF (updH P.hs nm f) b = _
    rw [hu, if_pos hb, hh]; rfl
  have no : ∀ b, (nm.toList == b.toList) = false → hseF (P.upd nm f).hs b = hseF P.hs b := fun b hb => by
    show hseF (updH P.hs nm f) b = _
    rw [hu, if_neg (by rw [hb]; decide)]
  have old : ∀ b, (nm.toList == b.toList) = true → hseF P.hs b = some h := fun b hb => by rw [← hseF_key P.hs (beq_iff_eq.1 hb), hh]
  have key : ∀ {k b}, isD k b x = (x.kind.toList == k.toList && nm.toList == b.toList) := by intro k b; unfold isD; rw [hx]
  refine ⟨?_, ?_, ?_, ?_, ?_, ?_, ?_, ?_, ?_, s.s11, ?_, ?_, s.s14, ?_, by have := s.s16; simp only [PDep.upd, List.length_append]; omega⟩
  · rw [nFound_snoc, o1, s.s1]
    show _ = (updH P.hs nm f).length
    rw [updH_length]; rfl
  · intro b
    rw [didF_snoc, o1]
    simp only [Bool.false_and, Bool.false_eq_true, if_false, Nat.add_zero]
    rw [s.s2 b]
    cases hb : (nm.toList == b.toList) with
    | true => rw [yes b hb, old b hb]; rfl
    | false => rw [no b hb]
  · intro b n
    have h3 := s.s3 b n
    rw [deedF_snoc]
    unfold tk at h3 ⊢
    cases hb : (nm.toList == b.toList) with
    | true =>
      rw [yes b hb]
      rw [old b hb] at h3
      simp only at h3 ⊢
      rw [← o3 n, ← h3]
      unfold deedP
      rw [hx, hb, Bool.and_true]
      cases (x.kind.toList == kMint.toList && x.num == n) <;> rfl
    | false =>
      rw [no b hb, ← h3]
      unfold deedP
      rw [hx, hb]
      simp
  · intro b n
    have h4 := s.s4 b n
    rw [deedF_snoc]
    unfold tk at h4 ⊢
    cases hb : (nm.toList == b.toList) with
    | true =>
      rw [yes b hb]
      rw [old b hb] at h4
      simp only at h4 ⊢
      rw [← o4 n, ← h4]
      unfold deedP
      rw [hx, hb, Bool.and_true]
      cases (x.kind.toList == kRevoke.toList && x.num == n) <;> rfl
    | false =>
      rw [no b hb, ← h4]
      unfold deedP
      rw [hx, hb]
      simp
  · intro b
    have h5 := s.s5 b
    rw [didF_snoc, h5, hx]
    unfold hcount
    cases hb : (nm.toList == b.toList) with
    | true =>
      rw [yes b hb, old b hb]
      simp only [Bool.and_true]
      exact o5.symm
    | false =>
      rw [no b hb]
      simp
  · intro b
    have h7 := s.s7 b
    rw [filt_snoc, List.map_append, ← h7, key]
    unfold stock
    cases hb : (nm.toList == b.toList) with
    | true =>
      rw [yes b hb, old b hb, Bool.and_true]
      simp only
      rw [o7]
      cases (x.kind.toList == kPublish.toList) <;> rfl
    | false =>
      rw [no b hb]
      simp
  · intro b pack v
    have h8 := s.s8 b pack v
    rw [yankF_snoc, h8]
    unfold stock
    cases hb : (nm.toList == b.toList) with
    | true =>
      have hnb : nm.toList = b.toList := beq_iff_eq.1 hb
      have e1 : yankP b pack v x = yankP nm pack v x := by unfold yankP; rw [hnb]
      rw [yes b hb, old b hb, e1]
      exact o8 pack v
    | false =>
      have : yankP b pack v x = false := by unfold yankP; rw [hx, hb]; simp
      rw [no b hb, this]
      rfl
  · intro b
    have h9 := s.s9 b
    rw [filt_snoc, List.map_append, ← h9, key]
    unfold grsOf
    cases hb : (nm.toList == b.toList) with
    | true =>
      rw [yes b hb, old b hb, Bool.and_true]
      simp only
      rw [o9]
      cases (x.kind.toList == kGrant.toList) <;> rfl
    | false =>
      rw [no b hb]
      simp
  · rw [filt_snoc, List.map_append, key, o2, ← s.s10]
    simp [PDep.upd]
  · intro b n t ht
    have h12 := s.s12 b n t
    unfold tk at ht h12
    cases hb : (nm.toList == b.toList) with
    | true => rw [yes b hb] at ht; exact o12 n t ht
    | false => rw [no b hb] at ht; exact h12 ht
  · intro b e he
    have h13 := s.s13 b e
    unfold stock at he h13
    cases hb : (nm.toList == b.toList) with
    | true => rw [yes b hb] at he; exact o13 e he
    | false => rw [no b hb] at he; exact h13 he
  · intro b
    have h15 := s.s15 b
    rw [logD_snoc, ← h15]
    unfold logOf logP
    rw [hx, o1, o2]
    cases hb : (nm.toList == b.toList) with
    | true => rw [yes b hb, old b hb]; simpa using o15
    | false => rw [no b hb]; simp

theorem Sim.role_of {P : PDep} {ds : List Deed} (s : Sim P ds) {nm : ByteArray} {h : PHse} (hh : hseF P.hs nm = some h) (n : Int) (t : Tok) (ht : tokF h.toks n = some t) : 1 ≤ t.role ∧ t.role ≤ 3 :=
  s.s12 nm n t (by unfold tk; rw [hh]; exact ht)

theorem Sim.ver_of {P : PDep} {ds : List Deed} (s : Sim P ds) {nm : ByteArray} {h : PHse} (hh : hseF P.hs nm = some h) (e : PEd) (he : e ∈ h.eds) : 1 ≤ e.ver ∧ e.ver ≤ 9 :=
  s.s13 nm e (by unfold stock; rw [hh]; exact he)

theorem tokF_snoc (ts : List Tok) (t : Tok) (n : Int) : tokF (ts ++ [t]) n = match tokF ts n with | some x => some x | none => if (t.num == n) = true then some t else none := by
  unfold tokF
  rw [List.find?_append]
  cases ts.find? (fun t => t.num == n) with
  | some x => rfl
  | none =>
    simp only [List.find?_cons, List.find?_nil, Option.none_or]
    cases (t.num == n) <;> rfl

theorem Sim.mint {P : PDep} {ds : List Deed} (s : Sim P ds) {of : ByteArray} {h : PHse} (hh : hseF P.hs of = some h) (id role fresh till : Int) (hno : tokF h.toks fresh = none) (hrole : 1 ≤ role ∧ role ≤ 3) :
    Sim (mintS P of id ⟨fresh, role, till, false⟩) (ds ++ [mintD id of role fresh till]) := by
  refine s.house (f := fun h => { h with toks := h.toks ++ [⟨fresh, role, till, false⟩], log := h.log ++ mintLine id fresh role till }) (x := mintD id of role fresh till) (fun _ => rfl) hh rfl (by simp [mintD]) (by simp [mintD]) ?_ ?_ (by simp [mintD]) (by simp [mintD]) ?_ (by simp [mintD]) ?_ (fun e he => s.ver_of hh e he) (by simp [lineD, mintD])
  · intro n
    simp only [mintD, beq_self_eq_true, Bool.true_and]
    rw [tokF_snoc]
    by_cases hn : fresh = n
    · subst hn
      rw [hno]
      simp
    · have : (fresh == n) = false := beq_eq_false_iff_ne.2 hn
      rw [this]
      cases tokF h.toks n <;> simp
  · intro n
    rw [if_neg (by simp [mintD]), tokF_snoc]
    cases tokF h.toks n with
    | some x => rfl
    | none => cases (fresh == n) <;> rfl
  · intro pack v
    rw [if_neg (by simp [yankP, mintD])]
  · intro n t ht
    simp only [tokF_snoc] at ht
    cases hq : tokF h.toks n with
    | some y =>
      rw [hq] at ht
      injection ht with ht
      subst ht
      exact s.role_of hh n y hq
    | none =>
      rw [hq] at ht
      simp only at ht
      split at ht
      · injection ht with ht
        subst ht
        exact hrole
      · cases ht

theorem tokF_rev (ts : List Tok) (old n : Int) : tokF (revTok ts old) n = (tokF ts n).map fun t => if old = n then { t with gone := true } else t := by
  induction ts with
  | nil => rfl
  | cons x ts ih =>
    have e : revTok (x :: ts) old = if (x.num == old) = true then { x with gone := true } :: ts else x :: revTok ts old := rfl
    rw [e]
    cases hx : (x.num == old) with
    | true =>
      have hxe : x.num = old := by simpa using hx
      simp only [if_true]
      unfold tokF
      rw [List.find?_cons, List.find?_cons]
      show (match ({ x with gone := true } : Tok).num == n with | true => _ | false => _) = _
      rw [hxe]
      by_cases hn : old = n
      · subst hn; simp [hxe]
      · have : (old == n) = false := beq_eq_false_iff_ne.2 hn
        rw [this]
        simp [hn]
    | false =>
      simp only [Bool.false_eq_true, if_false]
      unfold tokF at ih ⊢
      rw [List.find?_cons, List.find?_cons]
      cases hn : (x.num == n) with
      | false => exact ih
      | true =>
        have hxn : x.num = n := by simpa using hn
        have : old ≠ n := fun e => by rw [← hxn] at e; rw [e] at hx; simp at hx
        simp [this]

theorem Sim.revoke {P : PDep} {ds : List Deed} (s : Sim P ds) {of : ByteArray} {h : PHse} (hh : hseF P.hs of = some h) (id old : Int) {t : Tok} (ht : tokF h.toks old = some t) :
    Sim (revokeS P of id old) (ds ++ [revokeD id of old]) := by
  refine s.house (f := fun h => { h with toks := revTok h.toks old, log := h.log ++ revokeLine id old }) (x := revokeD id of old) (fun _ => rfl) hh rfl (by simp [revokeD]) (by simp [revokeD]) ?_ ?_ (by simp [revokeD, revTok, updF_length]) (by simp [revokeD]) ?_ (by simp [revokeD]) ?_ (fun e he => s.ver_of hh e he) (by simp [lineD, revokeD])
  · intro n
    rw [if_neg (by simp [revokeD]), tokF_rev]
    cases tokF h.toks n with
    | none => rfl
    | some x => by_cases hn : old = n <;> simp [hn]
  · intro n
    simp only [revokeD, beq_self_eq_true, Bool.true_and]
    rw [tokF_rev]
    by_cases hn : old = n
    · subst hn
      rw [ht]
      simp [goneOf]
    · have : (old == n) = false := beq_eq_false_iff_ne.2 hn
      rw [this]
      cases tokF h.toks n <;> simp [hn, goneOf]
  · intro pack v
    rw [if_neg (by simp [yankP, revokeD])]
  · intro n t ht
    simp only [tokF_rev] at ht
    cases hq : tokF h.toks n with
    | none => rw [hq] at ht; cases ht
    | some y =>
      rw [hq] at ht
      injection ht with ht
      subst ht
      have := s.role_of hh n y hq
      split <;> exact this

def publishD (house : ByteArray) (id : Int) (pack : ByteArray) (v : Int) (text : ByteArray) : Deed := ⟨kPublish, house, id, pack, ⟨#[]⟩, v, 0, 0, text⟩
def feedD (pack : ByteArray) (v : Int) (text : ByteArray) : Deed := ⟨kFeed, ⟨#[]⟩, 0, pack, ⟨#[]⟩, v, 0, 0, text⟩
def yankD (back : Bool) (house : ByteArray) (id : Int) (pack : ByteArray) (v : Int) : Deed := ⟨if back then kBack else kYank, house, id, pack, ⟨#[]⟩, v, 0, 0, ⟨#[]⟩⟩
def grantD (house : ByteArray) (id : Int) (pack to : ByteArray) : Deed := ⟨kGrant, house, id, pack, to, 0, 0, 0, ⟨#[]⟩⟩

theorem Sim.publish {P : PDep} {ds : List Deed} (s : Sim P ds) {nm : ByteArray} {h : PHse} (hh : hseF P.hs nm = some h) (id : Int) (pack : ByteArray) (v : Int) (text : ByteArray) {ws : List WantD} (hw : wantsF text = some ws) (hv : 1 ≤ v ∧ v ≤ 9) :
    Sim (dpublishS P nm id pack v text) (ds ++ [publishD nm id pack v text]) := by
  refine s.house (f := fun h => { h with eds := h.eds ++ [⟨pack, v, (wantsF text).getD [], false⟩], log := h.log ++ publishLine id pack.data.toList v }) (x := publishD nm id pack v text) (fun _ => rfl) hh rfl (by simp [publishD]) (by simp [publishD]) ?_ ?_ (by simp [publishD]) ?_ ?_ (by simp [publishD]) (fun n t ht => s.role_of hh n t ht) ?_ (by simp [lineD, publishD, publishLine])
  · intro n; rw [if_neg (by simp [publishD])]
  · intro n; rw [if_neg (by simp [publishD])]
  · simp [publishD, PEd.key, Deed.key, hw]
  · intro p u
    rw [if_neg (by simp [yankP, publishD])]
    unfold pedF
    rw [List.find?_append]
    cases h.eds.find? (pedP p u) with
    | some e => rfl
    | none =>
      simp only [Option.none_or, List.find?_cons, List.find?_nil]
      split <;> rfl
  · intro e he
    rcases List.mem_append.1 he with he | he
    · exact s.ver_of hh e he
    · simp at he
      subst he
      exact hv

theorem mem_updF {α : Type} (p : α → Bool) (f : α → α) (l : List α) {y : α} (h : y ∈ updF p f l) : y ∈ l ∨ ∃ x ∈ l, y = f x := by
  induction l with
  | nil => cases h
  | cons x l ih =>
    unfold updF at h
    split at h
    · simp at h
      rcases h with rfl | h
      · exact Or.inr ⟨x, by simp, rfl⟩
      · exact Or.inl (by simp [h])
    · simp at h
      rcases h with rfl | h
      · exact Or.inl (by simp)
      · rcases ih h with h | ⟨z, hz, e⟩
        · exact Or.inl (by simp [h])
        · exact Or.inr ⟨z, by simp [hz], e⟩

theorem pedF_yank (es : List PEd) (pack : ByteArray) (v : Int) (off : Bool) (p : ByteArray) (u : Int) :
    pedF (yankEds es pack v off) p u = (pedF es p u).map fun e => if (v == u && pack.toList == p.toList) = true then { e with off := off } else e := by
  induction es with
  | nil => rfl
  | cons x es ih =>
    have e : yankEds (x :: es) pack v off = if pedP pack v x = true then { x with off := off } :: es else x :: yankEds es pack v off := rfl
    rw [e]
    cases hx : pedP pack v x with
    | true =>
      simp only [if_true]
      unfold pedF
      rw [List.find?_cons, List.find?_cons]
      have e1 : pedP p u ({ x with off := off } : PEd) = pedP p u x := rfl
      rw [e1]
      unfold pedP at hx
      rw [Bool.and_eq_true, beq_iff_eq, beq_iff_eq] at hx
      have e2 : pedP p u x = (v == u && pack.toList == p.toList) := by unfold pedP; rw [hx.1, hx.2]
      rw [e2]
      cases hc : (v == u && pack.toList == p.toList) with
      | true => simp
      | false => simp
    | false =>
      simp only [Bool.false_eq_true, if_false]
      unfold pedF at ih ⊢
      rw [List.find?_cons, List.find?_cons]
      cases hn : pedP p u x with
      | false => exact ih
      | true =>
        have : (v == u && pack.toList == p.toList) = false := by
          unfold pedP at hn hx
          rw [Bool.and_eq_true, beq_iff_eq, beq_iff_eq] at hn
          rw [hn.1, hn.2] at hx
          rw [← hx]
          cases h1 : (v == u) with
          | true =>
            have := beq_iff_eq.1 h1
            subst this
            simp only [beq_self_eq_true, Bool.true_and]
            exact Bool.eq_iff_iff.2 (by simp only [beq_iff_eq]; exact eq_comm)
          | false =>
            have : (u == v) = false := by rw [beq_eq_false_iff_ne] at h1 ⊢; exact fun e => h1 e.symm
            rw [this]; rfl
        rw [this]
        rfl

theorem Sim.yank {P : PDep} {ds : List Deed} (s : Sim P ds) {nm : ByteArray} {h : PHse} (hh : hseF P.hs nm = some h) (id : Int) (pack : ByteArray) (v : Int) (back : Bool) (hs : (pedF h.eds pack v).isSome = true) :
    Sim (dyankS P nm id pack v (!back)) (ds ++ [yankD back nm id pack v]) := by
  have key : Sim (P.upd nm fun h => { h with eds := yankEds h.eds pack v (!back), log := h.log ++ yankLine id pack.data.toList v (!back) }) (ds ++ [yankD back nm id pack v]) := ?_
  · exact ⟨key.s1, key.s2, key.s3, key.s4, key.s5, key.s7, key.s8, key.s9, key.s10, key.s11, key.s12, key.s13, key.s14, key.s15, by have := s.s16; simp only [dyankS, PDep.upd, List.length_append, List.length_singleton]; omega⟩
  refine s.house (f := fun h => { h with eds := yankEds h.eds pack v (!back), log := h.log ++ yankLine id pack.data.toList v (!back) }) (x := yankD back nm id pack v) (fun _ => rfl) hh rfl ?_ ?_ ?_ ?_ ?_ ?_ ?_ ?_ (fun n t ht => s.role_of hh n t ht) ?_ (by cases back <;> simp [lineD, yankD, yankLine])
  · cases back <;> simp [yankD]
  · cases back <;> simp [yankD]
  · intro n; rw [if_neg (by cases back <;> simp [yankD])]
  · intro n; rw [if_neg (by cases back <;> simp [yankD])]
  · rw [if_neg (by cases back <;> simp [yankD])]; rfl
  · rw [if_neg (by cases back <;> simp [yankD]), List.append_nil]
    have : ∀ es : List PEd, (yankEds es pack v (!back)).map PEd.key = es.map PEd.key := by
      intro es
      induction es with
      | nil => rfl
      | cons x es ih =>
        have e : yankEds (x :: es) pack v (!back) = if pedP pack v x = true then { x with off := !back } :: es else x :: yankEds es pack v (!back) := rfl
        rw [e]
        split
        · rfl
        · rw [List.map_cons, List.map_cons, ih]
    exact this h.eds
  · intro p u
    simp only
    rw [pedF_yank]
    have hk : yankP nm p u (yankD back nm id pack v) = (v == u && pack.toList == p.toList) := by
      unfold yankP yankD
      cases back <;> simp [Bool.and_comm]
    rw [hk]
    cases hc : (v == u && pack.toList == p.toList) with
    | false =>
      simp only [Bool.false_eq_true, if_false]
      cases pedF h.eds p u <;> rfl
    | true =>
      rw [Bool.and_eq_true, beq_iff_eq, beq_iff_eq] at hc
      have e : pedF h.eds p u = pedF h.eds pack v := by unfold pedF; congr 1; funext y; unfold pedP; rw [hc.1, hc.2]
      rw [e]
      cases hp : pedF h.eds pack v with
      | none => rw [hp] at hs; cases hs
      | some y => cases back <;> simp [offOf, yankD]
  · rw [if_neg (by cases back <;> simp [yankD]), List.append_nil]
  · intro e he
    rcases mem_updF _ _ _ he with he | ⟨y, hy, rfl⟩
    · exact s.ver_of hh e he
    · exact s.ver_of hh y hy

theorem Sim.grant {P : PDep} {ds : List Deed} (s : Sim P ds) {nm : ByteArray} {h : PHse} (hh : hseF P.hs nm = some h) (id : Int) (pack to : ByteArray) :
    Sim (dgrantS P nm id pack to) (ds ++ [grantD nm id pack to]) := by
  refine s.house (f := fun h => { h with grs := h.grs ++ [⟨pack, to⟩], log := h.log ++ grantLine id pack.data.toList to.data.toList }) (x := grantD nm id pack to) (fun _ => rfl) hh rfl (by simp [grantD]) (by simp [grantD]) ?_ ?_ (by simp [grantD]) (by simp [grantD]) ?_ (by simp [grantD, Grt.key, Deed.gkey]) (fun n t ht => s.role_of hh n t ht) (fun e he => s.ver_of hh e he) (by simp [lineD, grantD])
  · intro n; rw [if_neg (by simp [grantD])]
  · intro n; rw [if_neg (by simp [grantD])]
  · intro p u; rw [if_neg (by simp [yankP, grantD])]

theorem Sim.feed {P : PDep} {ds : List Deed} (s : Sim P ds) (pack : ByteArray) (v : Int) (text : ByteArray) {ws : List WantD} (hw : wantsF text = some ws) (hv : 1 ≤ v ∧ v ≤ 9) :
    Sim (dfeedS P pack v text) (ds ++ [feedD pack v text]) := by
  refine ⟨?_, ?_, ?_, ?_, ?_, ?_, ?_, ?_, ?_, ?_, s.s12, s.s13, ?_, fun nm => by rw [logD_snoc, if_neg (by simp [logP, feedD]), List.append_nil]; exact s.s15 nm, by have := s.s16; simp only [dfeedS, List.length_append]; omega⟩
  · rw [nFound_snoc, if_neg (by simp [feedD])]; exact s.s1
  · intro nm; rw [didF_snoc, if_neg (by simp [feedD])]; exact s.s2 nm
  · intro nm n; rw [deedF_snoc, if_neg (by simp [deedP, feedD])]; exact s.s3 nm n
  · intro nm n; rw [deedF_snoc, if_neg (by simp [deedP, feedD])]; exact s.s4 nm n
  · intro nm; rw [didF_snoc, if_neg (by simp [feedD])]; exact s.s5 nm
  · intro nm; rw [filt_snoc, if_neg (by simp [isD, feedD]), List.append_nil]; exact s.s7 nm
  · intro nm p u; rw [yankF_snoc, if_neg (by simp [yankP, feedD])]; exact s.s8 nm p u
  · intro nm; rw [filt_snoc, if_neg (by simp [isD, feedD]), List.append_nil]; exact s.s9 nm
  · rw [filt_snoc, if_pos (by simp [isD, feedD]), List.map_append, ← s.s10]
    simp [dfeedS, feedD, PEd.key, Deed.key, hw]
  · intro e he
    rcases List.mem_append.1 he with h | h
    · exact s.s11 e h
    · simp at h; subst h; rfl
  · intro e he
    rcases List.mem_append.1 he with h | h
    · exact s.s14 e h
    · simp at h; subst h; exact hv

theorem Sim.found {P : PDep} {ds : List Deed} (s : Sim P ds) (id : Int) (name : ByteArray) (hno : hseF P.hs name = none) : Sim (foundS P name) (ds ++ [foundD id name]) := by
  have hk : ∀ nm, (name.toList == nm.toList) = true → hseF P.hs nm = none := fun nm he => by
    rw [hseF_key P.hs (show nm.toList = name.toList from (beq_iff_eq.1 he).symm)]; exact hno
  have hnew : ∀ nm, hseF (foundS P name).hs nm = hseF P.hs nm ∨ (hseF P.hs nm = none ∧ hseF (foundS P name).hs nm = some ⟨name, [], [], [], []⟩) := by
    intro nm
    show hseF (P.hs ++ [⟨name, [], [], [], []⟩]) nm = _ ∨ (_ ∧ hseF (P.hs ++ [⟨name, [], [], [], []⟩]) nm = _)
    rw [hseF_snoc]
    cases hh : hseF P.hs nm with
    | some x => exact Or.inl rfl
    | none =>
      by_cases hc : (name.toList == nm.toList) = true
      · exact Or.inr ⟨rfl, by simp only; rw [if_pos hc]⟩
      · exact Or.inl (by simp only; rw [if_neg hc])
  have htk : ∀ nm n, tk (foundS P name).hs nm n = tk P.hs nm n := by
    intro nm n
    unfold tk
    rcases hnew nm with h | ⟨h1, h2⟩
    · rw [h]
    · rw [h1, h2]; rfl
  refine ⟨?_, ?_, ?_, ?_, ?_, ?_, ?_, ?_, ?_, s.s11, ?_, ?_, s.s14, ?_, by have := s.s16; simp only [foundS, List.length_append]; omega⟩
  · rw [nFound_snoc, if_pos (by simp [foundD]), s.s1]; simp [foundS]
  · intro nm
    rw [didF_snoc]
    have h2 := s.s2 nm
    show _ = (hseF (P.hs ++ [⟨name, [], [], [], []⟩]) nm).isSome
    rw [hseF_snoc]
    cases hh : hseF P.hs nm with
    | some x =>
      rw [hh] at h2
      simp at h2 ⊢
      omega
    | none =>
      rw [hh] at h2
      have h0 : didF ds kFound nm = 0 := by simpa using h2
      rw [h0]
      simp only [foundD, beq_self_eq_true, Bool.true_and]
      cases (name.toList == nm.toList) <;> simp
  · intro nm n; rw [deedF_snoc, if_neg (by simp [deedP, foundD]), htk]; exact s.s3 nm n
  · intro nm n; rw [deedF_snoc, if_neg (by simp [deedP, foundD]), htk]; exact s.s4 nm n
  · intro nm
    rw [didF_snoc, if_neg (by simp [foundD]), s.s5 nm, Nat.add_zero]
    unfold hcount
    rcases hnew nm with h | ⟨h1, h2⟩
    · rw [h]
    · rw [h1, h2]; rfl
  · intro nm
    rw [filt_snoc, if_neg (by simp [isD, foundD]), List.append_nil, ← s.s7 nm]
    unfold stock
    rcases hnew nm with h | ⟨h1, h2⟩
    · rw [h]
    · rw [h1, h2]
  · intro nm p u
    rw [yankF_snoc, if_neg (by simp [yankP, foundD]), s.s8 nm p u]
    unfold stock
    rcases hnew nm with h | ⟨h1, h2⟩
    · rw [h]
    · rw [h1, h2]
  · intro nm
    rw [filt_snoc, if_neg (by simp [isD, foundD]), List.append_nil, ← s.s9 nm]
    unfold grsOf
    rcases hnew nm with h | ⟨h1, h2⟩
    · rw [h]
    · rw [h1, h2]
  · rw [filt_snoc, if_neg (by simp [isD, foundD]), List.append_nil]; exact s.s10
  · intro nm n t ht; rw [htk] at ht; exact s.s12 nm n t ht
  · intro nm e he
    have h13 := s.s13 nm e
    unfold stock at he h13
    rcases hnew nm with h | ⟨h1, h2⟩
    · rw [h] at he; exact h13 he
    · rw [h2] at he; cases he
  · intro nm
    rw [logD_snoc, if_neg (by simp [logP, foundD]), List.append_nil, ← s.s15 nm]
    unfold logOf
    rcases hnew nm with h | ⟨h1, h2⟩
    · rw [h]
    · rw [h1, h2]

end

section

def roomN (ds : List Deed) (house : ByteArray) : Nat := if house.toList.isEmpty then didF ds kFeed house else didF ds kPublish house
def roomM (house : ByteArray) : Nat := if house.toList.isEmpty then 24 else 12

def mayE (ds : List Deed) (house pack : ByteArray) (v : Int) (text : ByteArray) : Int :=
  if v < 1 ∨ 9 < v then 1 else if (wantsF text).isSome = false then 8 else if (relF ds house pack v).isSome then 5 else if roomN ds house = roomM house then 6 else 0

def feedE (ds : List Deed) (pack : ByteArray) (v : Int) (text : ByteArray) : Int := if nameF pack = false then 2 else mayE ds ⟨#[]⟩ pack v text

def publishE (r : Int) (ds : List Deed) (house pack : ByteArray) (v : Int) (text : ByteArray) : Int :=
  if writesE r (wordF pack) ≠ 0 then writesE r (wordF pack) else mayE ds house pack v text

def yankE (r : Int) (ds : List Deed) (house pack : ByteArray) (v : Int) : Int :=
  if writesE r (wordF pack) ≠ 0 then writesE r (wordF pack) else if (relF ds house pack v).isSome then 0 else 7

def grantE (r : Int) (ds : List Deed) (house pack to : ByteArray) : Int :=
  if (r == 0) = true then 3 else if (r == 3) = false then 4 else if wordF pack = false ∨ wordF to = false then 2 else if hasF ds house pack = false then 7 else if grantF ds house pack to then 5 else if didF ds kGrant house = 6 then 6 else 0

def seenE (ds : List Deed) (house s : ByteArray) : Bool :=
  hasF ds (ownerF ds s).1 (ownerF ds s).2 && ((ownerF ds s).1.toList.isEmpty || ((ownerF ds s).1.toList == house.toList) || grantF ds (ownerF ds s).1 (ownerF ds s).2 house)

/-- One version, as it is told. -/
def oneE (ds : List Deed) (o pack : ByteArray) (v : Nat) : ByteArray := if yankF ds o pack v then digitS v ++ ⟨#[42]⟩ else digitS v

/-- The versions above 9 - k, as they are told. -/
def tellE (ds : List Deed) (o pack : ByteArray) : Nat → ByteArray
  | 0 => ⟨#[]⟩
  | k + 1 => if (relF ds o pack ((9 - k : Nat) : Int)).isSome then (if (tellE ds o pack k).toList.isEmpty then oneE ds o pack (9 - k) else oneE ds o pack (9 - k) ++ ⟨#[44]⟩ ++ tellE ds o pack k) else tellE ds o pack k

def whoseE (o : ByteArray) : ByteArray := if o.toList.isEmpty then ⟨#[112, 117, 98, 108, 105, 99]⟩ else o

def showE (r : Int) (ds : List Deed) (house s : ByteArray) : ByteArray × Int :=
  if (r == 0) = true then (⟨#[]⟩, 3) else if nameF s = false then (⟨#[]⟩, 2) else if seenE ds house s = false then (⟨#[]⟩, 7)
  else (whoseE (ownerF ds s).1 ++ ⟨#[58]⟩ ++ tellE ds (ownerF ds s).1 (ownerF ds s).2 9, 0)

end

end Go.Proofs.YtgcldedkempjhabGreatDoor
