/-
  Rows of records in memory, whatever the record.
-/
import Derived.WalkKit
import Derived.WalkSpells
import Derived.WalkLawsBesides
import Derived.Deep.RegionLaw
import Derived.ArgAppend
namespace Go.Proofs.YtgcldedkempjhabGreatDoor
section
open Go.RowKit

/-- 'append' to a slice that owns its row: it stays in its block, or lies in a new one. -/
theorem run_append_own2 {P : Program} (w : World) (base : Nat) (t ty e : TypeId) (i : TypeInfo) (z : Value) (size bytes : Nat) (ht : P.underlying t = some (.slice e)) (hi : P.info? e = some i) (hz : i.zero = some z)
    (hsize : i.size = size) (hby : i.bytes = bytes) (hzs : z.cells.size = size) (hsz : 0 < size)
    (v : Value) (n : Nat) (xs : List Value) (hown : w.ownsRow base e size v n xs)
    (a : Addr) (m c : Nat) (news : List Value) (hl : news.length = m * size) (hnews : ∀ j u, news[j]? = some u → w.cell? (a.add j) = some u) (h1 : ∀ u ∈ news, u.oneCell' = true)
    (h63 : n + m ≤ maxLen) (hbytes : (n + m) * bytes ≤ 140737488355328) (hbase : base ≤ w.heap.size) :
    ∃ v' w', (Builtin.append_ #[t, t] ty #[v, .slice (some a) m c]).run P w = .ok v' w' ∧ w'.ownsRow base e size v' (n + m) (xs ++ news) ∧ w.grownBy w' v.ownBlock ∧
      (∀ k, v'.ownBlock = some k → v.ownBlock = some k ∨ w.heap.size ≤ k) := by
  obtain ⟨v', w', hrun, r1, r2, _⟩ := run_append_own (P := P) w base t ty e i z size bytes ht hi hz hsize hby hzs hsz v n xs hown a m c news hl hnews h1 h63 hbytes hbase
  refine ⟨v', w', hrun, r1, r2, ?_⟩
  rcases hown.2 with ⟨rfl, rfl⟩ | ⟨g, cap, cur, rfl, hbg, hg, hnc, hcm, hcs, htake⟩
  · obtain ⟨v2, w2, hrun2, s1, _, _⟩ := run_append_own (P := P) w w.heap.size t ty e i z size bytes ht hi hz hsize hby hzs hsz (.slice none 0 0) 0 [] (World.ownsRow_nil w _ e size) a m c news hl hnews h1 h63 hbytes (Nat.le_refl _)
    rw [hrun] at hrun2
    injection hrun2 with e1 e2
    subst e1; subst e2
    exact fun k hk => Or.inr (s1.lt k hk).1
  · by_cases hroom : n + m ≤ cap
    · have hr := run_append_room (P := P) w t ty e i ht hi g n cap cur hg a m c news (by rw [hsize]; exact hl) hnews h1 hroom (by rw [hsize, hl, hcs, ← Nat.add_mul]; exact Nat.mul_le_mul_right _ hroom)
      rw [hrun] at hr
      injection hr with e1 e2
      subst e1
      exact fun k hk => Or.inl (by simpa [Value.ownBlock] using hk)
    · obtain ⟨v2, w2, hrun2, s1, _⟩ := run_append_arg_grows (P := P) w t ty e i z size bytes ht hi hz hsize hby hzs hsz ⟨g, 0, none⟩ n cap xs hown.1 (hown.cells (g := g) rfl) a m c news hl hnews (by omega) h63 hbytes
      rw [hrun] at hrun2
      injection hrun2 with e1 e2
      subst e1; subst e2
      exact fun k hk => Or.inr (s1.lt k hk).1

/-- 'append' to a slice that owns its row, as one step of a region that draws its order. -/
theorem step_append_own {P : Program} {ops : Array Oper} {o : Oper} {a : Act} {w : World} {K : Act → World → Prop} {Q : Exit → Act → World → Prop} {E : Prop}
    (hg : o.guard = none) (s x : Operand) (t : TypeId) (hop : o.op = Op.call { callee := Callee.builtin Builtin.append, args := #[s, x], argTypes := #[t, t] })
    (base : Nat) (e : TypeId) (i : TypeInfo) (z : Value) (size bytes : Nat) (h1 : P.underlying t = some (.slice e)) (h2 : P.info? e = some i) (h3 : i.zero = some z) (h4 : i.size = size) (h5 : i.bytes = bytes) (h6 : z.cells.size = size) (h7 : 0 < size)
    (v : Value) (n : Nat) (xs : List Value) (hs : a.eval s = v) (hown : w.ownsRow base e size v n xs)
    (ad : Addr) (m c : Nat) (news : List Value) (hx : a.eval x = .slice (some ad) m c) (hn : news.length = m * size) (hc : ∀ j u, news[j]? = some u → w.cell? (ad.add j) = some u) (h1c : ∀ u ∈ news, u.oneCell' = true)
    (b1 : n + m ≤ maxLen) (b2 : (n + m) * bytes ≤ 140737488355328) (hbase : base ≤ w.heap.size) (hm : 0 < n + m)
    (hK : ∀ g' cap' w', w'.ownsRow base e size (.slice (some ⟨g', 0, none⟩) (n + m) cap') (n + m) (xs ++ news) → w.grownBy w' v.ownBlock → (v.ownBlock = some g' ∨ w.heap.size ≤ g') → K (a.put o.dst (.slice (some ⟨g', 0, none⟩) (n + m) cap')) w') :
    if Region.wanted o (yielded ops a.tmps) = true then Oper.wp P o a w K Q else E := by
  have hw : Region.wanted o (yielded ops a.tmps) = true := by simp [Region.wanted, hg]
  rw [if_pos hw]
  obtain ⟨v', w', hrun, r1, r2, r3⟩ := run_append_own2 (P := P) w base t o.type e i z size bytes h1 h2 h3 h4 h5 h6 h7 v n xs hown ad m c news hn hc h1c b1 b2 hbase
  unfold Oper.wp
  simp [execOp, hop, resolve, invoke, builtin, hs, hx, hrun, Result.andThen]
  rcases r1.2 with ⟨_, h0⟩ | ⟨g', cap', _, rfl, _⟩
  · omega
  · exact hK g' cap' w' r1 r2 (r3 g' rfl)

theorem wpList_append_own2 {P : Program} (w : World) {ops : Array Oper} {rest : List Oper} {o : Oper} {a : Act} {Q : Exit → Act → World → Prop} (hgd : o.guard = none) (s x : Operand) (t : TypeId)
    (ho : o.op = .call { callee := .builtin .append, args := #[s, x], argTypes := #[t, t] })
    (base : Nat) (e : TypeId) (i : TypeInfo) (z : Value) (size bytes : Nat) (h1 : P.underlying t = some (.slice e)) (h2 : P.info? e = some i) (h3 : i.zero = some z) (h4 : i.size = size) (h5 : i.bytes = bytes) (h6 : z.cells.size = size) (h7 : 0 < size)
    (v : Value) (n : Nat) (xs : List Value) (hs : a.eval s = v) (hown : w.ownsRow base e size v n xs)
    (ad : Addr) (m c : Nat) (news : List Value) (hx : a.eval x = .slice (some ad) m c) (hn : news.length = m * size) (hc : ∀ j u, news[j]? = some u → w.cell? (ad.add j) = some u) (h1c : ∀ u ∈ news, u.oneCell' = true)
    (b1 : n + m ≤ maxLen) (b2 : (n + m) * bytes ≤ 140737488355328) (hbase : base ≤ w.heap.size) (hm : 0 < n + m)
    (h : ∀ g' cap' w', w'.ownsRow base e size (.slice (some ⟨g', 0, none⟩) (n + m) cap') (n + m) (xs ++ news) → w.grownBy w' v.ownBlock → (v.ownBlock = some g' ∨ w.heap.size ≤ g') → wpList P ops Q rest (a.put o.dst (.slice (some ⟨g', 0, none⟩) (n + m) cap')) w') :
    wpList P ops Q (o :: rest) a w :=
  wpList_plain hgd fun K hK => by
    obtain ⟨v', w', hrun, r1, r2, r3⟩ := run_append_own2 (P := P) w base t o.type e i z size bytes h1 h2 h3 h4 h5 h6 h7 v n xs hown ad m c news hn hc h1c b1 b2 hbase
    unfold Oper.wp execOp
    simp only [ho, resolve, invoke, builtin, Sem.run_bind, Sem.run_pure, Result.andThen_ok, List.map_toArray, List.map_cons, List.map_nil, hs, hx, hrun]
    rcases r1.2 with ⟨_, h0⟩ | ⟨g', cap', _, rfl, _⟩
    · omega
    · exact hK _ _ (h g' cap' w' r1 r2 (r3 g' rfl))

/-- Cells that lie in a row of their own. -/
theorem news_at {W : World} {b : Nat} {c : List Value} {t : TypeId} {fr : Nat × Nat} (h : W.heap[b]? = some (.cells c.toArray t fr)) : ∀ j u, c[j]? = some u → W.cell? ((⟨b, 0, none⟩ : Addr).add j) = some u := by
  intro j u hu
  have hadd : (⟨b, 0, none⟩ : Addr).add j = ⟨b, j, none⟩ := by unfold Addr.add; split <;> simp_all
  rw [hadd]
  simp [World.cell?, h, hu]

theorem hide {p : Prop} (h : p) : Hid p := h

theorem ret_int {k : IntKind} {a b : Int} (h : a = b) : Ending.returned (.int k a) = .returned (.int k b) := by rw [h]

theorem ret_bool {a b : Bool} (h : a = b) : Ending.returned (.bool a) = .returned (.bool b) := by rw [h]

theorem below_drawn {B : Nat} {a w : World} (h : Below B a w) (n : Nat) : Below B a (w.drewN n) := ⟨h.os, h.tape, h.output, h.size, h.block⟩

theorem below_alloc_call {w w1 w2 : World} {o1 : Obj} (h1 : Below w.heap.size w w1) (h2 : Below (w1.alloc o1).heap.size (w1.alloc o1) w2) : Below w.heap.size w w2 :=
  (h1.alloc h1.size o1).trans (h2.mono (by have := h1.size; simp; omega))

theorem below_call {w w1 w2 : World} (h1 : Below w.heap.size w w1) (h2 : Below w1.heap.size w1 w2) : Below w.heap.size w w2 :=
  h1.trans (h2.mono h1.size)

/-- A cell of the new block, behind a later call. -/
theorem new_cell {w1 w2 : World} {c : List Value} {t : TypeId} (h2 : Below (w1.alloc (.cells c.toArray t)).heap.size (w1.alloc (.cells c.toArray t)) w2) (j : Nat) : w2.cell? ⟨w1.heap.size, j, none⟩ = c[j]? := by
  rw [h2.cell (p := ⟨w1.heap.size, j, none⟩) (by simp)]
  unfold World.cell?
  rw [heap_alloc_new w1]
  simp

theorem new_lt {w1 w2 : World} {o : Obj} (h2 : Below (w1.alloc o).heap.size (w1.alloc o) w2) : w1.heap.size < w2.heap.size := by
  have := h2.size
  simp at this; omega

/-- w' is w with new blocks, and with writes into blocks of S alone. -/
structure Chg (S : Nat → Prop) (w w' : World) : Prop where
  os : w'.os = w.os
  tape : w'.tape = w.tape
  output : w'.output = w.output
  size : w.heap.size ≤ w'.heap.size
  block : ∀ k, k < w.heap.size → ¬ S k → w'.heap[k]? = w.heap[k]?

theorem Chg.refl (S : Nat → Prop) (w : World) : Chg S w w := ⟨rfl, rfl, rfl, Nat.le_refl _, fun _ _ _ => rfl⟩

theorem Chg.ofBelow {S : Nat → Prop} {w w' : World} (h : Below w.heap.size w w') : Chg S w w' := ⟨h.os, h.tape, h.output, h.size, fun k hk _ => h.block k hk⟩

/-- Two steps: what the second writes is what the first may write, or new since. -/
theorem Chg.trans {S S' : Nat → Prop} {a b c : World} (h : Chg S a b) (k : Chg S' b c) (hs : ∀ i, S' i → S i ∨ a.heap.size ≤ i) : Chg S a c :=
  ⟨k.os.trans h.os, k.tape.trans h.tape, k.output.trans h.output, Nat.le_trans h.size k.size,
    fun i hi hn => (k.block i (Nat.lt_of_lt_of_le hi h.size) (fun hS => (hs i hS).elim hn (fun hge => by omega))).trans (h.block i hi hn)⟩

theorem Chg.below {S : Nat → Prop} {B : Nat} {w w' : World} (h : Chg S w w') (hB : B ≤ w.heap.size) (hS : ∀ k, S k → B ≤ k) : Below B w w' :=
  ⟨h.os, h.tape, h.output, h.size, fun k hk => h.block k (by omega) (fun hk' => by have := hS k hk'; omega)⟩

theorem Chg.mono {S S' : Nat → Prop} {w w' : World} (h : Chg S w w') (hs : ∀ i, S i → S' i) : Chg S' w w' :=
  ⟨h.os, h.tape, h.output, h.size, fun k hk hn => h.block k hk (fun hk' => hn (hs k hk'))⟩

theorem Chg.setCell {S : Nat → Prop} {a w : World} (h : Chg S a w) {p : Addr} (hp : S p.block ∨ a.heap.size ≤ p.block) (u : Value) : Chg S a (w.setCell p u) :=
  ⟨h.os, h.tape, h.output, by simpa [World.setCell] using h.size, fun k hk hn => (Below.heap_setCell _ _ _ _ (by rcases hp with hp | hp; exact fun e => hn (e ▸ hp); omega)).trans (h.block k hk hn)⟩

theorem Chg.alloc {S : Nat → Prop} {a w : World} (h : Chg S a w) (o : Obj) : Chg S a (w.alloc o) :=
  ⟨h.os, h.tape, h.output, Nat.le_trans h.size (by simp), fun k hk hn => (Below.heap_alloc _ _ _ (Nat.lt_of_lt_of_le hk h.size)).trans (h.block k hk hn)⟩

theorem Chg.drew {S : Nat → Prop} {a w : World} (h : Chg S a w) : Chg S a w.drew := ⟨h.os, h.tape, h.output, h.size, h.block⟩

theorem Chg.grown {S : Nat → Prop} {a w w' : World} {row : Option Nat} (h : Chg S a w) (hg : w.grownBy w' row) (hr : ∀ k, row = some k → S k ∨ a.heap.size ≤ k) : Chg S a w' :=
  ⟨hg.os.trans h.os, hg.tape.trans h.tape, hg.output.trans h.output, Nat.le_trans h.size hg.size,
    fun k hk hn => (hg.block k (Nat.lt_of_lt_of_le hk h.size) (fun e => (hr k e.symm).elim hn (fun hge => by omega))).trans (h.block k hk hn)⟩

theorem Chg.ofGrown {S : Nat → Prop} {w W w' : World} {row : Option Nat} (hg : W.grownBy w' row) (h1 : W.os = w.os) (h2 : W.tape = w.tape) (h3 : W.output = w.output) (hsz : w.heap.size ≤ W.heap.size)
    (hW : ∀ k, k < w.heap.size → W.heap[k]? = w.heap[k]?) (hr : ∀ k, row = some k → S k ∨ w.heap.size ≤ k) : Chg S w w' :=
  Chg.grown (w := W) ⟨h1, h2, h3, hsz, fun k hk _ => hW k hk⟩ hg hr

theorem heap2_new (w : World) (o1 o2 : Obj) : ((w.alloc o1).alloc o2).heap[w.heap.size + 1]? = some o2 := by
  have := heap_alloc_new (w.alloc o1) o2
  simpa using this

theorem heap2_old (w : World) (o1 o2 : Obj) (k : Nat) (hk : k < w.heap.size) : ((w.alloc o1).alloc o2).heap[k]? = w.heap[k]? := by
  rw [Below.heap_alloc _ _ _ (by simp; omega), Below.heap_alloc _ _ _ hk]

theorem size2 (w : World) (o1 o2 : Obj) : ((w.alloc o1).alloc o2).heap.size = w.heap.size + 2 := by simp

def blockOf (ao : Option Addr) (k : Nat) : Prop := ∃ a, ao = some a ∧ a.block = k

theorem cell_setCell_same {w : World} {b o : Nat} {v u : Value} (h : w.cell? ⟨b, o, none⟩ = some v) : (w.setCell ⟨b, o, none⟩ u).cell? ⟨b, o, none⟩ = some u := by
  simp [h, go_sem]

theorem cell_setCell_ne {w : World} {b o b' o' : Nat} {u : Value} (h : b' ≠ b ∨ o' ≠ o) : (w.setCell ⟨b, o, none⟩ u).cell? ⟨b', o', none⟩ = w.cell? ⟨b', o', none⟩ := by
  refine World.cell?_setCell_other _ _ _ _ (fun e => ?_)
  injection e with e1 e2
  omega

theorem frozen_setCell (w : World) (p q : Addr) (u : Value) : (w.setCell p u).frozen? q = w.frozen? q := by
  simp [go_sem]

theorem cell_of_heap {w : World} {b : Nat} {c : Array Value} {t : TypeId} {fr : Nat × Nat} (h : w.heap[b]? = some (.cells c t fr)) (j : Nat) : w.cell? ⟨b, j, none⟩ = c[j]? := by
  simp [World.cell?, h]

theorem frozen_of_heap {w : World} {b : Nat} {c : Array Value} {t : TypeId} (h : w.heap[b]? = some (.cells c t (0, 0))) (j : Nat) : w.frozen? ⟨b, j, none⟩ = false := by
  simp [World.frozen?, h]

theorem below_set9 {B : Nat} {w wr : World} (hb : Below B w wr) {b : Nat} (h : B ≤ b) (v0 v1 v2 v3 v4 v5 v6 v7 v8 : Value) :
    Below B w (((((((((wr.setCell ⟨b, 0, none⟩ v0).setCell ⟨b, 1, none⟩ v1).setCell ⟨b, 2, none⟩ v2).setCell ⟨b, 3, none⟩ v3).setCell ⟨b, 4, none⟩ v4).setCell ⟨b, 5, none⟩ v5).setCell ⟨b, 6, none⟩ v6).setCell ⟨b, 7, none⟩ v7).setCell ⟨b, 8, none⟩ v8) :=
  ((((((((hb.setCell h _).setCell h _).setCell h _).setCell h _).setCell h _).setCell h _).setCell h _).setCell h _).setCell h _

end

section
open Go.RowKit

theorem flat_get {α : Type} (f : α → List Value) (n : Nat) (hf : ∀ x, (f x).length = n) (l : List α) (k j : Nat) (hk : k < l.length) (hj : j < n) : (l.flatMap f)[n * k + j]? = (f l[k])[j]? := by
  induction l generalizing k with
  | nil => simp at hk
  | cons x l ih =>
    have hl := hf x
    cases k with
    | zero =>
      rw [List.flatMap_cons, List.getElem?_append_left (by rw [hl]; omega)]
      simp
    | succ k =>
      rw [List.flatMap_cons, List.getElem?_append_right (by rw [hl, Nat.mul_succ]; omega), hl, show n * (k + 1) + j - n = n * k + j from by rw [Nat.mul_succ]; omega]
      rw [ih k (by simpa using hk)]
      simp

theorem flat_set {α : Type} (f : α → List Value) (n : Nat) (hf : ∀ x, (f x).length = n) (l : List α) (i j : Nat) (x : α) (u : Value) (hi : i < l.length) (hj : j < n) (hx : f x = (f l[i]).set j u) : (l.set i x).flatMap f = (l.flatMap f).set (i * n + j) u := by
  induction l generalizing i with
  | nil => simp at hi
  | cons y l ih =>
    have hl := hf y
    cases i with
    | zero =>
      have hx' : f x = (f y).set j u := hx
      rw [List.set_cons_zero, List.flatMap_cons, List.flatMap_cons, List.set_append_left _ _ (by rw [hl]; omega), hx']
      simp
    | succ i =>
      rw [List.set_cons_succ, List.flatMap_cons, List.flatMap_cons, List.set_append_right _ _ (by rw [hl, Nat.succ_mul]; omega), hl, ih i (by simpa using hi) (by simpa using hx), show (i + 1) * n + j - n = i * n + j from by rw [Nat.succ_mul]; omega]

theorem flat_same {α : Type} (f : α → List Value) (l : List α) (i : Nat) (x : α) (hi : i < l.length) (hx : f x = f l[i]) : (l.set i x).flatMap f = l.flatMap f := by
  induction l generalizing i with
  | nil => simp at hi
  | cons y l ih =>
    cases i with
    | zero =>
      have hx' : f x = f y := hx
      rw [List.set_cons_zero, List.flatMap_cons, List.flatMap_cons, hx']
    | succ i => rw [List.set_cons_succ, List.flatMap_cons, List.flatMap_cons, ih i (by simpa using hi) (by simpa using hx)]

theorem row_cell {w : World} {base : Nat} {e : TypeId} {α : Type} {f : α → List Value} {n : Nat} (hf : ∀ x, (f x).length = n) {ao : Option Addr} {cap : Nat} {l : List α}
    (own : w.ownsRow base e n (.slice ao l.length cap) l.length (l.flatMap f)) (k : Nat) (hk : k < l.length) :
    ∃ g, ao = some ⟨g, 0, none⟩ ∧ g < w.heap.size ∧ base ≤ g ∧ (∀ j u, (f l[k])[j]? = some u → w.cell? ⟨g, k * n + j, none⟩ = some u) ∧ ∀ j, w.frozen? ⟨g, j, none⟩ = false := by
  rcases own.2 with ⟨hn, h0⟩ | ⟨g, cp, cur, hv, hb, hg, _⟩
  · omega
  · have hao : ao = some ⟨g, 0, none⟩ := by injection hv
    refine ⟨g, hao, (Array.getElem?_eq_some_iff.1 hg).1, hb, ?_, fun j => frozen_of_heap hg _⟩
    intro j u hu
    have hj : j < n := by rw [← hf l[k]]; exact (List.getElem?_eq_some_iff.1 hu).1
    have hget := flat_get f n hf l k j hk hj
    have := own.cells (g := g) (by rw [hao]; rfl) (n * k + j) u (hget.trans hu)
    rw [← this]
    congr 1
    have hadd : (⟨g, 0, none⟩ : Addr).add (n * k + j) = ⟨g, n * k + j, none⟩ := by unfold Addr.add; split <;> simp_all
    rw [hadd, Nat.mul_comm]

/-- A row with one record more, and its header in the cell b, o. -/
def RowPush (ty size : Nat) (w w' : World) (base b o : Nat) (ao : Option Addr) (len : Nat) (xs news : List Value) : Prop :=
  ∃ g' cap' w1, w1.ownsRow base ty size (.slice (some ⟨g', 0, none⟩) (len + 1) cap') (len + 1) (xs ++ news) ∧ Chg (blockOf ao) w w1 ∧ (blockOf ao g' ∨ w.heap.size ≤ g') ∧
    w' = w1.setCell ⟨b, o, none⟩ (.slice (some ⟨g', 0, none⟩) (len + 1) cap')

theorem row_of {ao : Option Addr} {n c k : Nat} (h : Value.ownBlock (.slice ao n c) = some k) : blockOf ao k := by
  cases ao with
  | none => cases h
  | some a => exact ⟨a, rfl, by injection h⟩

theorem ownsRow_set {w : World} {base : Nat} {e : TypeId} {size g n cap : Nat} {xs : List Value} (h : w.ownsRow base e size (.slice (some ⟨g, 0, none⟩) n cap) n xs) (j : Nat) (u : Value) :
    (w.setCell ⟨g, j, none⟩ u).ownsRow base e size (.slice (some ⟨g, 0, none⟩) n cap) n (xs.set j u) := by
  refine ⟨by rw [List.length_set]; exact h.1, ?_⟩
  rcases h.2 with ⟨h0, _⟩ | ⟨g1, cp, cur, hv, hb, hg, h1, h2, h3, h4⟩
  · cases h0
  · have e1 : g = g1 := by injection hv with e1 _ _; injection e1 with e1; injection e1
    subst e1
    refine Or.inr ⟨g, cp, cur.setIfInBounds j u, hv, hb, ?_, h1, h2, by rw [Array.size_setIfInBounds]; exact h3, ?_⟩
    · simp [World.setCell, Array.getElem?_modify, hg]
    · rw [Array.toList_setIfInBounds, List.take_set, h4]

theorem ownsRow_keep' {w w' : World} {base : Nat} {e : TypeId} {size m : Nat} {v : Value} {xs : List Value} (h : w.ownsRow base e size v m xs) (hb : Below w.heap.size w w') : w'.ownsRow base e size v m xs := by
  refine ⟨h.1, ?_⟩
  rcases h.2 with h0 | ⟨g, cp, cur, hv, hg0, hg, r⟩
  · exact Or.inl h0
  · refine Or.inr ⟨g, cp, cur, hv, hg0, ?_, r⟩
    rw [hb.block g (Array.getElem?_eq_some_iff.1 hg).1]; exact hg

section
variable {w w' : World}

theorem blockOf_lt {base : Nat} {e : TypeId} {size n c m : Nat} {ao : Option Addr} {xs : List Value} (h : w.ownsRow base e size (.slice ao n c) m xs) {k : Nat} (hk : blockOf ao k) : base ≤ k ∧ k < w.heap.size := by
  obtain ⟨a, rfl, rfl⟩ := hk
  exact h.lt a.block rfl

theorem blockOf_heap {base : Nat} {e : TypeId} {size n c m : Nat} {ao : Option Addr} {xs : List Value} (h : w.ownsRow base e size (.slice ao n c) m xs) {k : Nat} (hk : blockOf ao k) : ∃ cur, w.heap[k]? = some (.cells cur e (0, 0)) := by
  obtain ⟨a, rfl, rfl⟩ := hk
  rcases h.2 with ⟨h0, _⟩ | ⟨g, cp, cur, hv, _, hg, _⟩
  · cases h0
  · injection hv with e1 _ _
    injection e1 with e1
    subst e1
    exact ⟨cur, hg⟩

/-- Rows of two types lie in two blocks. -/
theorem blocks_apart {b1 b2 : Nat} {e1 e2 : TypeId} {s1 s2 n1 n2 c1 c2 m1 m2 : Nat} {a1 a2 : Option Addr} {x1 x2 : List Value} (h1 : w.ownsRow b1 e1 s1 (.slice a1 n1 c1) m1 x1) (h2 : w.ownsRow b2 e2 s2 (.slice a2 n2 c2) m2 x2) (hne : e1 ≠ e2) {k : Nat} (k1 : blockOf a1 k) : ¬ blockOf a2 k := by
  intro k2
  obtain ⟨c1, q1⟩ := blockOf_heap h1 k1
  obtain ⟨c2, q2⟩ := blockOf_heap h2 k2
  rw [q1] at q2
  injection q2 with q
  injection q with _ q _
  exact hne q

theorem ownsRow_keep {base : Nat} {e : TypeId} {size n c m : Nat} {ao : Option Addr} {xs : List Value} (h : w.ownsRow base e size (.slice ao n c) m xs) (hk : ∀ k, blockOf ao k → w'.heap[k]? = w.heap[k]?) : w'.ownsRow base e size (.slice ao n c) m xs := by
  refine ⟨h.1, ?_⟩
  rcases h.2 with h0 | ⟨g, cp, cur, hv, hb, hg, r⟩
  · exact Or.inl h0
  · refine Or.inr ⟨g, cp, cur, hv, hb, ?_, r⟩
    have hao : ao = some ⟨g, 0, none⟩ := by injection hv
    rw [hk g ⟨_, hao, rfl⟩]; exact hg

theorem ownsRow_setCell_other {base : Nat} {e : TypeId} {size n c m : Nat} {ao : Option Addr} {xs : List Value} (h : w.ownsRow base e size (.slice ao n c) m xs) {a : Addr} (ha : ¬ blockOf ao a.block) (u : Value) : (w.setCell a u).ownsRow base e size (.slice ao n c) m xs :=
  ownsRow_keep h fun _ hk => Below.heap_setCell _ _ _ _ (fun e => ha (e ▸ hk))

/-- A row that was made above a bound is one above any lower bound. -/
theorem ownsRow_base {base base' : Nat} {e : TypeId} {size m : Nat} {v : Value} {xs : List Value} (h : w.ownsRow base e size v m xs) (hb : base' ≤ base) : w.ownsRow base' e size v m xs := by
  refine ⟨h.1, ?_⟩
  rcases h.2 with h0 | ⟨g, cp, cur, hv, hb0, r⟩
  · exact Or.inl h0
  · exact Or.inr ⟨g, cp, cur, hv, Nat.le_trans hb hb0, r⟩

end

theorem find_cases {α : Type} (p : α → Bool) (l : List α) :
    (∃ i, ∃ hi : i < l.length, p l[i] = true ∧ (∀ j, (hj : j < l.length) → j < i → p l[j] = false) ∧ l.find? p = some l[i]) ∨
    ((∀ j, (hj : j < l.length) → p l[j] = false) ∧ l.find? p = none) := by
  induction l with
  | nil => exact Or.inr ⟨fun j hj => by simp at hj, rfl⟩
  | cons t ts ih =>
    cases hb : p t with
    | true => exact Or.inl ⟨0, by simp, by simpa using hb, fun j _ h => by omega, by simp [hb]⟩
    | false =>
      rcases ih with ⟨i, hi, h1, h2, h3⟩ | ⟨h1, h2⟩
      · refine Or.inl ⟨i + 1, by simp; omega, by simpa using h1, ?_, ?_⟩
        · intro j hj hlt
          cases j with
          | zero => simpa using hb
          | succ j => simpa using h2 j (by simpa using hj) (by omega)
        · simp [hb, h3]
      · refine Or.inr ⟨?_, ?_⟩
        · intro j hj
          cases j with
          | zero => simpa using hb
          | succ j => simpa using h1 j (by simpa using hj)
        · simp [hb, h2]

end

end Go.Proofs.YtgcldedkempjhabGreatDoor
