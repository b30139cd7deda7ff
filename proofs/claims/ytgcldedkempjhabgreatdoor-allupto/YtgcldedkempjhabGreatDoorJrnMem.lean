/-
  A row of bytes behind a cell: what 'append' of a text leaves of it; and a table of the library's that stays as it is.
-/
import Derived.Test.YtgcldedkempjhabGreatDoorRows
import Derived.Test.YtgcldedkempjhabGreatDoorBaseRow
import Derived.Lib.AppendStr
import Derived.Lib.UnsafeStr
import Derived.Lib.ItoaNum
namespace Go.Proofs.YtgcldedkempjhabGreatDoor
open Go.RowKit

/-- strconv's table of the powers of ten reads as the program's text lays it. -/
def TabOk (w : World) : Prop := ∃ t fr, w.heap[0]? = some (.cells (Lib.pow10Tab.map fun z => Value.int .u64 z).toArray t fr)

abbrev tabB : Nat := 0

theorem TabOk.keep {w w' : World} (h : TabOk w) (hk : w'.heap[tabB]? = w.heap[tabB]?) : TabOk w' := by
  obtain ⟨t, fr, h⟩ := h
  exact ⟨t, fr, hk.trans h⟩

theorem TabOk.lt {w : World} (h : TabOk w) : tabB < w.heap.size := by
  obtain ⟨t, fr, h⟩ := h
  exact (Array.getElem?_eq_some_iff.1 h).1

theorem TabOk.below {w w' : World} (h : TabOk w) (hb : Below w.heap.size w w') : TabOk w' := h.keep (hb.block _ h.lt)

def bCells (l : List UInt8) : List Value := l.map fun b => Value.int .u8 b.toNat

theorem bCells_append (a b : List UInt8) : bCells (a ++ b) = bCells a ++ bCells b := List.map_append

theorem bCells_str (s : ByteArray) : Lib.strCells s = bCells s.data.toList := rfl

theorem bCells_length (l : List UInt8) : (bCells l).length = l.length := List.length_map ..

/-- A row of bytes, its header in the cell b, o. -/
structure JAt (w : World) (base b o : Nat) (ao : Option Addr) (cap : Nat) (log : List UInt8) : Prop where
  c : w.cell? ⟨b, o, none⟩ = some (.slice ao log.length cap)
  f : w.frozen? ⟨b, o, none⟩ = false
  own : w.ownsRow base 5 1 (.slice ao log.length cap) log.length (bCells log)

theorem JAt.lt {w : World} {base b o : Nat} {ao : Option Addr} {cap : Nat} {log : List UInt8} (h : JAt w base b o ao cap log) : b < w.heap.size := World.block_lt_of_cell? w _ h.c

theorem heap_setCell_congr {w w' : World} {b : Nat} (h : w'.heap[b]? = w.heap[b]?) (a : Addr) (v : Value) : (w'.setCell a v).heap[b]? = (w.setCell a v).heap[b]? := by
  simp only [World.setCell, Array.getElem?_modify, h]

theorem heap_setCell_twice (w : World) (b o : Nat) (v u : Value) (k : Nat) : ((w.setCell ⟨b, o, none⟩ v).setCell ⟨b, o, none⟩ u).heap[k]? = (w.setCell ⟨b, o, none⟩ u).heap[k]? := by
  simp only [World.setCell, Array.getElem?_modify]
  by_cases hk : b = k
  · subst hk
    simp only [if_true]
    cases h : w.heap[b]? with
    | none => rfl
    | some x => cases x <;> simp
  · simp [hk]

/-- Bytes were laid behind a row: it lies where it lay, or in a new block; its header is written. -/
def JPush (w w' : World) (base b o : Nat) (ao : Option Addr) (log news : List UInt8) : Prop :=
  ∃ ao' cap', JAt w' base b o ao' cap' (log ++ news) ∧ Chg (blockOf ao) (w.setCell ⟨b, o, none⟩ (.slice ao' (log ++ news).length cap')) w' ∧ ∀ k, blockOf ao' k → blockOf ao k ∨ w.heap.size ≤ k

theorem JPush.size {w w' : World} {base b o : Nat} {ao : Option Addr} {log news : List UInt8} (h : JPush w w' base b o ao log news) : w.heap.size ≤ w'.heap.size := by
  obtain ⟨ao', cap', _, h, _⟩ := h
  simpa [World.setCell] using h.size

theorem JPush.block {w w' : World} {base b o : Nat} {ao : Option Addr} {log news : List UInt8} (h : JPush w w' base b o ao log news) {k : Nat} (hk : k < w.heap.size) (hb : k ≠ b) (hn : ¬ blockOf ao k) : w'.heap[k]? = w.heap[k]? := by
  obtain ⟨ao', cap', _, h, _⟩ := h
  rw [h.block k (by simpa [World.setCell] using hk) hn]
  exact Below.heap_setCell _ _ _ _ hb

theorem JPush.tab {w w' : World} {base b o : Nat} {ao : Option Addr} {cap : Nat} {log news : List UInt8} (h : JPush w w' base b o ao log news) (hj : JAt w base b o ao cap log) (ht : TabOk w) (h1 : tabB < base) (h2 : tabB < b) : TabOk w' :=
  ht.keep (h.block ht.lt (by omega) (fun hk => by have := (blockOf_lt hj.own hk).1; omega))

/-- Laid twice. -/
theorem JPush.trans {w w' w'' : World} {base b o : Nat} {ao ao' : Option Addr} {cap' : Nat} {log n1 n2 : List UInt8}
    (hx : JAt w' base b o ao' cap' (log ++ n1)) (hc : Chg (blockOf ao) (w.setCell ⟨b, o, none⟩ (.slice ao' (log ++ n1).length cap')) w') (hao : ∀ k, blockOf ao' k → blockOf ao k ∨ w.heap.size ≤ k)
    (h2 : JPush w' w'' base b o ao' (log ++ n1) n2) : JPush w w'' base b o ao log (n1 ++ n2) := by
  obtain ⟨a2, c2, j2, g2, k2⟩ := h2
  have hs1 : w.heap.size ≤ w'.heap.size := by simpa [World.setCell] using hc.size
  have hs2 : w'.heap.size ≤ w''.heap.size := by simpa [World.setCell] using g2.size
  refine ⟨a2, c2, by rw [← List.append_assoc]; exact j2, ⟨g2.os.trans hc.os, g2.tape.trans hc.tape, g2.output.trans hc.output, ?_, ?_⟩, ?_⟩
  · simp only [World.setCell, Array.size_modify]; omega
  · intro k hk hn
    have hk' : k < w.heap.size := by simpa [World.setCell] using hk
    have hn' : ¬ blockOf ao' k := fun h => (hao k h).elim hn (fun h => by omega)
    rw [g2.block k (by simp only [World.setCell, Array.size_modify]; omega) hn', ← List.append_assoc]
    have e1 := hc.block k (by simpa [World.setCell] using hk') hn
    by_cases hb : k = b
    · subst hb
      rw [heap_setCell_congr e1, heap_setCell_twice]
    · rw [Below.heap_setCell _ _ _ _ hb, e1, Below.heap_setCell _ _ _ _ hb, Below.heap_setCell _ _ _ _ hb]
  · intro k hk
    rcases k2 k hk with h | h
    · exact hao k h
    · exact Or.inr (by omega)

/-- 'append' of a text to a row of bytes: it stays in its block, or lies in a new one. -/
theorem run_append_own_string2 {P : Program} (w : World) (base : Nat) (t u ty e : TypeId) (i : TypeInfo) (ht : P.underlying t = some (.slice e)) (hu : P.underlying u = some .string) (hi : P.info? e = some i) (hz : i.zero = some (.int .u8 0))
    (hsize : i.size = 1) (hby : i.bytes = 1) (v : Value) (n : Nat) (xs : List Value) (hown : w.ownsRow base e 1 v n xs) (s : ByteArray)
    (h63 : n + s.size ≤ maxLen) (hbytes : n + s.size ≤ 140737488355328) (hbase : base ≤ w.heap.size) :
    ∃ v' w', (Builtin.append_ #[t, u] ty #[v, .string s]).run P w = .ok v' w' ∧ w'.ownsRow base e 1 v' (n + s.size) (xs ++ Lib.strCells s) ∧ w.grownBy w' v.ownBlock ∧
      (∀ k, v'.ownBlock = some k → v.ownBlock = some k ∨ w.heap.size ≤ k) := by
  obtain ⟨v', w', hrun, r1, r2, _⟩ := Lib.run_append_own_string (P := P) w base t u ty e i ht hu hi hz hsize hby v n xs hown s h63 hbytes hbase
  refine ⟨v', w', hrun, r1, r2, ?_⟩
  rcases hown.2 with ⟨rfl, rfl⟩ | ⟨g, cap, cur, rfl, hbg, hg, hnc, hcm, hcs, htake⟩
  · obtain ⟨v2, w2, hrun2, s1, _, _⟩ := Lib.run_append_own_string (P := P) w w.heap.size t u ty e i ht hu hi hz hsize hby (.slice none 0 0) 0 [] (World.ownsRow_nil w _ e 1) s h63 hbytes (Nat.le_refl _)
    rw [hrun] at hrun2
    injection hrun2 with e1 e2
    subst e1; subst e2
    exact fun k hk => Or.inr (s1.lt k hk).1
  · by_cases hroom : n + s.size ≤ cap
    · have hr := Lib.run_append_room_string (P := P) w t u ty e i ht hu hi hsize g n cap cur hg s hroom (by rw [hcs]; omega)
      rw [hrun] at hr
      injection hr with e1 e2
      subst e1
      exact fun k hk => Or.inl (by simpa [Value.ownBlock] using hk)
    · have hxl : xs.length = n := by simpa using hown.1
      have holds : ∀ j u, xs[j]? = some u → w.cell? ((⟨g, 0, none⟩ : Addr).add j) = some u := hown.cells (g := g) rfl
      have hr := Lib.run_append_grow_string (P := P) w t u ty e i (.int .u8 0) ht hu hi hz ⟨g, 0, none⟩ n cap xs (by rw [hsize]; simpa using hxl) holds s (by omega) (by unfold maxLen at h63; omega) (by rw [hby]; exact growslice_fits (by omega) (by omega))
      rw [hrun] at hr
      injection hr with e1 e2
      subst e1
      exact fun k hk => Or.inr (by simp [Value.ownBlock] at hk; omega)

theorem wpList_append_own_string2 {P : Program} (w : World) {ops : Array Oper} {rest : List Oper} {o : Oper} {a : Act} {Q : Exit → Act → World → Prop} (hgd : o.guard = none) (sl x : Operand) (t u : TypeId)
    (ho : o.op = .call { callee := .builtin .append, args := #[sl, x], argTypes := #[t, u] })
    (base : Nat) (e : TypeId) (i : TypeInfo) (ht : P.underlying t = some (.slice e)) (hu : P.underlying u = some .string) (hi : P.info? e = some i) (hz : i.zero = some (.int .u8 0))
    (hsize : i.size = 1) (hby : i.bytes = 1)
    (v : Value) (n : Nat) (xs : List Value) (hs : a.eval sl = v) (hown : w.ownsRow base e 1 v n xs) (s : ByteArray) (hx : a.eval x = .string s)
    (h63 : n + s.size ≤ maxLen) (hbytes : n + s.size ≤ 140737488355328) (hbase : base ≤ w.heap.size)
    (h : ∀ ao' cap' w', w'.ownsRow base e 1 (.slice ao' (n + s.size) cap') (n + s.size) (xs ++ Lib.strCells s) → w.grownBy w' v.ownBlock → (∀ k, blockOf ao' k → v.ownBlock = some k ∨ w.heap.size ≤ k) → wpList P ops Q rest (a.put o.dst (.slice ao' (n + s.size) cap')) w') :
    wpList P ops Q (o :: rest) a w :=
  wpList_plain hgd fun K hK => by
    obtain ⟨v', w', hrun, r1, r2, r3⟩ := run_append_own_string2 (P := P) w base t u o.type e i ht hu hi hz hsize hby v n xs hown s h63 hbytes hbase
    unfold Oper.wp execOp
    simp only [ho, resolve, invoke, builtin, Sem.run_bind, Sem.run_pure, Result.andThen_ok, List.map_toArray, List.map_cons, List.map_nil, hs, hx, hrun]
    have h' : ∀ ao' cap', v' = .slice ao' (n + s.size) cap' → K (a.put o.dst v') w' := by
      rintro ao' cap' rfl
      exact hK _ _ (h ao' cap' w' r1 r2 (fun k ⟨b, e1, e2⟩ => r3 k (by rw [e1, ← e2]; rfl)))
    rcases r1.2 with ⟨hv, h0⟩ | ⟨g', cap', _, hv, _⟩
    · exact h' none 0 (by rw [hv, h0])
    · exact h' _ _ hv

end Go.Proofs.YtgcldedkempjhabGreatDoor
