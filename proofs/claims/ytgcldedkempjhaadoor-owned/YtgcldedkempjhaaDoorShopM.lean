/-
  depotkeep: shop: a depot, with these items.
-/
import Derived.Test.YtgcldedkempjhaaDoorShopR
import Derived.Deep.DeepCutAuto
namespace Go.Proofs.YtgcldedkempjhaaDoor
section
open Go.RowKit

theorem raw_step {W w2 : World} {b : Nat} {v0 v1 v2 v3 : Value} (h : W.cell? ⟨b, 0, none⟩ = some v0 ∧ W.cell? ⟨b, 1, none⟩ = some v1 ∧ W.cell? ⟨b, 2, none⟩ = some v2 ∧ W.cell? ⟨b, 3, none⟩ = some v3) (hb : Below W.heap.size W w2) :
    w2.cell? ⟨b, 0, none⟩ = some v0 ∧ w2.cell? ⟨b, 1, none⟩ = some v1 ∧ w2.cell? ⟨b, 2, none⟩ = some v2 ∧ w2.cell? ⟨b, 3, none⟩ = some v3 := by
  have hg : b < W.heap.size := World.block_lt_of_cell? W ⟨b, 0, none⟩ h.1
  have hk := hb.block b hg
  exact ⟨(World.cell?_of_block hk).trans h.1, (World.cell?_of_block hk).trans h.2.1, (World.cell?_of_block hk).trans h.2.2.1, (World.cell?_of_block hk).trans h.2.2.2⟩

theorem RNds.step {w W : World} {so : Option Addr} {len : Nat} {f : Nat → RNd} (h : RNds w so len f) (hb : Below w.heap.size w W) : RNds W so len f := by
  intro i h1 h2
  obtain ⟨g, o, e, hg, hx, hok⟩ := h i h1 h2
  exact ⟨g, o, e, Nat.lt_of_lt_of_le hg hb.size, hx.keep (hb.block g hg), hok⟩

theorem item_zero {w2 : World} {b : Nat} (hit : w2.heap[b]? = some (.cells #[.int .i64 0, .int .i64 0, .bool false, .slice none 0 0] 65 (0, 0))) :
    w2.cell? ⟨b, 0, none⟩ = some (.int .i64 0) ∧ w2.cell? ⟨b, 1, none⟩ = some (.int .i64 0) ∧ w2.cell? ⟨b, 2, none⟩ = some (.bool false) ∧ w2.cell? ⟨b, 3, none⟩ = some (.slice none 0 0) ∧
    w2.frozen? ⟨b, 0, none⟩ = false ∧ w2.frozen? ⟨b, 1, none⟩ = false ∧ w2.frozen? ⟨b, 2, none⟩ = false ∧ w2.frozen? ⟨b, 3, none⟩ = false :=
  ⟨cell_of_heap hit 0, cell_of_heap hit 1, cell_of_heap hit 2, cell_of_heap hit 3, frozen_of_heap hit _, frozen_of_heap hit _, frozen_of_heap hit _, frozen_of_heap hit _⟩

/-- The item within the bounds, in its own block, with its wants' row. -/
structure LetBox (w wx : World) (ob : Nat) (pn pv : Nat) (Y : Bool) (ro : Option Addr) (rc : Nat) (l : List Nd) : Prop where
  hit : wx.heap[ob]? = some (.cells #[.int .i64 pn, .int .i64 (1 + (pv : Int)), .bool Y, .slice ro l.length rc] 65 (0, 0))
  ge : w.heap.size ≤ ob
  row : wx.ownsRow w.heap.size 62 3 (.slice ro l.length rc) l.length (ndsCells l)
  bel : Below w.heap.size w wx

theorem box_late {w W w2 : World} {pn pv : Nat} {Y : Bool} {ro : Option Addr} {rc : Nat} {l : List Nd} (hb : Below w.heap.size w w2) (hW : w.heap.size ≤ W.heap.size)
    (hrow : w2.ownsRow W.heap.size 62 3 (.slice ro l.length rc) l.length (ndsCells l)) :
    LetBox w (w2.alloc (.cells #[.int .i64 pn, .int .i64 (1 + (pv : Int)), .bool Y, .slice ro l.length rc] 65)) w2.heap.size pn pv Y ro rc l :=
  ⟨heap1_new _ _, hb.size, ownsRow_base (hrow.alloc _) hW, hb.alloc hb.size _⟩

theorem box_early {w W w2 : World} {pn pv : Nat} {Y : Bool} {ro : Option Addr} {rc : Nat} {l : List Nd} (hb : Below w.heap.size w w2) (hW : W.heap.size = w.heap.size + 2)
    (hit : w2.heap[w.heap.size + 1]? = some (.cells #[.int .i64 0, .int .i64 0, .bool false, .slice none 0 0] 65 (0, 0)))
    (hrow : w2.ownsRow W.heap.size 62 3 (.slice ro l.length rc) l.length (ndsCells l)) :
    LetBox w ((((w2.setCell ⟨w.heap.size + 1, 0, none⟩ (.int .i64 pn)).setCell ⟨w.heap.size + 1, 1, none⟩ (.int .i64 (1 + (pv : Int)))).setCell ⟨w.heap.size + 1, 2, none⟩ (.bool Y)).setCell ⟨w.heap.size + 1, 3, none⟩ (.slice ro l.length rc)) (w.heap.size + 1) pn pv Y ro rc l := by
  have hn : ¬ blockOf ro (w.heap.size + 1) := fun h => by have := (blockOf_lt hrow h).1; omega
  refine ⟨?_, Nat.le_succ _, ownsRow_base (ownsRow_setCell_other (ownsRow_setCell_other (ownsRow_setCell_other (ownsRow_setCell_other hrow hn _) hn _) hn _) hn _) (by omega), ?_⟩
  · simp [World.setCell, Array.getElem?_modify, hit]
  · have h0 := Nat.le_succ w.heap.size
    exact (((hb.setCell h0 _).setCell h0 _).setCell h0 _).setCell h0 _

theorem own_both (is : List It) : is.length = ownN true is + ownN false is := by
  induction is with
  | nil => rfl
  | cons x t ih =>
    unfold ownN at *
    rw [List.countP_cons, List.countP_cons, List.length_cons, ih]
    cases decide (3 ≤ x.n) <;> simp <;> omega

/-- The wants of an item, in memory. -/
def ItRow (w : World) (sb : Nat) (x : It) : Prop := ∃ ro rc, x.wv = .slice ro x.ws.length rc ∧ w.ownsRow (sb + 1) 62 3 (.slice ro x.ws.length rc) x.ws.length (ndsCells x.ws)

def ItRows (is : List It) (k : Nat) : Prop := ∃ x ∈ is, ∃ ro n c, x.wv = .slice ro n c ∧ blockOf ro k

/-- A shop, its depot, and what they hold. -/
structure ShopInv (w : World) (sb db : Nat) (D : DepD) (ao : Option Addr) (cap : Nat) (is : List It) : Prop where
  dep : DepAt w db D
  shop : ShopAt w sb db ao cap is
  pure : D.pure = shopP is []
  ok : ItsOk is
  m1 : ownN true is ≤ 12
  m2 : ownN false is ≤ 24
  apart : ∀ k, DepFoot db D k → ¬ ShopFoot sb ao k
  rows : ∀ x ∈ is, ItRow w sb x
  nds : ∀ x ∈ is, x.ws.length ≤ 6 ∧ ∀ y ∈ x.ws, NdOk y
  far : ∀ k, ItRows is k → ¬ DepFoot db D k ∧ ¬ ShopFoot sb ao k
  tsb : tabB < sb

def ShopFeet (sb db : Nat) (D : DepD) (ao : Option Addr) (k : Nat) : Prop := DepFoot db D k ∨ ShopFoot sb ao k

/-- An item without its place in memory. -/
structure Cr where
  n : Nat
  v : Nat
  y : Bool
  ws : List Nd

def It.cr (x : It) : Cr := ⟨x.n, x.v, x.y, x.ws⟩

def crOwn (own : Bool) (cs : List Cr) : Nat := cs.countP fun x => decide (3 ≤ x.n) == own

/-- What is there behind a version more. -/
def letC (cs : List Cr) (n v : Nat) (y : Bool) (l : List Nd) : List Cr :=
  if (cs.any fun x => x.n == n && x.v == v) then cs else
  if (if 3 ≤ n then 12 else 24) ≤ crOwn (decide (3 ≤ n)) cs then cs else cs ++ [⟨n, v, y && decide (3 ≤ n), l⟩]

theorem crOwn_map (own : Bool) (is : List It) : crOwn own (is.map It.cr) = ownN own is := by
  unfold crOwn ownN
  rw [List.countP_map]
  rfl

theorem any_cr (is : List It) (n v : Nat) : ((is.map It.cr).any fun x => x.n == n && x.v == v) = (is.find? (itP n v)).isSome := by
  rw [List.any_map, Bool.eq_iff_iff, List.any_eq_true, List.find?_isSome]
  rfl

theorem letC_taken {is : List It} {n v : Nat} (y : Bool) (l : List Nd) (h : (is.find? (itP n v)).isSome = true) : letC (is.map It.cr) n v y l = is.map It.cr := by
  unfold letC
  rw [any_cr, h, if_pos rfl]

theorem letC_room {is : List It} {n v : Nat} (y : Bool) (l : List Nd) (h : (if 3 ≤ n then 12 else 24) ≤ ownN (decide (3 ≤ n)) is) : letC (is.map It.cr) n v y l = is.map It.cr := by
  unfold letC
  rw [crOwn_map, if_pos h]
  split <;> rfl

theorem letC_push {is : List It} {n v : Nat} (y : Bool) (l : List Nd) (wv : Value) (h0 : is.find? (itP n v) = none) (h : ¬ (if 3 ≤ n then 12 else 24) ≤ ownN (decide (3 ≤ n)) is) (z : Bool) (hz : z = (y && decide (3 ≤ n))) :
    letC (is.map It.cr) n v y l = (is ++ [(⟨n, v, z, wv, l⟩ : It)]).map It.cr := by
  unfold letC
  rw [any_cr, h0, if_neg (by decide), crOwn_map, if_neg h, List.map_append, hz]
  rfl

/-- A shop behind a step. -/
def ShopNext (w w' : World) (sb db : Nat) (D : DepD) (ao : Option Addr) (is : List It) (cs : List Cr) : Prop :=
  ∃ D' ao' cap' is', ShopInv w' sb db D' ao' cap' is' ∧ is'.map It.cr = cs ∧ Chg (ShopFeet sb db D ao) w w' ∧ (∀ k, ShopFeet sb db D' ao' k → ShopFeet sb db D ao k ∨ w.heap.size ≤ k) ∧ ∀ k, ItRows is' k → ItRows is k ∨ w.heap.size ≤ k

theorem ItRow.keep {w w' : World} {sb : Nat} {is : List It} {x : It} (h : ItRow w sb x) (hx : x ∈ is) (hk : ∀ k, ItRows is k → k < w.heap.size → w'.heap[k]? = w.heap[k]?) : ItRow w' sb x := by
  obtain ⟨ro, rc, e, ho⟩ := h
  exact ⟨ro, rc, e, ownsRow_keep ho fun k q => hk k ⟨x, hx, ro, _, _, e, q⟩ (blockOf_lt ho q).2⟩

theorem ItRow.lt {w : World} {sb : Nat} {is : List It} (h : ∀ x ∈ is, ItRow w sb x) {k : Nat} (hk : ItRows is k) : k < w.heap.size := by
  obtain ⟨x, hx, ro, n, c, e, q⟩ := hk
  obtain ⟨ro', rc', e', ho⟩ := h x hx
  rw [e] at e'
  cases e'
  exact (blockOf_lt ho q).2

theorem nameK_own {n : Nat} (hn : 3 ≤ n) (hn6 : n < 6) : (nameK n).size = 3 ∧ (nameK n).extract 2 3 = labK n := by
  have h1 : n = 3 ∨ n = 4 ∨ n = 5 := by omega
  rcases h1 with rfl | rfl | rfl <;> exact ⟨rfl, by decide⟩

/-- Behind a call of the depot the shop is as it was. -/
theorem ShopAt.chg {w w' : World} {sb db : Nat} {D : DepD} {ao : Option Addr} {cap : Nat} {is : List It} (h : ShopAt w sb db ao cap is) (hc : Chg (DepFoot db D) w w') (ha : ∀ k, DepFoot db D k → ¬ ShopFoot sb ao k) : ShopAt w' sb db ao cap is :=
  h.keep fun k hk => hc.block k (h.foot hk).2 fun hd => ha k hd hk

theorem below_same {w1 W w2 : World} (h2 : Below W.heap.size W w2) (e1 : W.heap = w1.heap) (e2 : W.os = w1.os) (e3 : W.tape = w1.tape) (e4 : W.output = w1.output) : Below w1.heap.size w1 w2 := by
  refine ⟨h2.os.trans e2, h2.tape.trans e3, h2.output.trans e4, ?_, ?_⟩
  · have := h2.size; rw [e1] at this; exact this
  · intro k hk
    rw [h2.block k (by rw [e1]; exact hk), e1]

/-- Behind Publish or Feed: the depot, the shop, the item. -/
structure LetMid (w wx : World) (sb db : Nat) (D : DepD) (ob : Nat) (P' : PDep) (ao : Option Addr) (cap : Nat) (is : List It) (cs : Array Value) (ro : Option Addr) (rc : Nat) (l : List Nd) : Prop where
  dep : ∃ D2, DepAt wx db D2 ∧ D2.pure = P' ∧ (∀ k, DepFoot db D2 k → DepFoot db D k ∨ w.heap.size ≤ k) ∧ (∀ k, DepFoot db D2 k → ¬ ShopFoot sb ao k) ∧ ¬ DepFoot db D2 ob ∧ (∀ k, blockOf ro k → ¬ DepFoot db D2 k) ∧ ∀ k, k < w.heap.size → ¬ DepFoot db D k → ¬ DepFoot db D2 k
  chg : Chg (DepFoot db D) w wx
  shop : ShopAt wx sb db ao cap is
  hit : wx.heap[ob]? = some (.cells cs 65 (0, 0))
  row : wx.ownsRow w.heap.size 62 3 (.slice ro l.length rc) l.length (ndsCells l)

theorem mid_of {w w1 W w2 : World} {sb db ob : Nat} {D : DepD} {ao : Option Addr} {cap : Nat} {is : List It} {cs : Array Value} {P' : PDep} {ro : Option Addr} {rc : Nat} {l : List Nd} (hr : ShopAt w1 sb db ao cap is) (hit : w1.heap[ob]? = some (.cells cs 65 (0, 0))) (hbel : Below w.heap.size w w1) (hd0 : DepAt w db D)
    (hrow : w1.ownsRow w.heap.size 62 3 (.slice ro l.length rc) l.length (ndsCells l))
    (ha : ∀ k, DepFoot db D k → ¬ ShopFoot sb ao k) (hge : w.heap.size ≤ ob) (hst : DepStep W w2 db D P') (e1 : W.heap = w1.heap) (e2 : W.os = w1.os) (e3 : W.tape = w1.tape) (e4 : W.output = w1.output) :
    ShopAt w2 sb db ao cap is ∧ w2.heap[ob]? = some (.cells cs 65 (0, 0)) ∧ LetMid w w2 sb db D ob P' ao cap is cs ro rc l := by
  obtain ⟨D2, hD2, hp, hc, hfoot⟩ := hst
  have hlt : ob < w1.heap.size := (Array.getElem?_eq_some_iff.1 hit).1
  have hob : ¬ DepFoot db D ob := fun h => by have := (hd0.foot h).2; omega
  have hrf : ∀ k, blockOf ro k → ¬ DepFoot db D k := fun k hk h => by have := (hd0.foot h).2; have := (blockOf_lt hrow hk).1; omega
  have hc1 : Chg (DepFoot db D) w1 w2 := ⟨hc.os.trans e2, hc.tape.trans e3, hc.output.trans e4, by have := hc.size; rw [e1] at this; exact this, fun k hk hn => by rw [hc.block k (by rw [e1]; exact hk) hn, e1]⟩
  have hr2 := hr.chg hc1 ha
  have hit2 := (hc1.block ob hlt hob).trans hit
  have hrow2 := ownsRow_keep hrow fun k hk => hc1.block k (blockOf_lt hrow hk).2 (hrf k hk)
  rw [e1] at hfoot
  refine ⟨hr2, hit2, ⟨D2, hD2, hp, ?_, ?_, ?_, ?_, ?_⟩, (Chg.ofBelow hbel).trans hc1 (fun i h => Or.inl h), hr2, hit2, hrow2⟩
  · intro k hk
    rcases hfoot k hk with h | h
    · exact Or.inl h
    · exact Or.inr (Nat.le_trans hbel.size h)
  · intro k hk hs
    rcases hfoot k hk with h | h
    · exact ha k h hs
    · have := (hr.foot hs).2; omega
  · intro hk
    rcases hfoot ob hk with h | h
    · exact hob h
    · omega
  · intro k hk hd
    rcases hfoot k hd with h | h
    · exact hrf k hk h
    · have := (blockOf_lt hrow hk).2; omega
  · intro k hk hn hd
    rcases hfoot k hd with h | h
    · exact hn h
    · have := hbel.size; omega

/-- A call more of the depot. -/
theorem mid_more {w w1 W w2 : World} {sb db ob : Nat} {D D2 : DepD} {ao : Option Addr} {cap : Nat} {is : List It} {cs : Array Value} {P' : PDep} {ro : Option Addr} {rc : Nat} {l : List Nd} (hr : ShopAt w1 sb db ao cap is) (hit : w1.heap[ob]? = some (.cells cs 65 (0, 0))) (hchg : Chg (DepFoot db D) w w1)
    (hrow : w1.ownsRow w.heap.size 62 3 (.slice ro l.length rc) l.length (ndsCells l))
    (hfo : ∀ k, DepFoot db D2 k → DepFoot db D k ∨ w.heap.size ≤ k) (hap : ∀ k, DepFoot db D2 k → ¬ ShopFoot sb ao k) (hnob : ¬ DepFoot db D2 ob) (hrf : ∀ k, blockOf ro k → ¬ DepFoot db D2 k) (hold : ∀ k, k < w.heap.size → ¬ DepFoot db D k → ¬ DepFoot db D2 k)
    (hst : DepStep W w2 db D2 P') (e1 : W.heap = w1.heap) (e2 : W.os = w1.os) (e3 : W.tape = w1.tape) (e4 : W.output = w1.output) :
    ShopAt w2 sb db ao cap is ∧ w2.heap[ob]? = some (.cells cs 65 (0, 0)) ∧ LetMid w w2 sb db D ob P' ao cap is cs ro rc l := by
  obtain ⟨D3, hD3, hp, hc, hfoot⟩ := hst
  have hlt : ob < w1.heap.size := (Array.getElem?_eq_some_iff.1 hit).1
  have hc1 : Chg (DepFoot db D2) w1 w2 := ⟨hc.os.trans e2, hc.tape.trans e3, hc.output.trans e4, by have := hc.size; rw [e1] at this; exact this, fun k hk hn => by rw [hc.block k (by rw [e1]; exact hk) hn, e1]⟩
  have hr2 := hr.chg hc1 hap
  have hit2 := (hc1.block ob hlt hnob).trans hit
  have hrow2 := ownsRow_keep hrow fun k hk => hc1.block k (blockOf_lt hrow hk).2 (hrf k hk)
  rw [e1] at hfoot
  refine ⟨hr2, hit2, ⟨D3, hD3, hp, ?_, ?_, ?_, ?_, ?_⟩, hchg.trans hc1 hfo, hr2, hit2, hrow2⟩
  · intro k hk
    rcases hfoot k hk with h | h
    · exact hfo k h
    · exact Or.inr (Nat.le_trans hchg.size h)
  · intro k hk hs
    rcases hfoot k hk with h | h
    · exact hap k h hs
    · have := (hr.foot hs).2; omega
  · intro hk
    rcases hfoot ob hk with h | h
    · exact hnob h
    · omega
  · intro k hk hd
    rcases hfoot k hd with h | h
    · exact hrf k hk h
    · have := (blockOf_lt hrow hk).2; omega
  · intro k hk hn hd
    rcases hfoot k hd with h | h
    · exact hold k hk hn h
    · have := hchg.size; omega

/-- The item's mark is laid down. -/
theorem tab_not {w : World} {b : Nat} {cs : Array Value} {t : TypeId} {fr : Nat × Nat} (h : TabOk w) (hb : w.heap[b]? = some (.cells cs t fr)) (hn : cs.size ≠ 20) : tabB ≠ b := by
  rintro rfl
  obtain ⟨t', fr', h⟩ := h
  rw [h] at hb
  injection hb with hb
  injection hb with hb _ _
  rw [← hb] at hn
  exact hn rfl

theorem mid_store {w wx : World} {sb db ob : Nat} {D : DepD} {ao : Option Addr} {cap : Nat} {is : List It} {a b c d : Value} {P' : PDep} {ro : Option Addr} {rc : Nat} {l : List Nd} (h : LetMid w wx sb db D ob P' ao cap is #[a, b, c, d] ro rc l) (hge : w.heap.size ≤ ob) (hsf : ∀ k, ShopFoot sb ao k → k < w.heap.size) :
    LetMid w (wx.setCell ⟨ob, 2, none⟩ (.bool false)) sb db D ob P' ao cap is #[a, b, .bool false, d] ro rc l := by
  obtain ⟨⟨D2, hD2, hp, hfo, hap, hnob, hrf, hold⟩, hc, hr, hit, hrow⟩ := h
  have hro : ¬ blockOf ro ob := by
    intro hk
    obtain ⟨c1, q1⟩ := blockOf_heap hrow hk
    rw [hit] at q1
    injection q1 with q
    injection q with _ q _
    exact absurd q (by decide)
  have hne : ∀ k, k ≠ ob → (wx.setCell ⟨ob, 2, none⟩ (.bool false)).heap[k]? = wx.heap[k]? := fun k hk => Below.heap_setCell _ _ _ _ hk
  refine ⟨⟨D2, hD2.keep (fun k hk => hne k (fun e => hnob (e ▸ hk))) (hne _ (tab_not hD2.tab hit (by simp))), hp, hfo, hap, hnob, hrf, hold⟩, hc.setCell (Or.inr hge) _, hr.keep fun k hk => hne k (fun e => by have := hsf k hk; omega), ?_, ownsRow_setCell_other hrow hro _⟩
  simp [World.setCell, Array.getElem?_modify, hit]

/-- Nothing was let in. -/
theorem let_none {w wx : World} {sb db ob : Nat} {D : DepD} {ao : Option Addr} {cap : Nat} {is : List It} {cs : Array Value} {ro : Option Addr} {rc : Nat} {l : List Nd} (hi : ShopInv w sb db D ao cap is) (h : LetMid w wx sb db D ob (shopP is []) ao cap is cs ro rc l) : ShopNext w wx sb db D ao is (is.map It.cr) := by
  obtain ⟨⟨D2, hD2, hp, hfo, hap, _, _, hold⟩, hchg, hr, _, _⟩ := h
  have hlt : ∀ k, ItRows is k → k < w.heap.size := fun k hk => ItRow.lt hi.rows hk
  exact ⟨D2, ao, cap, is, ⟨hD2, hr, hp, hi.ok, hi.m1, hi.m2, hap, fun x hx => (hi.rows x hx).keep hx fun k hk hl => hchg.block k hl (hi.far k hk).1, hi.nds, fun k hk => ⟨hold k (hlt k hk) (hi.far k hk).1, (hi.far k hk).2⟩, hi.tsb⟩, rfl,
    hchg.mono fun _ h => Or.inl h, fun k hk => hk.elim (fun h => (hfo k h).elim (fun h => Or.inl (Or.inl h)) Or.inr) (fun h => Or.inl (Or.inr h)), fun k hk => Or.inl hk⟩

/-- The item is let in: what the append leaves. -/
theorem let_push {w wx w1 w' : World} {sb db ob : Nat} {D : DepD} {ao : Option Addr} {cap : Nat} {is : List It} {cs : Array Value} {ro : Option Addr} {rc : Nat} {l : List Nd} {n v : Nat} {y : Bool} (hi : ShopInv w sb db D ao cap is)
    (h : LetMid w wx sb db D ob (shopP (is ++ [⟨n, v, y, .slice ro l.length rc, l⟩]) []) ao cap is cs ro rc l)
    (hok : ItsOk (is ++ [⟨n, v, y, .slice ro l.length rc, l⟩])) (hm1 : ownN true (is ++ [⟨n, v, y, .slice ro l.length rc, l⟩]) ≤ 12) (hm2 : ownN false (is ++ [⟨n, v, y, .slice ro l.length rc, l⟩]) ≤ 24)
    (hl6 : l.length ≤ 6) (hnd : ∀ y ∈ l, NdOk y) (g' cap' : Nat) (hchg : Chg (blockOf ao) wx w1)
    (hown : w1.ownsRow (sb + 1) 65 4 (.slice (some ⟨g', 0, none⟩) (is.length + 1) cap') (is.length + 1) (itCells is ++ [.int .i64 n, .int .i64 v, .bool y, .slice ro l.length rc]))
    (hao : blockOf ao g' ∨ wx.heap.size ≤ g') (hw' : w' = w1.setCell ⟨sb, 1, none⟩ (.slice (some ⟨g', 0, none⟩) (is.length + 1) cap')) : ShopNext w w' sb db D ao is ((is ++ [(⟨n, v, y, .slice ro l.length rc, l⟩ : It)]).map It.cr) := by
  obtain ⟨⟨D2, hD2, hp, hfo, hap, _, hrf, hold⟩, hc0, hr, _, hrow⟩ := h
  have hlt : ∀ k, ItRows is k → k < w.heap.size := fun k hk => ItRow.lt hi.rows hk
  have hsb : ¬ blockOf ao sb := fun hk => by have := (blockOf_lt hr.own hk).1; omega
  have hkeep : ∀ k, k < wx.heap.size → ¬ ShopFoot sb ao k → w'.heap[k]? = wx.heap[k]? := by
    intro k hk hn
    rw [hw', Below.heap_setCell _ _ _ _ (fun e => hn (Or.inl e)), hchg.block k hk (fun hb => hn (Or.inr hb))]
  have hblk : w1.heap[sb]? = wx.heap[sb]? := hchg.block sb hr.lt hsb
  have hc1 := (World.cell?_of_block (a := ⟨sb, 1, none⟩) hblk).trans hr.c1
  have hc00 := (World.cell?_of_block (a := ⟨sb, 0, none⟩) hblk).trans hr.c0
  have hsg : ∀ k, ShopFoot sb (some ⟨g', 0, none⟩) k → ShopFoot sb ao k ∨ wx.heap.size ≤ k := by
    intro k hk
    rcases hk with rfl | ⟨a, e, rfl⟩
    · exact Or.inl (Or.inl rfl)
    · cases e
      exact hao.elim (fun h => Or.inl (Or.inr h)) Or.inr
  have hnsb : ¬ blockOf (some ⟨g', 0, none⟩) sb := by
    rintro ⟨a, e, he⟩
    cases e
    exact hao.elim (fun h => hsb (by rwa [show g' = sb from he] at h)) (fun h => by have := hr.lt; have : g' = sb := he; omega)
  have hlen : (is ++ [(⟨n, v, y, .slice ro l.length rc, l⟩ : It)]).length = is.length + 1 := by simp
  have hshop : ShopAt w' sb db (some ⟨g', 0, none⟩) cap' (is ++ [⟨n, v, y, .slice ro l.length rc, l⟩]) := by
    have hfz : ∀ o, w'.frozen? ⟨sb, o, none⟩ = w1.frozen? ⟨sb, o, none⟩ := by
      intro o
      rw [hw']
      exact World.frozen?_setCell _ _ _ _
    refine ⟨?_, ?_, ?_, ?_, ?_, ?_⟩
    · rw [hw']
      exact (cell_setCell_ne (Or.inr (by decide))).trans hc00
    · rw [hlen, hw']
      exact cell_setCell_same hc1
    · exact (hfz 0).trans ((World.frozen?_of_block (a := ⟨sb, 0, none⟩) hblk).trans hr.f0)
    · exact (hfz 1).trans ((World.frozen?_of_block (a := ⟨sb, 1, none⟩) hblk).trans hr.f1)
    · rw [hlen, hw']
      have : itCells (is ++ [(⟨n, v, y, .slice ro l.length rc, l⟩ : It)]) = itCells is ++ [.int .i64 n, .int .i64 v, .bool y, .slice ro l.length rc] := by unfold itCells; rw [List.flatMap_append]; rfl
      rw [this]
      exact ownsRow_setCell_other hown hnsb _
    · rw [hlen]
      have h1 := own_both (is ++ [(⟨n, v, y, .slice ro l.length rc, l⟩ : It)])
      omega
  have hdep : DepAt w' db D2 := hD2.keep (fun k hk => hkeep k (hD2.foot hk).2 (hap k hk)) (hkeep _ hD2.tab.lt (fun hk => by have := (hi.shop.foot hk).1; have := hi.tsb; omega))
  have hrow' : ∀ x ∈ is, ItRow w' sb x := fun x hx => (hi.rows x hx).keep hx fun k hk hl => (hkeep k (Nat.lt_of_lt_of_le hl hc0.size) (hi.far k hk).2).trans (hc0.block k hl (hi.far k hk).1)
  have hsw : sb < w.heap.size := hi.shop.lt
  have hrs : ∀ k, blockOf ro k → ¬ ShopFoot sb ao k := fun k hk hs => by have := (hi.shop.foot hs).2; have := (blockOf_lt hrow hk).1; omega
  refine ⟨D2, some ⟨g', 0, none⟩, cap', _, ⟨hdep, hshop, hp, hok, hm1, hm2, ?_, ?_, ?_, ?_, hi.tsb⟩, rfl, ?_, ?_, ?_⟩
  · intro k hk hs
    rcases hsg k hs with h | h
    · exact hap k hk h
    · have := (hD2.foot hk).2; omega
  · intro x hx
    rcases List.mem_append.1 hx with hx | hx
    · exact hrow' x hx
    · obtain rfl := List.mem_singleton.1 hx
      exact ⟨ro, rc, rfl, ownsRow_base (ownsRow_keep hrow fun k hk => hkeep k (blockOf_lt hrow hk).2 (hrs k hk)) (by omega)⟩
  · intro x hx
    rcases List.mem_append.1 hx with hx | hx
    · exact hi.nds x hx
    · obtain rfl := List.mem_singleton.1 hx
      exact ⟨hl6, hnd⟩
  · intro k hk
    obtain ⟨x, hx, ro', n', c', e, hb⟩ := hk
    rcases List.mem_append.1 hx with hx | hx
    · have hk' : ItRows is k := ⟨x, hx, ro', n', c', e, hb⟩
      refine ⟨hold k (hlt k hk') (hi.far k hk').1, fun hs => ?_⟩
      rcases hsg k hs with h | h
      · exact (hi.far k hk').2 h
      · have := hlt k hk'; have := hc0.size; omega
    · obtain rfl := List.mem_singleton.1 hx
      cases e
      refine ⟨hrf k hb, fun hs => ?_⟩
      rcases hsg k hs with h | h
      · exact hrs k hb h
      · have := (blockOf_lt hrow hb).2; omega
  · have hc' : Chg (ShopFoot sb ao) wx w' := by
      rw [hw']
      exact (hchg.mono (S' := ShopFoot sb ao) fun _ h => Or.inr h).setCell (p := ⟨sb, 1, none⟩) (Or.inl (Or.inl rfl)) _
    exact (hc0.mono (S' := ShopFeet sb db D ao) fun _ h => Or.inl h).trans hc' fun _ h => Or.inl (Or.inr h)
  · intro k hk
    rcases hk with h | h
    · exact (hfo k h).elim (fun h => Or.inl (Or.inl h)) Or.inr
    · rcases hsg k h with h | h
      · exact Or.inl (Or.inr h)
      · exact Or.inr (Nat.le_trans hc0.size h)
  · intro k hk
    obtain ⟨x, hx, ro', n', c', e, hb⟩ := hk
    rcases List.mem_append.1 hx with hx | hx
    · exact Or.inl ⟨x, hx, ro', n', c', e, hb⟩
    · obtain rfl := List.mem_singleton.1 hx
      cases e
      exact Or.inr (blockOf_lt hrow hb).1

end

section
open Go.RowKit

theorem Tryd.infoItem : (Tryd.prog.info? 65).map (fun i => (i.zero, i.size, i.bytes)) = some (some (.agg #[.int .i64 0, .int .i64 0, .bool false, .slice none 0 0]), 4, 48) := by kernel_rfl

theorem ownN_last (own : Bool) (is : List It) (x : It) : ownN own (is ++ [x]) = ownN own is + (if (decide (3 ≤ x.n) == own) = true then 1 else 0) := by
  unfold ownN
  rw [List.countP_append, List.countP_cons, List.countP_nil]
  omega

set_option maxHeartbeats 1600000 in
set_option maxRecDepth 100000 in
theorem let_any (sb db : Nat) (D : DepD) (ao : Option Addr) (cap : Nat) (is : List It) (N V : Int) (Y : Bool) (so : Option Addr) (len scap : Nat) (f : Nat → RNd) (w : World) (hi : ShopInv w sb db D ao cap is)
    (n1 : -9223372036854775808 ≤ N) (n2 : N ≤ 9223372036854775807) (v1 : -9223372036854775808 ≤ V) (v2 : V ≤ 9223372036854775807) (hlen : len ≤ 9223372036854775807) (hf : RNds w so len f)
    (cs : List Cr) (hcs : letC (is.map It.cr) (pickN N 6) (1 + pickN V 9) Y (ndsOf len f) = cs) :
    Calls Tryd.prog 45 #[.pointer (some ⟨sb, 0, none⟩), .agg #[.int .i64 N, .int .i64 V, .bool Y, .slice so len scap]] w fun e w' => e = .returned (.bool true) ∧ ShopNext w w' sb db D ao is cs := by
  have HCs := hide hcs
  clear hcs
  have HNe := hide (fun W (h : Below w.heap.size w W) => needs_any so len scap f W hlen (hf.step h))
  have HF := hide hf
  have h6 := pickN_lt N (n := 6) (by decide)
  have h9 := pickN_lt V (n := 9) (by decide)
  have hw19 : IntKind.i64.wrap (1 + (pickN V 9 : Int)) = 1 + (pickN V 9 : Int) := by rw [IntKind.wrap_i64]; omega
  go_enter Tryd.func45, Tryd.ntmps45
  go_upto_region 1 with fail
  have hb := (Below.refl w.heap.size w).alloc (Nat.le_refl _) (.cells #[.int .i64 N, .int .i64 V, .bool Y, .slice so len scap] 65)
  have hbz := hb.alloc (by simp) (.cells #[.int .i64 0, .int .i64 0, .bool false, .slice none 0 0] 65)
  go_cut [5] (fun v wx => ∃ ob ro rc, v = .pointer (some ⟨ob, 0, none⟩) ∧ LetBox w wx ob (pickN N 6) (pickN V 9) Y ro rc (ndsOf len f))
  case first =>
    go_region_held3 (fun W => W.cell? ⟨w.heap.size, 0, none⟩ = some (.int .i64 N) ∧ W.cell? ⟨w.heap.size, 1, none⟩ = some (.int .i64 V) ∧ W.cell? ⟨w.heap.size, 2, none⟩ = some (.bool Y) ∧ W.cell? ⟨w.heap.size, 3, none⟩ = some (.slice so len scap)) (first | go_keep | exact ⟨q0, q1, q2, q3⟩) (first
      | ((go_at_call 16; refine (pickI_any _ _ _ ?_ ?_ ?_ ?_).mono ?_; omega; omega; omega; omega; rintro e w2 ⟨rfl, hw2⟩; subst hw2))
      | ((go_at_call 19; refine (HNe.out _ ?_).mono ?_
          first | exact below_drawn hb 1 | exact below_drawn hbz 1
          rintro e w2 ⟨ro, rc, rfl, hrow, hbb⟩; obtain ⟨q0, q1, q2, q3⟩ := raw_step (by assumption) hbb
          try
            have hit := (hbb.block (w.heap.size + 1) (by simp)).trans (heap2_new w _ _)
            obtain ⟨i0, i1, i2, i3, j0, j1, j2, j3⟩ := item_zero hit)))
    all_goals
      go_wp2_with fail
      go_meet
      first
        | exact ⟨_, ro, rc, rfl, box_late (below_step hb hbb rfl rfl rfl rfl) (by simp) hrow⟩
        | exact ⟨_, ro, rc, rfl, box_early (below_step hbz hbb rfl rfl rfl rfl) (by simp) hit hrow⟩
  case rest =>
    obtain ⟨ob, ro, rc, rfl, hbox⟩ := hcut
    clear hb hbz HNe HF hf
    have hlk : (ndsOf len f).length ≤ 6 := by unfold ndsOf; simp; omega
    have hok : ∀ x ∈ ndsOf len f, NdOk x := by
      intro x hx
      unfold ndsOf at hx
      obtain ⟨i, _, rfl⟩ := List.mem_map.1 hx
      exact ndOf_ok _
    generalize ndsOf len f = l at *
    generalize pickN N 6 = pn at *
    generalize pickN V 9 = pv at *
    obtain ⟨hit, hge, hrow, hbel⟩ := hbox
    have hD := hi.dep.below hbel
    have hr := hi.shop.below hbel
    by_cases hown : 3 ≤ pn
    · have hown' : (3 : Int) ≤ (pn : Int) := by omega
      have HE := hide (publish_shop is hi.ok pn (1 + pv) hown h6 (by omega) (by omega) l hok hlk)
      obtain ⟨hns, hne⟩ := nameK_own hown h6
      have c0 : wc.cell? ⟨ob, 0, none⟩ = some (.int .i64 pn) := cell_of_heap hit 0
      have HNm := hide (fun W => nameK_any pn h6 W)
      have HNs := hide hns
      generalize hnm : nameK pn = nm at *
      clear hnm
      go_wp2_with fail
      go_cut [7] (fun v wx => ∃ E, v = .int .i64 E ∧ E = dpublishP D.pure kH 1 (labK pn) (1 + (pv : Int)) (textK l) ∧ LetMid w wx sb db D ob (stepP E D.pure (dpublishS D.pure kH 1 (labK pn) (1 + (pv : Int)) (textK l))) ao cap is #[.int .i64 pn, .int .i64 (1 + (pv : Int)), .bool Y, .slice ro l.length rc] ro rc l)
      case first =>
        have HTx := hide (fun W (h : W.ownsRow w.heap.size 62 3 (.slice ro l.length rc) l.length (ndsCells l)) => text_any w.heap.size ro rc l W h hlk hok)
        have hts : (textK l).size ≤ 4611686018427387000 := Nat.le_trans (textTo_size l l.length) (by omega)
        have HPu := hide (fun W (h : DepAt W db D) => publish_any db D kH 1 (labK pn) (1 + (pv : Int)) (textK l) W h hts ⟨by decide, by decide⟩ _ rfl)
        go_region_held3 (fun W => W.cell? ⟨sb, 0, none⟩ = some (.pointer (some ⟨db, 0, none⟩)) ∧ W.cell? ⟨ob, 0, none⟩ = some (.int .i64 pn) ∧ W.cell? ⟨ob, 1, none⟩ = some (.int .i64 (1 + (pv : Int))) ∧ W.cell? ⟨ob, 3, none⟩ = some (.slice ro l.length rc)) (exact ⟨hr.c0, cell_of_heap hit 0, cell_of_heap hit 1, cell_of_heap hit 3⟩) (first
          | ((go_at_call 18; refine (HNm.out _).mono ?_; rintro e w2 ⟨rfl, hbb⟩; have hr := hr.step hbb rfl; have hD := hD.step hbb rfl; have hrow := ownsRow_keep' hrow (below_same hbb rfl rfl rfl rfl); have hit := (hbb.block ob (Array.getElem?_eq_some_iff.1 hit).1).trans hit; have hbel := below_step hbel hbb rfl rfl rfl rfl; clear hbb))
          | ((go_at_call 21; refine (HTx.out _ ?_).mono ?_; exact hrow; rintro e w2 ⟨rfl, hbb⟩; have hr := hr.step hbb rfl; have hD := hD.step hbb rfl; have hrow := ownsRow_keep' hrow (below_same hbb rfl rfl rfl rfl); have hit := (hbb.block ob (Array.getElem?_eq_some_iff.1 hit).1).trans hit; have hbel := below_step hbel hbb rfl rfl rfl rfl; clear hbb))
          | ((go_at_call 65; (try rw [hne]); refine (HPu.out _ ?_).mono ?_; exact hD.same rfl; rintro e w2 ⟨rfl, hst⟩; obtain ⟨hr, hit, hmid⟩ := mid_of hr hit hbel hi.dep hrow hi.apart hge hst rfl rfl rfl rfl)))
        all_goals
          go_wp2_with fail
          go_meet
          exact ⟨_, rfl, rfl, hmid⟩
      case rest =>
        obtain ⟨E, rfl, hE, hmid⟩ := hcut
        rw [hi.pure] at hE hmid
        have hr2 := hmid.shop
        have d0 : wc.cell? ⟨ob, 0, none⟩ = some (.int .i64 pn) := cell_of_heap hmid.hit 0
        have d1 : wc.cell? ⟨ob, 1, none⟩ = some (.int .i64 (1 + (pv : Int))) := cell_of_heap hmid.hit 1
        have d2 : wc.cell? ⟨ob, 2, none⟩ = some (.bool Y) := cell_of_heap hmid.hit 2
        have d2f : wc.frozen? ⟨ob, 2, none⟩ = false := frozen_of_heap hmid.hit _
        have hm1 := hi.m1
        have hm2 := hi.m2
        have hE2 : E = if (is.find? (itP pn (1 + pv))).isSome then 5 else if 12 ≤ ownN true is then 6 else 0 := hE.trans HE.out
        have HCo := hide (fun W (h : ShopAt W sb db ao cap is) => count_any sb db ao cap is true W h)
        clear hE HE hrow hbel hD hr hit c0 HNm hlen
        rcases find_cases (itP pn (1 + pv)) is with ⟨i, hil, k1, k2, k3⟩ | ⟨k1, k3⟩
        · have hE5 : E = 5 := by rw [hE2, k3]; rfl
          subst hE5
          clear hE2
          rw [show stepP 5 (shopP is []) _ = shopP is [] from if_neg (by decide)] at hmid
          have HTh := hide (show ∀ W, ShopAt W sb db ao cap is → Calls Tryd.prog 46 #[.pointer (some ⟨sb, 0, none⟩), .int .i64 pn, .int .i64 (1 + (pv : Int))] W fun e w' => e = .returned (.int .i64 i) ∧ w' = W from fun W h => there_some sb db ao cap is pn (1 + pv) W h i hil k1 k2)
          have HL := hide (letC_taken (is := is) (n := pn) (v := 1 + pv) Y l (by rw [k3]; rfl))
          clear k1 k2 k3
          go_wp2_with fail
          refine (HTh.out _ hr2).mono ?_
          rintro e w3 ⟨rfl, hw3⟩
          subst hw3
          go_wp2_with fail
          refine (HCo.out _ hr2).mono ?_
          rintro e w3 ⟨rfl, hw3⟩
          subst hw3
          go_wp2_with fail
          go_ret
          exact ⟨rfl, by rw [← HCs.out, HL.out]; exact let_none hi hmid⟩
        · have HTh := hide (show ∀ W, ShopAt W sb db ao cap is → Calls Tryd.prog 46 #[.pointer (some ⟨sb, 0, none⟩), .int .i64 pn, .int .i64 (1 + (pv : Int))] W fun e w' => e = .returned (.int .i64 (-1)) ∧ w' = W from fun W h => there_none sb db ao cap is pn (1 + pv) W h k1)
          rw [k3] at hE2
          by_cases hroom : 12 ≤ ownN true is
          · have hE6 : E = 6 := by rw [hE2, if_neg (by decide), if_pos hroom]
            subst hE6
            clear hE2
            rw [show stepP 6 (shopP is []) _ = shopP is [] from if_neg (by decide)] at hmid
            have HL := hide (letC_room (is := is) (n := pn) (v := 1 + pv) Y l (by simp [hown]; omega))
            have hroom' : (12 : Int) ≤ (ownN true is : Int) := by omega
            go_wp2_with fail
            refine (HTh.out _ hr2).mono ?_
            rintro e w3 ⟨rfl, hw3⟩
            subst hw3
            go_wp2_with fail
            refine (HCo.out _ hr2).mono ?_
            rintro e w3 ⟨rfl, hw3⟩
            subst hw3
            go_wp2_with fail
            go_ret
            exact ⟨rfl, by rw [← HCs.out, HL.out]; exact let_none hi hmid⟩
          · have hE0 : E = 0 := by rw [hE2, if_neg (by decide), if_neg hroom]
            subst hE0
            clear hE2
            have HL := hide (letC_push (is := is) (n := pn) (v := 1 + pv) Y l (.slice ro l.length rc) k3 (by simp [hown]; omega) _ rfl)
            have hroom' : ¬ (12 : Int) ≤ (ownN true is : Int) := by omega
            have hq : stepP 0 (shopP is []) (dpublishS (shopP is []) kH 1 (labK pn) (1 + (pv : Int)) (textK l)) = shopP (is ++ [⟨pn, 1 + pv, false, .slice ro l.length rc, l⟩]) [] := by
              unfold stepP
              rw [if_pos rfl]
              exact publish_shopS is pn (1 + pv) (.slice ro l.length rc) l hown hok hlk
            rw [hq] at hmid
            clear hq
            have hok2 : ∀ y, ItsOk (is ++ [⟨pn, 1 + pv, y, .slice ro l.length rc, l⟩]) := by
              intro y x hx
              rcases List.mem_append.1 hx with hx | hx
              · exact hi.ok x hx
              · obtain rfl := List.mem_singleton.1 hx
                exact ⟨h6, by show 1 ≤ 1 + pv; omega, by show 1 + pv ≤ 9; omega, fun h => absurd h (by show ¬ pn < 3; omega)⟩
            have hsf : ∀ k, ShopFoot sb ao k → k < w.heap.size := fun k hk => (hi.shop.foot hk).2
            have HNm := hide (fun W => nameK_any pn h6 W)
            cases Y with
            | false =>
              go_wp2_with fail
              refine (HTh.out _ hr2).mono ?_
              rintro e w3 ⟨rfl, hw3⟩
              subst hw3
              go_wp2_with fail
              refine (HCo.out _ hr2).mono ?_
              rintro e w3 ⟨rfl, hw3⟩
              subst hw3
              go_wp2_with fail
              have hmid2 := mid_store hmid hge hsf
              generalize w3.setCell ⟨ob, 2, none⟩ (.bool false) = wd at *
              clear HNm hmid HTh HCo d0 d1 d2 d2f hr2
              have hr3 := hmid2.shop
              have s1 := hr3.c1
              have s1f := hr3.f1
              have e0 := cell_of_heap hmid2.hit 0
              have e1 := cell_of_heap hmid2.hit 1
              have e2 := cell_of_heap hmid2.hit 2
              have e3 := cell_of_heap hmid2.hit 3
              have hown3 := hr3.own
              have hlt3 := hr3.lt
              have hl1 := hr3.len
              obtain ⟨i0, ti, hz0, hz1, hz2⟩ := info_parts Tryd.infoItem
              have B1 := hide (show is.length + 1 ≤ maxLen by unfold maxLen; omega)
              have B2 := hide (show (is.length + 1) * 48 ≤ 140737488355328 by omega)
              go_region_law (refine step_append_own rfl (.tmp 108) (.tmp 110) 39 rfl (sb + 1) 65 i0 (.agg #[.int .i64 0, .int .i64 0, .bool false, .slice none 0 0]) 4 48 Tryd.underlying39 ti hz0 hz1 hz2 rfl (by decide) (.slice ao is.length cap) is.length (itCells is) ?_ ?_ ⟨wd.heap.size, 0, none⟩ 1 1 [.int .i64 pn, .int .i64 (1 + (pv : Int)), .bool false, .slice ro l.length rc] ?_ rfl ?_ ?_ B1.out B2.out ?_ (Nat.succ_pos _) ?_; simp [Act.eval]; exact hown3.alloc _; simp [Act.eval]; exact news_at (t := 65) (fr := (0, 0)) (heap1_new wd _); simp [Value.oneCell']; exact Nat.le_trans (show sb + 1 ≤ wd.heap.size + 1 by omega) (Nat.le_of_eq (by simp)); intro g' cap' w' hown' hgrow hnew; have hchg : Chg (blockOf ao) wd w' := Chg.ofGrown hgrow rfl rfl rfl (by simp) (fun k hk => Below.heap_alloc _ _ _ hk) (fun k hk => Or.inl (row_of hk)); have hk : w'.heap[sb]? = wd.heap[sb]? := hchg.block sb hlt3 (fun hb => by have := (blockOf_lt hown3 hb).1; omega); have k2 := (World.cell?_of_block (a := ⟨sb, 1, none⟩) hk).trans s1; have kf := (World.frozen?_of_block (a := ⟨sb, 1, none⟩) hk).trans s1f)
              all_goals
                have hfoot := hide (show blockOf ao g' ∨ wd.heap.size ≤ g' from hnew.elim (fun h => Or.inl (row_of h)) (fun h => Or.inr (Nat.le_trans (by simp) h)))
                clear hnew hgrow
                go_wp2_with fail
                go_ret
                refine ⟨rfl, ?_⟩
                have q := let_push hi hmid2 (hok2 false) (by rw [ownN_last]; simp [hown]; omega) (by rw [ownN_last]; simp [hown]; omega) hlk hok g' cap' hchg hown' hfoot.out rfl
                rw [← HCs.out, HL.out]
                first | exact q | (simp only [Bool.true_and, Bool.false_and, Bool.and_false, hown, decide_true, decide_false]; exact q)
            | true =>
              go_wp2_with fail
              refine (HTh.out _ hr2).mono ?_
              rintro e w3 ⟨rfl, hw3⟩
              subst hw3
              go_wp2_with fail
              refine (HCo.out _ hr2).mono ?_
              rintro e w3 ⟨rfl, hw3⟩
              subst hw3
              go_wp2_with fail
              go_cut [7] (fun v wx => v = .int .i64 0 ∧ LetMid w wx sb db D ob (shopP (is ++ [⟨pn, 1 + pv, true, .slice ro l.length rc, l⟩]) []) ao cap is #[.int .i64 pn, .int .i64 (1 + (pv : Int)), .bool true, .slice ro l.length rc] ro rc l)
              case first =>
                obtain ⟨⟨D2, hD2, hp3, hfo, hap, hnob, hrf, hold⟩, hchg, hr2, hit2, hrow⟩ := hmid
                have HY := hide (show ∀ W, DepAt W db D2 → Calls Tryd.prog 75 #[.pointer (some ⟨db, 0, none⟩), .string kH, .int .i64 1, .string (labK pn), .int .i64 (1 + (pv : Int)), .bool false] W fun e w' => e = .returned (.int .i64 0) ∧ DepStep W w' db D2 (shopP (is ++ [⟨pn, 1 + pv, true, .slice ro l.length rc, l⟩]) []) from fun W h => by
                  have q := yank_any db D2 kH 1 (labK pn) (1 + (pv : Int)) false W h ⟨by decide, by decide⟩ ⟨by omega, by omega⟩ (shop_few hp3 (by have := hi.shop.len; simp; omega)) 0 (by rw [hp3]; exact (yank_shopP is pn (1 + pv) _ l hown h6 (hok2 false)).symm)
                  rw [hp3] at q
                  have q2 : stepP 0 (shopP (is ++ [⟨pn, 1 + pv, false, .slice ro l.length rc, l⟩]) []) (dyankS (shopP (is ++ [⟨pn, 1 + pv, false, .slice ro l.length rc, l⟩]) []) kH 1 (labK pn) (1 + (pv : Int)) (!false)) = shopP (is ++ [⟨pn, 1 + pv, true, .slice ro l.length rc, l⟩]) [] := by
                    unfold stepP
                    rw [if_pos rfl]
                    exact yank_shop is hi.ok pn (1 + pv) _ l hown h6 k3
                  rw [q2] at q
                  exact q)
                obtain ⟨hns, hne⟩ := nameK_own hown h6
                generalize nameK pn = nm at *
                go_region_held3 (fun W => W.cell? ⟨sb, 0, none⟩ = some (.pointer (some ⟨db, 0, none⟩)) ∧ W.cell? ⟨ob, 0, none⟩ = some (.int .i64 pn) ∧ W.cell? ⟨ob, 1, none⟩ = some (.int .i64 (1 + (pv : Int)))) (exact ⟨hr2.c0, cell_of_heap hit2 0, cell_of_heap hit2 1⟩) (first
                  | ((go_at_call 18; refine (HNm.out _).mono ?_; rintro e w4 ⟨rfl, hbb⟩; have hr2 := hr2.step hbb rfl; have hD2 := hD2.step hbb rfl; have hrow := ownsRow_keep' hrow (below_same hbb rfl rfl rfl rfl); have hit2 := (hbb.block ob (Array.getElem?_eq_some_iff.1 hit2).1).trans hit2; have hchg := hchg.trans (Chg.ofBelow (S := DepFoot db D) (below_same hbb rfl rfl rfl rfl)) (fun _ h => Or.inl h); clear hbb))
                  | ((go_at_call 75; (try rw [hne]); refine (HY.out _ ?_).mono ?_; exact hD2.same rfl; rintro e w4 ⟨rfl, hst⟩; obtain ⟨hr2, hit2, hmid⟩ := mid_more hr2 hit2 hchg hrow hfo hap hnob hrf hold hst rfl rfl rfl rfl)))
                all_goals
                  go_wp2_with fail
                  go_meet
                  exact ⟨rfl, hmid⟩
              case rest =>
                obtain ⟨rfl, hmid2⟩ := hcut
                clear HNm hmid HTh HCo d0 d1 d2 d2f hr2
                have hr3 := hmid2.shop
                have s1 := hr3.c1
                have s1f := hr3.f1
                have e0 := cell_of_heap hmid2.hit 0
                have e1 := cell_of_heap hmid2.hit 1
                have e2 := cell_of_heap hmid2.hit 2
                have e3 := cell_of_heap hmid2.hit 3
                have hown3 := hr3.own
                have hlt3 := hr3.lt
                have hl1 := hr3.len
                obtain ⟨i0, ti, hz0, hz1, hz2⟩ := info_parts Tryd.infoItem
                have B1 := hide (show is.length + 1 ≤ maxLen by unfold maxLen; omega)
                have B2 := hide (show (is.length + 1) * 48 ≤ 140737488355328 by omega)
                go_wp2_with fail
                go_region_law (refine step_append_own rfl (.tmp 108) (.tmp 110) 39 rfl (sb + 1) 65 i0 (.agg #[.int .i64 0, .int .i64 0, .bool false, .slice none 0 0]) 4 48 Tryd.underlying39 ti hz0 hz1 hz2 rfl (by decide) (.slice ao is.length cap) is.length (itCells is) ?_ ?_ ⟨wc.heap.size, 0, none⟩ 1 1 [.int .i64 pn, .int .i64 (1 + (pv : Int)), .bool true, .slice ro l.length rc] ?_ rfl ?_ ?_ B1.out B2.out ?_ (Nat.succ_pos _) ?_; simp [Act.eval]; exact hown3.alloc _; simp [Act.eval]; exact news_at (t := 65) (fr := (0, 0)) (heap1_new wc _); simp [Value.oneCell']; exact Nat.le_trans (show sb + 1 ≤ wc.heap.size + 1 by omega) (Nat.le_of_eq (by simp)); intro g' cap' w' hown' hgrow hnew; have hchg : Chg (blockOf ao) wc w' := Chg.ofGrown hgrow rfl rfl rfl (by simp) (fun k hk => Below.heap_alloc _ _ _ hk) (fun k hk => Or.inl (row_of hk)); have hk : w'.heap[sb]? = wc.heap[sb]? := hchg.block sb hlt3 (fun hb => by have := (blockOf_lt hown3 hb).1; omega); have k2 := (World.cell?_of_block (a := ⟨sb, 1, none⟩) hk).trans s1; have kf := (World.frozen?_of_block (a := ⟨sb, 1, none⟩) hk).trans s1f)
                all_goals
                  have hfoot := hide (show blockOf ao g' ∨ wc.heap.size ≤ g' from hnew.elim (fun h => Or.inl (row_of h)) (fun h => Or.inr (Nat.le_trans (by simp) h)))
                  clear hnew hgrow
                  go_wp2_with fail
                  go_ret
                  refine ⟨rfl, ?_⟩
                  have q := let_push hi hmid2 (hok2 true) (by rw [ownN_last]; simp [hown]; omega) (by rw [ownN_last]; simp [hown]; omega) hlk hok g' cap' hchg hown' hfoot.out rfl
                  rw [← HCs.out, HL.out]
                  first | exact q | (simp only [Bool.true_and, hown, decide_true]; exact q)
    · have hown' : ¬ (3 : Int) ≤ (pn : Int) := by omega
      have HE := hide (feed_shop is hi.ok pn (1 + pv) (by omega) (by omega) (by omega) l hok hlk)
      have c0 : wc.cell? ⟨ob, 0, none⟩ = some (.int .i64 pn) := cell_of_heap hit 0
      have HNm := hide (fun W => nameK_any pn h6 W)
      have HSz := hide (show (nameK pn).size ≤ 4611686018427387000 from Nat.le_trans (nameK_size pn) (by decide))
      go_wp2_with fail
      go_cut [7] (fun v wx => ∃ E, v = .int .i64 E ∧ E = dfeedP D.pure (nameK pn) (1 + (pv : Int)) (textK l) ∧ LetMid w wx sb db D ob (stepP E D.pure (dfeedS D.pure (nameK pn) (1 + (pv : Int)) (textK l))) ao cap is #[.int .i64 pn, .int .i64 (1 + (pv : Int)), .bool Y, .slice ro l.length rc] ro rc l)
      case first =>
        have HTx := hide (fun W (h : W.ownsRow w.heap.size 62 3 (.slice ro l.length rc) l.length (ndsCells l)) => text_any w.heap.size ro rc l W h hlk hok)
        have hts : (textK l).size ≤ 4611686018427387000 := Nat.le_trans (textTo_size l l.length) (by omega)
        have HPu := hide (fun W (h : DepAt W db D) => feed_any db D (nameK pn) (1 + (pv : Int)) (textK l) W h HSz.out hts _ rfl)
        generalize nameK pn = nm at *
        go_region_held3 (fun W => W.cell? ⟨sb, 0, none⟩ = some (.pointer (some ⟨db, 0, none⟩)) ∧ W.cell? ⟨ob, 0, none⟩ = some (.int .i64 pn) ∧ W.cell? ⟨ob, 1, none⟩ = some (.int .i64 (1 + (pv : Int))) ∧ W.cell? ⟨ob, 3, none⟩ = some (.slice ro l.length rc)) (exact ⟨hr.c0, cell_of_heap hit 0, cell_of_heap hit 1, cell_of_heap hit 3⟩) (first
          | ((go_at_call 18; refine (HNm.out _).mono ?_; rintro e w2 ⟨rfl, hbb⟩; have hr := hr.step hbb rfl; have hD := hD.step hbb rfl; have hrow := ownsRow_keep' hrow (below_same hbb rfl rfl rfl rfl); have hit := (hbb.block ob (Array.getElem?_eq_some_iff.1 hit).1).trans hit; have hbel := below_step hbel hbb rfl rfl rfl rfl; clear hbb))
          | ((go_at_call 21; refine (HTx.out _ ?_).mono ?_; exact hrow; rintro e w2 ⟨rfl, hbb⟩; have hr := hr.step hbb rfl; have hD := hD.step hbb rfl; have hrow := ownsRow_keep' hrow (below_same hbb rfl rfl rfl rfl); have hit := (hbb.block ob (Array.getElem?_eq_some_iff.1 hit).1).trans hit; have hbel := below_step hbel hbb rfl rfl rfl rfl; clear hbb))
          | ((go_at_call 26; refine (HPu.out _ ?_).mono ?_; exact hD.same rfl; rintro e w2 ⟨rfl, hst⟩; obtain ⟨hr, hit, hmid⟩ := mid_of hr hit hbel hi.dep hrow hi.apart hge hst rfl rfl rfl rfl)))
        all_goals
          go_wp2_with fail
          go_meet
          exact ⟨_, rfl, rfl, hmid⟩
      case rest =>
        obtain ⟨E, rfl, hE, hmid⟩ := hcut
        rw [hi.pure] at hE hmid
        have hr2 := hmid.shop
        have d0 : wc.cell? ⟨ob, 0, none⟩ = some (.int .i64 pn) := cell_of_heap hmid.hit 0
        have d1 : wc.cell? ⟨ob, 1, none⟩ = some (.int .i64 (1 + (pv : Int))) := cell_of_heap hmid.hit 1
        have d2 : wc.cell? ⟨ob, 2, none⟩ = some (.bool Y) := cell_of_heap hmid.hit 2
        have d2f : wc.frozen? ⟨ob, 2, none⟩ = false := frozen_of_heap hmid.hit _
        have hm1 := hi.m1
        have hm2 := hi.m2
        have hE2 : E = if (is.find? (itP pn (1 + pv))).isSome then 5 else if 24 ≤ ownN false is then 6 else 0 := hE.trans HE.out
        have HCo := hide (fun W (h : ShopAt W sb db ao cap is) => count_any sb db ao cap is false W h)
        clear hE HE hrow hbel hD hr hit c0 HNm hlen
        rcases find_cases (itP pn (1 + pv)) is with ⟨i, hil, k1, k2, k3⟩ | ⟨k1, k3⟩
        · have hE5 : E = 5 := by rw [hE2, k3]; rfl
          subst hE5
          clear hE2
          rw [show stepP 5 (shopP is []) _ = shopP is [] from if_neg (by decide)] at hmid
          have HTh := hide (show ∀ W, ShopAt W sb db ao cap is → Calls Tryd.prog 46 #[.pointer (some ⟨sb, 0, none⟩), .int .i64 pn, .int .i64 (1 + (pv : Int))] W fun e w' => e = .returned (.int .i64 i) ∧ w' = W from fun W h => there_some sb db ao cap is pn (1 + pv) W h i hil k1 k2)
          have HL := hide (letC_taken (is := is) (n := pn) (v := 1 + pv) Y l (by rw [k3]; rfl))
          clear k1 k2 k3
          go_wp2_with fail
          refine (HTh.out _ hr2).mono ?_
          rintro e w3 ⟨rfl, hw3⟩
          subst hw3
          go_wp2_with fail
          refine (HCo.out _ hr2).mono ?_
          rintro e w3 ⟨rfl, hw3⟩
          subst hw3
          go_wp2_with fail
          go_ret
          exact ⟨rfl, by rw [← HCs.out, HL.out]; exact let_none hi hmid⟩
        · have HTh := hide (show ∀ W, ShopAt W sb db ao cap is → Calls Tryd.prog 46 #[.pointer (some ⟨sb, 0, none⟩), .int .i64 pn, .int .i64 (1 + (pv : Int))] W fun e w' => e = .returned (.int .i64 (-1)) ∧ w' = W from fun W h => there_none sb db ao cap is pn (1 + pv) W h k1)
          rw [k3] at hE2
          by_cases hroom : 24 ≤ ownN false is
          · have hE6 : E = 6 := by rw [hE2, if_neg (by decide), if_pos hroom]
            subst hE6
            clear hE2
            rw [show stepP 6 (shopP is []) _ = shopP is [] from if_neg (by decide)] at hmid
            have HL := hide (letC_room (is := is) (n := pn) (v := 1 + pv) Y l (by simp [hown]; omega))
            have hroom' : (24 : Int) ≤ (ownN false is : Int) := by omega
            go_wp2_with fail
            refine (HTh.out _ hr2).mono ?_
            rintro e w3 ⟨rfl, hw3⟩
            subst hw3
            go_wp2_with fail
            refine (HCo.out _ hr2).mono ?_
            rintro e w3 ⟨rfl, hw3⟩
            subst hw3
            go_wp2_with fail
            go_ret
            exact ⟨rfl, by rw [← HCs.out, HL.out]; exact let_none hi hmid⟩
          · have hE0 : E = 0 := by rw [hE2, if_neg (by decide), if_neg hroom]
            subst hE0
            clear hE2
            have HL := hide (letC_push (is := is) (n := pn) (v := 1 + pv) Y l (.slice ro l.length rc) k3 (by simp [hown]; omega) _ rfl)
            have hroom' : ¬ (24 : Int) ≤ (ownN false is : Int) := by omega
            have hq : stepP 0 (shopP is []) (dfeedS (shopP is []) (nameK pn) (1 + (pv : Int)) (textK l)) = shopP (is ++ [⟨pn, 1 + pv, false, .slice ro l.length rc, l⟩]) [] := by
              unfold stepP
              rw [if_pos rfl]
              exact feed_shopS is [] pn (1 + pv) (.slice ro l.length rc) l (by omega) hok hlk
            rw [hq] at hmid
            clear hq
            have hok2 : ∀ y, (pn < 3 → y = false) → ItsOk (is ++ [⟨pn, 1 + pv, y, .slice ro l.length rc, l⟩]) := by
              intro y hy x hx
              rcases List.mem_append.1 hx with hx | hx
              · exact hi.ok x hx
              · obtain rfl := List.mem_singleton.1 hx
                exact ⟨h6, by show 1 ≤ 1 + pv; omega, by show 1 + pv ≤ 9; omega, fun h => hy h⟩
            have hsf : ∀ k, ShopFoot sb ao k → k < w.heap.size := fun k hk => (hi.shop.foot hk).2
            go_wp2_with fail
            refine (HTh.out _ hr2).mono ?_
            rintro e w3 ⟨rfl, hw3⟩
            subst hw3
            go_wp2_with fail
            refine (HCo.out _ hr2).mono ?_
            rintro e w3 ⟨rfl, hw3⟩
            subst hw3
            go_wp2_with fail
            have hmid2 := mid_store hmid hge hsf
            generalize w3.setCell ⟨ob, 2, none⟩ (.bool false) = wd at *
            clear hmid HTh HCo d0 d1 d2 d2f hr2
            have hr3 := hmid2.shop
            have s1 := hr3.c1
            have s1f := hr3.f1
            have e0 := cell_of_heap hmid2.hit 0
            have e1 := cell_of_heap hmid2.hit 1
            have e2 := cell_of_heap hmid2.hit 2
            have e3 := cell_of_heap hmid2.hit 3
            have hown3 := hr3.own
            have hlt3 := hr3.lt
            have hl1 := hr3.len
            obtain ⟨i0, ti, hz0, hz1, hz2⟩ := info_parts Tryd.infoItem
            have B1 := hide (show is.length + 1 ≤ maxLen by unfold maxLen; omega)
            have B2 := hide (show (is.length + 1) * 48 ≤ 140737488355328 by omega)
            go_region_law (refine step_append_own rfl (.tmp 108) (.tmp 110) 39 rfl (sb + 1) 65 i0 (.agg #[.int .i64 0, .int .i64 0, .bool false, .slice none 0 0]) 4 48 Tryd.underlying39 ti hz0 hz1 hz2 rfl (by decide) (.slice ao is.length cap) is.length (itCells is) ?_ ?_ ⟨wd.heap.size, 0, none⟩ 1 1 [.int .i64 pn, .int .i64 (1 + (pv : Int)), .bool false, .slice ro l.length rc] ?_ rfl ?_ ?_ B1.out B2.out ?_ (Nat.succ_pos _) ?_; simp [Act.eval]; exact hown3.alloc _; simp [Act.eval]; exact news_at (t := 65) (fr := (0, 0)) (heap1_new wd _); simp [Value.oneCell']; exact Nat.le_trans (show sb + 1 ≤ wd.heap.size + 1 by omega) (Nat.le_of_eq (by simp)); intro g' cap' w' hown' hgrow hnew; have hchg : Chg (blockOf ao) wd w' := Chg.ofGrown hgrow rfl rfl rfl (by simp) (fun k hk => Below.heap_alloc _ _ _ hk) (fun k hk => Or.inl (row_of hk)); have hk : w'.heap[sb]? = wd.heap[sb]? := hchg.block sb hlt3 (fun hb => by have := (blockOf_lt hown3 hb).1; omega); have k2 := (World.cell?_of_block (a := ⟨sb, 1, none⟩) hk).trans s1; have kf := (World.frozen?_of_block (a := ⟨sb, 1, none⟩) hk).trans s1f)
            all_goals
              have hfoot := hide (show blockOf ao g' ∨ wd.heap.size ≤ g' from hnew.elim (fun h => Or.inl (row_of h)) (fun h => Or.inr (Nat.le_trans (by simp) h)))
              clear hnew hgrow
              go_wp2_with fail
              go_ret
              refine ⟨rfl, ?_⟩
              have q := let_push hi hmid2 (hok2 false (fun _ => rfl)) (by rw [ownN_last]; simp [hown]; omega) (by rw [ownN_last]; simp [hown]; omega) hlk hok g' cap' hchg hown' hfoot.out rfl
              rw [← HCs.out, HL.out]
              first | exact q | (simp only [Bool.and_false, hown, decide_false]; exact q)

end

section
open Go.RowKit

/-- An item, raw. -/
structure RIt where
  n : Int
  v : Int
  y : Bool
  so : Option Addr
  len : Nat
  cap : Nat
  f : Nat → RNd

abbrev ritV (x : RIt) : Array Value := #[.int .i64 x.n, .int .i64 x.v, .bool x.y, .slice x.so x.len x.cap]

structure RItAt (w : World) (g o : Nat) (x : RIt) : Prop where
  d0 : w.cell? ⟨g, o, none⟩ = some (.int .i64 x.n)
  d1 : w.cell? ⟨g, o + 1, none⟩ = some (.int .i64 x.v)
  d2 : w.cell? ⟨g, o + 2, none⟩ = some (.bool x.y)
  d3 : w.cell? ⟨g, o + 3, none⟩ = some (.slice x.so x.len x.cap)

structure RItOk (w : World) (x : RIt) : Prop where
  n1 : -9223372036854775808 ≤ x.n
  n2 : x.n ≤ 9223372036854775807
  v1 : -9223372036854775808 ≤ x.v
  v2 : x.v ≤ 9223372036854775807
  l : x.len ≤ 9223372036854775807
  w : RNds w x.so x.len x.f

/-- The items that were handed in. -/
def RIts (w : World) (io : Option Addr) (len : Nat) (F : Nat → RIt) : Prop :=
  ∀ i, i < len → ∃ g o, io = some ⟨g, o, none⟩ ∧ g < w.heap.size ∧ RItAt w g (o + i * 4) (F i) ∧ RItOk w (F i)

theorem RItAt.keep {w w' : World} {g o : Nat} {x : RIt} (h : RItAt w g o x) (hk : w'.heap[g]? = w.heap[g]?) : RItAt w' g o x :=
  ⟨(World.cell?_of_block hk).trans h.d0, (World.cell?_of_block hk).trans h.d1, (World.cell?_of_block hk).trans h.d2, (World.cell?_of_block hk).trans h.d3⟩

theorem RItOk.step {w w' : World} {x : RIt} (h : RItOk w x) (hb : Below w.heap.size w w') : RItOk w' x := ⟨h.n1, h.n2, h.v1, h.v2, h.l, h.w.step hb⟩

theorem RIts.step {w w' : World} {io : Option Addr} {len : Nat} {F : Nat → RIt} (h : RIts w io len F) (hb : Below w.heap.size w w') : RIts w' io len F := by
  intro i hi
  obtain ⟨g, o, e, hg, hx, hok⟩ := h i hi
  exact ⟨g, o, e, Nat.lt_of_lt_of_le hg hb.size, hx.keep (hb.block g hg), hok.step hb⟩

/-- What the first k items leave. -/
def shopC (F : Nat → RIt) : Nat → List Cr
  | 0 => []
  | k + 1 => letC (shopC F k) (pickN (F k).n 6) (1 + pickN (F k).v 9) (F k).y (ndsOf (F k).len (F k).f)

/-- A shop that lies above what was there. -/
def ShopUp (B : Nat) (w : World) (sb db : Nat) (cs : List Cr) : Prop :=
  B ≤ sb ∧ B ≤ db ∧ ∃ D ao cap is, ShopInv w sb db D ao cap is ∧ is.map It.cr = cs ∧ (∀ k, ShopFeet sb db D ao k → B ≤ k) ∧ ∀ k, ItRows is k → B ≤ k

theorem ShopInv.below {w w' : World} {sb db : Nat} {D : DepD} {ao : Option Addr} {cap : Nat} {is : List It} (h : ShopInv w sb db D ao cap is) (hb : Below w.heap.size w w') : ShopInv w' sb db D ao cap is :=
  ⟨h.dep.below hb, h.shop.below hb, h.pure, h.ok, h.m1, h.m2, h.apart, fun x hx => (h.rows x hx).keep hx fun k _ hl => hb.block k hl, h.nds, h.far, h.tsb⟩

theorem ShopUp.below {B : Nat} {w w' : World} {sb db : Nat} {cs : List Cr} (h : ShopUp B w sb db cs) (hb : Below w.heap.size w w') : ShopUp B w' sb db cs := by
  obtain ⟨h1, h2, D, ao, cap, is, hi, hc, hf, hr⟩ := h
  exact ⟨h1, h2, D, ao, cap, is, hi.below hb, hc, hf, hr⟩

theorem shop_first {w w1 : World} {db : Nat} (h : Opened w w1 db) :
    ShopUp w.heap.size (w1.alloc (.cells #[.pointer (some ⟨db, 0, none⟩), .slice none 0 0] 46)) w1.heap.size db [] ∧ Below w.heap.size w (w1.alloc (.cells #[.pointer (some ⟨db, 0, none⟩), .slice none 0 0] 46)) := by
  obtain ⟨D, hD, hP, hb, hf⟩ := h
  have hk := (Below.refl w1.heap.size w1).alloc (Nat.le_refl _) (.cells #[.pointer (some ⟨db, 0, none⟩), .slice none 0 0] 46)
  have hx := heap1_new w1 (.cells #[.pointer (some ⟨db, 0, none⟩), .slice none 0 0] 46)
  have hnone : ∀ {k : Nat}, ¬ blockOf none k := fun ⟨a, e, _⟩ => by cases e
  have hno : ∀ {k : Nat}, ¬ ItRows [] k := fun ⟨x, hx, _⟩ => by cases hx
  refine ⟨⟨hb.size, hf db (Or.inl rfl), D, none, 0, [], ⟨hD.below hk, ⟨cell_of_heap hx 0, cell_of_heap hx 1, frozen_of_heap hx _, frozen_of_heap hx _, World.ownsRow_nil _ _ _ _, Nat.zero_le _⟩, hP.trans (by simp [shopP, shopLog, shopH, shopPub, shopYk]), (fun x hx => by cases hx), Nat.zero_le _, Nat.zero_le _, ?_, (fun x hx => by cases hx), (fun x hx => by cases hx), fun k hk => absurd hk hno, hD.tab.lt⟩, rfl, ?_, fun k hk => absurd hk hno⟩, hb.alloc hb.size _⟩
  · rintro k hd (rfl | h)
    · have := (hD.foot hd).2; omega
    · exact hnone h
  · rintro k (h | rfl | h)
    · exact hf k h
    · exact hb.size
    · exact absurd h hnone

set_option maxHeartbeats 1600000 in
set_option maxRecDepth 100000 in
theorem shop_any (io : Option Addr) (len cap : Nat) (F : Nat → RIt) (w : World) (htab : TabOk w) (hlen : len ≤ 9223372036854775807) (hf : RIts w io len F) :
    Calls Tryd.prog 13 #[.slice io len cap] w fun e w' => ∃ sb db, e = .returned (.pointer (some ⟨sb, 0, none⟩)) ∧ ShopUp w.heap.size w' sb db (shopC F len) ∧ Below w.heap.size w w' := by
  have HF := hide hf
  clear hf
  go_enter Tryd.func13, Tryd.ntmps13
  go_wp2_with fail
  refine (opened_any _ htab).mono ?_
  rintro e w1 ⟨rfl, hop⟩
  have hF1 := hide (shop_first hop)
  clear hop
  go_wp2_with fail
  go_loopw [5, 6] (fun i _ wr => ∃ k : Nat, k ≤ len ∧ i = .int .i64 k ∧ ShopUp w.heap.size wr w1.heap.size w.heap.size (shopC F k) ∧ Below w.heap.size w wr) (fun i _ _ => len - (intOf i).toNat)
  case atStart => exact ⟨0, Nat.zero_le _, rfl, hF1.out.1, hF1.out.2⟩
  case round =>
    obtain ⟨k, hk, rfl, hI, hb⟩ := hrel
    clear hF1
    by_cases hlt : k < len
    · obtain ⟨g, o, rfl, hg, hop, hok⟩ := (HF.out.step hb) k hlt
      obtain ⟨d0, d1, d2, d3⟩ := hop
      obtain ⟨u1, u2, D, ao, cp, is, hi, hc, hfe, hro⟩ := hI
      have HL := hide (fun W (h : ShopInv W w1.heap.size w.heap.size D ao cp is) (h2 : RItOk W (F k)) => let_any w1.heap.size w.heap.size D ao cp is (F k).n (F k).v (F k).y (F k).so (F k).len (F k).cap (F k).f W h h2.n1 h2.n2 h2.v1 h2.v2 h2.l h2.w _ rfl)
      have HNx : ∀ w2, ShopNext wr w2 w1.heap.size w.heap.size D ao is (letC (is.map It.cr) (pickN (F k).n 6) (1 + pickN (F k).v 9) (F k).y (ndsOf (F k).len (F k).f)) → ShopUp w.heap.size w2 w1.heap.size w.heap.size (shopC F (k + 1)) ∧ Below w.heap.size w w2 := by
        rintro w2 ⟨D', ao', cap', is', hi', hc', hchg, hfe', hro'⟩
        refine ⟨⟨u1, u2, D', ao', cap', is', hi', by rw [hc', hc]; rfl, ?_, ?_⟩, hb.trans (hchg.below hb.size hfe)⟩
        · intro q hq
          exact (hfe' q hq).elim (hfe q) (fun h => Nat.le_trans hb.size h)
        · intro q hq
          exact (hro' q hq).elim (hro q) (fun h => Nat.le_trans hb.size h)
      have HNx' := hide HNx
      clear HNx
      generalize F k = x at *
      go_wp2_with fail
      refine (HL.out _ hi hok).mono ?_
      rintro e w2 ⟨rfl, hn⟩
      obtain ⟨hI2, hb2⟩ := HNx'.out w2 hn
      clear hn hi hok HL HNx' d0 d1 d2 d3
      go_wp2_with fail
      go_roundw
      case rel => exact ⟨k + 1, by omega, by go_num, hI2, hb2⟩
      case measure => simp [intOf] <;> omega
    · obtain rfl : k = len := by omega
      go_wp2_with fail
      go_ret
      exact ⟨_, _, rfl, hI, hb⟩

end

end Go.Proofs.YtgcldedkempjhaaDoor
