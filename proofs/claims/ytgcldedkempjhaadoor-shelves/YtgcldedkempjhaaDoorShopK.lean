/-
  depotkeep: a shop and its depot in memory, and what let leaves.
-/
import Derived.Test.YtgcldedkempjhaaDoorShopR
namespace Go.Proofs.YtgcldedkempjhaaDoor
open Go.RowKit

theorem raw_step {W w2 : World} {b : Nat} {v0 v1 v2 v3 : Value} (h : W.cell? ⟨b, 0, none⟩ = some v0 ∧ W.cell? ⟨b, 1, none⟩ = some v1 ∧ W.cell? ⟨b, 2, none⟩ = some v2 ∧ W.cell? ⟨b, 3, none⟩ = some v3) (hb : Below W.heap.size W w2) :
    w2.cell? ⟨b, 0, none⟩ = some v0 ∧ w2.cell? ⟨b, 1, none⟩ = some v1 ∧ w2.cell? ⟨b, 2, none⟩ = some v2 ∧ w2.cell? ⟨b, 3, none⟩ = some v3 := by
  have hg : b < W.heap.size := World.block_lt_of_cell? W ⟨b, 0, none⟩ h.1
  have hk := hb.block b hg
  exact ⟨(World.cell?_of_block hk).trans h.1, (World.cell?_of_block hk).trans h.2.1, (World.cell?_of_block hk).trans h.2.2.1, (World.cell?_of_block hk).trans h.2.2.2⟩

theorem RNds.step {w W : World} {so : Option Addr} {len : Nat} {f : Nat → RNd} (h : RNds w so len f) (hb : Below w.heap.size w W) : RNds W so len f := by
  intro i h1 h2
  obtain ⟨g, o, e, hg, hx, hok⟩ := h i h1 h2
  exact ⟨g, o, e, Nat.lt_of_lt_of_le hg hb.size, hx.keep (hb.block g hg), hok⟩

theorem item_zero {w2 : World} {b : Nat} (hit : w2.heap[b]? = some (.cells #[.int .i64 0, .int .i64 0, .bool false, .slice none 0 0] 65 (0, 0))) :
    w2.cell? ⟨b, 0, none⟩ = some (.int .i64 0) ∧ w2.cell? ⟨b, 1, none⟩ = some (.int .i64 0) ∧ w2.cell? ⟨b, 2, none⟩ = some (.bool false) ∧ w2.cell? ⟨b, 3, none⟩ = some (.slice none 0 0) ∧
    w2.frozen? ⟨b, 0, none⟩ = false ∧ w2.frozen? ⟨b, 1, none⟩ = false ∧ w2.frozen? ⟨b, 2, none⟩ = false ∧ w2.frozen? ⟨b, 3, none⟩ = false :=
  ⟨cell_of_heap hit 0, cell_of_heap hit 1, cell_of_heap hit 2, cell_of_heap hit 3, frozen_of_heap hit _, frozen_of_heap hit _, frozen_of_heap hit _, frozen_of_heap hit _⟩

/-- The item within the bounds, in its own block, with its wants' row. -/
structure LetBox (w wx : World) (ob : Nat) (pn pv : Nat) (Y : Bool) (ro : Option Addr) (rc : Nat) (l : List Nd) : Prop where
  hit : wx.heap[ob]? = some (.cells #[.int .i64 pn, .int .i64 (1 + (pv : Int)), .bool Y, .slice ro l.length rc] 65 (0, 0))
  ge : w.heap.size ≤ ob
  row : wx.ownsRow w.heap.size 62 3 (.slice ro l.length rc) l.length (ndsCells l)
  bel : Below w.heap.size w wx

theorem box_late {w W w2 : World} {pn pv : Nat} {Y : Bool} {ro : Option Addr} {rc : Nat} {l : List Nd} (hb : Below w.heap.size w w2) (hW : w.heap.size ≤ W.heap.size)
    (hrow : w2.ownsRow W.heap.size 62 3 (.slice ro l.length rc) l.length (ndsCells l)) :
    LetBox w (w2.alloc (.cells #[.int .i64 pn, .int .i64 (1 + (pv : Int)), .bool Y, .slice ro l.length rc] 65)) w2.heap.size pn pv Y ro rc l :=
  ⟨heap1_new _ _, hb.size, ownsRow_base (hrow.alloc _) hW, hb.alloc hb.size _⟩

theorem box_early {w W w2 : World} {pn pv : Nat} {Y : Bool} {ro : Option Addr} {rc : Nat} {l : List Nd} (hb : Below w.heap.size w w2) (hW : W.heap.size = w.heap.size + 2)
    (hit : w2.heap[w.heap.size + 1]? = some (.cells #[.int .i64 0, .int .i64 0, .bool false, .slice none 0 0] 65 (0, 0)))
    (hrow : w2.ownsRow W.heap.size 62 3 (.slice ro l.length rc) l.length (ndsCells l)) :
    LetBox w ((((w2.setCell ⟨w.heap.size + 1, 0, none⟩ (.int .i64 pn)).setCell ⟨w.heap.size + 1, 1, none⟩ (.int .i64 (1 + (pv : Int)))).setCell ⟨w.heap.size + 1, 2, none⟩ (.bool Y)).setCell ⟨w.heap.size + 1, 3, none⟩ (.slice ro l.length rc)) (w.heap.size + 1) pn pv Y ro rc l := by
  have hn : ¬ blockOf ro (w.heap.size + 1) := fun h => by have := (blockOf_lt hrow h).1; omega
  refine ⟨?_, Nat.le_succ _, ownsRow_base (ownsRow_setCell_other (ownsRow_setCell_other (ownsRow_setCell_other (ownsRow_setCell_other hrow hn _) hn _) hn _) hn _) (by omega), ?_⟩
  · simp [World.setCell, Array.getElem?_modify, hit]
  · have h0 := Nat.le_succ w.heap.size
    exact (((hb.setCell h0 _).setCell h0 _).setCell h0 _).setCell h0 _

theorem own_both (is : List It) : is.length = ownN true is + ownN false is := by
  induction is with
  | nil => rfl
  | cons x t ih =>
    unfold ownN at *
    rw [List.countP_cons, List.countP_cons, List.length_cons, ih]
    cases decide (3 ≤ x.n) <;> simp <;> omega

/-- The wants of an item, in memory. -/
def ItRow (w : World) (sb : Nat) (x : It) : Prop := ∃ ro rc, x.wv = .slice ro x.ws.length rc ∧ w.ownsRow (sb + 1) 62 3 (.slice ro x.ws.length rc) x.ws.length (ndsCells x.ws)

def ItRows (is : List It) (k : Nat) : Prop := ∃ x ∈ is, ∃ ro n c, x.wv = .slice ro n c ∧ blockOf ro k

/-- A shop, its depot, and what they hold. -/
structure ShopInv (w : World) (sb db : Nat) (D : DepD) (ao : Option Addr) (cap : Nat) (is : List It) : Prop where
  dep : DepAt w db D
  shop : ShopAt w sb db ao cap is
  pure : D.pure = shopP is []
  ok : ItsOk is
  m1 : ownN true is ≤ 12
  m2 : ownN false is ≤ 24
  apart : ∀ k, DepFoot db D k → ¬ ShopFoot sb ao k
  rows : ∀ x ∈ is, ItRow w sb x
  nds : ∀ x ∈ is, x.ws.length ≤ 6 ∧ ∀ y ∈ x.ws, NdOk y
  far : ∀ k, ItRows is k → ¬ DepFoot db D k ∧ ¬ ShopFoot sb ao k
  tsb : tabB < sb

def ShopFeet (sb db : Nat) (D : DepD) (ao : Option Addr) (k : Nat) : Prop := DepFoot db D k ∨ ShopFoot sb ao k

/-- An item without its place in memory. -/
structure Cr where
  n : Nat
  v : Nat
  y : Bool
  ws : List Nd

def It.cr (x : It) : Cr := ⟨x.n, x.v, x.y, x.ws⟩

def crOwn (own : Bool) (cs : List Cr) : Nat := cs.countP fun x => decide (3 ≤ x.n) == own

/-- What is there behind a version more. -/
def letC (cs : List Cr) (n v : Nat) (y : Bool) (l : List Nd) : List Cr :=
  if (cs.any fun x => x.n == n && x.v == v) then cs else
  if (if 3 ≤ n then 12 else 24) ≤ crOwn (decide (3 ≤ n)) cs then cs else cs ++ [⟨n, v, y && decide (3 ≤ n), l⟩]

theorem crOwn_map (own : Bool) (is : List It) : crOwn own (is.map It.cr) = ownN own is := by
  unfold crOwn ownN
  rw [List.countP_map]
  rfl

theorem any_cr (is : List It) (n v : Nat) : ((is.map It.cr).any fun x => x.n == n && x.v == v) = (is.find? (itP n v)).isSome := by
  rw [List.any_map, Bool.eq_iff_iff, List.any_eq_true, List.find?_isSome]
  rfl

theorem letC_taken {is : List It} {n v : Nat} (y : Bool) (l : List Nd) (h : (is.find? (itP n v)).isSome = true) : letC (is.map It.cr) n v y l = is.map It.cr := by
  unfold letC
  rw [any_cr, h, if_pos rfl]

theorem letC_room {is : List It} {n v : Nat} (y : Bool) (l : List Nd) (h : (if 3 ≤ n then 12 else 24) ≤ ownN (decide (3 ≤ n)) is) : letC (is.map It.cr) n v y l = is.map It.cr := by
  unfold letC
  rw [crOwn_map, if_pos h]
  split <;> rfl

theorem letC_push {is : List It} {n v : Nat} (y : Bool) (l : List Nd) (wv : Value) (h0 : is.find? (itP n v) = none) (h : ¬ (if 3 ≤ n then 12 else 24) ≤ ownN (decide (3 ≤ n)) is) (z : Bool) (hz : z = (y && decide (3 ≤ n))) :
    letC (is.map It.cr) n v y l = (is ++ [(⟨n, v, z, wv, l⟩ : It)]).map It.cr := by
  unfold letC
  rw [any_cr, h0, if_neg (by decide), crOwn_map, if_neg h, List.map_append, hz]
  rfl

/-- A shop behind a step. -/
def ShopNext (w w' : World) (sb db : Nat) (D : DepD) (ao : Option Addr) (is : List It) (cs : List Cr) : Prop :=
  ∃ D' ao' cap' is', ShopInv w' sb db D' ao' cap' is' ∧ is'.map It.cr = cs ∧ Chg (ShopFeet sb db D ao) w w' ∧ (∀ k, ShopFeet sb db D' ao' k → ShopFeet sb db D ao k ∨ w.heap.size ≤ k) ∧ ∀ k, ItRows is' k → ItRows is k ∨ w.heap.size ≤ k

theorem ItRow.keep {w w' : World} {sb : Nat} {is : List It} {x : It} (h : ItRow w sb x) (hx : x ∈ is) (hk : ∀ k, ItRows is k → k < w.heap.size → w'.heap[k]? = w.heap[k]?) : ItRow w' sb x := by
  obtain ⟨ro, rc, e, ho⟩ := h
  exact ⟨ro, rc, e, ownsRow_keep ho fun k q => hk k ⟨x, hx, ro, _, _, e, q⟩ (blockOf_lt ho q).2⟩

theorem ItRow.lt {w : World} {sb : Nat} {is : List It} (h : ∀ x ∈ is, ItRow w sb x) {k : Nat} (hk : ItRows is k) : k < w.heap.size := by
  obtain ⟨x, hx, ro, n, c, e, q⟩ := hk
  obtain ⟨ro', rc', e', ho⟩ := h x hx
  rw [e] at e'
  cases e'
  exact (blockOf_lt ho q).2

theorem nameK_own {n : Nat} (hn : 3 ≤ n) (hn6 : n < 6) : (nameK n).size = 3 ∧ (nameK n).extract 2 3 = labK n := by
  have h1 : n = 3 ∨ n = 4 ∨ n = 5 := by omega
  rcases h1 with rfl | rfl | rfl <;> exact ⟨rfl, by decide⟩

/-- Behind a call of the depot the shop is as it was. -/
theorem ShopAt.chg {w w' : World} {sb db : Nat} {D : DepD} {ao : Option Addr} {cap : Nat} {is : List It} (h : ShopAt w sb db ao cap is) (hc : Chg (DepFoot db D) w w') (ha : ∀ k, DepFoot db D k → ¬ ShopFoot sb ao k) : ShopAt w' sb db ao cap is :=
  h.keep fun k hk => hc.block k (h.foot hk).2 fun hd => ha k hd hk

theorem below_same {w1 W w2 : World} (h2 : Below W.heap.size W w2) (e1 : W.heap = w1.heap) (e2 : W.os = w1.os) (e3 : W.tape = w1.tape) (e4 : W.output = w1.output) : Below w1.heap.size w1 w2 := by
  refine ⟨h2.os.trans e2, h2.tape.trans e3, h2.output.trans e4, ?_, ?_⟩
  · have := h2.size; rw [e1] at this; exact this
  · intro k hk
    rw [h2.block k (by rw [e1]; exact hk), e1]

/-- Behind Publish or Feed: the depot, the shop, the item. -/
structure LetMid (w wx : World) (sb db : Nat) (D : DepD) (ob : Nat) (P' : PDep) (ao : Option Addr) (cap : Nat) (is : List It) (cs : Array Value) (ro : Option Addr) (rc : Nat) (l : List Nd) : Prop where
  dep : ∃ D2, DepAt wx db D2 ∧ D2.pure = P' ∧ (∀ k, DepFoot db D2 k → DepFoot db D k ∨ w.heap.size ≤ k) ∧ (∀ k, DepFoot db D2 k → ¬ ShopFoot sb ao k) ∧ ¬ DepFoot db D2 ob ∧ (∀ k, blockOf ro k → ¬ DepFoot db D2 k) ∧ ∀ k, k < w.heap.size → ¬ DepFoot db D k → ¬ DepFoot db D2 k
  chg : Chg (DepFoot db D) w wx
  shop : ShopAt wx sb db ao cap is
  hit : wx.heap[ob]? = some (.cells cs 65 (0, 0))
  row : wx.ownsRow w.heap.size 62 3 (.slice ro l.length rc) l.length (ndsCells l)

theorem mid_of {w w1 W w2 : World} {sb db ob : Nat} {D : DepD} {ao : Option Addr} {cap : Nat} {is : List It} {cs : Array Value} {P' : PDep} {ro : Option Addr} {rc : Nat} {l : List Nd} (hr : ShopAt w1 sb db ao cap is) (hit : w1.heap[ob]? = some (.cells cs 65 (0, 0))) (hbel : Below w.heap.size w w1) (hd0 : DepAt w db D)
    (hrow : w1.ownsRow w.heap.size 62 3 (.slice ro l.length rc) l.length (ndsCells l))
    (ha : ∀ k, DepFoot db D k → ¬ ShopFoot sb ao k) (hge : w.heap.size ≤ ob) (hst : DepStep W w2 db D P') (e1 : W.heap = w1.heap) (e2 : W.os = w1.os) (e3 : W.tape = w1.tape) (e4 : W.output = w1.output) :
    ShopAt w2 sb db ao cap is ∧ w2.heap[ob]? = some (.cells cs 65 (0, 0)) ∧ LetMid w w2 sb db D ob P' ao cap is cs ro rc l := by
  obtain ⟨D2, hD2, hp, hc, hfoot⟩ := hst
  have hlt : ob < w1.heap.size := (Array.getElem?_eq_some_iff.1 hit).1
  have hob : ¬ DepFoot db D ob := fun h => by have := (hd0.foot h).2; omega
  have hrf : ∀ k, blockOf ro k → ¬ DepFoot db D k := fun k hk h => by have := (hd0.foot h).2; have := (blockOf_lt hrow hk).1; omega
  have hc1 : Chg (DepFoot db D) w1 w2 := ⟨hc.os.trans e2, hc.tape.trans e3, hc.output.trans e4, by have := hc.size; rw [e1] at this; exact this, fun k hk hn => by rw [hc.block k (by rw [e1]; exact hk) hn, e1]⟩
  have hr2 := hr.chg hc1 ha
  have hit2 := (hc1.block ob hlt hob).trans hit
  have hrow2 := ownsRow_keep hrow fun k hk => hc1.block k (blockOf_lt hrow hk).2 (hrf k hk)
  rw [e1] at hfoot
  refine ⟨hr2, hit2, ⟨D2, hD2, hp, ?_, ?_, ?_, ?_, ?_⟩, (Chg.ofBelow hbel).trans hc1 (fun i h => Or.inl h), hr2, hit2, hrow2⟩
  · intro k hk
    rcases hfoot k hk with h | h
    · exact Or.inl h
    · exact Or.inr (Nat.le_trans hbel.size h)
  · intro k hk hs
    rcases hfoot k hk with h | h
    · exact ha k h hs
    · have := (hr.foot hs).2; omega
  · intro hk
    rcases hfoot ob hk with h | h
    · exact hob h
    · omega
  · intro k hk hd
    rcases hfoot k hd with h | h
    · exact hrf k hk h
    · have := (blockOf_lt hrow hk).2; omega
  · intro k hk hn hd
    rcases hfoot k hd with h | h
    · exact hn h
    · have := hbel.size; omega

/-- A call more of the depot. -/
theorem mid_more {w w1 W w2 : World} {sb db ob : Nat} {D D2 : DepD} {ao : Option Addr} {cap : Nat} {is : List It} {cs : Array Value} {P' : PDep} {ro : Option Addr} {rc : Nat} {l : List Nd} (hr : ShopAt w1 sb db ao cap is) (hit : w1.heap[ob]? = some (.cells cs 65 (0, 0))) (hchg : Chg (DepFoot db D) w w1)
    (hrow : w1.ownsRow w.heap.size 62 3 (.slice ro l.length rc) l.length (ndsCells l))
    (hfo : ∀ k, DepFoot db D2 k → DepFoot db D k ∨ w.heap.size ≤ k) (hap : ∀ k, DepFoot db D2 k → ¬ ShopFoot sb ao k) (hnob : ¬ DepFoot db D2 ob) (hrf : ∀ k, blockOf ro k → ¬ DepFoot db D2 k) (hold : ∀ k, k < w.heap.size → ¬ DepFoot db D k → ¬ DepFoot db D2 k)
    (hst : DepStep W w2 db D2 P') (e1 : W.heap = w1.heap) (e2 : W.os = w1.os) (e3 : W.tape = w1.tape) (e4 : W.output = w1.output) :
    ShopAt w2 sb db ao cap is ∧ w2.heap[ob]? = some (.cells cs 65 (0, 0)) ∧ LetMid w w2 sb db D ob P' ao cap is cs ro rc l := by
  obtain ⟨D3, hD3, hp, hc, hfoot⟩ := hst
  have hlt : ob < w1.heap.size := (Array.getElem?_eq_some_iff.1 hit).1
  have hc1 : Chg (DepFoot db D2) w1 w2 := ⟨hc.os.trans e2, hc.tape.trans e3, hc.output.trans e4, by have := hc.size; rw [e1] at this; exact this, fun k hk hn => by rw [hc.block k (by rw [e1]; exact hk) hn, e1]⟩
  have hr2 := hr.chg hc1 hap
  have hit2 := (hc1.block ob hlt hnob).trans hit
  have hrow2 := ownsRow_keep hrow fun k hk => hc1.block k (blockOf_lt hrow hk).2 (hrf k hk)
  rw [e1] at hfoot
  refine ⟨hr2, hit2, ⟨D3, hD3, hp, ?_, ?_, ?_, ?_, ?_⟩, hchg.trans hc1 hfo, hr2, hit2, hrow2⟩
  · intro k hk
    rcases hfoot k hk with h | h
    · exact hfo k h
    · exact Or.inr (Nat.le_trans hchg.size h)
  · intro k hk hs
    rcases hfoot k hk with h | h
    · exact hap k h hs
    · have := (hr.foot hs).2; omega
  · intro hk
    rcases hfoot ob hk with h | h
    · exact hnob h
    · omega
  · intro k hk hd
    rcases hfoot k hd with h | h
    · exact hrf k hk h
    · have := (blockOf_lt hrow hk).2; omega
  · intro k hk hn hd
    rcases hfoot k hd with h | h
    · exact hold k hk hn h
    · have := hchg.size; omega

/-- The item's mark is laid down. -/
theorem tab_not {w : World} {b : Nat} {cs : Array Value} {t : TypeId} {fr : Nat × Nat} (h : TabOk w) (hb : w.heap[b]? = some (.cells cs t fr)) (hn : cs.size ≠ 20) : tabB ≠ b := by
  rintro rfl
  obtain ⟨t', fr', h⟩ := h
  rw [h] at hb
  injection hb with hb
  injection hb with hb _ _
  rw [← hb] at hn
  exact hn rfl

theorem mid_store {w wx : World} {sb db ob : Nat} {D : DepD} {ao : Option Addr} {cap : Nat} {is : List It} {a b c d : Value} {P' : PDep} {ro : Option Addr} {rc : Nat} {l : List Nd} (h : LetMid w wx sb db D ob P' ao cap is #[a, b, c, d] ro rc l) (hge : w.heap.size ≤ ob) (hsf : ∀ k, ShopFoot sb ao k → k < w.heap.size) :
    LetMid w (wx.setCell ⟨ob, 2, none⟩ (.bool false)) sb db D ob P' ao cap is #[a, b, .bool false, d] ro rc l := by
  obtain ⟨⟨D2, hD2, hp, hfo, hap, hnob, hrf, hold⟩, hc, hr, hit, hrow⟩ := h
  have hro : ¬ blockOf ro ob := by
    intro hk
    obtain ⟨c1, q1⟩ := blockOf_heap hrow hk
    rw [hit] at q1
    injection q1 with q
    injection q with _ q _
    exact absurd q (by decide)
  have hne : ∀ k, k ≠ ob → (wx.setCell ⟨ob, 2, none⟩ (.bool false)).heap[k]? = wx.heap[k]? := fun k hk => Below.heap_setCell _ _ _ _ hk
  refine ⟨⟨D2, hD2.keep (fun k hk => hne k (fun e => hnob (e ▸ hk))) (hne _ (tab_not hD2.tab hit (by simp))), hp, hfo, hap, hnob, hrf, hold⟩, hc.setCell (Or.inr hge) _, hr.keep fun k hk => hne k (fun e => by have := hsf k hk; omega), ?_, ownsRow_setCell_other hrow hro _⟩
  simp [World.setCell, Array.getElem?_modify, hit]

/-- Nothing was let in. -/
theorem let_none {w wx : World} {sb db ob : Nat} {D : DepD} {ao : Option Addr} {cap : Nat} {is : List It} {cs : Array Value} {ro : Option Addr} {rc : Nat} {l : List Nd} (hi : ShopInv w sb db D ao cap is) (h : LetMid w wx sb db D ob (shopP is []) ao cap is cs ro rc l) : ShopNext w wx sb db D ao is (is.map It.cr) := by
  obtain ⟨⟨D2, hD2, hp, hfo, hap, _, _, hold⟩, hchg, hr, _, _⟩ := h
  have hlt : ∀ k, ItRows is k → k < w.heap.size := fun k hk => ItRow.lt hi.rows hk
  exact ⟨D2, ao, cap, is, ⟨hD2, hr, hp, hi.ok, hi.m1, hi.m2, hap, fun x hx => (hi.rows x hx).keep hx fun k hk hl => hchg.block k hl (hi.far k hk).1, hi.nds, fun k hk => ⟨hold k (hlt k hk) (hi.far k hk).1, (hi.far k hk).2⟩, hi.tsb⟩, rfl,
    hchg.mono fun _ h => Or.inl h, fun k hk => hk.elim (fun h => (hfo k h).elim (fun h => Or.inl (Or.inl h)) Or.inr) (fun h => Or.inl (Or.inr h)), fun k hk => Or.inl hk⟩

/-- The item is let in: what the append leaves. -/
theorem let_push {w wx w1 w' : World} {sb db ob : Nat} {D : DepD} {ao : Option Addr} {cap : Nat} {is : List It} {cs : Array Value} {ro : Option Addr} {rc : Nat} {l : List Nd} {n v : Nat} {y : Bool} (hi : ShopInv w sb db D ao cap is)
    (h : LetMid w wx sb db D ob (shopP (is ++ [⟨n, v, y, .slice ro l.length rc, l⟩]) []) ao cap is cs ro rc l)
    (hok : ItsOk (is ++ [⟨n, v, y, .slice ro l.length rc, l⟩])) (hm1 : ownN true (is ++ [⟨n, v, y, .slice ro l.length rc, l⟩]) ≤ 12) (hm2 : ownN false (is ++ [⟨n, v, y, .slice ro l.length rc, l⟩]) ≤ 24)
    (hl6 : l.length ≤ 6) (hnd : ∀ y ∈ l, NdOk y) (g' cap' : Nat) (hchg : Chg (blockOf ao) wx w1)
    (hown : w1.ownsRow (sb + 1) 65 4 (.slice (some ⟨g', 0, none⟩) (is.length + 1) cap') (is.length + 1) (itCells is ++ [.int .i64 n, .int .i64 v, .bool y, .slice ro l.length rc]))
    (hao : blockOf ao g' ∨ wx.heap.size ≤ g') (hw' : w' = w1.setCell ⟨sb, 1, none⟩ (.slice (some ⟨g', 0, none⟩) (is.length + 1) cap')) : ShopNext w w' sb db D ao is ((is ++ [(⟨n, v, y, .slice ro l.length rc, l⟩ : It)]).map It.cr) := by
  obtain ⟨⟨D2, hD2, hp, hfo, hap, _, hrf, hold⟩, hc0, hr, _, hrow⟩ := h
  have hlt : ∀ k, ItRows is k → k < w.heap.size := fun k hk => ItRow.lt hi.rows hk
  have hsb : ¬ blockOf ao sb := fun hk => by have := (blockOf_lt hr.own hk).1; omega
  have hkeep : ∀ k, k < wx.heap.size → ¬ ShopFoot sb ao k → w'.heap[k]? = wx.heap[k]? := by
    intro k hk hn
    rw [hw', Below.heap_setCell _ _ _ _ (fun e => hn (Or.inl e)), hchg.block k hk (fun hb => hn (Or.inr hb))]
  have hblk : w1.heap[sb]? = wx.heap[sb]? := hchg.block sb hr.lt hsb
  have hc1 := (World.cell?_of_block (a := ⟨sb, 1, none⟩) hblk).trans hr.c1
  have hc00 := (World.cell?_of_block (a := ⟨sb, 0, none⟩) hblk).trans hr.c0
  have hsg : ∀ k, ShopFoot sb (some ⟨g', 0, none⟩) k → ShopFoot sb ao k ∨ wx.heap.size ≤ k := by
    intro k hk
    rcases hk with rfl | ⟨a, e, rfl⟩
    · exact Or.inl (Or.inl rfl)
    · cases e
      exact hao.elim (fun h => Or.inl (Or.inr h)) Or.inr
  have hnsb : ¬ blockOf (some ⟨g', 0, none⟩) sb := by
    rintro ⟨a, e, he⟩
    cases e
    exact hao.elim (fun h => hsb (by rwa [show g' = sb from he] at h)) (fun h => by have := hr.lt; have : g' = sb := he; omega)
  have hlen : (is ++ [(⟨n, v, y, .slice ro l.length rc, l⟩ : It)]).length = is.length + 1 := by simp
  have hshop : ShopAt w' sb db (some ⟨g', 0, none⟩) cap' (is ++ [⟨n, v, y, .slice ro l.length rc, l⟩]) := by
    have hfz : ∀ o, w'.frozen? ⟨sb, o, none⟩ = w1.frozen? ⟨sb, o, none⟩ := by
      intro o
      rw [hw']
      exact World.frozen?_setCell _ _ _ _
    refine ⟨?_, ?_, ?_, ?_, ?_, ?_⟩
    · rw [hw']
      exact (cell_setCell_ne (Or.inr (by decide))).trans hc00
    · rw [hlen, hw']
      exact cell_setCell_same hc1
    · exact (hfz 0).trans ((World.frozen?_of_block (a := ⟨sb, 0, none⟩) hblk).trans hr.f0)
    · exact (hfz 1).trans ((World.frozen?_of_block (a := ⟨sb, 1, none⟩) hblk).trans hr.f1)
    · rw [hlen, hw']
      have : itCells (is ++ [(⟨n, v, y, .slice ro l.length rc, l⟩ : It)]) = itCells is ++ [.int .i64 n, .int .i64 v, .bool y, .slice ro l.length rc] := by unfold itCells; rw [List.flatMap_append]; rfl
      rw [this]
      exact ownsRow_setCell_other hown hnsb _
    · rw [hlen]
      have h1 := own_both (is ++ [(⟨n, v, y, .slice ro l.length rc, l⟩ : It)])
      omega
  have hdep : DepAt w' db D2 := hD2.keep (fun k hk => hkeep k (hD2.foot hk).2 (hap k hk)) (hkeep _ hD2.tab.lt (fun hk => by have := (hi.shop.foot hk).1; have := hi.tsb; omega))
  have hrow' : ∀ x ∈ is, ItRow w' sb x := fun x hx => (hi.rows x hx).keep hx fun k hk hl => (hkeep k (Nat.lt_of_lt_of_le hl hc0.size) (hi.far k hk).2).trans (hc0.block k hl (hi.far k hk).1)
  have hsw : sb < w.heap.size := hi.shop.lt
  have hrs : ∀ k, blockOf ro k → ¬ ShopFoot sb ao k := fun k hk hs => by have := (hi.shop.foot hs).2; have := (blockOf_lt hrow hk).1; omega
  refine ⟨D2, some ⟨g', 0, none⟩, cap', _, ⟨hdep, hshop, hp, hok, hm1, hm2, ?_, ?_, ?_, ?_, hi.tsb⟩, rfl, ?_, ?_, ?_⟩
  · intro k hk hs
    rcases hsg k hs with h | h
    · exact hap k hk h
    · have := (hD2.foot hk).2; omega
  · intro x hx
    rcases List.mem_append.1 hx with hx | hx
    · exact hrow' x hx
    · obtain rfl := List.mem_singleton.1 hx
      exact ⟨ro, rc, rfl, ownsRow_base (ownsRow_keep hrow fun k hk => hkeep k (blockOf_lt hrow hk).2 (hrs k hk)) (by omega)⟩
  · intro x hx
    rcases List.mem_append.1 hx with hx | hx
    · exact hi.nds x hx
    · obtain rfl := List.mem_singleton.1 hx
      exact ⟨hl6, hnd⟩
  · intro k hk
    obtain ⟨x, hx, ro', n', c', e, hb⟩ := hk
    rcases List.mem_append.1 hx with hx | hx
    · have hk' : ItRows is k := ⟨x, hx, ro', n', c', e, hb⟩
      refine ⟨hold k (hlt k hk') (hi.far k hk').1, fun hs => ?_⟩
      rcases hsg k hs with h | h
      · exact (hi.far k hk').2 h
      · have := hlt k hk'; have := hc0.size; omega
    · obtain rfl := List.mem_singleton.1 hx
      cases e
      refine ⟨hrf k hb, fun hs => ?_⟩
      rcases hsg k hs with h | h
      · exact hrs k hb h
      · have := (blockOf_lt hrow hb).2; omega
  · have hc' : Chg (ShopFoot sb ao) wx w' := by
      rw [hw']
      exact (hchg.mono (S' := ShopFoot sb ao) fun _ h => Or.inr h).setCell (p := ⟨sb, 1, none⟩) (Or.inl (Or.inl rfl)) _
    exact (hc0.mono (S' := ShopFeet sb db D ao) fun _ h => Or.inl h).trans hc' fun _ h => Or.inl (Or.inr h)
  · intro k hk
    rcases hk with h | h
    · exact (hfo k h).elim (fun h => Or.inl (Or.inl h)) Or.inr
    · rcases hsg k h with h | h
      · exact Or.inl (Or.inr h)
      · exact Or.inr (Nat.le_trans hc0.size h)
  · intro k hk
    obtain ⟨x, hx, ro', n', c', e, hb⟩ := hk
    rcases List.mem_append.1 hx with hx | hx
    · exact Or.inl ⟨x, hx, ro', n', c', e, hb⟩
    · obtain rfl := List.mem_singleton.1 hx
      cases e
      exact Or.inr (blockOf_lt hrow hb).1

end Go.Proofs.YtgcldedkempjhaaDoor
