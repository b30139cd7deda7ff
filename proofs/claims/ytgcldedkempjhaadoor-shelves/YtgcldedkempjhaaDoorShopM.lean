/-
  depotkeep: shop: a depot, with these items.
-/
import Derived.Test.YtgcldedkempjhaaDoorShopL
namespace Go.Proofs.YtgcldedkempjhaaDoor
open Go.RowKit

/-- An item, raw. -/
structure RIt where
  n : Int
  v : Int
  y : Bool
  so : Option Addr
  len : Nat
  cap : Nat
  f : Nat → RNd

abbrev ritV (x : RIt) : Array Value := #[.int .i64 x.n, .int .i64 x.v, .bool x.y, .slice x.so x.len x.cap]

structure RItAt (w : World) (g o : Nat) (x : RIt) : Prop where
  d0 : w.cell? ⟨g, o, none⟩ = some (.int .i64 x.n)
  d1 : w.cell? ⟨g, o + 1, none⟩ = some (.int .i64 x.v)
  d2 : w.cell? ⟨g, o + 2, none⟩ = some (.bool x.y)
  d3 : w.cell? ⟨g, o + 3, none⟩ = some (.slice x.so x.len x.cap)

structure RItOk (w : World) (x : RIt) : Prop where
  n1 : -9223372036854775808 ≤ x.n
  n2 : x.n ≤ 9223372036854775807
  v1 : -9223372036854775808 ≤ x.v
  v2 : x.v ≤ 9223372036854775807
  l : x.len ≤ 9223372036854775807
  w : RNds w x.so x.len x.f

/-- The items that were handed in. -/
def RIts (w : World) (io : Option Addr) (len : Nat) (F : Nat → RIt) : Prop :=
  ∀ i, i < len → ∃ g o, io = some ⟨g, o, none⟩ ∧ g < w.heap.size ∧ RItAt w g (o + i * 4) (F i) ∧ RItOk w (F i)

theorem RItAt.keep {w w' : World} {g o : Nat} {x : RIt} (h : RItAt w g o x) (hk : w'.heap[g]? = w.heap[g]?) : RItAt w' g o x :=
  ⟨(World.cell?_of_block hk).trans h.d0, (World.cell?_of_block hk).trans h.d1, (World.cell?_of_block hk).trans h.d2, (World.cell?_of_block hk).trans h.d3⟩

theorem RItOk.step {w w' : World} {x : RIt} (h : RItOk w x) (hb : Below w.heap.size w w') : RItOk w' x := ⟨h.n1, h.n2, h.v1, h.v2, h.l, h.w.step hb⟩

theorem RIts.step {w w' : World} {io : Option Addr} {len : Nat} {F : Nat → RIt} (h : RIts w io len F) (hb : Below w.heap.size w w') : RIts w' io len F := by
  intro i hi
  obtain ⟨g, o, e, hg, hx, hok⟩ := h i hi
  exact ⟨g, o, e, Nat.lt_of_lt_of_le hg hb.size, hx.keep (hb.block g hg), hok.step hb⟩

/-- What the first k items leave. -/
def shopC (F : Nat → RIt) : Nat → List Cr
  | 0 => []
  | k + 1 => letC (shopC F k) (pickN (F k).n 6) (1 + pickN (F k).v 9) (F k).y (ndsOf (F k).len (F k).f)

/-- A shop that lies above what was there. -/
def ShopUp (B : Nat) (w : World) (sb db : Nat) (cs : List Cr) : Prop :=
  B ≤ sb ∧ B ≤ db ∧ ∃ D ao cap is, ShopInv w sb db D ao cap is ∧ is.map It.cr = cs ∧ (∀ k, ShopFeet sb db D ao k → B ≤ k) ∧ ∀ k, ItRows is k → B ≤ k

theorem ShopInv.below {w w' : World} {sb db : Nat} {D : DepD} {ao : Option Addr} {cap : Nat} {is : List It} (h : ShopInv w sb db D ao cap is) (hb : Below w.heap.size w w') : ShopInv w' sb db D ao cap is :=
  ⟨h.dep.below hb, h.shop.below hb, h.pure, h.ok, h.m1, h.m2, h.apart, fun x hx => (h.rows x hx).keep hx fun k _ hl => hb.block k hl, h.nds, h.far, h.tsb⟩

theorem ShopUp.below {B : Nat} {w w' : World} {sb db : Nat} {cs : List Cr} (h : ShopUp B w sb db cs) (hb : Below w.heap.size w w') : ShopUp B w' sb db cs := by
  obtain ⟨h1, h2, D, ao, cap, is, hi, hc, hf, hr⟩ := h
  exact ⟨h1, h2, D, ao, cap, is, hi.below hb, hc, hf, hr⟩

theorem shop_first {w w1 : World} {db : Nat} (h : Opened w w1 db) :
    ShopUp w.heap.size (w1.alloc (.cells #[.pointer (some ⟨db, 0, none⟩), .slice none 0 0] 46)) w1.heap.size db [] ∧ Below w.heap.size w (w1.alloc (.cells #[.pointer (some ⟨db, 0, none⟩), .slice none 0 0] 46)) := by
  obtain ⟨D, hD, hP, hb, hf⟩ := h
  have hk := (Below.refl w1.heap.size w1).alloc (Nat.le_refl _) (.cells #[.pointer (some ⟨db, 0, none⟩), .slice none 0 0] 46)
  have hx := heap1_new w1 (.cells #[.pointer (some ⟨db, 0, none⟩), .slice none 0 0] 46)
  have hnone : ∀ {k : Nat}, ¬ blockOf none k := fun ⟨a, e, _⟩ => by cases e
  have hno : ∀ {k : Nat}, ¬ ItRows [] k := fun ⟨x, hx, _⟩ => by cases hx
  refine ⟨⟨hb.size, hf db (Or.inl rfl), D, none, 0, [], ⟨hD.below hk, ⟨cell_of_heap hx 0, cell_of_heap hx 1, frozen_of_heap hx _, frozen_of_heap hx _, World.ownsRow_nil _ _ _ _, Nat.zero_le _⟩, hP.trans (by simp [shopP, shopLog, shopH, shopPub, shopYk]), (fun x hx => by cases hx), Nat.zero_le _, Nat.zero_le _, ?_, (fun x hx => by cases hx), (fun x hx => by cases hx), fun k hk => absurd hk hno, hD.tab.lt⟩, rfl, ?_, fun k hk => absurd hk hno⟩, hb.alloc hb.size _⟩
  · rintro k hd (rfl | h)
    · have := (hD.foot hd).2; omega
    · exact hnone h
  · rintro k (h | rfl | h)
    · exact hf k h
    · exact hb.size
    · exact absurd h hnone

set_option maxHeartbeats 1600000 in
set_option maxRecDepth 100000 in
theorem shop_any (io : Option Addr) (len cap : Nat) (F : Nat → RIt) (w : World) (htab : TabOk w) (hlen : len ≤ 9223372036854775807) (hf : RIts w io len F) :
    Calls Tryd.prog 13 #[.slice io len cap] w fun e w' => ∃ sb db, e = .returned (.pointer (some ⟨sb, 0, none⟩)) ∧ ShopUp w.heap.size w' sb db (shopC F len) ∧ Below w.heap.size w w' := by
  have HF := hide hf
  clear hf
  go_enter Tryd.func13, Tryd.ntmps13
  go_wp2_with fail
  refine (opened_any _ htab).mono ?_
  rintro e w1 ⟨rfl, hop⟩
  have hF1 := hide (shop_first hop)
  clear hop
  go_wp2_with fail
  go_loopw [5, 6] (fun i _ wr => ∃ k : Nat, k ≤ len ∧ i = .int .i64 k ∧ ShopUp w.heap.size wr w1.heap.size w.heap.size (shopC F k) ∧ Below w.heap.size w wr) (fun i _ _ => len - (intOf i).toNat)
  case atStart => exact ⟨0, Nat.zero_le _, rfl, hF1.out.1, hF1.out.2⟩
  case round =>
    obtain ⟨k, hk, rfl, hI, hb⟩ := hrel
    clear hF1
    by_cases hlt : k < len
    · obtain ⟨g, o, rfl, hg, hop, hok⟩ := (HF.out.step hb) k hlt
      obtain ⟨d0, d1, d2, d3⟩ := hop
      obtain ⟨u1, u2, D, ao, cp, is, hi, hc, hfe, hro⟩ := hI
      have HL := hide (fun W (h : ShopInv W w1.heap.size w.heap.size D ao cp is) (h2 : RItOk W (F k)) => let_any w1.heap.size w.heap.size D ao cp is (F k).n (F k).v (F k).y (F k).so (F k).len (F k).cap (F k).f W h h2.n1 h2.n2 h2.v1 h2.v2 h2.l h2.w _ rfl)
      have HNx : ∀ w2, ShopNext wr w2 w1.heap.size w.heap.size D ao is (letC (is.map It.cr) (pickN (F k).n 6) (1 + pickN (F k).v 9) (F k).y (ndsOf (F k).len (F k).f)) → ShopUp w.heap.size w2 w1.heap.size w.heap.size (shopC F (k + 1)) ∧ Below w.heap.size w w2 := by
        rintro w2 ⟨D', ao', cap', is', hi', hc', hchg, hfe', hro'⟩
        refine ⟨⟨u1, u2, D', ao', cap', is', hi', by rw [hc', hc]; rfl, ?_, ?_⟩, hb.trans (hchg.below hb.size hfe)⟩
        · intro q hq
          exact (hfe' q hq).elim (hfe q) (fun h => Nat.le_trans hb.size h)
        · intro q hq
          exact (hro' q hq).elim (hro q) (fun h => Nat.le_trans hb.size h)
      have HNx' := hide HNx
      clear HNx
      generalize F k = x at *
      go_wp2_with fail
      refine (HL.out _ hi hok).mono ?_
      rintro e w2 ⟨rfl, hn⟩
      obtain ⟨hI2, hb2⟩ := HNx'.out w2 hn
      clear hn hi hok HL HNx' d0 d1 d2 d3
      go_wp2_with fail
      go_roundw
      case rel => exact ⟨k + 1, by omega, by go_num, hI2, hb2⟩
      case measure => simp [intOf] <;> omega
    · obtain rfl : k = len := by omega
      go_wp2_with fail
      go_ret
      exact ⟨_, _, rfl, hI, hb⟩

end Go.Proofs.YtgcldedkempjhaaDoor
