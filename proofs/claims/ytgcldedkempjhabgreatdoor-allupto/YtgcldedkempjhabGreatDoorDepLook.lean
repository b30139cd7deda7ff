/-
  shelf.Shelf: Look; depot.place: offerAll.
-/
import Derived.Test.YtgcldedkempjhabGreatDoorSrchGo
import Derived.Test.YtgcldedkempjhabGreatDoorDepShow
namespace Go.Proofs.YtgcldedkempjhabGreatDoor
open Go.RowKit

/-- What Look tells of a version. -/
def lookV (o : Option Ed) : Array Value :=
  match o with
  | none => #[.slice none 0 0, .bool false, .bool false]
  | some e => #[.slice e.wao e.wants.length e.wcap, .bool e.off, .bool true]

set_option maxHeartbeats 800000 in
set_option maxRecDepth 100000 in
theorem shelfLook_any (base b o : Nat) (ao : Option Addr) (cap : Nat) (es : List Ed) (label : ByteArray) (v : Int) (w : World) (hr : ShelfAt w base b o ao cap es) (hlen : es.length ≤ 1000) :
    Calls Tryz.prog 120 #[.pointer (some ⟨b, o, none⟩), .string label, .int .i64 v] w fun e w' => e = .returned (.tuple (lookV (edF es label v))) ∧ Below w.heap.size w w' := by
  have c := hr.c
  rcases find_cases (edP label v) es with ⟨i, hi, h1, h2, h3⟩ | ⟨h1, h3⟩
  · have Hf := hide (shelfFind_some base b o ao cap es label v w hr hlen i hi h1 h2)
    have HE := hide (show lookV (edF es label v) = lookV (some es[i]) by unfold edF; rw [h3])
    obtain ⟨g, hg, hglt, hed⟩ := hr.ed i hi
    have d2 := hed.d2
    have d3 := hed.d3
    rw [hg] at c
    rw [HE.out]
    have hneg : ¬ (i : Int) < 0 := by omega
    generalize es[i] = x at *
    clear h1 h2 h3 hed
    go_enter Tryz.func120, Tryz.ntmps120
    go_wp2_with fail
    refine Hf.out.mono ?_
    rintro e w1 ⟨rfl, h⟩
    subst h
    go_wp2_with fail
    go_region
    all_goals
      go_wp2_with fail
      go_ret3
      exact ⟨rfl, below_drawn (Below.refl _ _) 1⟩
  · have Hf := hide (shelfFind_none base b o ao cap es label v w hr hlen h1)
    have HE := hide (show lookV (edF es label v) = lookV none by unfold edF; rw [h3])
    rw [HE.out]
    clear h1 h3
    go_enter Tryz.func120, Tryz.ntmps120
    go_wp2_with fail
    refine Hf.out.mono ?_
    rintro e w1 ⟨rfl, h⟩
    subst h
    go_wp2_with fail
    go_ret3
    exact ⟨rfl, Below.refl _ _⟩

def keysOf (ns : List ByteArray) : List (List UInt8) := ns.map fun n => n.toList

theorem nodup_le {α : Type} [DecidableEq α] : ∀ (l u : List α), l.Nodup → (∀ x ∈ l, x ∈ u) → l.length ≤ u.length := by
  intro l
  induction l with
  | nil => intro u _ _; exact Nat.zero_le _
  | cons a t ih =>
    intro u hn hs
    obtain ⟨h1, h2⟩ := List.nodup_cons.1 hn
    have ha := hs a (by simp)
    have := ih (u.erase a) h2 (fun x hx => (List.mem_erase_of_ne (fun e => h1 (by rw [← e]; exact hx))).2 (hs x (by simp [hx])))
    rw [List.length_erase_of_mem ha] at this
    have hp := List.length_pos_of_mem ha
    simp only [List.length_cons]
    omega

/-- The names of a search: no one twice; all of them known beforehand. -/
structure NsOk (ns U : List ByteArray) : Prop where
  nd : (keysOf ns).Nodup
  sub : ∀ x ∈ keysOf ns, x ∈ keysOf U

theorem NsOk.le {ns U : List ByteArray} (h : NsOk ns U) : ns.length ≤ U.length := by
  have := nodup_le _ _ h.nd h.sub
  simpa [keysOf] using this

theorem NsOk.place {ns U : List ByteArray} (h : NsOk ns U) {nm : ByteArray} (hm : nm.toList ∈ keysOf U) : NsOk (placeN ns nm).2 U := by
  unfold placeN
  split
  · exact h
  · rename_i hno
    have hno' : nm.toList ∉ keysOf ns := by
      intro hx
      obtain ⟨y, hy, e⟩ := List.mem_map.1 hx
      have := List.findIdx?_eq_none_iff.1 hno y hy
      simp [e] at this
    refine ⟨?_, ?_⟩
    · show (keysOf (ns ++ [nm])).Nodup
      unfold keysOf
      rw [List.map_append, List.nodup_append]
      refine ⟨h.nd, by simp, ?_⟩
      intro a ha b hb e
      simp at hb
      subst hb
      exact hno' (e ▸ ha)
    · intro x hx
      unfold keysOf at hx
      rw [List.map_append] at hx
      rcases List.mem_append.1 hx with hx | hx
      · exact h.sub x hx
      · simp at hx
        subst hx
        exact hm

theorem linkedN_ok {ns U : List ByteArray} (h : NsOk ns U) (ws : List WantD) (hw : ∀ x ∈ ws, x.name.toList ∈ keysOf U) :
    NsOk (linkedN ns ws).2 U ∧ ∀ x ∈ (linkedN ns ws).1, x.n < (linkedN ns ws).2.length := by
  have key : ∀ (p : List (Wt Nat) × List ByteArray), NsOk p.2 U → (∀ x ∈ p.1, x.n < p.2.length) → NsOk (ws.foldl linkStep p).2 U ∧ ∀ x ∈ (ws.foldl linkStep p).1, x.n < (ws.foldl linkStep p).2.length := by
    induction ws with
    | nil => intro p h1 h2; exact ⟨h1, h2⟩
    | cons a t ih =>
      intro p h1 h2
      refine ih (fun x hx => hw x (by simp [hx])) (linkStep p a) (h1.place (hw a (by simp))) ?_
      intro x hx
      have hm := placeN_mono p.2 a.name
      rcases List.mem_append.1 hx with hx | hx
      · exact Nat.lt_of_lt_of_le (h2 x hx) hm
      · simp at hx
        subst hx
        exact placeN_lt p.2 a.name
  exact key ([], ns) h (fun x hx => by cases hx)

end Go.Proofs.YtgcldedkempjhabGreatDoor
