/-
  depotkeep: sees: does Show tell a holder this of a name?
-/
import Derived.Test.YtgcldedkempjhaaDoorShopD
import Derived.Test.YtgcldedkempjhaaDoorShopS
import Derived.Test.YtgcldedkempjhaaDoorDepShow
namespace Go.Proofs.YtgcldedkempjhaaDoor
open Go.RowKit

theorem DepAt.step {w1 W w2 : World} {db : Nat} {D : DepD} (h : DepAt w1 db D) (hb : Below W.heap.size W w2) (e : W.heap = w1.heap) : DepAt w2 db D :=
  (h.same e).below hb

theorem ShopAt.step {w1 W w2 : World} {sb db : Nat} {ao : Option Addr} {cap : Nat} {is : List It} (h : ShopAt w1 sb db ao cap is) (hb : Below W.heap.size W w2) (e : W.heap = w1.heap) : ShopAt w2 sb db ao cap is :=
  (h.keep (fun _ _ => by rw [e]) : ShopAt W sb db ao cap is).below hb

/-- What sees answers. -/
def seesK (P : PDep) (house : ByteArray) (id : Int) (n : Nat) (want : ByteArray) : Bool :=
  if want.toList.isEmpty then (dshowP P house id (nameK n)).1.toList.isEmpty && ((dshowP P house id (nameK n)).2 == 7) else ((dshowP P house id (nameK n)).1.toList == want.toList) && ((dshowP P house id (nameK n)).2 == 0)

set_option maxHeartbeats 1600000 in
theorem sees_any (sb db : Nat) (D : DepD) (ao : Option Addr) (cap : Nat) (is : List It) (house : ByteArray) (id : Int) (n : Nat) (hn : n < 6) (want : ByteArray) (w : World) (hD : DepAt w db D) (hr : ShopAt w sb db ao cap is) :
    Calls Tryd.prog 15 #[.pointer (some ⟨sb, 0, none⟩), .string house, .int .i64 id, .int .i64 n, .string want] w fun e w' => e = .returned (.bool (seesK D.pure house id n want)) ∧ Below w.heap.size w w' := by
  have HNm := hide (fun W => nameK_any n hn W)
  have HSh := hide (fun W (h : DepAt W db D) => show_any db D house id (nameK n) W h (Nat.le_trans (nameK_size n) (by decide)))
  have hb := Below.refl w.heap.size w
  have HK := hide (show seesK D.pure house id n want = if want.toList.isEmpty then (dshowP D.pure house id (nameK n)).1.toList.isEmpty && ((dshowP D.pure house id (nameK n)).2 == 7) else ((dshowP D.pure house id (nameK n)).1.toList == want.toList) && ((dshowP D.pure house id (nameK n)).2 == 0) from rfl)
  generalize dshowP D.pure house id (nameK n) = r at *
  obtain ⟨s, E⟩ := r
  generalize nameK n = nm at *
  cases hw : want.toList.isEmpty with
  | true =>
    cases h1 : s.toList.isEmpty with
    | true =>
      have HR := hide (show seesK D.pure house id n want = (E == 7) by rw [HK.out, hw, if_pos rfl, h1]; rfl)
      clear HK
      go_enter Tryd.func15, Tryd.ntmps15
      go_wp2_with fail
      go_region_held3 (fun W => W.cell? ⟨sb, 0, none⟩ = some (.pointer (some ⟨db, 0, none⟩))) (exact hr.c0) (first
        | ((go_at_call 18; refine (HNm.out _).mono ?_; rintro e w2 ⟨rfl, hbb⟩; have hr := hr.step hbb rfl; have hD := hD.step hbb rfl; have hb := below_step hb hbb rfl rfl rfl rfl; clear hbb))
        | ((go_at_call 27; refine (HSh.out _ ?_).mono ?_; exact hD.same rfl; rintro e w2 ⟨rfl, hbb⟩; have hr := hr.step hbb rfl; have hD := hD.step hbb rfl; have hb := below_step hb hbb rfl rfl rfl rfl; clear hbb)))
      all_goals
        go_wp2_with fail
        go_ret
        exact ⟨ret_bool HR.out.symm, hb⟩
    | false =>
      have HR := hide (show seesK D.pure house id n want = false by rw [HK.out, hw, if_pos rfl, h1]; rfl)
      clear HK
      go_enter Tryd.func15, Tryd.ntmps15
      go_wp2_with fail
      go_region_held3 (fun W => W.cell? ⟨sb, 0, none⟩ = some (.pointer (some ⟨db, 0, none⟩))) (exact hr.c0) (first
        | ((go_at_call 18; refine (HNm.out _).mono ?_; rintro e w2 ⟨rfl, hbb⟩; have hr := hr.step hbb rfl; have hD := hD.step hbb rfl; have hb := below_step hb hbb rfl rfl rfl rfl; clear hbb))
        | ((go_at_call 27; refine (HSh.out _ ?_).mono ?_; exact hD.same rfl; rintro e w2 ⟨rfl, hbb⟩; have hr := hr.step hbb rfl; have hD := hD.step hbb rfl; have hb := below_step hb hbb rfl rfl rfl rfl; clear hbb)))
      all_goals
        go_wp2_with fail
        go_ret
        exact ⟨ret_bool HR.out.symm, hb⟩
  | false =>
    cases h1 : (s.toList == want.toList) with
    | true =>
      have HR := hide (show seesK D.pure house id n want = (E == 0) by rw [HK.out, hw, if_neg (by decide), h1]; rfl)
      clear HK
      go_enter Tryd.func15, Tryd.ntmps15
      go_wp2_with fail
      go_region_held3 (fun W => W.cell? ⟨sb, 0, none⟩ = some (.pointer (some ⟨db, 0, none⟩))) (exact hr.c0) (first
        | ((go_at_call 18; refine (HNm.out _).mono ?_; rintro e w2 ⟨rfl, hbb⟩; have hr := hr.step hbb rfl; have hD := hD.step hbb rfl; have hb := below_step hb hbb rfl rfl rfl rfl; clear hbb))
        | ((go_at_call 27; refine (HSh.out _ ?_).mono ?_; exact hD.same rfl; rintro e w2 ⟨rfl, hbb⟩; have hr := hr.step hbb rfl; have hD := hD.step hbb rfl; have hb := below_step hb hbb rfl rfl rfl rfl; clear hbb)))
      all_goals
        go_wp2_with fail
        go_ret
        exact ⟨ret_bool HR.out.symm, hb⟩
    | false =>
      have HR := hide (show seesK D.pure house id n want = false by rw [HK.out, hw, if_neg (by decide), h1]; rfl)
      clear HK
      go_enter Tryd.func15, Tryd.ntmps15
      go_wp2_with fail
      go_region_held3 (fun W => W.cell? ⟨sb, 0, none⟩ = some (.pointer (some ⟨db, 0, none⟩))) (exact hr.c0) (first
        | ((go_at_call 18; refine (HNm.out _).mono ?_; rintro e w2 ⟨rfl, hbb⟩; have hr := hr.step hbb rfl; have hD := hD.step hbb rfl; have hb := below_step hb hbb rfl rfl rfl rfl; clear hbb))
        | ((go_at_call 27; refine (HSh.out _ ?_).mono ?_; exact hD.same rfl; rintro e w2 ⟨rfl, hbb⟩; have hr := hr.step hbb rfl; have hD := hD.step hbb rfl; have hb := below_step hb hbb rfl rfl rfl rfl; clear hbb)))
      all_goals
        go_wp2_with fail
        go_ret
        exact ⟨ret_bool HR.out.symm, hb⟩

end Go.Proofs.YtgcldedkempjhaaDoor
