/- The law on names and operands: the walk. -/
import Derived.Test.YtlaehphhfeoklaaDoorVy
namespace Go.Proofs.YtlaehphhfeoklaaDoor
open Go.RowKit
open Vp
set_option maxRecDepth 100000

set_option maxHeartbeats 8000000 in
set_option maxRecDepth 100000 in
theorem names_law (v : Int) (w : World) (C : Cts w) (ht : RTab w) (hN : NTab w) : Calls Tryd.prog 3 #[.int .i64 v] w fun e w' => e = .returned (.bool true) ∧ Still w w' := by
  have HO := hid (fun u k => C.ops v u k)
  have HR := hid (fun u k => roper_any v u k)
  have HL := hid (opV_len v)
  have HN1 := hid (fun u k => C.nam v u k)
  have HN2 := hid (fun u k => rname_any v u k)
  obtain ⟨L, eL⟩ : ∃ L, opV v = L := ⟨_, rfl⟩
  obtain ⟨T, eT⟩ : ∃ T, nmV v = T := ⟨_, rfl⟩
  rw [eL] at HO HR HL
  rw [eT] at HN1 HN2
  clear eL eT
  go_enter Tryd.func3, Tryd.ntmps3
  go_wp2_with fail
  refine (awake_any _ C).mono ?_
  rintro e w1 ⟨rfl, h1⟩
  have HS1 := hid h1
  have hb0 : w.heap.size ≤ w1.heap.size := h1.size
  clear h1
  go_wp2_with fail
  refine (HO.out _ HS1.out).mono ?_
  rintro e w2 ⟨x, rfl, ox, h2⟩
  have HS2 := hid (HS1.out.trans h2)
  have hb1 : w1.heap.size ≤ w2.heap.size := h2.size
  have HG := hid (show ∀ k, x.ownBlock = some k → k < w2.heap.size from fun k hk => (ox.block hk).2)
  clear HS1 h2
  go_wp2_with fail
  refine (HR.out _ (ht.still HS2.out)).mono ?_
  rintro e w3 ⟨y, rfl, oy, h3⟩
  have HS3 := hid (HS2.out.trans h3)
  have hb2 : w2.heap.size ≤ w3.heap.size := h3.size
  have ox3 := ox.still h3
  clear HS2 h3 ox
  go_wp2_with fail
  refine (same_any _ _ x y L (by have := HL.out; omega) _ ox3 oy).mono ?_
  rintro e w4 ⟨rfl, h4⟩
  have HS4 := hid (HS3.out.trans h4)
  have hb3 : w3.heap.size ≤ w4.heap.size := h4.size
  have ox4 := ox3.still h4
  have oy4 := oy.still h4
  clear HS3 h4 ox3 oy
  obtain ⟨ax, capx, rfl, _⟩ := ox4.slice
  obtain ⟨ay, capy, ey, _⟩ := oy4.slice
  obtain ⟨n, en⟩ : ∃ n, L.length = n := ⟨_, rfl⟩
  have HE := hid en
  have hn2 : n ≤ 2 := by have := HL.out; omega
  rw [en] at ox4 HG ey ⊢
  clear en
  subst ey
  have HQ : Hid (∀ (u : World) (q : List (ByteArray × Int × Int)) (k : Nat), OwO u w2.heap.size (.slice ay n capy) q → (.slice ay n capy : Value).ownBlock = some k → (.slice ax n capx : Value).ownBlock ≠ some k) := hid (fun u q k ho hk e => by
    have := HG.out k e
    have := (ho.block hk).1
    omega)
  go_wp2_with fail
  go_loopw [7] (fun u wr => ∃ (j : Nat) (ps : List (ByteArray × Int × Int)), j ≤ n ∧ u = .int .i64 (j : Int) ∧ ps.length = n ∧ w4.heap.size ≤ wr.heap.size ∧ OwO wr w1.heap.size (.slice ax n capx) ps ∧ OwO wr w2.heap.size (.slice ay n capy) L ∧ Still w wr) (fun u _ => n - (intOf u).toNat)
  case atStart => exact ⟨0, L, by omega, rfl, HE.out, Nat.le_refl _, ox4, oy4, HS4.out⟩
  case round =>
    obtain ⟨j, ps, hj, rfl, hps, hz0, o1, o2, hs⟩ := hrel
    have HS5 := hid hs
    have HO2 := hid o2
    clear hs ox4 oy4 HS4 o2
    by_cases hlt : j < n
    · obtain ⟨g, cg, e1, g1, g2⟩ := o1.head (by omega)
      rw [hps] at e1
      cases e1
      have k1 := o1.cell j (by omega)
      have o3 := o1.set j (by omega) ⟨#[109, 97, 114, 107]⟩ (1000 + (j : Int)) 2000
      have HL3 := hid (show (ps.set j (⟨#[109, 97, 114, 107]⟩, 1000 + (j : Int), 2000)).length = n by rw [List.length_set]; exact hps)
      obtain ⟨f0, f1, f2, ff⟩ := k1
      have hwr : IntKind.i64.wrap (1000 + (j : Int)) = 1000 + (j : Int) := by rw [IntKind.wrap_i64]; omega
      have HF : Hid (Fr (fun k => k = g) wr (((wr.setCell ⟨g, j * 3, none⟩ (.string ⟨#[109, 97, 114, 107]⟩)).setCell ⟨g, j * 3 + 1, none⟩ (.int .i64 (1000 + (j : Int)))).setCell ⟨g, j * 3 + 2, none⟩ (.int .i64 2000))) := hid (Fr.setCell (F := fun k => k = g) (Fr.setCell (F := fun k => k = g) (Fr.setCell (F := fun k => k = g) (Fr.refl _ wr) ⟨g, j * 3, none⟩ _ (.inl rfl)) ⟨g, j * 3 + 1, none⟩ _ (.inl rfl)) ⟨g, j * 3 + 2, none⟩ _ (.inl rfl))
      have HZ3 := hid (Nat.le_trans hz0 HF.out.size)
      have HO3 := hid (HO2.out.keep HF.out (fun k hk e => HQ.out _ _ k HO2.out e (by rw [hk]; rfl)))
      have HS6 := hid (Fr.setCell (Fr.setCell (Fr.setCell HS5.out ⟨g, j * 3, none⟩ (.string ⟨#[109, 97, 114, 107]⟩) (.inr (show w.heap.size ≤ g by omega))) ⟨g, j * 3 + 1, none⟩ (.int .i64 (1000 + (j : Int))) (.inr (show w.heap.size ≤ g by omega))) ⟨g, j * 3 + 2, none⟩ (.int .i64 2000) (.inr (show w.heap.size ≤ g by omega)))
      have HO1 := hid o3
      clear o1 o3 HO2 HS5 HF
      go_wp2_with fail
      go_roundw
      case rel => exact ⟨j + 1, _, by omega, by go_num, HL3.out, HZ3.out, HO1.out, HO3.out, HS6.out⟩
      case measure => simp [intOf]; omega
    · have hge : ¬ (j : Int) < (n : Int) := by omega
      clear hlt
      have HO1 := hid o1
      have HS6 := hid (HS5.out.trans (Still.alloc wr (.cells #[.string ⟨#[109, 111, 114, 101]⟩, .int .i64 1, .int .i64 2] 27)))
      have HO3 := hid (HO1.out.alloc (.cells #[.string ⟨#[109, 111, 114, 101]⟩, .int .i64 1, .int .i64 2] 27))
      have HO4 := hid (HO2.out.alloc (.cells #[.string ⟨#[109, 111, 114, 101]⟩, .int .i64 1, .int .i64 2] 27))
      have HP2 := hid (newOp_opb wr ⟨#[109, 111, 114, 101]⟩ 1 2)
      have HZ := hid (show w1.heap.size ≤ (newOp wr ⟨#[109, 111, 114, 101]⟩ 1 2).heap.size from Nat.le_trans (by omega) (Still.alloc wr (.cells #[.string ⟨#[109, 111, 114, 101]⟩, .int .i64 1, .int .i64 2] 27)).size)
      have HK := hid (show ps.length ≤ 100000 by omega)
      clear o1 HS5 HO1 HO2
      go_wp2_with (at_builtin; refine wpList_appO _ rfl _ _ rfl w1.heap.size wr.heap.size _ ps ⟨#[109, 111, 114, 101]⟩ 1 2 rfl rfl HO3.out HP2.out HK.out HZ.out ?_; intro v' w' ho' hf')
      obtain ⟨al, cl, rfl, _⟩ := ho'.slice
      rw [List.length_append, hps]
      have HO5 := hid (HO4.out.keep hf' (fun k hk e => HQ.out _ _ k HO4.out e hk))
      have HS7 := hid (still_appO HS6.out HO3.out hf' (by omega))
      clear ho' hf' HO3 HO4 HS6 HZ HP2 HK
      refine (HO.out _ HS7.out).mono ?_
      rintro e x1 ⟨m, rfl, om, h8⟩
      have HS8 := hid (HS7.out.trans h8)
      have o8 := HO5.out.still h8
      clear HS7 h8 HO5
      go_wp2_with fail
      refine (same_any _ _ m (.slice ay n capy) L (by have := HL.out; omega) _ om o8).mono ?_
      rintro e x2 ⟨rfl, h9⟩
      have HS9 := hid (HS8.out.trans h9)
      clear HS8 h9 om o8
      have hw1 : IntKind.i64.wrap ((n : Int) + 1) = (n : Int) + 1 := by rw [IntKind.wrap_i64]; omega
      go_wp2_with fail
      refine (HN1.out _ HS9.out).mono ?_
      rintro e x3 ⟨rfl, h10⟩
      have HS10 := hid (HS9.out.trans h10)
      clear HS9 h10
      go_wp2_with fail
      refine (HN2.out _ (hN.still HS10.out)).mono ?_
      rintro e x4 ⟨he, hw⟩
      rw [he, hw]
      clear he hw x4
      go_wp2_with fail
      refine (C.cnt _ HS10.out).mono ?_
      rintro e x5 ⟨rfl, h11⟩
      have HS11 := hid (HS10.out.trans h11)
      clear HS10 h11
      go_wp2_with fail
      go_ret
      exact ⟨rfl, HS11.out⟩
end Go.Proofs.YtlaehphhfeoklaaDoor
