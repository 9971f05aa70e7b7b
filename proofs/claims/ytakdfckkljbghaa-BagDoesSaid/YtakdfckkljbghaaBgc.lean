/- The program's New, Len; bytes.Clone, handedOut. -/
import Derived.Test.YtakdfckkljbghaaBgb
namespace Go.Proofs.Ytakdfckkljbghaa
open Go.RowKit
set_option maxRecDepth 100000

theorem Bk.new (w : World) : Bk ((w.alloc (.map #[] 0)).alloc (.cells #[.int .i64 0, .map (some w.heap.size)] 57)) (w.heap.size + 1) w.heap.size 0 [] := by
  have h := heap_alloc_new (w.alloc (.map #[] 0)) (.cells #[.int .i64 0, .map (some w.heap.size)] 57)
  rw [size_alloc] at h
  refine ⟨h, (World.ownsMap_made w _ _ _).alloc _, List.Pairwise.nil, fun _ h => (by cases h), fun _ h => (by cases h), Int.le_refl _⟩
theorem bnew_any (w : World) : Calls Try.prog 7 #[] w fun e w' => ∃ p mb, e = .returned (.pointer (some ⟨p, 0, none⟩)) ∧ Bk w' p mb 0 [] ∧ Still w w' ∧ w.heap.size ≤ p ∧ w.heap.size ≤ mb := by
  have hmm := @run_makeMap Try.prog
  have HB := hid (Bk.new w)
  have HS := hid ((Still.alloc w (.map #[] 0)).trans (Still.alloc _ (.cells #[.int .i64 0, .map (some w.heap.size)] 57)))
  go_enter Try.func7, Try.ntmps7
  go_wp2_with fail
  go_ret
  exact ⟨_, _, rfl, HB.out, HS.out, by omega, by omega⟩
theorem blen_any (p mb : Nat) (la : Int) (L : List Pcl) (w : World) (hb : Bk w p mb la L) : Calls Try.prog 12 #[.pointer (some ⟨p, 0, none⟩)] w fun e w' => e = .returned (.int .i64 (L.length : Int)) ∧ w' = w := by
  obtain ⟨c0, c1, cf⟩ := hb.cell
  have hl := fun ty => hb.mp.len (t := 55) Try.underlying55 ty
  rw [mpD_size] at hl
  clear hb
  go_enter Try.func12, Try.ntmps12
  go_wp2_with fail
  go_ret
  exact ⟨rfl, rfl⟩
theorem infoB : ∃ i, Try.prog.info? 5 = some i ∧ i.zero = some (.int .u8 0) ∧ i.size = 1 ∧ i.bytes = 1 := ⟨_, rfl, rfl, rfl, rfl⟩
theorem bclone_any (ao : Option Addr) (n cap : Nat) (bs : List UInt8) (hn : n ≤ 140737488355328) (w : World) (hr : Rd w ao n cap bs) : Calls Try.prog 24 #[.slice ao n cap] w fun e w' => ∃ ao' cap', e = .returned (.slice ao' n cap') ∧ Ow 5 w' ao' n cap' bs ∧ Still w w' ∧ ∀ a, ao' = some a → w.heap.size ≤ a.block := by
  have hnil := fun (W : World) ao n cap => Lib.run_eql_slice_nil (P := Try.prog) W 33 5 ao n cap 0 0 Try.underlying33
  cases ao with
  | none =>
    have h1 := hr.nil rfl
    have h2 := hr.le
    have h3 := hr.len
    obtain rfl : n = 0 := by omega
    obtain rfl : bs = [] := List.eq_nil_of_length_eq_zero h3
    subst h1
    clear hr h2 h3
    go_enter Try.func24, Try.ntmps24
    go_wp2_with fail
    go_ret
    exact ⟨_, _, rfl, Ow.empty _ _, Fr.refl _ _, fun a h => by cases h⟩
  | some a0 =>
    have A1 := Still.alloc w (.cells #[] 5)
    have HR := hid (hr.still A1)
    have HO : Hid (Ow 5 (w.alloc (.cells #[] 5)) (some ⟨w.heap.size, 0, none⟩) 0 0 []) := hid (Ow.fresh w #[] 0 0 [] rfl (Nat.le_refl _) (by unfold maxLen; omega) rfl (fun j h => by simp at h))
    obtain ⟨i, hi, hz, h1, h2⟩ := infoB
    have HI := hid (And.intro hi (And.intro hz (And.intro h1 h2)))
    have HN : Hid (0 + n ≤ 140737488355328) := hid (by omega)
    have HS1 := hid A1
    clear hr A1 hi hz h1 h2
    go_enter Try.func24, Try.ntmps24
    go_wp2_with (at_builtin; refine wpList_app _ rfl _ _ _ rfl 5 i rfl HI.out.1 HI.out.2.1 HI.out.2.2.1 HI.out.2.2.2 (some ⟨w.heap.size, 0, none⟩) (some a0) 0 0 n cap [] bs rfl rfl HO.out HR.out HN.out ?_; intro ao' cap' w' ho' hf' hb' _)
    have HO2 : Hid (Ow 5 w' ao' n cap' bs) := hid (by rw [Nat.zero_add, List.nil_append] at ho'; exact ho')
    have HS2 : Hid (Still w w') := hid (Fr.trans HS1.out hf' (fun k hk e => by obtain ⟨a, ha, rfl⟩ := e; cases ha; simp at hk))
    have HB2 : Hid (∀ a, ao' = some a → w.heap.size ≤ a.block) := hid (fun a ha => by
      rcases hb' a ha with h | h
      · cases h; exact Nat.le_refl _
      · rw [size_alloc] at h; omega)
    clear ho' hf' hb'
    go_ret
    exact ⟨_, _, rfl, HO2.out, HS2.out, HB2.out⟩
/-- a parcel whose bytes are in new memory -/
structure NewQ (w w' : World) (x y : Pcl) : Prop where
  ab : abP y = abP x
  q : Rq w' y
  nw : ∀ a, y.ao = some a → w.heap.size ≤ a.block
theorem hand_any (x : Pcl) (w : World) (hx : Rq w x) : Calls Try.prog 25 #[pvl x] w fun e w' => ∃ y, e = .returned (pvl y) ∧ NewQ w w' x y ∧ Still w w' := by
  have A0 := Still.alloc w (.cells (pls x) 43)
  have A1 := Still.alloc (newPl w x) (.cells (pls zPl) 43)
  have p0 := (newPl_b w x).still A1
  have p1 := newPl_b (newPl w x) zPl
  rw [size_alloc] at p1
  have hx1 := (hx.still A0).still A1
  obtain ⟨W, eW⟩ : ∃ W, newPl (newPl w x) zPl = W := ⟨_, rfl⟩
  have p0 : Plb W w.heap.size x := by rw [← eW]; exact p0
  have hx1 : Rq W x := by rw [← eW]; exact hx1
  rw [eW] at p1
  have HS0 : Hid (Still w W) := hid (by rw [← eW]; exact A0.trans A1)
  obtain ⟨g, eg⟩ : ∃ g, w.heap.size = g := ⟨_, rfl⟩
  rw [eg] at p0 p1
  have HG : Hid (w.heap.size = g) := hid eg
  have HC := hid (bclone_any x.ao x.n x.cap x.bs (by have := hx.le; omega) W hx1.ow.rd)
  have HP0 := hid p0
  have HP1 := hid p1
  have HL := hid hx.le
  obtain ⟨c0, c1, c2, c3, cf⟩ := p0.cells
  clear p0 p1 hx1 A0 A1 hx
  go_enter Try.func25, Try.ntmps25
  simp only [newPl, zPl] at eW
  go_wp2_with fail
  refine HC.out.mono ?_
  rintro e w2 ⟨ao2, cap2, he, ho2, hs2, hb2⟩
  rw [he]
  have q0 := HP0.out.still hs2
  have q1 := HP1.out.still hs2
  obtain ⟨d0, d1, d2, d3, df⟩ := q0.cells
  have q2 : Plb (w2.setCell ⟨g, 3, none⟩ (.slice ao2 x.n cap2)) g ⟨x.no, x.fr, x.td, ao2, x.n, cap2, x.bs⟩ := (heap_setCell_same w2 g 3 _ _ _ q0).trans (by rfl)
  have hs3 : Still w (w2.setCell ⟨g, 3, none⟩ (.slice ao2 x.n cap2)) := Fr.setCell (HS0.out.trans hs2) _ _ (.inr (by rw [HG.out]; exact Nat.le_refl _))
  have hf3 : Fr (fun k => k = g) w2 (w2.setCell ⟨g, 3, none⟩ (.slice ao2 x.n cap2)) := Fr.setCell (Fr.refl _ w2) _ _ (.inl rfl)
  have q3 : Plb (w2.setCell ⟨g, 3, none⟩ (.slice ao2 x.n cap2)) (g + 1) zPl := q1.keep hf3 (by omega)
  have hq3 : Rq (w2.setCell ⟨g, 3, none⟩ (.slice ao2 x.n cap2)) ⟨x.no, x.fr, x.td, ao2, x.n, cap2, x.bs⟩ := (Rq.mk (x := ⟨x.no, x.fr, x.td, ao2, x.n, cap2, x.bs⟩) ho2 HL.out).keep hf3 (fun k hk => by subst hk; exact Nbt.of q0 (by decide))
  have HW : Hid (∀ a, ao2 = some a → w.heap.size ≤ a.block) := hid (fun a ha => by have := hb2 a ha; have := HS0.out.size; omega)
  obtain ⟨y, ey⟩ : ∃ y : Pcl, (⟨x.no, x.fr, x.td, ao2, x.n, cap2, x.bs⟩ : Pcl) = y := ⟨_, rfl⟩
  have HY : Hid (abP y = abP x ∧ y.ao = ao2) := hid (by rw [← ey]; exact ⟨rfl, rfl⟩)
  obtain ⟨W3, eW3⟩ : ∃ W, w2.setCell ⟨g, 3, none⟩ (.slice ao2 x.n cap2) = W := ⟨_, rfl⟩
  rw [eW3] at q2 hs3 q3 hq3
  rw [ey] at q2 hq3
  have HF4 : Hid (Still w (setPl W3 (g + 1) y)) := hid (setPl_fr hs3 _ _ (.inr (by rw [HG.out]; omega)))
  have HP4 := hid (q3.put y)
  have HQ4 : Hid (Rq (setPl W3 (g + 1) y) y) := hid (hq3.keep (setPl_fr (Fr.refl (fun k => k = g + 1) W3) _ _ (.inl rfl)) (fun k hk => by subst hk; exact Nbt.of q3 (by decide)))
  obtain ⟨f0, f1, f2, f3, ff⟩ := q2.cells
  obtain ⟨h0, h1, h2, h3, hf⟩ := q3.cells
  clear he HC ho2 hs2 hb2 q0 q1 q2 q3 hs3 hf3 hq3 HP0 HP1 ey c0 c1 c2 c3 cf
  go_upto_region 2 with fail
  clear eW3 d0 d1 d2 d3 df
  go_wp2_with fail
  refine bodyPost_ret (HP4.out.res rfl _ rfl) rfl ?_
  exact ⟨y, rfl, ⟨HY.out.1, HQ4.out, fun a ha => HW.out a (by rw [← HY.out.2]; exact ha)⟩, HF4.out⟩
end Go.Proofs.Ytakdfckkljbghaa
