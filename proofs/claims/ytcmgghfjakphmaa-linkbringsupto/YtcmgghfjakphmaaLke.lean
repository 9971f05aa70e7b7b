/- The program's Ack, Turn. -/
import Derived.Test.YtcmgghfjakphmaaLkd
namespace Go.Proofs.Ytcmgghfjakphmaa
open Go.RowKit
open Wp Vp Lp
set_option maxRecDepth 100000
set_option linter.unusedVariables false
set_option linter.unusedSimpArgs false

theorem Dgb.keepD {F : Nat → Prop} {w w' : World} {g : Nat} {d : Dg} {co : Option Addr} {cn cp : Nat} (h : Dgb w g d co cn cp) (hf : Fr F w w') (hn : ¬ F g) : Dgb w' g d co cn cp := hf.kept h hn
theorem abI_self (s : Ln) : abI s (s.ak : Int) = 0 := by unfold abI; omega
theorem clp_mm (m : Int) : min (max m 0) 1099511627776 = clp m := by
  unfold clp
  split
  · omega
  · split <;> omega
set_option maxHeartbeats 4000000 in
theorem lturn_any (p : Nat) (ko : Option Addr) (kc mb B : Nat) (s : Ln) (m : Int) (hg : s.G.length ≤ 1099511627776) (ha : s.ak ≤ 1152921504606846976) (hl : s.O.length - s.ak ≤ 336) (hal : s.ak ≤ s.O.length) (w : World) (h : Lkk w B p mb ko kc s) : Calls Try.prog 12 #[.pointer (some ⟨p, 0, none⟩), .int .i64 m] w fun e w' => ∃ co cp, e = .returned (dgv (turD s m) co (s.O.length - s.ak) cp) ∧ OwG KCc 47 w' w.heap.size (.slice co (s.O.length - s.ak) cp) (s.O.drop s.ak) ∧ Still w w' := by
  have A0 := Still.alloc w (.cells (dgc zD none 0 0) 51)
  have p0 := newDg_b w zD none 0 0
  obtain ⟨g, eg⟩ : ∃ g, w.heap.size = g := ⟨_, rfl⟩
  have HC := hid (ldat_any p ko kc mb B s 1 hg _ (h.still A0))
  have HS := hid A0
  have HP := hid p0
  have HG : Hid (w.heap.size = g) := hid eg
  have HL := hid (h.still A0)
  unfold newDg at HP
  obtain ⟨W, eW⟩ : ∃ W, w.alloc (.cells (dgc zD none 0 0) 51) = W := ⟨_, rfl⟩
  rw [eW] at HC HS HP HL
  rw [eg] at HP
  simp only [zD] at eW
  clear A0 p0 h
  go_enter Try.func12, Try.ntmps12
  go_wp2_with fail
  refine HC.out.mono ?_
  rintro e w3 ⟨he, h3⟩
  rw [he]
  -- the variable d
  have A1 := Still.alloc w3 (.cells (dgc zD none 0 0) 51)
  have p1 := newDg_b w3 zD none 0 0
  obtain ⟨g2, eg2⟩ : ∃ g, w3.heap.size = g := ⟨_, rfl⟩
  unfold newDg at p1
  obtain ⟨W1, eW1⟩ : ∃ W, w3.alloc (.cells (dgc zD none 0 0) 51) = W := ⟨_, rfl⟩
  rw [eW1] at A1 p1
  rw [eg2] at p1
  have hgg : g < g2 := by have := h3.size; have := HS.out.size; have := block_lt HP.out; omega
  obtain ⟨d0, d1, d2, d3, d4, d5, d6, d7, df⟩ := p1.cells
  have p2 := p1.set (datD s 1) none 0 0
  have f2 : Fr (fun k => k = g2) W1 (setDg W1 g2 (datD s 1) none 0 0) := setDg_fr (Fr.refl _ _) _ _ _ _ _ (.inl rfl)
  obtain ⟨W2, eW2⟩ : ∃ W, setDg W1 g2 (datD s 1) none 0 0 = W := ⟨_, rfl⟩
  rw [eW2] at p2 f2
  have p3 := dset4 p2 (clp m)
  have f3 : Fr (fun k => k = g2) W1 (W2.setCell ⟨g2, 4, none⟩ (.int .i64 (clp m))) := Fr.setCell f2 _ _ (.inl rfl)
  obtain ⟨e0, e1, e2, e3, e4, e5, e6, e7, ef⟩ := p2.cells
  obtain ⟨W3, eW3⟩ : ∃ W, W2.setCell ⟨g2, 4, none⟩ (.int .i64 (clp m)) = W := ⟨_, rfl⟩
  rw [eW3] at p3 f3
  have p4 := dset5 p3 ((s.ak : Int) + 1)
  have f4 : Fr (fun k => k = g2) W1 (W3.setCell ⟨g2, 5, none⟩ (.int .i64 ((s.ak : Int) + 1))) := Fr.setCell f3 _ _ (.inl rfl)
  obtain ⟨i0, i1, i2, i3, i4, i5, i6, i7, iF⟩ := p3.cells
  obtain ⟨W4, eW4⟩ : ∃ W, W3.setCell ⟨g2, 5, none⟩ (.int .i64 ((s.ak : Int) + 1)) = W := ⟨_, rfl⟩
  rw [eW4] at p4 f4
  obtain ⟨j0, j1, j2, j3, j4, j5, j6, j7, jF⟩ := p4.cells
  have L1 := (HL.out.still h3).still A1
  have hpl := L1.lt
  have hlk : ∀ V, Fr (fun k => k = g2) W1 V → Lkk V B p mb ko kc s := fun V hV => L1.keep hV (fun e => by have := (HL.out.still h3).lt.1; omega) (fun e => by have := (HL.out.still h3).lt.2; omega) (fun a ha e => by have := ((HL.out.still h3).ne.2 a ha).2.2; omega)
  have k4 := (hlk W3 f3).cells.2.2.2.2.1
  have k5 := (hlk W4 f4).cells.2.2.2.2.1
  have HA := hid (labove_any p ko kc mb B s (s.ak : Int) ⟨by omega, by omega⟩ (by rw [abI_self]; omega) ha W4 (hlk W4 f4))
  rw [abI_self, Nat.sub_zero] at HA
  have hsr := ((hlk W4 f4).kp.cut (i := 0) (Nat.zero_le _)).sr
  rw [List.length_drop, List.drop_zero, Nat.sub_zero] at hsr
  have HR := hid hsr
  have HP4 := hid p4
  have HP0 := hid ((((HP.out.still h3).still A1)))
  have HF4 := hid f4
  have HS1 := hid ((HS.out.trans h3).trans A1)
  have HA1 := hid A1
  have HGG := hid hgg
  have HG2 := hid eg2
  have hmm := clp_mm m
  have hw : IntKind.i64.wrap ((s.ak : Int) + 1) = (s.ak : Int) + 1 := wr64 (by omega) (by omega)
  simp only [zD] at eW1
  simp only [setDg] at eW2
  have HLn : Hid ((s.O.drop s.ak).length = s.O.length - s.ak) := hid (List.length_drop ..)
  obtain ⟨c, ec⟩ : ∃ c, clp m = c := ⟨_, rfl⟩
  rw [ec] at hmm eW3 HP4
  have HCl := hid ec
  clear ec he HC A1 p1 p2 f2 p3 f3 p4 f4 L1 hpl hlk hsr h3 HP HS HL eW hgg
  go_upto_region 3 with fail
  clear d0 d1 d2 d3 d4 d5 d6 d7 df eW1 eW2
  go_upto_region 4 with fail
  clear e0 e1 e2 e3 e4 e5 e6 e7 ef eW3 i0 i1 i2 i3 i4 i5 i6 i7 iF eW4 k4
  go_wp2_with fail
  refine HA.out.mono ?_
  rintro e w5 ⟨he, h5⟩
  rw [he]
  have HB := hid (lcop_any (cutG 7 ko (s.O.length - s.ak) 0) (s.O.length - s.ak) (s.O.length - s.ak) (s.O.drop s.ak) HLn.out (by omega) w5 (HR.out.still h5))
  have HS5 := hid h5
  clear he h5 HA HR
  go_wp2_with fail
  refine HB.out.mono ?_
  rintro e w6 ⟨co, cp, he, ho6, h6⟩
  rw [he]
  have HS6 := hid (HS5.out.trans h6)
  have q6 := HP4.out.still HS6.out
  have z6 : Dgb w6 g zD none 0 0 := ((HP0.out.keepD HF4.out (by have := HGG.out; omega))).still HS6.out
  obtain ⟨d0, d1, d2, d3, d4, d5, d6, d7, df⟩ := q6.cells
  have q7 := dset6 q6 (s.O.drop s.ak) co (s.O.length - s.ak) cp
  have f7 : Fr (fun k => k = g2) w6 (w6.setCell ⟨g2, 6, none⟩ (.slice co (s.O.length - s.ak) cp)) := Fr.setCell (Fr.refl _ _) _ _ (.inl rfl)
  have z7 := z6.keepD f7 (by have := HGG.out; omega)
  have hog : (Value.slice co (s.O.length - s.ak) cp).ownBlock ≠ some g2 := fun e => by
    have := (ho6.block e).1
    have := block_lt HP4.out
    have := HS5.out.size
    omega
  have o7 := ho6.keep f7 (fun k hk e => hog (by rw [e, hk]))
  obtain ⟨W7, eW7⟩ : ∃ W, w6.setCell ⟨g2, 6, none⟩ (.slice co (s.O.length - s.ak) cp) = W := ⟨_, rfl⟩
  rw [eW7] at q7 f7 z7 o7
  obtain ⟨e0, e1, e2, e3, e4, e5, e6, e7, ef⟩ := q7.cells
  obtain ⟨i0, i1, i2, i3, i4, i5, i6, i7, iF⟩ := z7.cells
  have HE : Hid (turD s m = ⟨(datD s 1).kd, (datD s 1).ss, (datD s 1).fr, (datD s 1).to, c, (s.ak : Int) + 1, s.O.drop s.ak, (datD s 1).ak⟩) := hid (by unfold turD datD; rw [HCl.out])
  have HZ8 := hid (z7.set ⟨(datD s 1).kd, (datD s 1).ss, (datD s 1).fr, (datD s 1).to, c, (s.ak : Int) + 1, s.O.drop s.ak, (datD s 1).ak⟩ co (s.O.length - s.ak) cp)
  have hogz : (Value.slice co (s.O.length - s.ak) cp).ownBlock ≠ some g := fun e => by
    have := (ho6.block e).1
    have := HGG.out
    have := block_lt HP4.out
    have := HS5.out.size
    omega
  have f8 : Fr (fun k => k = g) W7 (setDg W7 g ⟨(datD s 1).kd, (datD s 1).ss, (datD s 1).fr, (datD s 1).to, c, (s.ak : Int) + 1, s.O.drop s.ak, (datD s 1).ak⟩ co (s.O.length - s.ak) cp) := setDg_fr (Fr.refl _ _) _ _ _ _ _ (.inl rfl)
  have HO8 := hid ((o7.keep f8 (fun k hk e => hogz (by rw [e, hk]))).less (B' := w.heap.size) (by have := HS1.out.size; have := HF4.out.size; have := HS5.out.size; omega))
  have HS8 : Hid (Still w (setDg W7 g ⟨(datD s 1).kd, (datD s 1).ss, (datD s 1).fr, (datD s 1).to, c, (s.ak : Int) + 1, s.O.drop s.ak, (datD s 1).ak⟩ co (s.O.length - s.ak) cp)) := hid (by
    have s4 : Still w W4 := Fr.trans HS1.out HF4.out (fun k hk e => by have := HG.out; have := HGG.out; omega)
    have s7 : Still w W7 := Fr.trans (s4.trans HS6.out) f7 (fun k hk e => by have := HG.out; have := HGG.out; omega)
    exact setDg_fr s7 _ _ _ _ _ (.inr (by have := HG.out; omega)))
  clear he ho6 h6 q6 z6 q7 f7 z7 hog o7 hogz f8 HB HS5 HS6 HP4 HP0 HF4 j0 j1 j2 j3 j4 j5 j6 j7 jF k5
  go_upto_region 5 with fail
  clear d0 d1 d2 d3 d4 d5 d6 d7 df eW7
  go_wp2_with fail
  refine bodyPost_ret (HZ8.out.res rfl _ rfl) rfl ?_
  exact ⟨co, cp, by rw [HE.out], HO8.out, HS8.out⟩
end Go.Proofs.Ytcmgghfjakphmaa
