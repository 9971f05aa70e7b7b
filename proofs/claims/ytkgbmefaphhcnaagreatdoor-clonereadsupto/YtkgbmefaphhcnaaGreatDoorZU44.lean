/- Parts of the proof, laid end to end. -/
import Derived.Test.YtkgbmefaphhcnaaGreatDoorZU26
import Derived.Test.YtkgbmefaphhcnaaGreatDoorZU28
import Derived.Test.YtkgbmefaphhcnaaGreatDoorZU15
import Derived.Test.YtkgbmefaphhcnaaGreatDoorZU39
import Derived.Test.YtkgbmefaphhcnaaGreatDoorZU32
import Derived.Test.YtkgbmefaphhcnaaGreatDoorZU43
import Derived.Test.YtkgbmefaphhcnaaGreatDoorZU14
namespace Go.Proofs.YtkgbmefaphhcnaaGreatDoor
open Go.RowKit
open Pu Gp Ap Vp Np Za Ka Ja Ea Ha Hg Hi
set_option maxRecDepth 100000
set_option linter.unusedVariables false
theorem dec_enc {k : Nat} {W : Wd} (h : Wr14 k W) (x : Wd -> Int) (hx : x W = 0) : decW k (wdB W ++ sumB (wdB W)) x = (W, 0) := by
 have hl : (wdB W ++ sumB (wdB W)).length = (wdB W).length + 8 := by rw [List.length_append, sumB_len]
 have ht : (wdB W ++ sumB (wdB W)).take ((wdB W).length + 8 - 8) = wdB W := by
  rw [show (wdB W).length + 8 - 8 = (wdB W).length by omega, List.take_left']
  rfl
 have hd : (wdB W ++ sumB (wdB W)).drop ((wdB W).length + 8 - 8) = sumB (wdB W) := by
  rw [show (wdB W).length + 8 - 8 = (wdB W).length by omega, List.drop_left']
  rfl
 unfold decW
 rw [hl, ht, hd, if_neg (by omega), saysW_form h]
 simp [hx]
theorem aw14_q (gl : Nat) (u : World) : Q13 u ⟨2, 7, 8, 6, std3, .slice (some ⟨gl, 0, none⟩) 2 2⟩ 0 E0.st E0.sp := by
 have h := q13_of ⟨2, 7, 8, 6, std3, .slice (some ⟨gl, 0, none⟩) 2 2⟩ 0 std3_ok u
 dsimp only at h
 rw [w0_st, w0_sp] at h
 exact h
theorem aw14_a (gl : Nat) (u : World) : A13 u ⟨2, 7, 8, 6, std3, .slice (some ⟨gl, 0, none⟩) 2 2⟩ 0 E0.st := by
 have h := a13_of ⟨2, 7, 8, 6, std3, .slice (some ⟨gl, 0, none⟩) 2 2⟩ (show std3.size <= 281474976710656 by decide +kernel) 0 std3_ok u
 dsimp only at h
 rw [w0_st] at h
 exact h
theorem aw14_in : InC 2 7 8 6 std3 [0, 2] := by
 refine ⟨⟨by decide, by decide⟩, by decide, ⟨by decide, by decide⟩, ⟨by decide, by decide⟩, fun n hn => ?_, by decide +kernel⟩
 simp at hn
 rcases hn with rfl | rfl <;> exact ⟨by decide, by decide⟩
theorem aw14_s : (ofI (ssB 2 7 8 6 std3 [0, 2]) != 0) = true := by kernel_rfl
theorem aw14_d : (chainI (ofI (ssB 2 7 8 6 std3 [0, 2])) (ofI (wdB (nw0 E0 2))) != 0) = true := by kernel_rfl
theorem aw14_cfg (gl : Nat) (u : World) (hl : RdI u (some ⟨gl, 0, none⟩) 2 2 [0, 2]) : Calls Tryz.prog 42 #[.agg #[.int .i64 2, .int .u64 7, .int .i64 8, .int .i64 6, .string std3, .slice (some ⟨gl, 0, none⟩) 2 2]] u fun e w' => e = .returned (.int .i64 0) /\ Still u w' :=
 wcfg_yes 2 7 8 6 std3 (some ⟨gl, 0, none⟩) 2 2 E0 [0, 2] u 0 (aw14_q gl u) hl w0_cfg
theorem aw14_chk (gl : Nat) (u : World) (hl : RdI u (some ⟨gl, 0, none⟩) 2 2 [0, 2]) (v : Value) (hv : RdW u v (nw0 E0 2)) : Calls Tryz.prog 31 #[.agg #[.int .i64 2, .int .u64 7, .int .i64 8, .int .i64 6, .string std3, .slice (some ⟨gl, 0, none⟩) 2 2], v] u fun e w' => e = .returned (.int .i64 0) /\ Still u w' := by
 have h := wchk_yes 2 7 8 6 std3 (some ⟨gl, 0, none⟩) 2 2 E0 [0, 2] u 0 (aw14_q gl u) hl w0_cfg _ v hv
 rw [show chkW ((2 : Nat) : Int) E0 (nw0 E0 2) = 0 from chkW_yes w0_fits] at h
 exact h
theorem aw14_rd {w : World} {B : Nat} {v : Value} (h : OwW w B v (nw0 E0 2)) : RdW w v (nw0 E0 2) /\ ∃ a b c d, v = .agg (wdcs 0 1 a b c d) := by
 have hr := OwW.rd h (by decide) (by decide) (by decide) (by decide)
 obtain ⟨a, b, c, d, e, _⟩ := h
 exact ⟨hr, a, b, c, d, e⟩
abbrev cfA (S : ByteArray) (gl : Nat) : Value := .agg #[.int .i64 2, .int .u64 7, .int .i64 8, .int .i64 6, .string S, .slice (some ⟨gl, 0, none⟩) 2 2]
structure Aw14 (S : ByteArray) (X : Wd) (n : Nat) (bs : List UInt8) (dg sn : Int) : Prop where
 std : ∀ w, Calls Tryz.prog 21 #[.int .i64 3] w fun e w' => e = .returned (.tuple #[ar 8 6 S, .int .i64 0]) /\ Still w w'
 new : ∀ gl u, RdI u (some ⟨gl, 0, none⟩) 2 2 [0, 2] -> Calls Tryz.prog 22 #[cfA S gl] u fun e w' => ∃ a b c d, e = .returned (.tuple #[.agg (wdcs 0 1 a b c d), .int .i64 0]) /\ RdW w' (.agg (wdcs 0 1 a b c d)) X /\ Still u w'
 cpy : ∀ v u, RdW u v X -> Calls Tryz.prog 8 #[v] u fun e w' => ∃ a b c d, e = .returned (.agg (wdcs 0 1 a b c d)) /\ RdW w' (.agg (wdcs 0 1 a b c d)) X /\ Still u w'
 sm1 : ∀ v v' u, RdW u v X -> RdW u v' X -> Calls Tryz.prog 9 #[v, v'] u fun e w' => e = .returned (.bool true) /\ Still u w'
 sm2 : ∀ v v' u, RdW u v X -> RdW u v' X -> Calls Tryz.prog 12 #[v, v'] u fun e w' => e = .returned (.bool true) /\ Still u w'
 enc : ∀ gl v u, FTab u -> RdI u (some ⟨gl, 0, none⟩) 2 2 [0, 2] -> RdW u v X -> Calls Tryz.prog 13 #[cfA S gl, v] u fun e w' => ∃ g cap, e = .returned (.tuple #[.slice (some ⟨g, 0, none⟩) n cap, .int .i64 0]) /\ Rd w' (some ⟨g, 0, none⟩) n cap bs /\ Still u w'
 dec : ∀ gl ao cap u, FTab u -> RdI u (some ⟨gl, 0, none⟩) 2 2 [0, 2] -> Rd u ao n cap bs -> Calls Tryz.prog 19 #[cfA S gl, .slice ao n cap] u fun e w' => ∃ a b c d, e = .returned (.tuple #[.agg (wdcs 0 1 a b c d), .int .i64 0]) /\ RdW w' (.agg (wdcs 0 1 a b c d)) X /\ Still u w'
 dig : ∀ gl v u, FTab u -> RdI u (some ⟨gl, 0, none⟩) 2 2 [0, 2] -> RdW u v X -> Calls Tryz.prog 15 #[cfA S gl, v] u fun e w' => e = .returned (.tuple #[.int .u64 dg, .int .i64 0]) /\ Still u w'
 ses : ∀ gl u, FTab u -> RdI u (some ⟨gl, 0, none⟩) 2 2 [0, 2] -> Calls Tryz.prog 17 #[cfA S gl] u fun e w' => e = .returned (.tuple #[.int .u64 sn, .int .i64 0]) /\ Still u w'
 sl : ∀ u a b c d, RdW u (.agg (wdcs 0 1 a b c d)) X -> ∃ xa ca xb cb xc cc xd cd, a = .slice xa 2 ca /\ b = .slice xb 2 cb /\ c = .slice xc 0 cc /\ d = .slice xd 0 cd
 d0 : (dg != 0) = true
 s0 : (sn != 0) = true
 n8 : 8 < n /\ n <= 2000000
 b0 : ∀ w g cap, Rd w (some ⟨g, 0, none⟩) n cap bs -> w.cell? ⟨g, 0, none⟩ = some (.int .u8 87)
theorem Ow.head14 {e : TypeId} {w : World} {ao : Option Addr} {n cap : Nat} {bs : List UInt8} (h : Ow e w ao n cap bs) (hn : 0 < n) : ∃ g, ao = some ⟨g, 0, none⟩ := by
 obtain ⟨b, o, rfl⟩ := h.rd.addr hn
 obtain ⟨h0, _⟩ := h.row _ rfl
 simp at h0
 subst h0
 exact ⟨b, rfl⟩
theorem aw14_all : ∃ S X n bs dg sn, Aw14 S X n bs dg sn := by
 have hI := (fits_in w0_fits).1
 have hR := fits_room w0_fits (by decide)
 have hle := wdB_le hI hR
 have hw : Wr14 2 (nw0 E0 2) := fits_wr w0_fits
 have hB : wdB (nw0 E0 2) = 87 :: (wdB (nw0 E0 2)).tail := rfl
 have hb1 : 1 <= (wdB (nw0 E0 2)).length := by rw [hB]; simp
 have hbl : (wdB (nw0 E0 2) ++ sumB (wdB (nw0 E0 2))).length = (wdB (nw0 E0 2)).length + 8 := by rw [List.length_append, sumB_len]
 refine ⟨std3, nw0 E0 2, (wdB (nw0 E0 2)).length + 8, wdB (nw0 E0 2) ++ sumB (wdB (nw0 E0 2)), _, _, rstd_3, ?_, ?_, fun v v' u h h' => rsame_any _ v v' u h h', fun v v' u h h' => zsame_t _ v v' u h h', ?_, ?_, ?_, ?_, ?_, aw14_d, aw14_s, ⟨by omega, by omega⟩, ?_⟩
 ·intro gl u hl
  refine (rnew_yes 2 7 8 6 std3 (some ⟨gl, 0, none⟩) 2 2 E0 [0, 2] u 0 (aw14_a gl u) hl w0_cfg).mono ?_
  rintro e w' ⟨v, he, ho, hs⟩
  obtain ⟨hr, a, b, c, d, rfl⟩ := aw14_rd ho
  exact ⟨a, b, c, d, he, hr, hs⟩
 ·intro v u hv
  refine (wcopy_any (nw0 E0 2) v u hv (by decide) (by decide) (by decide) (by decide)).mono ?_
  rintro e w' ⟨x, he, ho, hs⟩
  obtain ⟨hr, a, b, c, d, rfl⟩ := aw14_rd ho
  exact ⟨a, b, c, d, he, hr, hs⟩
 ·intro gl v u ht hl hv
  refine (penc_yes 2 7 8 6 std3 (some ⟨gl, 0, none⟩) 2 2 (nw0 E0 2) v hI hR u ht hv (fun u' hu => aw14_chk gl u' (hl.still hu) v (hv.still hu))).mono ?_
  rintro e w' ⟨ao, cap, he, ho, hs, _⟩
  obtain ⟨g, rfl⟩ := ho.head14 (by omega)
  exact ⟨g, cap, he, ho.rd, hs⟩
 ·intro gl ao cap u ht hl hr
  refine (zdec_any 2 (by decide) 7 8 6 std3 (some ⟨gl, 0, none⟩) 2 2 ao _ cap _ (fun _ => 0) u hr (by omega) ht (fun u' hu => aw14_cfg gl u' (hl.still hu)) (fun u' v X hu ho hX => ?_)).mono ?_
  ·rw [show (wdB (nw0 E0 2)).length + 8 - 8 = (wdB (nw0 E0 2)).length by omega, List.take_left' rfl, saysW_form hw] at hX
   obtain rfl := Option.some.inj hX
   exact aw14_chk gl u' (hl.still hu) v (aw14_rd ho).1
  ·rw [dec_enc hw (fun _ => 0) rfl]
   rintro e w' ⟨v, he, ho, hs⟩
   obtain ⟨hr, a, b, c, d, rfl⟩ := aw14_rd ho
   exact ⟨a, b, c, d, he, hr, hs⟩
 ·intro gl v u ht hl hv
  exact zdig_yes 2 7 8 6 std3 (some ⟨gl, 0, none⟩) 2 2 [0, 2] aw14_in (nw0 E0 2) v hI hR u ht hl hv (fun u' hu => aw14_chk gl u' (hl.still hu) v (hv.still hu))
 ·intro gl u ht hl
  exact pses_yes 2 7 8 6 std3 (some ⟨gl, 0, none⟩) 2 2 [0, 2] aw14_in u ht hl (fun u' hu => aw14_cfg gl u' (hl.still hu))
 ·rintro u a b c d ⟨a', b', c', d', e, ⟨ao, c1, rfl, _⟩, ⟨bo, c2, rfl, _⟩, ⟨co, c3, rfl, _⟩, ⟨so, c4, rfl, _⟩⟩
  have e2 := Value.agg.inj e
  have h1 : a = _ := Option.some.inj (congrArg (fun t : Array Value => t[1]?) e2)
  have h2 : b = _ := Option.some.inj (congrArg (fun t : Array Value => t[2]?) e2)
  have h3 : c = _ := Option.some.inj (congrArg (fun t : Array Value => t[3]?) e2)
  have h4 : d = _ := Option.some.inj (congrArg (fun t : Array Value => t[4]?) e2)
  exact ⟨ao, c1, bo, c2, co, c3, so, c4, h1, h2, h3, h4⟩
 ·intro w g cap hr
  have h := hr.byte (k := 0) (by rw [hbl]; omega)
  have e : (wdB (nw0 E0 2) ++ sumB (wdB (nw0 E0 2)))[0]'(by rw [hbl]; omega) = 87 := rfl
  rw [e] at h
  exact h
end Go.Proofs.YtkgbmefaphhcnaaGreatDoor
namespace Go.Proofs.YtkgbmefaphhcnaaGreatDoor
open Go.RowKit
open Pu Gp Ap Vp Np Za Ka Ja Ea Ha Hg Hi
set_option maxRecDepth 100000
set_option linter.unusedVariables false
structure Aq14 (w u : World) (S : ByteArray) (b gl : Nat) : Prop where
 cf : Cfb u b ⟨2, 7, 8, 6, S, .slice (some ⟨gl, 0, none⟩) 2 2⟩
 rl : RdI u (some ⟨gl, 0, none⟩) 2 2 [0, 2]
 st : Still w u
theorem Aq14.still {w u v : World} {S : ByteArray} {b gl : Nat} (h : Aq14 w u S b gl) (hs : Still u v) : Aq14 w v S b gl := ⟨h.cf.still hs, h.rl.still hs, h.st.trans hs⟩
structure Wv14 (u : World) (b : Nat) (X : Wd) (p q r s : Value) : Prop where
 bk : Wdb u b 0 1 p q r s
 rd : RdW u (.agg (wdcs 0 1 p q r s)) X
theorem Wv14.still {u v : World} {b : Nat} {X : Wd} {p q r s : Value} (h : Wv14 u b X p q r s) (hs : Still u v) : Wv14 v b X p q r s := ⟨h.bk.still hs, h.rd.still hs⟩
theorem Wv14.new {u : World} {X : Wd} {p q r s : Value} (h : RdW u (.agg (wdcs 0 1 p q r s)) X) : Wv14 (u.alloc (.cells (wdcs 0 1 p q r s) 27)) u.heap.size X p q r s := ⟨newWd_wb u 0 1 p q r s, h.still (Still.alloc u _)⟩
theorem aq14_new {w w1 : World} {S : ByteArray} (h1 : Still w w1) : Aq14 w (((w1.alloc (.cells #[.int .i64 8, .int .i64 6, .string S] 34)).alloc (.cells #[.int .i64 0, .int .i64 2] 3)).alloc (.cells #[.int .i64 2, .int .u64 7, .int .i64 8, .int .i64 6, .string S, .slice (some ⟨w1.heap.size + 1, 0, none⟩) 2 2] 37)) S (w1.heap.size + 1 + 1) (w1.heap.size + 1) := by
 have A2 := Still.alloc w1 (.cells #[.int .i64 8, .int .i64 6, .string S] 34)
 have A3 := Still.alloc (w1.alloc (.cells #[.int .i64 8, .int .i64 6, .string S] 34)) (.cells #[.int .i64 0, .int .i64 2] 3)
 have A4 := Still.alloc ((w1.alloc (.cells #[.int .i64 8, .int .i64 6, .string S] 34)).alloc (.cells #[.int .i64 0, .int .i64 2] 3)) (.cells #[.int .i64 2, .int .u64 7, .int .i64 8, .int .i64 6, .string S, .slice (some ⟨w1.heap.size + 1, 0, none⟩) 2 2] 37)
 have hl := rdI_two (w1.alloc (.cells #[.int .i64 8, .int .i64 6, .string S] 34)) 0 2
 have hc := newCf_cb ((w1.alloc (.cells #[.int .i64 8, .int .i64 6, .string S] 34)).alloc (.cells #[.int .i64 0, .int .i64 2] 3)) ⟨2, 7, 8, 6, S, .slice (some ⟨w1.heap.size + 1, 0, none⟩) 2 2⟩
 simp only [size_alloc] at hl hc
 exact ⟨hc, hl.still A4, ((h1.trans A2).trans A3).trans A4⟩
set_option maxHeartbeats 8000000 in
theorem awake14_any (w : World) (ht : FTab w) : Calls Tryz.prog 6 #[] w fun e w' => e = .returned (.bool true) /\ Still w w' := by
 obtain ⟨S, X, n, bs, dg, sn, A⟩ := aw14_all
 have HA := hid A
 have HT := hid ht
 have hd0 := A.d0
 have hs0 := A.s0
 have hn8 : (8 : Int) < (n : Int) := by have := A.n8; omega
 have hnm : (n : Int) <= 2000000 := by have := A.n8; omega
 clear A ht
 go_enter Tryz.func6, Tryz.ntmps6
 go_wp2_with fail
 refine (HA.out.std _).mono ?_
 rintro e w1 ⟨he, h1⟩
 rw [he]
 have HQ1 := hid (aq14_new (S := S) h1)
 obtain ⟨i0, i1, i2, jf⟩ := (newA_ab w1 8 6 S).cells
 clear he h1
 go_upto_region 3 with fail
 clear i0 i1 i2 jf
 obtain ⟨W1, eW1⟩ : ∃ V, ((w1.alloc (.cells #[.int .i64 8, .int .i64 6, .string S] 34)).alloc (.cells #[.int .i64 0, .int .i64 2] 3)).alloc (.cells #[.int .i64 2, .int .u64 7, .int .i64 8, .int .i64 6, .string S, .slice (some ⟨w1.heap.size + 1, 0, none⟩) 2 2] 37) = V := ⟨_, rfl⟩
 obtain ⟨b1, eb1⟩ : ∃ k, w1.heap.size + 1 + 1 = k := ⟨_, rfl⟩
 obtain ⟨gl, egl⟩ : ∃ k, w1.heap.size + 1 = k := ⟨_, rfl⟩
 rw [eW1, eb1] at HQ1
 rw [egl] at HQ1
 rw [eW1, eb1]
 clear eW1 eb1 egl
 obtain ⟨c0, c1, c2, c3, c4, c5, cf⟩ := HQ1.out.cf.cells
 dsimp only at c0 c1 c2 c3 c4 c5
 go_wp2_with fail
 refine (HA.out.new gl W1 HQ1.out.rl).mono ?_
 rintro e w2 ⟨a, b, c, d, he, hv, h2⟩
 rw [he]
 obtain ⟨xa2, ca2, xb2, cb2, xc2, cc2, xd2, cd2, rfl, rfl, rfl, rfl⟩ := HA.out.sl _ _ _ _ _ hv
 have HV2 := hid (Wv14.new hv)
 have HQ2 := hid (HQ1.out.still (h2.trans (Still.alloc w2 (.cells (wdcs 0 1 (.slice xa2 2 ca2) (.slice xb2 2 cb2) (.slice xc2 0 cc2) (.slice xd2 0 cd2)) 27))))
 obtain ⟨W2, eW2⟩ : ∃ V, w2.alloc (.cells (wdcs 0 1 (.slice xa2 2 ca2) (.slice xb2 2 cb2) (.slice xc2 0 cc2) (.slice xd2 0 cd2)) 27) = V := ⟨_, rfl⟩
 obtain ⟨b2, eb2⟩ : ∃ k, w2.heap.size = k := ⟨_, rfl⟩
 rw [eW2, eb2] at HV2
 rw [eW2] at HQ2
 clear he hv h2 HQ1 c0 c1 c2 c3 c4 c5 cf
 obtain ⟨d0, d1, d2, d3, d4, d5, df⟩ := HV2.out.bk.cells
 go_wp2_with fail
 clear eW2 eb2 d0 d1 d2 d3 d4 d5 df
 refine (HA.out.cpy _ W2 HV2.out.rd).mono ?_
 rintro e w3 ⟨a3, b3', c3', d3', he, hv, h3⟩
 rw [he]
 obtain ⟨xa3, ca3, xb3, cb3, xc3, cc3, xd3, cd3, rfl, rfl, rfl, rfl⟩ := HA.out.sl _ _ _ _ _ hv
 have A3 := h3.trans (Still.alloc w3 (.cells (wdcs 0 1 (.slice xa3 2 ca3) (.slice xb3 2 cb3) (.slice xc3 0 cc3) (.slice xd3 0 cd3)) 27))
 have HX3 := hid (Wv14.new hv)
 have HQ3 := hid (HQ2.out.still A3)
 have HV3 := hid (HV2.out.still A3)
 obtain ⟨W3, eW3⟩ : ∃ V, w3.alloc (.cells (wdcs 0 1 (.slice xa3 2 ca3) (.slice xb3 2 cb3) (.slice xc3 0 cc3) (.slice xd3 0 cd3)) 27) = V := ⟨_, rfl⟩
 obtain ⟨b3, eb3⟩ : ∃ k, w3.heap.size = k := ⟨_, rfl⟩
 rw [eW3, eb3] at HX3
 rw [eW3] at HQ3 HV3
 clear he hv h3 A3 HQ2 HV2
 obtain ⟨d0, d1, d2, d3, d4, d5, df⟩ := HV3.out.bk.cells
 obtain ⟨f0, f1, f2, f3, f4, f5, ff⟩ := HX3.out.bk.cells
 go_wp2_with fail
 clear eW3 eb3 d0 d1 d2 d3 d4 d5 df f0 f1 f2 f3 f4 f5 ff
 refine (HA.out.sm1 _ _ W3 HX3.out.rd HV3.out.rd).mono ?_
 rintro e w4 ⟨he, h4⟩
 rw [he]
 have HQ4 := hid (HQ3.out.still h4)
 have HV4 := hid (HV3.out.still h4)
 have HX4 := hid (HX3.out.still h4)
 clear he h4 HQ3 HV3 HX3
 obtain ⟨c0, c1, c2, c3, c4, c5, cf⟩ := HQ4.out.cf.cells
 dsimp only at c0 c1 c2 c3 c4 c5
 obtain ⟨d0, d1, d2, d3, d4, d5, df⟩ := HV4.out.bk.cells
 go_wp2_with fail
 clear c0 c1 c2 c3 c4 c5 cf d0 d1 d2 d3 d4 d5 df
 refine (HA.out.enc gl _ w4 (HT.out.still HQ4.out.st) HQ4.out.rl HV4.out.rd).mono ?_
 rintro e w5 ⟨g5, k5, he, hb, h5⟩
 rw [he]
 have HB5 := hid hb
 have HQ5 := hid (HQ4.out.still h5)
 have HV5 := hid (HV4.out.still h5)
 have HX5 := hid (HX4.out.still h5)
 clear he hb h5 HQ4 HV4 HX4
 obtain ⟨c0, c1, c2, c3, c4, c5, cf⟩ := HQ5.out.cf.cells
 dsimp only at c0 c1 c2 c3 c4 c5
 go_wp2_with fail
 clear c0 c1 c2 c3 c4 c5 cf
 refine (HA.out.dec gl _ _ w5 (HT.out.still HQ5.out.st) HQ5.out.rl HB5.out).mono ?_
 rintro e w6 ⟨a6, b6', c6', d6', he, hv, h6⟩
 rw [he]
 obtain ⟨xa6, ca6, xb6, cb6, xc6, cc6, xd6, cd6, rfl, rfl, rfl, rfl⟩ := HA.out.sl _ _ _ _ _ hv
 have A6 := h6.trans (Still.alloc w6 (.cells (wdcs 0 1 (.slice xa6 2 ca6) (.slice xb6 2 cb6) (.slice xc6 0 cc6) (.slice xd6 0 cd6)) 27))
 have HY6 := hid (Wv14.new hv)
 have HQ6 := hid (HQ5.out.still A6)
 have HV6 := hid (HV5.out.still A6)
 have HX6 := hid (HX5.out.still A6)
 have HB6 := hid (HB5.out.still A6)
 obtain ⟨W6, eW6⟩ : ∃ V, w6.alloc (.cells (wdcs 0 1 (.slice xa6 2 ca6) (.slice xb6 2 cb6) (.slice xc6 0 cc6) (.slice xd6 0 cd6)) 27) = V := ⟨_, rfl⟩
 obtain ⟨b6, eb6⟩ : ∃ k, w6.heap.size = k := ⟨_, rfl⟩
 rw [eW6, eb6] at HY6
 rw [eW6] at HQ6 HV6 HX6 HB6
 clear he hv h6 A6 HQ5 HV5 HX5 HB5
 obtain ⟨d0, d1, d2, d3, d4, d5, df⟩ := HV6.out.bk.cells
 obtain ⟨f0, f1, f2, f3, f4, f5, ff⟩ := HY6.out.bk.cells
 go_wp2_with fail
 clear eW6 eb6 d0 d1 d2 d3 d4 d5 df f0 f1 f2 f3 f4 f5 ff
 refine (HA.out.sm1 _ _ W6 HY6.out.rd HV6.out.rd).mono ?_
 rintro e w7 ⟨he, h7⟩
 rw [he]
 have HQ7 := hid (HQ6.out.still h7)
 have HV7 := hid (HV6.out.still h7)
 have HX7 := hid (HX6.out.still h7)
 have HB7 := hid (HB6.out.still h7)
 clear he h7 HQ6 HV6 HX6 HB6 HY6
 obtain ⟨c0, c1, c2, c3, c4, c5, cf⟩ := HQ7.out.cf.cells
 dsimp only at c0 c1 c2 c3 c4 c5
 obtain ⟨d0, d1, d2, d3, d4, d5, df⟩ := HV7.out.bk.cells
 go_wp2_with fail
 clear c0 c1 c2 c3 c4 c5 cf d0 d1 d2 d3 d4 d5 df
 refine (HA.out.dig gl _ w7 (HT.out.still HQ7.out.st) HQ7.out.rl HV7.out.rd).mono ?_
 rintro e w8 ⟨he, h8⟩
 rw [he]
 have HQ8 := hid (HQ7.out.still h8)
 have HV8 := hid (HV7.out.still h8)
 have HX8 := hid (HX7.out.still h8)
 have HB8 := hid (HB7.out.still h8)
 clear he h8 HQ7 HV7 HX7 HB7
 obtain ⟨c0, c1, c2, c3, c4, c5, cf⟩ := HQ8.out.cf.cells
 dsimp only at c0 c1 c2 c3 c4 c5
 go_wp2_with fail
 clear c0 c1 c2 c3 c4 c5 cf
 refine (HA.out.ses gl w8 (HT.out.still HQ8.out.st) HQ8.out.rl).mono ?_
 rintro e w9 ⟨he, h9⟩
 rw [he]
 have HQ9 := hid (HQ8.out.still h9)
 have HV9 := hid (HV8.out.still h9)
 have HX9 := hid (HX8.out.still h9)
 have HB9 := hid (HB8.out.still h9)
 clear he h9 HQ8 HV8 HX8 HB8
 obtain ⟨d0, d1, d2, d3, d4, d5, df⟩ := HV9.out.bk.cells
 obtain ⟨f0, f1, f2, f3, f4, f5, ff⟩ := HX9.out.bk.cells
 go_wp2_with fail
 clear d0 d1 d2 d3 d4 d5 df f0 f1 f2 f3 f4 f5 ff
 refine (HA.out.sm2 _ _ w9 HV9.out.rd HX9.out.rd).mono ?_
 rintro e w10 ⟨he, h10⟩
 rw [he]
 have HZ := hid (HQ9.out.st.trans h10)
 have k0 := HA.out.b0 w10 g5 k5 (HB9.out.still h10)
 have hn0 : (0 : Int) < (n : Int) := by omega
 clear he h10 HQ9 HV9 HX9 HB9
 go_wp2_with fail
 go_ret
 exact ⟨rfl, HZ.out⟩
end Go.Proofs.YtkgbmefaphhcnaaGreatDoor
