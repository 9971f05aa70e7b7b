/- Parts of the proof, laid end to end. -/
import Derived.Test.YtdmlgbcgbddkoaaGreatDoorZT08
import Derived.Test.YtdmlgbcgbddkoaaGreatDoorZT24
import Derived.Test.YtdmlgbcgbddkoaaGreatDoorZT14
import Derived.Test.YtdmlgbcgbddkoaaGreatDoorZT36
import Derived.Test.YtdmlgbcgbddkoaaGreatDoorZT29
import Derived.Test.YtdmlgbcgbddkoaaGreatDoorZT39
import Derived.Test.YtdmlgbcgbddkoaaGreatDoorZT13
import Derived.Test.YtdmlgbcgbddkoaaGreatDoorZT23
namespace Go.Proofs.YtdmlgbcgbddkoaaGreatDoor
open Go.RowKit
open Pu Gp Ap Vp Np Za Ka Ja Ea Ha Hg Hi
set_option maxRecDepth 100000
set_option linter.unusedVariables false
theorem dec_enc {k : Nat} {W : Wd} (h : Wr14 k W) (x : Wd -> Int) (hx : x W = 0) : decW k (wdB W ++ sumB (wdB W)) x = (W, 0) := by
 have hl : (wdB W ++ sumB (wdB W)).length = (wdB W).length + 8 := by rw [List.length_append, sumB_len]
 have ht : (wdB W ++ sumB (wdB W)).take ((wdB W).length + 8 - 8) = wdB W := by
  rw [show (wdB W).length + 8 - 8 = (wdB W).length by omega, List.take_left']
  rfl
 have hd : (wdB W ++ sumB (wdB W)).drop ((wdB W).length + 8 - 8) = sumB (wdB W) := by
  rw [show (wdB W).length + 8 - 8 = (wdB W).length by omega, List.drop_left']
  rfl
 unfold decW
 rw [hl, ht, hd, if_neg (by omega), saysW_form h]
 simp [hx]
theorem aw14_q (gl : Nat) (u : World) : Q13 u ⟨2, 7, 8, 6, std3, .slice (some ⟨gl, 0, none⟩) 2 2⟩ 0 E0.st E0.sp := by
 have h := q13_of ⟨2, 7, 8, 6, std3, .slice (some ⟨gl, 0, none⟩) 2 2⟩ 0 std3_ok u
 dsimp only at h
 rw [w0_st, w0_sp] at h
 exact h
theorem aw14_a (gl : Nat) (u : World) : A13 u ⟨2, 7, 8, 6, std3, .slice (some ⟨gl, 0, none⟩) 2 2⟩ 0 E0.st := by
 have h := a13_of ⟨2, 7, 8, 6, std3, .slice (some ⟨gl, 0, none⟩) 2 2⟩ (show std3.size <= 281474976710656 by decide +kernel) 0 std3_ok u
 dsimp only at h
 rw [w0_st] at h
 exact h
theorem aw14_in : InC 2 7 8 6 std3 [0, 2] := by
 refine ⟨⟨by decide, by decide⟩, by decide, ⟨by decide, by decide⟩, ⟨by decide, by decide⟩, fun n hn => ?_, by decide +kernel⟩
 simp at hn
 rcases hn with rfl | rfl <;> exact ⟨by decide, by decide⟩
theorem aw14_s : (ofI (ssB 2 7 8 6 std3 [0, 2]) != 0) = true := by kernel_rfl
theorem aw14_d : (chainI (ofI (ssB 2 7 8 6 std3 [0, 2])) (ofI (wdB (nw0 E0 2))) != 0) = true := by kernel_rfl
theorem aw14_cfg (gl : Nat) (u : World) (hl : RdI u (some ⟨gl, 0, none⟩) 2 2 [0, 2]) : Calls Tryz.prog 19 #[.agg #[.int .i64 2, .int .u64 7, .int .i64 8, .int .i64 6, .string std3, .slice (some ⟨gl, 0, none⟩) 2 2]] u fun e w' => e = .returned (.int .i64 0) /\ Still u w' :=
 wcfg_yes 2 7 8 6 std3 (some ⟨gl, 0, none⟩) 2 2 E0 [0, 2] u 0 (aw14_q gl u) hl w0_cfg
theorem aw14_chk (gl : Nat) (u : World) (hl : RdI u (some ⟨gl, 0, none⟩) 2 2 [0, 2]) (v : Value) (hv : RdW u v (nw0 E0 2)) : Calls Tryz.prog 16 #[.agg #[.int .i64 2, .int .u64 7, .int .i64 8, .int .i64 6, .string std3, .slice (some ⟨gl, 0, none⟩) 2 2], v] u fun e w' => e = .returned (.int .i64 0) /\ Still u w' := by
 have h := wchk_yes 2 7 8 6 std3 (some ⟨gl, 0, none⟩) 2 2 E0 [0, 2] u 0 (aw14_q gl u) hl w0_cfg _ v hv
 rw [show chkW ((2 : Nat) : Int) E0 (nw0 E0 2) = 0 from chkW_yes w0_fits] at h
 exact h
theorem aw14_rd {w : World} {B : Nat} {v : Value} (h : OwW w B v (nw0 E0 2)) : RdW w v (nw0 E0 2) /\ ∃ a b c d, v = .agg (wdcs 0 1 a b c d) := by
 have hr := OwW.rd h (by decide) (by decide) (by decide) (by decide)
 obtain ⟨a, b, c, d, e, _⟩ := h
 exact ⟨hr, a, b, c, d, e⟩
abbrev cfA (S : ByteArray) (gl : Nat) : Value := .agg #[.int .i64 2, .int .u64 7, .int .i64 8, .int .i64 6, .string S, .slice (some ⟨gl, 0, none⟩) 2 2]
structure Aw14 (S : ByteArray) (X : Wd) (n : Nat) (bs : List UInt8) (dg sn : Int) : Prop where
 std : ∀ w, Calls Tryz.prog 13 #[.int .i64 3] w fun e w' => e = .returned (.tuple #[ar 8 6 S, .int .i64 0]) /\ Still w w'
 new : ∀ gl u, RdI u (some ⟨gl, 0, none⟩) 2 2 [0, 2] -> Calls Tryz.prog 14 #[cfA S gl] u fun e w' => ∃ a b c d, e = .returned (.tuple #[.agg (wdcs 0 1 a b c d), .int .i64 0]) /\ RdW w' (.agg (wdcs 0 1 a b c d)) X /\ Still u w'
 cpy : ∀ v u, RdW u v X -> Calls Tryz.prog 11 #[v] u fun e w' => ∃ a b c d, e = .returned (.agg (wdcs 0 1 a b c d)) /\ RdW w' (.agg (wdcs 0 1 a b c d)) X /\ Still u w'
 sm1 : ∀ v v' u, RdW u v X -> RdW u v' X -> Calls Tryz.prog 9 #[v, v'] u fun e w' => e = .returned (.bool true) /\ Still u w'
 sm2 : ∀ v v' u, RdW u v X -> RdW u v' X -> Calls Tryz.prog 10 #[v, v'] u fun e w' => e = .returned (.bool true) /\ Still u w'
 enc : ∀ gl v u, FTab u -> RdI u (some ⟨gl, 0, none⟩) 2 2 [0, 2] -> RdW u v X -> Calls Tryz.prog 7 #[cfA S gl, v] u fun e w' => ∃ g cap, e = .returned (.tuple #[.slice (some ⟨g, 0, none⟩) n cap, .int .i64 0]) /\ Rd w' (some ⟨g, 0, none⟩) n cap bs /\ Still u w'
 dec : ∀ gl ao cap u, FTab u -> RdI u (some ⟨gl, 0, none⟩) 2 2 [0, 2] -> Rd u ao n cap bs -> Calls Tryz.prog 8 #[cfA S gl, .slice ao n cap] u fun e w' => ∃ a b c d, e = .returned (.tuple #[.agg (wdcs 0 1 a b c d), .int .i64 0]) /\ RdW w' (.agg (wdcs 0 1 a b c d)) X /\ Still u w'
 dig : ∀ gl v u, FTab u -> RdI u (some ⟨gl, 0, none⟩) 2 2 [0, 2] -> RdW u v X -> Calls Tryz.prog 12 #[cfA S gl, v] u fun e w' => e = .returned (.tuple #[.int .u64 dg, .int .i64 0]) /\ Still u w'
 ses : ∀ gl u, FTab u -> RdI u (some ⟨gl, 0, none⟩) 2 2 [0, 2] -> Calls Tryz.prog 15 #[cfA S gl] u fun e w' => e = .returned (.tuple #[.int .u64 sn, .int .i64 0]) /\ Still u w'
 sl : ∀ u a b c d, RdW u (.agg (wdcs 0 1 a b c d)) X -> ∃ xa ca xb cb xc cc xd cd, a = .slice xa 2 ca /\ b = .slice xb 2 cb /\ c = .slice xc 0 cc /\ d = .slice xd 0 cd
 d0 : (dg != 0) = true
 s0 : (sn != 0) = true
 n8 : 8 < n /\ n <= 2000000
 b0 : ∀ w g cap, Rd w (some ⟨g, 0, none⟩) n cap bs -> w.cell? ⟨g, 0, none⟩ = some (.int .u8 87)
theorem Ow.head14 {e : TypeId} {w : World} {ao : Option Addr} {n cap : Nat} {bs : List UInt8} (h : Ow e w ao n cap bs) (hn : 0 < n) : ∃ g, ao = some ⟨g, 0, none⟩ := by
 obtain ⟨b, o, rfl⟩ := h.rd.addr hn
 obtain ⟨h0, _⟩ := h.row _ rfl
 simp at h0
 subst h0
 exact ⟨b, rfl⟩
theorem aw14_all : ∃ S X n bs dg sn, Aw14 S X n bs dg sn := by
 have hI := (fits_in w0_fits).1
 have hR := fits_room w0_fits (by decide)
 have hle := wdB_le hI hR
 have hw : Wr14 2 (nw0 E0 2) := fits_wr w0_fits
 have hB : wdB (nw0 E0 2) = 87 :: (wdB (nw0 E0 2)).tail := rfl
 have hb1 : 1 <= (wdB (nw0 E0 2)).length := by rw [hB]; simp
 have hbl : (wdB (nw0 E0 2) ++ sumB (wdB (nw0 E0 2))).length = (wdB (nw0 E0 2)).length + 8 := by rw [List.length_append, sumB_len]
 refine ⟨std3, nw0 E0 2, (wdB (nw0 E0 2)).length + 8, wdB (nw0 E0 2) ++ sumB (wdB (nw0 E0 2)), _, _, rstd_3, ?_, ?_, fun v v' u h h' => rsame_any _ v v' u h h', fun v v' u h h' => zsame_t _ v v' u h h', ?_, ?_, ?_, ?_, ?_, aw14_d, aw14_s, ⟨by omega, by omega⟩, ?_⟩
 ·intro gl u hl
  refine (rnew_yes 2 7 8 6 std3 (some ⟨gl, 0, none⟩) 2 2 E0 [0, 2] u 0 (aw14_a gl u) hl w0_cfg).mono ?_
  rintro e w' ⟨v, he, ho, hs⟩
  obtain ⟨hr, a, b, c, d, rfl⟩ := aw14_rd ho
  exact ⟨a, b, c, d, he, hr, hs⟩
 ·intro v u hv
  refine (wcopy_any (nw0 E0 2) v u hv (by decide) (by decide) (by decide) (by decide)).mono ?_
  rintro e w' ⟨x, he, ho, hs⟩
  obtain ⟨hr, a, b, c, d, rfl⟩ := aw14_rd ho
  exact ⟨a, b, c, d, he, hr, hs⟩
 ·intro gl v u ht hl hv
  refine (penc_yes 2 7 8 6 std3 (some ⟨gl, 0, none⟩) 2 2 (nw0 E0 2) v hI hR u ht hv (fun u' hu => aw14_chk gl u' (hl.still hu) v (hv.still hu))).mono ?_
  rintro e w' ⟨ao, cap, he, ho, hs, _⟩
  obtain ⟨g, rfl⟩ := ho.head14 (by omega)
  exact ⟨g, cap, he, ho.rd, hs⟩
 ·intro gl ao cap u ht hl hr
  refine (zdec_any 2 (by decide) 7 8 6 std3 (some ⟨gl, 0, none⟩) 2 2 ao _ cap _ (fun _ => 0) u hr (by omega) ht (fun u' hu => aw14_cfg gl u' (hl.still hu)) (fun u' v X hu ho hX => ?_)).mono ?_
  ·rw [show (wdB (nw0 E0 2)).length + 8 - 8 = (wdB (nw0 E0 2)).length by omega, List.take_left' rfl, saysW_form hw] at hX
   obtain rfl := Option.some.inj hX
   exact aw14_chk gl u' (hl.still hu) v (aw14_rd ho).1
  ·rw [dec_enc hw (fun _ => 0) rfl]
   rintro e w' ⟨v, he, ho, hs⟩
   obtain ⟨hr, a, b, c, d, rfl⟩ := aw14_rd ho
   exact ⟨a, b, c, d, he, hr, hs⟩
 ·intro gl v u ht hl hv
  exact zdig_yes 2 7 8 6 std3 (some ⟨gl, 0, none⟩) 2 2 [0, 2] aw14_in (nw0 E0 2) v hI hR u ht hl hv (fun u' hu => aw14_chk gl u' (hl.still hu) v (hv.still hu))
 ·intro gl u ht hl
  exact pses_yes 2 7 8 6 std3 (some ⟨gl, 0, none⟩) 2 2 [0, 2] aw14_in u ht hl (fun u' hu => aw14_cfg gl u' (hl.still hu))
 ·rintro u a b c d ⟨a', b', c', d', e, ⟨ao, c1, rfl, _⟩, ⟨bo, c2, rfl, _⟩, ⟨co, c3, rfl, _⟩, ⟨so, c4, rfl, _⟩⟩
  have e2 := Value.agg.inj e
  have h1 : a = _ := Option.some.inj (congrArg (fun t : Array Value => t[1]?) e2)
  have h2 : b = _ := Option.some.inj (congrArg (fun t : Array Value => t[2]?) e2)
  have h3 : c = _ := Option.some.inj (congrArg (fun t : Array Value => t[3]?) e2)
  have h4 : d = _ := Option.some.inj (congrArg (fun t : Array Value => t[4]?) e2)
  exact ⟨ao, c1, bo, c2, co, c3, so, c4, h1, h2, h3, h4⟩
 ·intro w g cap hr
  have h := hr.byte (k := 0) (by rw [hbl]; omega)
  have e : (wdB (nw0 E0 2) ++ sumB (wdB (nw0 E0 2)))[0]'(by rw [hbl]; omega) = 87 := rfl
  rw [e] at h
  exact h
end Go.Proofs.YtdmlgbcgbddkoaaGreatDoor
namespace Go.Proofs.YtdmlgbcgbddkoaaGreatDoor
open Go.RowKit
open Pu Gp Ap Vp Np Za Ka Ja Ea Ha Hg Hi
set_option maxRecDepth 100000
set_option linter.unusedVariables false
structure Aq14 (w u : World) (S : ByteArray) (b gl : Nat) : Prop where
 cf : Cfb u b ⟨2, 7, 8, 6, S, .slice (some ⟨gl, 0, none⟩) 2 2⟩
 rl : RdI u (some ⟨gl, 0, none⟩) 2 2 [0, 2]
 st : Still w u
theorem Aq14.still {w u v : World} {S : ByteArray} {b gl : Nat} (h : Aq14 w u S b gl) (hs : Still u v) : Aq14 w v S b gl := ⟨h.cf.still hs, h.rl.still hs, h.st.trans hs⟩
structure Wv14 (u : World) (b : Nat) (X : Wd) (p q r s : Value) : Prop where
 bk : Wdb u b 0 1 p q r s
 rd : RdW u (.agg (wdcs 0 1 p q r s)) X
theorem Wv14.still {u v : World} {b : Nat} {X : Wd} {p q r s : Value} (h : Wv14 u b X p q r s) (hs : Still u v) : Wv14 v b X p q r s := ⟨h.bk.still hs, h.rd.still hs⟩
theorem Wv14.new {u : World} {X : Wd} {p q r s : Value} (h : RdW u (.agg (wdcs 0 1 p q r s)) X) : Wv14 (u.alloc (.cells (wdcs 0 1 p q r s) 33)) u.heap.size X p q r s := ⟨newWd_wb u 0 1 p q r s, h.still (Still.alloc u _)⟩
theorem aq14_new {w w1 : World} {S : ByteArray} (h1 : Still w w1) : Aq14 w (((w1.alloc (.cells #[.int .i64 8, .int .i64 6, .string S] 24)).alloc (.cells #[.int .i64 0, .int .i64 2] 3)).alloc (.cells #[.int .i64 2, .int .u64 7, .int .i64 8, .int .i64 6, .string S, .slice (some ⟨w1.heap.size + 1, 0, none⟩) 2 2] 27)) S (w1.heap.size + 1 + 1) (w1.heap.size + 1) := by
 have A2 := Still.alloc w1 (.cells #[.int .i64 8, .int .i64 6, .string S] 24)
 have A3 := Still.alloc (w1.alloc (.cells #[.int .i64 8, .int .i64 6, .string S] 24)) (.cells #[.int .i64 0, .int .i64 2] 3)
 have A4 := Still.alloc ((w1.alloc (.cells #[.int .i64 8, .int .i64 6, .string S] 24)).alloc (.cells #[.int .i64 0, .int .i64 2] 3)) (.cells #[.int .i64 2, .int .u64 7, .int .i64 8, .int .i64 6, .string S, .slice (some ⟨w1.heap.size + 1, 0, none⟩) 2 2] 27)
 have hl := rdI_two (w1.alloc (.cells #[.int .i64 8, .int .i64 6, .string S] 24)) 0 2
 have hc := newCf_cb ((w1.alloc (.cells #[.int .i64 8, .int .i64 6, .string S] 24)).alloc (.cells #[.int .i64 0, .int .i64 2] 3)) ⟨2, 7, 8, 6, S, .slice (some ⟨w1.heap.size + 1, 0, none⟩) 2 2⟩
 simp only [size_alloc] at hl hc
 exact ⟨hc, hl.still A4, ((h1.trans A2).trans A3).trans A4⟩
set_option maxHeartbeats 8000000 in
theorem awake14_any (w : World) (ht : FTab w) : Calls Tryz.prog 6 #[] w fun e w' => e = .returned (.bool true) /\ Still w w' := by
 obtain ⟨S, X, n, bs, dg, sn, A⟩ := aw14_all
 have HA := hid A
 have HT := hid ht
 have hd0 := A.d0
 have hs0 := A.s0
 have hn8 : (8 : Int) < (n : Int) := by have := A.n8; omega
 have hnm : (n : Int) <= 2000000 := by have := A.n8; omega
 clear A ht
 go_enter Tryz.func6, Tryz.ntmps6
 go_wp2_with fail
 refine (HA.out.std _).mono ?_
 rintro e w1 ⟨he, h1⟩
 rw [he]
 have HQ1 := hid (aq14_new (S := S) h1)
 obtain ⟨i0, i1, i2, jf⟩ := (newA_ab w1 8 6 S).cells
 clear he h1
 go_upto_region 3 with fail
 clear i0 i1 i2 jf
 obtain ⟨W1, eW1⟩ : ∃ V, ((w1.alloc (.cells #[.int .i64 8, .int .i64 6, .string S] 24)).alloc (.cells #[.int .i64 0, .int .i64 2] 3)).alloc (.cells #[.int .i64 2, .int .u64 7, .int .i64 8, .int .i64 6, .string S, .slice (some ⟨w1.heap.size + 1, 0, none⟩) 2 2] 27) = V := ⟨_, rfl⟩
 obtain ⟨b1, eb1⟩ : ∃ k, w1.heap.size + 1 + 1 = k := ⟨_, rfl⟩
 obtain ⟨gl, egl⟩ : ∃ k, w1.heap.size + 1 = k := ⟨_, rfl⟩
 rw [eW1, eb1] at HQ1
 rw [egl] at HQ1
 rw [eW1, eb1]
 clear eW1 eb1 egl
 obtain ⟨c0, c1, c2, c3, c4, c5, cf⟩ := HQ1.out.cf.cells
 dsimp only at c0 c1 c2 c3 c4 c5
 go_wp2_with fail
 refine (HA.out.new gl W1 HQ1.out.rl).mono ?_
 rintro e w2 ⟨a, b, c, d, he, hv, h2⟩
 rw [he]
 obtain ⟨xa2, ca2, xb2, cb2, xc2, cc2, xd2, cd2, rfl, rfl, rfl, rfl⟩ := HA.out.sl _ _ _ _ _ hv
 have HV2 := hid (Wv14.new hv)
 have HQ2 := hid (HQ1.out.still (h2.trans (Still.alloc w2 (.cells (wdcs 0 1 (.slice xa2 2 ca2) (.slice xb2 2 cb2) (.slice xc2 0 cc2) (.slice xd2 0 cd2)) 33))))
 obtain ⟨W2, eW2⟩ : ∃ V, w2.alloc (.cells (wdcs 0 1 (.slice xa2 2 ca2) (.slice xb2 2 cb2) (.slice xc2 0 cc2) (.slice xd2 0 cd2)) 33) = V := ⟨_, rfl⟩
 obtain ⟨b2, eb2⟩ : ∃ k, w2.heap.size = k := ⟨_, rfl⟩
 rw [eW2, eb2] at HV2
 rw [eW2] at HQ2
 clear he hv h2 HQ1 c0 c1 c2 c3 c4 c5 cf
 obtain ⟨d0, d1, d2, d3, d4, d5, df⟩ := HV2.out.bk.cells
 go_wp2_with fail
 clear eW2 eb2 d0 d1 d2 d3 d4 d5 df
 refine (HA.out.cpy _ W2 HV2.out.rd).mono ?_
 rintro e w3 ⟨a3, b3', c3', d3', he, hv, h3⟩
 rw [he]
 obtain ⟨xa3, ca3, xb3, cb3, xc3, cc3, xd3, cd3, rfl, rfl, rfl, rfl⟩ := HA.out.sl _ _ _ _ _ hv
 have A3 := h3.trans (Still.alloc w3 (.cells (wdcs 0 1 (.slice xa3 2 ca3) (.slice xb3 2 cb3) (.slice xc3 0 cc3) (.slice xd3 0 cd3)) 33))
 have HX3 := hid (Wv14.new hv)
 have HQ3 := hid (HQ2.out.still A3)
 have HV3 := hid (HV2.out.still A3)
 obtain ⟨W3, eW3⟩ : ∃ V, w3.alloc (.cells (wdcs 0 1 (.slice xa3 2 ca3) (.slice xb3 2 cb3) (.slice xc3 0 cc3) (.slice xd3 0 cd3)) 33) = V := ⟨_, rfl⟩
 obtain ⟨b3, eb3⟩ : ∃ k, w3.heap.size = k := ⟨_, rfl⟩
 rw [eW3, eb3] at HX3
 rw [eW3] at HQ3 HV3
 clear he hv h3 A3 HQ2 HV2
 obtain ⟨d0, d1, d2, d3, d4, d5, df⟩ := HV3.out.bk.cells
 obtain ⟨f0, f1, f2, f3, f4, f5, ff⟩ := HX3.out.bk.cells
 go_wp2_with fail
 clear eW3 eb3 d0 d1 d2 d3 d4 d5 df f0 f1 f2 f3 f4 f5 ff
 refine (HA.out.sm1 _ _ W3 HX3.out.rd HV3.out.rd).mono ?_
 rintro e w4 ⟨he, h4⟩
 rw [he]
 have HQ4 := hid (HQ3.out.still h4)
 have HV4 := hid (HV3.out.still h4)
 have HX4 := hid (HX3.out.still h4)
 clear he h4 HQ3 HV3 HX3
 obtain ⟨c0, c1, c2, c3, c4, c5, cf⟩ := HQ4.out.cf.cells
 dsimp only at c0 c1 c2 c3 c4 c5
 obtain ⟨d0, d1, d2, d3, d4, d5, df⟩ := HV4.out.bk.cells
 go_wp2_with fail
 clear c0 c1 c2 c3 c4 c5 cf d0 d1 d2 d3 d4 d5 df
 refine (HA.out.enc gl _ w4 (HT.out.still HQ4.out.st) HQ4.out.rl HV4.out.rd).mono ?_
 rintro e w5 ⟨g5, k5, he, hb, h5⟩
 rw [he]
 have HB5 := hid hb
 have HQ5 := hid (HQ4.out.still h5)
 have HV5 := hid (HV4.out.still h5)
 have HX5 := hid (HX4.out.still h5)
 clear he hb h5 HQ4 HV4 HX4
 obtain ⟨c0, c1, c2, c3, c4, c5, cf⟩ := HQ5.out.cf.cells
 dsimp only at c0 c1 c2 c3 c4 c5
 go_wp2_with fail
 clear c0 c1 c2 c3 c4 c5 cf
 refine (HA.out.dec gl _ _ w5 (HT.out.still HQ5.out.st) HQ5.out.rl HB5.out).mono ?_
 rintro e w6 ⟨a6, b6', c6', d6', he, hv, h6⟩
 rw [he]
 obtain ⟨xa6, ca6, xb6, cb6, xc6, cc6, xd6, cd6, rfl, rfl, rfl, rfl⟩ := HA.out.sl _ _ _ _ _ hv
 have A6 := h6.trans (Still.alloc w6 (.cells (wdcs 0 1 (.slice xa6 2 ca6) (.slice xb6 2 cb6) (.slice xc6 0 cc6) (.slice xd6 0 cd6)) 33))
 have HY6 := hid (Wv14.new hv)
 have HQ6 := hid (HQ5.out.still A6)
 have HV6 := hid (HV5.out.still A6)
 have HX6 := hid (HX5.out.still A6)
 have HB6 := hid (HB5.out.still A6)
 obtain ⟨W6, eW6⟩ : ∃ V, w6.alloc (.cells (wdcs 0 1 (.slice xa6 2 ca6) (.slice xb6 2 cb6) (.slice xc6 0 cc6) (.slice xd6 0 cd6)) 33) = V := ⟨_, rfl⟩
 obtain ⟨b6, eb6⟩ : ∃ k, w6.heap.size = k := ⟨_, rfl⟩
 rw [eW6, eb6] at HY6
 rw [eW6] at HQ6 HV6 HX6 HB6
 clear he hv h6 A6 HQ5 HV5 HX5 HB5
 obtain ⟨d0, d1, d2, d3, d4, d5, df⟩ := HV6.out.bk.cells
 obtain ⟨f0, f1, f2, f3, f4, f5, ff⟩ := HY6.out.bk.cells
 go_wp2_with fail
 clear eW6 eb6 d0 d1 d2 d3 d4 d5 df f0 f1 f2 f3 f4 f5 ff
 refine (HA.out.sm1 _ _ W6 HY6.out.rd HV6.out.rd).mono ?_
 rintro e w7 ⟨he, h7⟩
 rw [he]
 have HQ7 := hid (HQ6.out.still h7)
 have HV7 := hid (HV6.out.still h7)
 have HX7 := hid (HX6.out.still h7)
 have HB7 := hid (HB6.out.still h7)
 clear he h7 HQ6 HV6 HX6 HB6 HY6
 obtain ⟨c0, c1, c2, c3, c4, c5, cf⟩ := HQ7.out.cf.cells
 dsimp only at c0 c1 c2 c3 c4 c5
 obtain ⟨d0, d1, d2, d3, d4, d5, df⟩ := HV7.out.bk.cells
 go_wp2_with fail
 clear c0 c1 c2 c3 c4 c5 cf d0 d1 d2 d3 d4 d5 df
 refine (HA.out.dig gl _ w7 (HT.out.still HQ7.out.st) HQ7.out.rl HV7.out.rd).mono ?_
 rintro e w8 ⟨he, h8⟩
 rw [he]
 have HQ8 := hid (HQ7.out.still h8)
 have HV8 := hid (HV7.out.still h8)
 have HX8 := hid (HX7.out.still h8)
 have HB8 := hid (HB7.out.still h8)
 clear he h8 HQ7 HV7 HX7 HB7
 obtain ⟨c0, c1, c2, c3, c4, c5, cf⟩ := HQ8.out.cf.cells
 dsimp only at c0 c1 c2 c3 c4 c5
 go_wp2_with fail
 clear c0 c1 c2 c3 c4 c5 cf
 refine (HA.out.ses gl w8 (HT.out.still HQ8.out.st) HQ8.out.rl).mono ?_
 rintro e w9 ⟨he, h9⟩
 rw [he]
 have HQ9 := hid (HQ8.out.still h9)
 have HV9 := hid (HV8.out.still h9)
 have HX9 := hid (HX8.out.still h9)
 have HB9 := hid (HB8.out.still h9)
 clear he h9 HQ8 HV8 HX8 HB8
 obtain ⟨d0, d1, d2, d3, d4, d5, df⟩ := HV9.out.bk.cells
 obtain ⟨f0, f1, f2, f3, f4, f5, ff⟩ := HX9.out.bk.cells
 go_wp2_with fail
 clear d0 d1 d2 d3 d4 d5 df f0 f1 f2 f3 f4 f5 ff
 refine (HA.out.sm2 _ _ w9 HV9.out.rd HX9.out.rd).mono ?_
 rintro e w10 ⟨he, h10⟩
 rw [he]
 have HZ := hid (HQ9.out.st.trans h10)
 have k0 := HA.out.b0 w10 g5 k5 (HB9.out.still h10)
 have hn0 : (0 : Int) < (n : Int) := by omega
 clear he h10 HQ9 HV9 HX9 HB9
 go_wp2_with fail
 go_ret
 exact ⟨rfl, HZ.out⟩
end Go.Proofs.YtdmlgbcgbddkoaaGreatDoor
namespace Go.Proofs.YtdmlgbcgbddkoaaGreatDoor
open Go.RowKit
open Pu Gp Ap Vp Np Za Ka Ja Ea Ha Hg Hi
set_option maxRecDepth 100000
set_option linter.unusedVariables false
theorem lags_pos {l : List Int} (h : Lags l) : ∀ i, i < l.length -> 0 <= lgs l i /\ lgs l i < 48
 | 0, _ => by rw [h.2.2.1]; omega
 | i + 1, hi => by
  have h1 := lags_pos h i (by omega)
  have h2 := h.2.2.2 (i + 1) (by omega) hi
  rw [show i + 1 - 1 = i by omega] at h2
  omega
theorem cfg_in {p v : Int} {k q : Nat} {C R : Int} {s : ByteArray} {l : List Int} (hv : ChkV C R s v) (hq : q < 18446744073709551616) (h : CfgP p v k l) : InC p q C R s l := by
 obtain ⟨h1, h2, h3, h4, h5⟩ := h
 subst h3
 obtain ⟨q1, q2, q3, q4, q5, q6⟩ := form_shape (chkV_ok hv)
 refine ⟨⟨by omega, by omega⟩, hq, ⟨by omega, by omega⟩, ⟨by omega, by omega⟩, fun n hn => ?_, ?_⟩
 ·obtain ⟨i, hi, e⟩ := getmem 0 hn
  have := lags_pos h5 i hi
  unfold lgs at this
  rw [e] at this
  exact ⟨by omega, by omega⟩
 ·have := h5.2.1
  omega
theorem form6 {n : Int} (h1 : -1099511627776 <= n) (h2 : n <= 1099511627776) : (Cp.form (Cp.fold n)).length <= 6 := Cp.form_le 6 _ (by omega) (by unfold Cp.fold; split <;> omega)
theorem nsB_le6 : ∀ {l : List Int}, (∀ n ∈ l, -1099511627776 <= n /\ n <= 1099511627776) -> (nsB l).length <= 6 * l.length
 | [], _ => by simp [nsB]
 | n :: l, h => by
  have h1 := nsB_le6 (l := l) (fun m hm => h m (List.mem_cons_of_mem _ hm))
  have h3 := h n (List.mem_cons_self ..)
  have h2 := form6 h3.1 h3.2
  rw [show n :: l = [n] ++ l from rfl, nsB_app, nsB_one, List.length_append, List.length_append]
  simp
  omega
theorem fits_len {p : Int} {E : Env} {W : Wd} (h : Fits p E W) (hp : p <= 6) : (wdB W).length <= 4000 := by
 obtain ⟨hh, l1, l2, l3, l4⟩ := fits_in h
 obtain ⟨⟨_, r1, _⟩, _⟩ := h
 have zm := flat_le mvB 121 W.ms (fun x hx => mvB_le (hh.ms x hx))
 have zc := flat_le scB 40 W.cs (fun x hx => scB_le (hh.cs x hx))
 have zh := flat_le shB 48 W.hs (fun x hx => by
  obtain ⟨i, hi, e⟩ := getmem zS hx
  have hm : MayS x := by
   have := maySB_iff.1 (r1.2 i hi).1
   unfold ss at this
   rw [e] at this
   exact this
  obtain ⟨⟨a1, a2⟩, ⟨b1, b2⟩, ⟨c1, c2⟩, ⟨d1, d2, d3, d4⟩, ⟨e1, e2, e3, e4⟩, ⟨g1, g2⟩⟩ := hm
  have e9 : shB x = nsB (shN x) := by
   unfold shB shN
   rw [<- nsB_app, <- nsB_app, <- nsB_app]
   rfl
  have z := nsB_le6 (l := shN x) (fun n hn => by
   simp only [shN, List.mem_cons, List.not_mem_nil, or_false] at hn
   rcases hn with rfl | rfl | rfl | rfl | rfl | rfl | rfl | rfl <;> (constructor <;> omega))
  have l : (shN x).length = 8 := rfl
  rw [e9]
  omega)
 have zk := flat_le pkB 30 W.ks (fun x hx => pkB_le (hh.ks x hx))
 have zf := form10 hh.fr
 have z3 := Cp.form_ten (n := W.hs.length) (by omega)
 have z4 := Cp.form_ten (n := W.ks.length) (by omega)
 have zn := nsB_le (l := [W.nx]) (fun n hn => by simp only [List.mem_cons, List.not_mem_nil, or_false] at hn; rw [hn]; exact hh.nx)
 have hp6 : p.toNat <= 6 := by omega
 unfold wdB
 simp only [List.length_append, List.length_cons, List.length_nil] at zn ⊢
 omega
structure Ck14 (p : Int) (q : Nat) (C R : Int) (s : ByteArray) (lo : Option Addr) (ln lc : Nat) (l : List Int) (w : World) (X : Int) (x : Wd -> Int) : Prop where
 cfg : ∀ u, Still w u -> Calls Tryz.prog 19 #[.agg #[.int .i64 p, .int .u64 (q : Int), .int .i64 C, .int .i64 R, .string s, .slice lo ln lc]] u fun e w' => e = .returned (.int .i64 X) /\ Still u w'
 chk : ∀ u v W, Still w u -> RdW u v W -> Calls Tryz.prog 16 #[.agg #[.int .i64 p, .int .u64 (q : Int), .int .i64 C, .int .i64 R, .string s, .slice lo ln lc], v] u fun e w' => e = .returned (.int .i64 (x W)) /\ Still u w'
 ok : ∀ W, x W = 0 -> X = 0 /\ Wr14 p.toNat W /\ 121 * W.ms.length + 40 * W.cs.length + 80 * W.hs.length + 30 * W.ks.length + 50 <= 1000000
 inc : X = 0 -> InC p q C R s l /\ 2 <= p /\ p <= 6
 no : X ≠ 0 -> ∀ W, x W = X
 len : ∀ W, x W = 0 -> (wdB W).length <= 4000
theorem ck14_any (p : Int) (q : Nat) (C R : Int) (s : ByteArray) (lo : Option Addr) (ln lc : Nat) (l : List Int) (hq : q < 18446744073709551616) (w : World) (hr : RdI w lo ln lc l) : ∃ X x, Ck14 p q C R s lo ln lc l w X x := by
 obtain ⟨v0, hv0⟩ := chkV_ex C R s w
 obtain ⟨E, eE⟩ : ∃ E : Env, E = ⟨fun _ _ => false, stV C s v0, spV C s v0, (q : Int)⟩ := ⟨_, rfl⟩
 have hQ : ∀ u, Q13 u ⟨p, (q : Int), C, R, s, .slice lo ln lc⟩ v0 E.st E.sp := fun u => by
  have h := q13_of ⟨p, (q : Int), C, R, s, .slice lo ln lc⟩ v0 hv0 u
  rw [eE]
  exact h
 by_cases hc : CfgP p v0 E.st.length l
 ·refine ⟨0, chkW p E, ?_⟩
  obtain ⟨N, rfl⟩ : ∃ N : Nat, p = (N : Int) := ⟨p.toNat, by have := hc.1; omega⟩
  refine ⟨fun u hu => wcfg_yes N q C R s lo ln lc E l u v0 (hQ u) (hr.still hu) hc, fun u v W hu hv => wchk_yes N q C R s lo ln lc E l u v0 (hQ u) (hr.still hu) hc W v hv, fun W hW => ?_, fun _ => ⟨cfg_in hv0 hq hc, hc.1, hc.2.1⟩, fun h => absurd rfl h, fun W hW => ?_⟩
  ·by_cases hf : Fits (N : Int) E W
   ·exact ⟨rfl, fits_wr hf, fits_room hf hc.2.1⟩
   ·rw [chkW_no hf] at hW
    cases hW
  ·by_cases hf : Fits (N : Int) E W
   ·exact fits_len hf hc.2.1
   ·rw [chkW_no hf] at hW
    cases hW
 ·exact ⟨130, fun _ => 130, fun u hu => wcfg_no p q C R s lo ln lc E l u v0 (hQ u) (hr.still hu) hc, fun u v W hu hv => wchk_no p q C R s lo ln lc E l u v0 (hQ u) (hr.still hu) hc W v hv, fun W hW => (by cases hW), fun h => (by cases h), fun _ W => rfl, fun W hW => (by cases hW)⟩
end Go.Proofs.YtdmlgbcgbddkoaaGreatDoor
namespace Go.Proofs.YtdmlgbcgbddkoaaGreatDoor
open Go.RowKit
open Pu Gp Ap Vp Np Za Ka Ja Ea Ha Hg Hi
set_option maxRecDepth 100000
set_option linter.unusedVariables false
abbrev cfv14 (p : Int) (q : Nat) (C R : Int) (s : ByteArray) (lo : Option Addr) (ln lc : Nat) : Value := .agg #[.int .i64 p, .int .u64 (q : Int), .int .i64 C, .int .i64 R, .string s, .slice lo ln lc]
structure Bq14 (w u : World) (g : Nat) (p : Int) (q : Nat) (C R : Int) (s : ByteArray) (lo : Option Addr) (ln lc : Nat) (fr nx : Int) (a b c d : Value) : Prop where
 cf : Cfb u g ⟨p, (q : Int), C, R, s, .slice lo ln lc⟩
 wd : Wdb u (g + 1) fr nx a b c d
 st : Still w u
theorem Bq14.still {w u u' : World} {g : Nat} {p : Int} {q : Nat} {C R : Int} {s : ByteArray} {lo : Option Addr} {ln lc : Nat} {fr nx : Int} {a b c d : Value} (h : Bq14 w u g p q C R s lo ln lc fr nx a b c d) (hs : Still u u') : Bq14 w u' g p q C R s lo ln lc fr nx a b c d := ⟨h.cf.still hs, h.wd.still hs, h.st.trans hs⟩
theorem Bq14.new (w : World) (p : Int) (q : Nat) (C R : Int) (s : ByteArray) (lo : Option Addr) (ln lc : Nat) (fr nx : Int) (a b c d : Value) : Bq14 w ((w.alloc (.cells #[.int .i64 p, .int .u64 (q : Int), .int .i64 C, .int .i64 R, .string s, .slice lo ln lc] 27)).alloc (.cells (wdcs fr nx a b c d) 33)) w.heap.size p q C R s lo ln lc fr nx a b c d := by
 have A0 := Still.alloc w (.cells #[.int .i64 p, .int .u64 (q : Int), .int .i64 C, .int .i64 R, .string s, .slice lo ln lc] 27)
 have A1 := Still.alloc (w.alloc (.cells #[.int .i64 p, .int .u64 (q : Int), .int .i64 C, .int .i64 R, .string s, .slice lo ln lc] 27)) (.cells (wdcs fr nx a b c d) 33)
 have w0 := newWd_wb (w.alloc (.cells #[.int .i64 p, .int .u64 (q : Int), .int .i64 C, .int .i64 R, .string s, .slice lo ln lc] 27)) fr nx a b c d
 rw [size_alloc] at w0
 exact ⟨(newCf_cb w ⟨p, (q : Int), C, R, s, .slice lo ln lc⟩).still A1, w0, A0.trans A1⟩
end Go.Proofs.YtdmlgbcgbddkoaaGreatDoor
namespace Go.Proofs.YtdmlgbcgbddkoaaGreatDoor
open Go.RowKit
open Pu Gp Ap Vp Np Za Ka Ja Ea Ha Hg Hi
set_option maxRecDepth 100000
set_option linter.unusedVariables false
theorem decW_ok {k : Nat} {bs : List UInt8} {x : Wd -> Int} (h : (decW k bs x).2 = 0) : x (decW k bs x).1 = 0 /\ wdB (decW k bs x).1 ++ sumB (wdB (decW k bs x).1) = bs := by
 unfold decW at h ⊢
 by_cases h8 : bs.length < 8
 ·rw [if_pos h8] at h; simp at h
 ·rw [if_neg h8] at h ⊢
  cases hs : saysW k (bs.take (bs.length - 8)) with
  | none => rw [hs] at h; simp at h
  | some X =>
   rw [hs] at h
   dsimp only at h ⊢
   by_cases hd : bs.drop (bs.length - 8) = sumB (bs.take (bs.length - 8))
   ·rw [if_pos hd] at h ⊢
    by_cases hx : x X = 0
    ·rw [if_pos hx]
     obtain ⟨e, _⟩ := saysW_back hs
     refine ⟨hx, ?_⟩
     dsimp only
     rw [<- e, <- hd]
     exact List.take_append_drop _ _
    ·rw [if_neg hx] at h
     exact absurd h hx
   ·rw [if_neg hd] at h; simp at h
theorem decW_fst (k : Nat) (bs : List UInt8) (x : Wd -> Int) : (decW k bs x).1 = zW \/ Wr14 k (decW k bs x).1 := by
 unfold decW
 by_cases h8 : bs.length < 8
 ·rw [if_pos h8]; exact .inl rfl
 ·rw [if_neg h8]
  cases hs : saysW k (bs.take (bs.length - 8)) with
  | none => exact .inl rfl
  | some X =>
   dsimp only
   by_cases hd : bs.drop (bs.length - 8) = sumB (bs.take (bs.length - 8))
   ·rw [if_pos hd]
    by_cases hx : x X = 0
    ·rw [if_pos hx]
     exact .inr (saysW_back hs).2
    ·rw [if_neg hx]; exact .inl rfl
   ·rw [if_neg hd]; exact .inl rfl
theorem decW_few {k : Nat} (hk : k <= 2147483647) (bs : List UInt8) (x : Wd -> Int) : (decW k bs x).1.ms.length <= 2147483647 /\ (decW k bs x).1.cs.length <= 2147483647 /\ (decW k bs x).1.hs.length <= 2147483647 /\ (decW k bs x).1.ks.length <= 2147483647 := by
 rcases decW_fst k bs x with h | ⟨_, h1, h2, h3, h4⟩
 ·rw [h]; unfold zW; simp
 ·omega
abbrev wv14 (V : Wd) (xa xb xc xd : Option Addr) (ya yb yc yd : Nat) : Value := .agg (wdcs V.fr V.nx (.slice xa V.ms.length ya) (.slice xb V.cs.length yb) (.slice xc V.hs.length yc) (.slice xd V.ks.length yd))
structure Ed14 (p : Int) (q : Nat) (C R : Int) (s : ByteArray) (lo : Option Addr) (ln lc : Nat) (w : World) (x : Wd -> Int) (dW : List UInt8 -> Wd × Int) : Prop where
 enc : ∀ v W u, Still w u -> RdW u v W -> x W = 0 -> Calls Tryz.prog 7 #[cfv14 p q C R s lo ln lc, v] u fun e w' => ∃ ao cap, e = .returned (.tuple #[.slice ao ((wdB W).length + 8) cap, .int .i64 0]) /\ Rd w' ao ((wdB W).length + 8) cap (wdB W ++ sumB (wdB W)) /\ Still u w'
 enn : ∀ v W u, Still w u -> RdW u v W -> x W ≠ 0 -> Calls Tryz.prog 7 #[cfv14 p q C R s lo ln lc, v] u fun e w' => e = .returned (.tuple #[.slice none 0 0, .int .i64 (x W)]) /\ Still u w'
 dec : ∀ ao n cap bs u, Still w u -> Rd u ao n cap bs -> n <= 140737488355328 -> Calls Tryz.prog 8 #[cfv14 p q C R s lo ln lc, .slice ao n cap] u fun e w' => ∃ xa xb xc xd ya yb yc yd, e = .returned (.tuple #[wv14 (dW bs).1 xa xb xc xd ya yb yc yd, .int .i64 (dW bs).2]) /\ RdW w' (wv14 (dW bs).1 xa xb xc xd ya yb yc yd) (dW bs).1 /\ Still u w'
 bk : ∀ bs, (dW bs).2 = 0 -> x (dW bs).1 = 0 /\ wdB (dW bs).1 ++ sumB (wdB (dW bs).1) = bs
 yes : ∀ W, x W = 0 -> dW (wdB W ++ sumB (wdB W)) = (W, 0)
 cut : ∀ W n, x W = 0 -> n < (wdB W).length + 8 -> dW ((wdB W ++ sumB (wdB W)).take n) = (zW, 140)
 mor : ∀ W m, x W = 0 -> m ≠ [] -> dW (wdB W ++ sumB (wdB W) ++ m) = (zW, 140)
 len : ∀ W, x W = 0 -> (wdB W).length <= 4000
theorem ed14_any (p : Int) (q : Nat) (C R : Int) (s : ByteArray) (lo : Option Addr) (ln lc : Nat) (l : List Int) (hq : q < 18446744073709551616) (w : World) (ht : FTab w) (hr : RdI w lo ln lc l) : ∃ x dW, Ed14 p q C R s lo ln lc w x dW := by
 obtain ⟨X, x, hC⟩ := ck14_any p q C R s lo ln lc l hq w hr
 have hk : ∀ v W u u', Still w u -> RdW u v W -> Still u u' -> Calls Tryz.prog 16 #[cfv14 p q C R s lo ln lc, v] u' fun e w' => e = .returned (.int .i64 (x W)) /\ Still u' w' := fun v W u u' hu hv hu' => hC.chk u' v W (hu.trans hu') (hv.still hu')
 have henc : ∀ v W u, Still w u -> RdW u v W -> x W = 0 -> Calls Tryz.prog 7 #[cfv14 p q C R s lo ln lc, v] u fun e w' => ∃ ao cap, e = .returned (.tuple #[.slice ao ((wdB W).length + 8) cap, .int .i64 0]) /\ Rd w' ao ((wdB W).length + 8) cap (wdB W ++ sumB (wdB W)) /\ Still u w' := fun v W u hu hv hx => by
  obtain ⟨h0, hw, hb⟩ := hC.ok W hx
  refine (penc_yes p q C R s lo ln lc W v hw.nm hb u (ht.still hu) hv (fun u' hu' => by have := hk v W u u' hu hv hu'; rw [hx] at this; exact this)).mono ?_
  rintro e w' ⟨ao, cap, he, ho, hs, _⟩
  exact ⟨ao, cap, he, ho.rd, hs⟩
 have henn : ∀ v W u, Still w u -> RdW u v W -> x W ≠ 0 -> Calls Tryz.prog 7 #[cfv14 p q C R s lo ln lc, v] u fun e w' => e = .returned (.tuple #[.slice none 0 0, .int .i64 (x W)]) /\ Still u w' := fun v W u hu hv hx => by
  obtain ⟨a, b, c, d, rfl, _⟩ := id hv
  exact penc_no p q C R s lo ln lc (x W) hx W.fr W.nx a b c d u (fun u' hu' => hk _ W u u' hu hv hu')
 by_cases hX : X = 0
 ·subst hX
  obtain ⟨hi, hp1, hp2⟩ := hC.inc rfl
  obtain ⟨N, rfl⟩ : ∃ N : Nat, p = (N : Int) := ⟨p.toNat, by omega⟩
  have hw : ∀ W, x W = 0 -> Wr14 N W := fun W hW => (hC.ok W hW).2.1
  refine ⟨x, fun bs => decW N bs x, henc, henn, fun ao n cap bs u hu hb h47 => ?_, fun bs h => decW_ok h, fun W hW => dec_enc (hw W hW) x hW, fun W n hW hn => dec_cut (hw W hW) x hn, fun W m hW hm => dec_more (hw W hW) x hm, hC.len⟩
  refine (zdec_any N (by omega) q C R s lo ln lc ao n cap bs x u hb h47 (ht.still hu) (fun u' hu' => hC.cfg u' (hu.trans hu')) (fun u' v V hu' ho hV => ?_)).mono ?_
  ·obtain ⟨_, _, e1, e2, e3, e4⟩ := saysW_back hV
   exact hC.chk u' v V (hu.trans hu') (OwW.rd ho (by omega) (by omega) (by omega) (by omega))
  ·rintro e w' ⟨v, he, ho, hs⟩
   obtain ⟨e1, e2, e3, e4⟩ := decW_few (show N <= 2147483647 by omega) bs x
   have hz := OwW.rd ho (by omega) (by omega) (by omega) (by omega)
   obtain ⟨a, b, c, d, rfl, ⟨xa, ya, rfl, _⟩, ⟨xb, yb, rfl, _⟩, ⟨xc, yc, rfl, _⟩, ⟨xd, yd, rfl, _⟩⟩ := id hz
   exact ⟨xa, xb, xc, xd, ya, yb, yc, yd, he, hz, hs⟩
 ·have hx : ∀ W, x W ≠ 0 := fun W => by rw [hC.no hX W]; exact hX
  refine ⟨x, fun bs => (zW, X), henc, henn, fun ao n cap bs u hu hb h47 => ?_, fun bs h => absurd h hX, fun W hW => absurd hW (hx W), fun W n hW hn => absurd hW (hx W), fun W m hW hm => absurd hW (hx W), fun W hW => absurd hW (hx W)⟩
  refine (zdec_cfg p q C R s lo ln lc ao n cap X hX u (fun u' hu' => hC.cfg u' (hu.trans hu'))).mono ?_
  rintro e w' ⟨v, he, ho, hs⟩
  have hz := OwW.rd ho (by simp [zW]) (by simp [zW]) (by simp [zW]) (by simp [zW])
  obtain ⟨a, b, c, d, rfl, ⟨xa, ya, rfl, _⟩, ⟨xb, yb, rfl, _⟩, ⟨xc, yc, rfl, _⟩, ⟨xd, yd, rfl, _⟩⟩ := id hz
  exact ⟨xa, xb, xc, xd, ya, yb, yc, yd, he, hz, hs⟩
end Go.Proofs.YtdmlgbcgbddkoaaGreatDoor
namespace Go.Proofs.YtdmlgbcgbddkoaaGreatDoor
open Go.RowKit
open Pu Gp Ap Vp Np Za Ka Ja Ea Ha Hg Hi
set_option maxRecDepth 100000
set_option linter.unusedVariables false
abbrev wl14 (fr nx : Int) (k1 k2 k3 k4 : Nat) (xa xb xc xd : Option Addr) (ya yb yc yd : Nat) : Value := .agg (wdcs fr nx (.slice xa k1 ya) (.slice xb k2 yb) (.slice xc k3 yc) (.slice xd k4 yd))
set_option maxHeartbeats 8000000 in
theorem back14_walk (p : Int) (q : Nat) (C R : Int) (s : ByteArray) (lo : Option Addr) (ln lc : Nat) (W V : Wd) (fr nx fr2 nx2 : Int) (k1 k2 k3 k4 m1 m2 m3 m4 : Nat) (xa xb xc xd : Option Addr) (ya yb yc yd : Nat) (X0 G : Int) (N1 : Nat) (B1 bb : List UInt8) (bo : Option Addr) (bn bc : Nat) (w : World) (ht : FTab w)
  (hv : RdW w (wl14 fr nx k1 k2 k3 k4 xa xb xc xd ya yb yc yd) W) (hb : Rd w bo bn bc bb)
  (hE : ∀ u, Still w u -> Calls Tryz.prog 7 #[cfv14 p q C R s lo ln lc, wl14 fr nx k1 k2 k3 k4 xa xb xc xd ya yb yc yd] u fun e w' => ∃ ao n cap, e = .returned (.tuple #[.slice ao n cap, .int .i64 X0]) /\ (X0 = 0 -> Rd w' ao n cap B1) /\ Still u w')
  (hD1 : X0 = 0 -> ∀ ao n cap u, Still w u -> Rd u ao n cap B1 -> Calls Tryz.prog 8 #[cfv14 p q C R s lo ln lc, .slice ao n cap] u fun e w' => ∃ xa xb xc xd ya yb yc yd, e = .returned (.tuple #[wl14 fr nx k1 k2 k3 k4 xa xb xc xd ya yb yc yd, .int .i64 0]) /\ RdW w' (wl14 fr nx k1 k2 k3 k4 xa xb xc xd ya yb yc yd) W /\ Still u w')
  (hD2 : ∀ u, Still w u -> Calls Tryz.prog 8 #[cfv14 p q C R s lo ln lc, .slice bo bn bc] u fun e w' => ∃ xa xb xc xd ya yb yc yd, e = .returned (.tuple #[wl14 fr2 nx2 m1 m2 m3 m4 xa xb xc xd ya yb yc yd, .int .i64 G]) /\ RdW w' (wl14 fr2 nx2 m1 m2 m3 m4 xa xb xc xd ya yb yc yd) V /\ Still u w')
  (hE2 : G = 0 -> ∀ v u, Still w u -> RdW u v V -> Calls Tryz.prog 7 #[cfv14 p q C R s lo ln lc, v] u fun e w' => ∃ ao n cap, e = .returned (.tuple #[.slice ao n cap, .int .i64 0]) /\ Rd w' ao n cap bb /\ Still u w') :
  Calls Tryz.prog 3 #[cfv14 p q C R s lo ln lc, wl14 fr nx k1 k2 k3 k4 xa xb xc xd ya yb yc yd, .slice bo bn bc] w fun e w' => e = .returned (.bool true) /\ Still w w' := by
 have HT := hid ht
 have HV := hid hv
 have HBy := hid hb
 have HE := hid hE
 have HD1 := hid hD1
 have HD2 := hid hD2
 have HE2 := hid hE2
 clear ht hv hb hE hD1 hD2 hE2
 have HB0 := hid (Bq14.new w p q C R s lo ln lc fr nx (.slice xa k1 ya) (.slice xb k2 yb) (.slice xc k3 yc) (.slice xd k4 yd))
 obtain ⟨W0, eW0⟩ : ∃ X, ((w.alloc (.cells #[.int .i64 p, .int .u64 (q : Int), .int .i64 C, .int .i64 R, .string s, .slice lo ln lc] 27)).alloc (.cells (wdcs fr nx (.slice xa k1 ya) (.slice xb k2 yb) (.slice xc k3 yc) (.slice xd k4 yd)) 33)) = X := ⟨_, rfl⟩
 rw [eW0] at HB0
 obtain ⟨g, eg⟩ : ∃ k, w.heap.size = k := ⟨_, rfl⟩
 rw [eg] at HB0
 go_enter Tryz.func3, Tryz.ntmps3
 go_wp2_with fail
 clear eW0 eg
 refine (awake14_any _ (HT.out.still HB0.out.st)).mono ?_
 rintro e w1 ⟨he, h1⟩
 rw [he]
 have HB1 := hid (HB0.out.still h1)
 clear he h1 HB0
 obtain ⟨c0, c1, c2, c3, c4, c5, cf⟩ := HB1.out.cf.cells
 dsimp only at c0 c1 c2 c3 c4 c5
 obtain ⟨d0, d1, d2, d3, d4, d5, df⟩ := HB1.out.wd.cells
 go_wp2_with fail
 clear c0 c1 c2 c3 c4 c5 cf d0 d1 d2 d3 d4 d5 df
 refine (HE.out w1 HB1.out.st).mono ?_
 rintro e w2 ⟨ao, n, cap, he, hR, h2⟩
 rw [he]
 have HB2 := hid (HB1.out.still h2)
 have HR2 := hid hR
 clear he h2 HB1 hR
 by_cases hX : X0 = 0
 case' pos =>
  subst hX
  obtain ⟨c0, c1, c2, c3, c4, c5, cf⟩ := HB2.out.cf.cells
  dsimp only at c0 c1 c2 c3 c4 c5
  go_wp2_with fail
  clear c0 c1 c2 c3 c4 c5 cf
  refine (HD1.out (by trivial) ao n cap w2 HB2.out.st (HR2.out (by trivial))).mono ?_
  rintro e w3 ⟨xa0, xb0, xc0, xd0, ya0, yb0, yc0, yd0, he, hv, h3⟩
  rw [he]
  have A2 := Still.alloc w3 (.cells (wdcs fr nx (.slice xa0 k1 ya0) (.slice xb0 k2 yb0) (.slice xc0 k3 yc0) (.slice xd0 k4 yd0)) 33)
  have p2 := newWd_wb w3 fr nx (.slice xa0 k1 ya0) (.slice xb0 k2 yb0) (.slice xc0 k3 yc0) (.slice xd0 k4 yd0)
  unfold newWd at p2
  have HB3 := hid (HB2.out.still (h3.trans A2))
  have HY3 := hid (hv.still A2)
  obtain ⟨W3, eW3⟩ : ∃ V, w3.alloc (.cells (wdcs fr nx (.slice xa0 k1 ya0) (.slice xb0 k2 yb0) (.slice xc0 k3 yc0) (.slice xd0 k4 yd0)) 33) = V := ⟨_, rfl⟩
  obtain ⟨b3, eb3⟩ : ∃ k, w3.heap.size = k := ⟨_, rfl⟩
  rw [eW3] at HB3 HY3 p2
  rw [eb3] at p2
  have HP3 := hid p2
  clear he hv h3 A2 p2 HB2
  obtain ⟨c0, c1, c2, c3, c4, c5, cf⟩ := HP3.out.cells
  obtain ⟨d0, d1, d2, d3, d4, d5, df⟩ := HB3.out.wd.cells
  go_wp2_with fail
  clear eW3 eb3 c0 c1 c2 c3 c4 c5 cf d0 d1 d2 d3 d4 d5 df
  refine (rsame_any W _ _ W3 HY3.out (HV.out.still HB3.out.st)).mono ?_
  rintro e w4 ⟨he, h4⟩
  rw [he]
  have HB4 := hid (HB3.out.still h4)
  have HY4 := hid (HY3.out.still h4)
  have HP4 := hid (HP3.out.still h4)
  clear he h4 HB3 HY3 HP3
  obtain ⟨c0, c1, c2, c3, c4, c5, cf⟩ := HP4.out.cells
  obtain ⟨d0, d1, d2, d3, d4, d5, df⟩ := HB4.out.wd.cells
  go_wp2_with fail
  clear c0 c1 c2 c3 c4 c5 cf d0 d1 d2 d3 d4 d5 df
  refine (zsame_t W _ _ w4 HY4.out (HV.out.still HB4.out.st)).mono ?_
  rintro e w8 ⟨he, h8⟩
  rw [he]
  have HB8 := hid (HB4.out.still h8)
  clear he h8 HB4 HY4 HP4
  obtain ⟨c0, c1, c2, c3, c4, c5, cf⟩ := HB8.out.cf.cells
  dsimp only at c0 c1 c2 c3 c4 c5
  go_wp2_with fail
  clear c0 c1 c2 c3 c4 c5 cf
 case' neg =>
  have tX : (X0 == 0) = false := by simpa using hX
  clear hX
  obtain ⟨w8, rfl⟩ : ∃ z, z = w2 := ⟨_, rfl⟩
  have HB8 := HB2
  clear HB2
  obtain ⟨c0, c1, c2, c3, c4, c5, cf⟩ := HB8.out.cf.cells
  dsimp only at c0 c1 c2 c3 c4 c5
  go_wp2_with fail
  clear c0 c1 c2 c3 c4 c5 cf tX
 all_goals
  refine (HD2.out w8 HB8.out.st).mono ?_
  rintro e w9 ⟨xa0, xb0, xc0, xd0, ya0, yb0, yc0, yd0, he, hv, h9⟩
  rw [he]
  have A2 := Still.alloc w9 (.cells (wdcs fr2 nx2 (.slice xa0 m1 ya0) (.slice xb0 m2 yb0) (.slice xc0 m3 yc0) (.slice xd0 m4 yd0)) 33)
  have p2 := newWd_wb w9 fr2 nx2 (.slice xa0 m1 ya0) (.slice xb0 m2 yb0) (.slice xc0 m3 yc0) (.slice xd0 m4 yd0)
  unfold newWd at p2
  have HB9 := hid (HB8.out.still (h9.trans A2))
  have HY9 := hid (hv.still A2)
  obtain ⟨W9, eW9⟩ : ∃ V, w9.alloc (.cells (wdcs fr2 nx2 (.slice xa0 m1 ya0) (.slice xb0 m2 yb0) (.slice xc0 m3 yc0) (.slice xd0 m4 yd0)) 33) = V := ⟨_, rfl⟩
  obtain ⟨b9, eb9⟩ : ∃ k, w9.heap.size = k := ⟨_, rfl⟩
  rw [eW9] at HB9 HY9 p2
  rw [eb9] at p2
  have HP9 := hid p2
  clear he hv h9 A2 p2 HB8
  by_cases hG : G = 0
  ·subst hG
   obtain ⟨c0, c1, c2, c3, c4, c5, cf⟩ := HB9.out.cf.cells
   dsimp only at c0 c1 c2 c3 c4 c5
   obtain ⟨d0, d1, d2, d3, d4, d5, df⟩ := HP9.out.cells
   go_wp2_with fail
   clear eW9 eb9 c0 c1 c2 c3 c4 c5 cf d0 d1 d2 d3 d4 d5 df
   refine (HE2.out (by trivial) _ W9 HB9.out.st HY9.out).mono ?_
   rintro e w10 ⟨ao2, n2, cap2, he, hR, h10⟩
   rw [he]
   have HZ := hid (HB9.out.st.trans h10)
   have s1 := run_string (P := Tryz.prog) w10 34 5 9 Tryz.underlying34 Tryz.underlying5 Tryz.underlying9 hR
   have s2 := run_string (P := Tryz.prog) w10 34 5 9 Tryz.underlying34 Tryz.underlying5 Tryz.underlying9 (HBy.out.still HZ.out)
   obtain ⟨B, eB⟩ : ∃ B, (⟨bb.toArray⟩ : ByteArray) = B := ⟨_, rfl⟩
   rw [eB] at s1 s2
   clear he h10 HB9 HY9 HP9 eB hR
   go_wp2_with fail
   go_ret
   exact ⟨rfl, HZ.out⟩
  ·have tG : (G == 0) = false := by simpa using hG
   clear hG
   go_wp2_with fail
   go_ret
   exact ⟨rfl, HB9.out.st⟩
theorem back14_law (p : Int) (q : Nat) (C R : Int) (s : ByteArray) (lo : Option Addr) (ln lc : Nat) (l : List Int) (hq : q < 18446744073709551616) (W : Wd) (v : Value) (bb : List UInt8) (bo : Option Addr) (bn bc : Nat) (w : World) (ht : FTab w) (hr : RdI w lo ln lc l) (hv : RdW w v W) (hb : Rd w bo bn bc bb) (h47 : bn <= 140737488355328) :
  Calls Tryz.prog 3 #[cfv14 p q C R s lo ln lc, v, .slice bo bn bc] w fun e w' => e = .returned (.bool true) /\ Still w w' := by
 obtain ⟨x, dW, hC⟩ := ed14_any p q C R s lo ln lc l hq w ht hr
 have hv' := hv
 obtain ⟨a, b, c, d, rfl, ⟨xa, ya, rfl, _⟩, ⟨xb, yb, rfl, _⟩, ⟨xc, yc, rfl, _⟩, ⟨xd, yd, rfl, _⟩⟩ := hv'
 refine back14_walk p q C R s lo ln lc W (dW bb).1 W.fr W.nx (dW bb).1.fr (dW bb).1.nx _ _ _ _ (dW bb).1.ms.length (dW bb).1.cs.length (dW bb).1.hs.length (dW bb).1.ks.length xa xb xc xd ya yb yc yd (x W) (dW bb).2 0 (wdB W ++ sumB (wdB W)) bb bo bn bc w ht hv hb (fun u hu => ?_) (fun hx ao n cap u hu hd => ?_) (fun u hu => hC.dec bo bn bc bb u hu (hb.still hu) h47) (fun hg v u hu hv => ?_)
 ·by_cases hx : x W = 0
  ·rw [hx]
   refine (hC.enc _ W u hu (hv.still hu) hx).mono ?_
   rintro e w' ⟨ao, cap, he, ho, hs⟩
   exact ⟨ao, _, cap, he, fun _ => ho, hs⟩
  ·refine (hC.enn _ W u hu (hv.still hu) hx).mono ?_
   rintro e w' ⟨he, hs⟩
   exact ⟨none, 0, 0, he, fun h => absurd h hx, hs⟩
 ·have hl := hd.len
  have hle := hC.len W hx
  rw [List.length_append, sumB_len] at hl
  refine (hC.dec ao n cap _ u hu hd (by omega)).mono ?_
  rw [hC.yes W hx]
  exact fun e w' h => h
 ·obtain ⟨h1, h2⟩ := hC.bk bb hg
  refine (hC.enc v _ u hu hv h1).mono ?_
  rw [h2]
  rintro e w' ⟨ao, cap, he, ho, hs⟩
  exact ⟨ao, _, cap, he, ho, hs⟩
end Go.Proofs.YtdmlgbcgbddkoaaGreatDoor
namespace Go.Proofs.YtdmlgbcgbddkoaaGreatDoor
open Go.RowKit
open Pu Gp Ap Vp Np Za Ka Ja Ea Ha Hg Hi
set_option maxRecDepth 100000
set_option linter.unusedVariables false
set_option maxHeartbeats 4000000 in
theorem cut14_no (p : Int) (q : Nat) (C R : Int) (s : ByteArray) (lo : Option Addr) (ln lc : Nat) (fr nx : Int) (k1 k2 k3 k4 : Nat) (xa xb xc xd : Option Addr) (ya yb yc yd : Nat) (X0 n : Int) (mo : Option Addr) (mn mc : Nat) (w : World) (ht : FTab w) (hx : X0 ≠ 0)
  (hE : ∀ u, Still w u -> Calls Tryz.prog 7 #[cfv14 p q C R s lo ln lc, wl14 fr nx k1 k2 k3 k4 xa xb xc xd ya yb yc yd] u fun e w' => e = .returned (.tuple #[.slice none 0 0, .int .i64 X0]) /\ Still u w') :
  Calls Tryz.prog 5 #[cfv14 p q C R s lo ln lc, wl14 fr nx k1 k2 k3 k4 xa xb xc xd ya yb yc yd, .int .i64 n, .slice mo mn mc] w fun e w' => e = .returned (.bool true) /\ Still w w' := by
 have HT := hid ht
 have HE := hid hE
 have tX : (X0 != 0) = true := by simpa using hx
 clear ht hE hx
 have HB0 := hid (Bq14.new w p q C R s lo ln lc fr nx (.slice xa k1 ya) (.slice xb k2 yb) (.slice xc k3 yc) (.slice xd k4 yd))
 obtain ⟨W0, eW0⟩ : ∃ X, ((w.alloc (.cells #[.int .i64 p, .int .u64 (q : Int), .int .i64 C, .int .i64 R, .string s, .slice lo ln lc] 27)).alloc (.cells (wdcs fr nx (.slice xa k1 ya) (.slice xb k2 yb) (.slice xc k3 yc) (.slice xd k4 yd)) 33)) = X := ⟨_, rfl⟩
 rw [eW0] at HB0
 obtain ⟨g, eg⟩ : ∃ k, w.heap.size = k := ⟨_, rfl⟩
 rw [eg] at HB0
 go_enter Tryz.func5, Tryz.ntmps5
 go_wp2_with fail
 clear eW0 eg
 refine (awake14_any _ (HT.out.still HB0.out.st)).mono ?_
 rintro e w1 ⟨he, h1⟩
 rw [he]
 have HB1 := hid (HB0.out.still h1)
 clear he h1 HB0
 obtain ⟨c0, c1, c2, c3, c4, c5, cf⟩ := HB1.out.cf.cells
 dsimp only at c0 c1 c2 c3 c4 c5
 obtain ⟨d0, d1, d2, d3, d4, d5, df⟩ := HB1.out.wd.cells
 go_wp2_with fail
 clear c0 c1 c2 c3 c4 c5 cf d0 d1 d2 d3 d4 d5 df
 refine (HE.out w1 HB1.out.st).mono ?_
 rintro e w2 ⟨he, h2⟩
 rw [he]
 have HB2 := hid (HB1.out.still h2)
 clear he h2 HB1
 go_wp2_with fail
 go_ret
 exact ⟨rfl, HB2.out.st⟩
set_option maxHeartbeats 16000000 in
theorem cut14_yes (p : Int) (q : Nat) (C R : Int) (s : ByteArray) (lo : Option Addr) (ln lc : Nat) (fr nx : Int) (k1 k2 k3 k4 : Nat) (xa xb xc xd : Option Addr) (ya yb yc yd : Nat) (n : Int) (N1 : Nat) (B1 mb : List UInt8) (mo : Option Addr) (mn mc : Nat) (w : World) (ht : FTab w) (hm : Rd w mo mn mc mb)
    (hN : N1 + mn <= 140737488355328)
    (hE : ∀ u, Still w u -> Calls Tryz.prog 7 #[cfv14 p q C R s lo ln lc, wl14 fr nx k1 k2 k3 k4 xa xb xc xd ya yb yc yd] u fun e w' => ∃ ao cap, e = .returned (.tuple #[.slice ao N1 cap, .int .i64 0]) /\ Rd w' ao N1 cap B1 /\ Still u w')
    (hD1 : ∀ m ao cap u, m < N1 -> Still w u -> Rd u ao m cap (B1.take m) -> Calls Tryz.prog 8 #[cfv14 p q C R s lo ln lc, .slice ao m cap] u fun e w' => ∃ xa xb xc xd ya yb yc yd, e = .returned (.tuple #[wl14 0 0 0 0 0 0 xa xb xc xd ya yb yc yd, .int .i64 140]) /\ Still u w')
    (hD2 : 0 < mn -> ∀ ao cap u, Still w u -> Rd u ao (N1 + mn) cap (B1 ++ mb) -> Calls Tryz.prog 8 #[cfv14 p q C R s lo ln lc, .slice ao (N1 + mn) cap] u fun e w' => ∃ xa xb xc xd ya yb yc yd, e = .returned (.tuple #[wl14 0 0 0 0 0 0 xa xb xc xd ya yb yc yd, .int .i64 140]) /\ Still u w') :
    Calls Tryz.prog 5 #[cfv14 p q C R s lo ln lc, wl14 fr nx k1 k2 k3 k4 xa xb xc xd ya yb yc yd, .int .i64 n, .slice mo mn mc] w fun e w' => e = .returned (.bool true) /\ Still w w' := by
  obtain ⟨i0, hi0, hz0, hs10, hb10⟩ := info_parts info_u8
  have HT := hid ht
  have HE := hid hE
  have HD1 := hid hD1
  have HD2 := hid hD2
  have HM := hid hm
  have HN := hid hN
  clear ht hE hD1 hD2 hm hN
  have HB0 := hid (Bq14.new w p q C R s lo ln lc fr nx (.slice xa k1 ya) (.slice xb k2 yb) (.slice xc k3 yc) (.slice xd k4 yd))
  obtain ⟨W0, eW0⟩ : ∃ X, ((w.alloc (.cells #[.int .i64 p, .int .u64 (q : Int), .int .i64 C, .int .i64 R, .string s, .slice lo ln lc] 27)).alloc (.cells (wdcs fr nx (.slice xa k1 ya) (.slice xb k2 yb) (.slice xc k3 yc) (.slice xd k4 yd)) 33)) = X := ⟨_, rfl⟩
  rw [eW0] at HB0
  obtain ⟨g, eg⟩ : ∃ k, w.heap.size = k := ⟨_, rfl⟩
  rw [eg] at HB0
  go_enter Tryz.func5, Tryz.ntmps5
  go_wp2_with fail
  clear eW0 eg
  refine (awake14_any _ (HT.out.still HB0.out.st)).mono ?_
  rintro e w1 ⟨he, h1⟩
  rw [he]
  have HB1 := hid (HB0.out.still h1)
  clear he h1 HB0
  obtain ⟨c0, c1, c2, c3, c4, c5, cf⟩ := HB1.out.cf.cells
  dsimp only at c0 c1 c2 c3 c4 c5
  obtain ⟨d0, d1, d2, d3, d4, d5, df⟩ := HB1.out.wd.cells
  go_wp2_with fail
  clear c0 c1 c2 c3 c4 c5 cf d0 d1 d2 d3 d4 d5 df
  refine (HE.out w1 HB1.out.st).mono ?_
  rintro e w2 ⟨ao, cap, he, hR, h2⟩
  rw [he]
  have HB2 := hid (HB1.out.still h2)
  have HR2 := hid hR
  have hcap := hR.le
  clear he h2 HB1 hR
  by_cases hn : 0 <= n /\ n < (N1 : Int)
  case' pos =>
    obtain ⟨m, rfl⟩ : ∃ m : Nat, n = (m : Int) := ⟨n.toNat, by omega⟩
    have hmN : m < N1 := by omega
    have hsl : ∀ W' : World, (Instr.slice 34 (.slice ao N1 cap) none (some (.int .i64 (m : Int))) none).run Tryz.prog W' = .ok (.slice ao m cap) W' := fun W' => by
      have := run_upto (P := Tryz.prog) W' 34 5 i0 Tryz.underlying34 hi0 hs10 .i64 ao N1 cap (m : Int) (by omega) (by omega)
      rw [this, Int.toNat_natCast]
    have HDc : Hid (∀ u, Still w2 u -> Calls Tryz.prog 8 #[cfv14 p q C R s lo ln lc, .slice ao m cap] u fun e w' => ∃ xa xb xc xd ya yb yc yd, e = .returned (.tuple #[wl14 0 0 0 0 0 0 xa xb xc xd ya yb yc yd, .int .i64 140]) /\ Still u w') := hid (fun u hu => HD1.out m ao cap u hmN (HB2.out.st.trans hu) ((HR2.out.take (by omega)).still hu))
    have hgl : g < w2.heap.size := block_lt HB2.out.cf
    have HG := hid hgl
    have k1' : w2.heap.size ≠ g := by omega
    have t1 : decide (0 <= (m : Int)) = true := by simp
    have t2 : decide ((m : Int) < (N1 : Int)) = true := by simpa using hmN
    have t3 : decide (m < N1) = true := by simpa using hmN
    obtain ⟨c0, c1, c2, c3, c4, c5, cf⟩ := HB2.out.cf.cells
    dsimp only at c0 c1 c2 c3 c4 c5
    clear hn hcap hgl
    go_upto_region 6 with fail
    go_cut [13] (fun v wx => v = .int .i64 140 /\ Still w2 wx)
    case first =>
      go_region_held3 (fun w' => w'.cell? ⟨g, 0, none⟩ = some (.int .i64 p) /\ w'.cell? ⟨g, 1, none⟩ = some (.int .u64 (q : Int)) /\ w'.cell? ⟨g, 2, none⟩ = some (.int .i64 C) /\ w'.cell? ⟨g, 3, none⟩ = some (.int .i64 R) /\ w'.cell? ⟨g, 4, none⟩ = some (.string s) /\ w'.cell? ⟨g, 5, none⟩ = some (.slice lo ln lc)) (go_keep)
        (first
          | (go_at_call 8
             refine (HDc.out _ (by repeat (first | exact Fr.refl _ _ | refine Fr.drew ?_ | refine Fr.alloc ?_ _))).mono ?_
             rintro e x1 ⟨xa0, xb0, xc0, xd0, ya0, yb0, yc0, yd0, rfl, g1⟩
             have HX1 : Hid (Still w2 x1) := hid (by
               refine Still.trans ?_ g1
               repeat (first | exact Fr.refl _ _ | refine Fr.drew ?_ | refine Fr.alloc ?_ _))
             obtain ⟨e0, e1, e2, e3, e4, e5, ef⟩ := (HB2.out.still HX1.out).cf.cells
             dsimp only at e0 e1 e2 e3 e4 e5
             have m1' : x1.heap.size ≠ g := by have := HX1.out.size; have := HG.out; omega
             try (have z1 : Wdb x1 w2.heap.size 0 0 (.slice none 0 0) (.slice none 0 0) (.slice none 0 0) (.slice none 0 0) := Fr.kept_still (Still.undrew g1) (heap_alloc_new w2 _); obtain ⟨u0, u1, u2, u3, u4, u5, uf⟩ := z1.cells)
             clear g1))
      · go_wp2_with fail
        go_meet
        exact ⟨rfl, HX1.out.trans (Still.alloc x1 _)⟩
      · go_wp2_with fail
        go_meet
        exact ⟨rfl, still_set6 HX1.out (Nat.le_refl _) _ _ _ _ _ _⟩
    case' rest =>
      obtain ⟨rfl, hs⟩ := hcut
      obtain ⟨w8, rfl⟩ : ∃ z, z = wc := ⟨_, rfl⟩
      have HB8 := hid (HB2.out.still hs)
      have HR8 := hid (HR2.out.still hs)
      clear hs c0 c1 c2 c3 c4 c5 cf HB2 HR2 HDc HG k1' t1 t2 t3 hsl hmN
  case' neg =>
    by_cases h0 : 0 <= n
    case' pos =>
      have t1 : decide (0 <= n) = true := by simpa using h0
      have t2 : decide (n < (N1 : Int)) = false := by
        simp only [decide_eq_false_iff_not]
        omega
    case' neg =>
      have t1 : decide (0 <= n) = false := by simpa using h0
      have t2 : True := trivial
    all_goals
      have HB8 := HB2
      have HR8 := HR2
      clear HB2 HR2 hcap hn h0
      obtain ⟨w8, rfl⟩ : ∃ z, z = w2 := ⟨_, rfl⟩
      go_upto_region 9 with fail
      clear t1 t2
  all_goals
    by_cases hmn : 0 < mn
    · have HMn := hid hmn
      have t4 : decide (0 < (mn : Int)) = true := by simpa using hmn
      have t5 : decide (0 < mn) = true := by simpa using hmn
      clear hmn
      go_wp2_with (first
        | (at_builtin
           refine wpList_app _ rfl _ _ 34 rfl 5 i0 Tryz.underlying34 hi0 hz0 hs10 hb10 ao1 mo N1 cap1 mn mc B1 mb rfl rfl HO3.out.1 HM3.out HN.out ?_
           intro ao2 cap2 w4 ho2 hf2 hn2 _
           have HS4 : Hid (Still w8 w4) := hid (Fr.trans HS3.out hf2 (fun k hk e => by
             obtain ⟨a, ha, e⟩ := e
             have := HO3.out.2 a ha
             omega))
           have HO4 := hid ho2.rd
           have HB4 := hid (HB8.out.still HS4.out)
           obtain ⟨c0, c1, c2, c3, c4, c5, cf⟩ := HB4.out.cf.cells
           dsimp only at c0 c1 c2 c3 c4 c5
           clear ho2 hf2 hn2)
        | (at_builtin
           refine wpList_app _ rfl _ _ 34 rfl 5 i0 Tryz.underlying34 hi0 hz0 hs10 hb10 none ao 0 0 N1 cap [] B1 rfl rfl (Ow.empty _ _) HR8.out (by have := HN.out; omega) ?_
           intro ao1 cap1 w3 ho1 hf1 hn1 _
           rw [Nat.zero_add, List.nil_append] at ho1
           rw [Nat.zero_add]
           have hst : Still w8 w3 := hf1.mono (by rintro k hk ⟨a, h, _⟩; cases h)
           have HS3 := hid hst
           have HO3 : Hid (Ow 5 w3 ao1 N1 cap1 B1 /\ ∀ a, ao1 = some a -> w8.heap.size <= a.block) := hid ⟨ho1, fun a ha => by
             rcases hn1 a ha with h | h
             · cases h
             · exact h⟩
           have HM3 := hid (HM.out.still (HB8.out.st.trans hst))
           clear ho1 hf1 hn1 hst))
      clear c0 c1 c2 c3 c4 c5 cf t4 t5
      refine (HD2.out HMn.out ao2 cap2 w4 HB4.out.st HO4.out).mono ?_
      rintro e w5 ⟨xa0, xb0, xc0, xd0, ya0, yb0, yc0, yd0, he, h5⟩
      rw [he]
      have HZ := hid ((HB4.out.st.trans h5).trans (Still.alloc w5 (.cells (wdcs 0 0 (.slice xa0 0 ya0) (.slice xb0 0 yb0) (.slice xc0 0 yc0) (.slice xd0 0 yd0)) 33)))
      clear he h5 HB4 HB8
      go_wp2_with fail
      go_ret
      exact ⟨rfl, HZ.out⟩
    · obtain rfl : mn = 0 := by omega
      clear hmn
      go_wp2_with fail
      go_ret
      exact ⟨rfl, HB8.out.st⟩
theorem cut14_law (p : Int) (q : Nat) (C R : Int) (s : ByteArray) (lo : Option Addr) (ln lc : Nat) (l : List Int) (hq : q < 18446744073709551616) (W : Wd) (v : Value) (n : Int) (mb : List UInt8) (mo : Option Addr) (mn mc : Nat) (w : World) (ht : FTab w) (hr : RdI w lo ln lc l) (hv : RdW w v W) (hm : Rd w mo mn mc mb) (h47 : mn <= 140737488351232) :
  Calls Tryz.prog 5 #[cfv14 p q C R s lo ln lc, v, .int .i64 n, .slice mo mn mc] w fun e w' => e = .returned (.bool true) /\ Still w w' := by
 obtain ⟨x, dW, hC⟩ := ed14_any p q C R s lo ln lc l hq w ht hr
 have hv' := hv
 obtain ⟨a, b, c, d, rfl, ⟨xa, ya, rfl, _⟩, ⟨xb, yb, rfl, _⟩, ⟨xc, yc, rfl, _⟩, ⟨xd, yd, rfl, _⟩⟩ := hv'
 by_cases hx : x W = 0
 ·have hle := hC.len W hx
  have hlm := hm.len
  refine cut14_yes p q C R s lo ln lc W.fr W.nx _ _ _ _ xa xb xc xd ya yb yc yd n ((wdB W).length + 8) (wdB W ++ sumB (wdB W)) mb mo mn mc w ht hm (by omega) (fun u hu => hC.enc _ W u hu (hv.still hu) hx) (fun m ao cap u hmN hu hd => ?_) (fun hmn ao cap u hu hd => ?_)
  ·refine (hC.dec ao m cap _ u hu hd (by omega)).mono ?_
   rw [hC.cut W m hx hmN]
   rintro e w' ⟨xa, xb, xc, xd, ya, yb, yc, yd, he, _, hs⟩
   exact ⟨xa, xb, xc, xd, ya, yb, yc, yd, he, hs⟩
  ·refine (hC.dec ao _ cap _ u hu hd (by omega)).mono ?_
   rw [hC.mor W mb hx (by rintro rfl; simp at hlm; omega)]
   rintro e w' ⟨xa, xb, xc, xd, ya, yb, yc, yd, he, _, hs⟩
   exact ⟨xa, xb, xc, xd, ya, yb, yc, yd, he, hs⟩
 ·exact cut14_no p q C R s lo ln lc W.fr W.nx _ _ _ _ xa xb xc xd ya yb yc yd (x W) n mo mn mc w ht hx (fun u hu => hC.enn _ W u hu (hv.still hu) hx)
end Go.Proofs.YtdmlgbcgbddkoaaGreatDoor
