/- Parts of the proof, laid end to end. -/
import Derived.Test.YtkgbmefaphhcnaaGreatDoorZE43
import Derived.Test.YtkgbmefaphhcnaaGreatDoorZE25
import Derived.Test.YtkgbmefaphhcnaaGreatDoorZE44
import Derived.Test.YtkgbmefaphhcnaaGreatDoorZE39
import Derived.Test.YtkgbmefaphhcnaaGreatDoorZE26
import Derived.Test.YtkgbmefaphhcnaaGreatDoorZE42
namespace Go.Proofs.YtkgbmefaphhcnaaGreatDoor
open Go.RowKit
open Pu Gp Ap Vp Np Za Ka Ja Ea Ha Hg Hi
set_option maxRecDepth 100000
set_option linter.unusedVariables false
theorem sl_init {α : Type} {K : Kd α} {e : TypeId} {w : World} {B g n cap : Nat} {L : List α} {x : α} (h : OwG K e w B (.slice (some ⟨g, 0, none⟩) (n + 1) cap) (L ++ [x])) (hl : L.length = n) (hm : n <= 281474976710656) : Sl K w (.slice (some ⟨g, 0, none⟩) n cap) L := by
 subst hl
 exact ⟨_, cap, rfl, owG_cap h, fun h => (by cases h), h.rd hm⟩
theorem OwG.pre14 {α : Type} {K : Kd α} {e : TypeId} {w : World} {B g n cap : Nat} {L : List α} {x : α} (h : OwG K e w B (.slice (some ⟨g, 0, none⟩) (n + 1) cap) (L ++ [x])) (hl : L.length = n) : OwG K e w B (.slice (some ⟨g, 0, none⟩) n cap) L := by
 subst hl
 have hr : (K.row L).length = L.length * K.k := K.row_len L
 obtain ⟨h1, h2⟩ := h
 refine ⟨hr, .inr ?_⟩
 rcases h2 with ⟨h2, _⟩ | ⟨g', cap', cur, hv, hb, hg, hle, hmax, hsz, ht⟩
 ·cases h2
 ·simp only [Value.slice.injEq, Option.some.injEq, Addr.mk.injEq] at hv
  obtain ⟨⟨rfl, _⟩, _, rfl⟩ := hv
  rw [List.length_append] at hle ht
  refine ⟨g, cap, cur, rfl, hb, hg, by omega, hmax, hsz, ?_⟩
  have h3 := congrArg (List.take (L.length * K.k)) ht
  rw [List.take_take, K.row_app, Nat.min_eq_left (Nat.mul_le_mul_right _ (by omega)), <- hr, List.take_left'] at h3
  ·rw [<- hr]; exact h3
  ·rfl
structure Ow4 (w : World) (B : Nat) (W : Wd) (a b c d : Value) : Prop where
 oa : OwG KM 55 w B a W.ms
 ob : OwG KC 57 w B b W.cs
 oc : OwG KS 59 w B c W.hs
 od : OwG KQ 61 w B d W.ks
theorem Ow4.still {w w' : World} {B : Nat} {W : Wd} {a b c d : Value} (h : Ow4 w B W a b c d) (hs : Still w w') : Ow4 w' B W a b c d := ⟨h.oa.still hs, h.ob.still hs, h.oc.still hs, h.od.still hs⟩
theorem Ow4.keep {w w' : World} {F : Nat -> Prop} {B : Nat} {W : Wd} {a b c d : Value} (h : Ow4 w B W a b c d) (hf : Fr F w w') (hF : ∀ k, F k -> k < B) : Ow4 w' B W a b c d :=
 ⟨h.oa.keepB hf hF, h.ob.keepB hf hF, h.oc.keepB hf hF, h.od.keepB hf hF⟩
theorem Ow4.rd {w : World} {B : Nat} {W : Wd} {a b c d : Value} (h : Ow4 w B W a b c d) (hb : (W.ms.length + 1) * 104 <= 140737488355328 /\ (W.cs.length + 1) * 32 <= 140737488355328 /\ (W.hs.length + 1) * 64 <= 140737488355328 /\ (W.ks.length + 1) * 24 <= 140737488355328) : RdW w (.agg (wdcs W.fr W.nx a b c d)) W :=
 ⟨a, b, c, d, rfl, h.oa.sl (by omega), h.ob.sl (by omega), h.oc.sl (by omega), h.od.sl (by omega)⟩
theorem eqW_comm (A B : Wd) : eqW A B = eqW B A := by
 by_cases h : A = B
 ·rw [h]
 ·rw [eqW_f h, eqW_f (fun e => h e.symm)]
theorem ow4_of {w : World} {B : Nat} {v : Value} {W : Wd} (h : OwW w B v W) : ∃ xa xb xc xd ya yb yc yd, v = .agg (wdcs W.fr W.nx (.slice xa W.ms.length ya) (.slice xb W.cs.length yb) (.slice xc W.hs.length yc) (.slice xd W.ks.length yd)) /\ Ow4 w B W (.slice xa W.ms.length ya) (.slice xb W.cs.length yb) (.slice xc W.hs.length yc) (.slice xd W.ks.length yd) := by
 obtain ⟨a, b, c, d, rfl, h1, h2, h3, h4⟩ := h
 obtain ⟨xa, ya, rfl, _⟩ := h1.slice
 obtain ⟨xb, yb, rfl, _⟩ := h2.slice
 obtain ⟨xc, yc, rfl, _⟩ := h3.slice
 obtain ⟨xd, yd, rfl, _⟩ := h4.slice
 exact ⟨xa, xb, xc, xd, ya, yb, yc, yd, rfl, h1, h2, h3, h4⟩
set_option maxHeartbeats 16000000 in
theorem copies14_law (W V : Wd) (v u : Value) (w : World) (ht : FTab w) (hv : RdW w v W) (hu : RdW w u V) (hb : (W.ms.length + 1) * 104 <= 140737488355328 /\ (W.cs.length + 1) * 32 <= 140737488355328 /\ (W.hs.length + 1) * 64 <= 140737488355328 /\ (W.ks.length + 1) * 24 <= 140737488355328) :
  Calls Tryz.prog 3 #[v, u] w fun e w' => e = .returned (.bool true) /\ Still w w' := by
 have HT := hid ht
 have HV := hid hv
 have HU := hid hu
 have HBd := hid hb
 obtain ⟨a, b, c, d, rfl, ⟨xa, ya, rfl, l1, ha, hra⟩, ⟨xb, yb, rfl, l2, hb0, hrb⟩, ⟨xc, yc, rfl, l3, hc0, hrc⟩, ⟨xd, yd, rfl, l4, hd0, hrd⟩⟩ := hv
 obtain ⟨a, b, c, d, rfl, ⟨za, ta, rfl, _⟩, ⟨zb, tb, rfl, _⟩, ⟨zc, tc, rfl, _⟩, ⟨zd, td, rfl, _⟩⟩ := hu
 have HRa := hid hra
 have HRb := hid hrb
 have HRc := hid hrc
 have HRd := hid hrd
 have HCp : Hid (∀ v u, RdW u v W -> Calls Tryz.prog 8 #[v] u fun e w' => ∃ xa xb xc xd ya yb yc yd, e = .returned (.agg (wdcs W.fr W.nx (.slice xa W.ms.length ya) (.slice xb W.cs.length yb) (.slice xc W.hs.length yc) (.slice xd W.ks.length yd))) /\ Ow4 w' u.heap.size W (.slice xa W.ms.length ya) (.slice xb W.cs.length yb) (.slice xc W.hs.length yc) (.slice xd W.ks.length yd) /\ Still u w') := hid (fun v u hv => by
  refine (wcopy_any W v u hv (by omega) (by omega) (by omega) (by omega)).mono ?_
  rintro e w' ⟨z, he, ho, hs⟩
  obtain ⟨xa, xb, xc, xd, ya, yb, yc, yd, rfl, h4⟩ := ow4_of ho
  exact ⟨xa, xb, xc, xd, ya, yb, yc, yd, he, h4, hs⟩)
 have HRd4 : Hid (∀ u B a b c d, Ow4 u B W a b c d -> RdW u (.agg (wdcs W.fr W.nx a b c d)) W) := hid (fun u B a b c d h => h.rd hb)
 clear ht hra hrb hrc hrd l1 l2 l3 l4 ha hb0 hc0 hd0
 obtain ⟨k1, e1⟩ : ∃ n, W.ms.length = n := ⟨_, rfl⟩
 obtain ⟨k2, e2⟩ : ∃ n, W.cs.length = n := ⟨_, rfl⟩
 obtain ⟨k3, e3⟩ : ∃ n, W.hs.length = n := ⟨_, rfl⟩
 obtain ⟨k4, e4⟩ : ∃ n, W.ks.length = n := ⟨_, rfl⟩
 obtain ⟨fr, e5⟩ : ∃ n, W.fr = n := ⟨_, rfl⟩
 obtain ⟨nx, e6⟩ : ∃ n, W.nx = n := ⟨_, rfl⟩
 obtain ⟨m1, z1⟩ : ∃ n, V.ms.length = n := ⟨_, rfl⟩
 obtain ⟨m2, z2⟩ : ∃ n, V.cs.length = n := ⟨_, rfl⟩
 obtain ⟨m3, z3⟩ : ∃ n, V.hs.length = n := ⟨_, rfl⟩
 obtain ⟨m4, z4⟩ : ∃ n, V.ks.length = n := ⟨_, rfl⟩
 obtain ⟨fs, z5⟩ : ∃ n, V.fr = n := ⟨_, rfl⟩
 obtain ⟨nz, z6⟩ : ∃ n, V.nx = n := ⟨_, rfl⟩
 rw [e1, e2, e3, e4, e5, e6] at HV ⊢
 rw [z1, z2, z3, z4, z5, z6] at HU ⊢
 simp only [e1, e2, e3, e4, e5, e6] at HCp
 simp only [e5, e6] at HRd4
 rw [e1] at HRa
 rw [e2] at HRb
 rw [e3] at HRc
 rw [e4] at HRd
 rw [e1, e2, e3, e4] at HBd
 have EL := hid (And.intro e1 (And.intro e2 (And.intro e3 (And.intro e4 (And.intro e5 e6)))))
 clear e1 e2 e3 e4 e5 e6 z1 z2 z3 z4 z5 z6 hb
 obtain ⟨sp, esp⟩ : ∃ n, spN k1 k2 k3 k4 = n := ⟨_, rfl⟩
 have HSp : Hid (∀ xa xb xc xd ya yb yc yd B D u, Ow4 u B W (.slice xa k1 ya) (.slice xb k2 yb) (.slice xc k3 yc) (.slice xd k4 yd) -> B <= u.heap.size -> (∀ k, (Value.slice xa k1 ya).ownBlock = some k -> k < D) -> (∀ k, (Value.slice xb k2 yb).ownBlock = some k -> k < D) -> (∀ k, (Value.slice xc k3 yc).ownBlock = some k -> k < D) -> (∀ k, (Value.slice xd k4 yd).ownBlock = some k -> k < D) -> Calls Tryz.prog 10 #[.agg (wdcs fr nx (.slice xa k1 ya) (.slice xb k2 yb) (.slice xc k3 yc) (.slice xd k4 yd))] u fun e w' => e = .returned (.int .i64 sp) /\ Fr (Btw B D) u w') := hid (fun xa xb xc xd ya yb yc yd B D u h hB d1 d2 d3 d4 => by
  rw [<- esp]
  exact spoil14_any fr nx xa xb xc xd k1 k2 k3 k4 ya yb yc yd W.ms W.cs W.hs W.ks B D u EL.out.1 EL.out.2.1 EL.out.2.2.1 EL.out.2.2.2.1 h.oa h.ob h.oc h.od HBd.out hB d1 d2 d3 d4)
 clear esp
 have B0 := Bsm.new w fr nx (.slice xa k1 ya) (.slice xb k2 yb) (.slice xc k3 yc) (.slice xd k4 yd) fs nz (.slice za m1 ta) (.slice zb m2 tb) (.slice zc m3 tc) (.slice zd m4 td)
 obtain ⟨U, eU⟩ : ∃ U, (w.alloc (.cells (wdcs fr nx (.slice xa k1 ya) (.slice xb k2 yb) (.slice xc k3 yc) (.slice xd k4 yd)) 27)).alloc (.cells (wdcs fs nz (.slice za m1 ta) (.slice zb m2 tb) (.slice zc m3 tc) (.slice zd m4 td)) 27) = U := ⟨_, rfl⟩
 obtain ⟨g, eg⟩ : ∃ g, w.heap.size = g := ⟨_, rfl⟩
 rw [eU, eg] at B0
 have HB0 := hid B0
 clear B0
 go_enter Tryz.func3, Tryz.ntmps3
 go_wp2_with fail
 clear eU eg
 refine (awake14_any _ (HT.out.still HB0.out.s)).mono ?_
 rintro e w1 ⟨he, h1⟩
 rw [he]
 have HB1 := hid (HB0.out.still h1)
 clear he h1 HB0
 obtain ⟨d0, d1, d2, d3, d4, d5, df⟩ := HB1.out.l.cells
 go_wp2_with fail
 refine (lent_any W fr nx xa xb xc xd k1 k2 k3 k4 ya yb yc yd w1 (HRa.out.still HB1.out.s) (HRb.out.still HB1.out.s) (HRc.out.still HB1.out.s) (HRd.out.still HB1.out.s) HBd.out).mono ?_
 rintro e w2 ⟨g0, n0, g1, n1, g2, n2, g3, n3, he, q0, q1, q2, q3, h2⟩
 rw [he]
 have A2 := Still.alloc w2 (.cells (wdcs fr nx (.slice (some ⟨g0, 0, none⟩) k1 n0) (.slice (some ⟨g1, 0, none⟩) k2 n1) (.slice (some ⟨g2, 0, none⟩) k3 n2) (.slice (some ⟨g3, 0, none⟩) k4 n3)) 27)
 have p2 := newWd_wb w2 fr nx (.slice (some ⟨g0, 0, none⟩) k1 n0) (.slice (some ⟨g1, 0, none⟩) k2 n1) (.slice (some ⟨g2, 0, none⟩) k3 n2) (.slice (some ⟨g3, 0, none⟩) k4 n3)
 unfold newWd at p2
 have HLt : Hid (g0 < w2.heap.size /\ g1 < w2.heap.size /\ g2 < w2.heap.size /\ g3 < w2.heap.size) := hid ⟨(q0.block (k := g0) rfl).2, (q1.block (k := g1) rfl).2, (q2.block (k := g2) rfl).2, (q3.block (k := g3) rfl).2⟩
 have HB2 := hid (HB1.out.still (h2.trans A2))
 have HS2 := hid (h2.trans A2)
 have HQ2 := hid (And.intro (q0.still A2) (And.intro (q1.still A2) (And.intro (q2.still A2) (q3.still A2))))
 have HZ2 : Hid (w2.heap.size <= (w2.alloc (.cells (wdcs fr nx (.slice (some ⟨g0, 0, none⟩) k1 n0) (.slice (some ⟨g1, 0, none⟩) k2 n1) (.slice (some ⟨g2, 0, none⟩) k3 n2) (.slice (some ⟨g3, 0, none⟩) k4 n3)) 27)).heap.size) := hid A2.size
 obtain ⟨W2, eW2⟩ : ∃ X, w2.alloc (.cells (wdcs fr nx (.slice (some ⟨g0, 0, none⟩) k1 n0) (.slice (some ⟨g1, 0, none⟩) k2 n1) (.slice (some ⟨g2, 0, none⟩) k3 n2) (.slice (some ⟨g3, 0, none⟩) k4 n3)) 27) = X := ⟨_, rfl⟩
 obtain ⟨gl, egl⟩ : ∃ X, w2.heap.size = X := ⟨_, rfl⟩
 rw [eW2] at HB2 HS2 HQ2 HZ2 p2
 rw [egl] at p2 HLt HZ2
 have HP2 := hid p2
 have HL2 : Hid (∀ u, Still W2 u -> RdW u (.agg (wdcs fr nx (.slice (some ⟨g0, 0, none⟩) k1 n0) (.slice (some ⟨g1, 0, none⟩) k2 n1) (.slice (some ⟨g2, 0, none⟩) k3 n2) (.slice (some ⟨g3, 0, none⟩) k4 n3))) W) := hid (fun u hu => by
  have b := HBd.out
  have e := EL.out
  have : RdW W2 (.agg (wdcs fr nx (.slice (some ⟨g0, 0, none⟩) k1 n0) (.slice (some ⟨g1, 0, none⟩) k2 n1) (.slice (some ⟨g2, 0, none⟩) k3 n2) (.slice (some ⟨g3, 0, none⟩) k4 n3))) W := by
   refine ⟨_, _, _, _, ?_, sl_init HQ2.out.1 e.1 (by omega), sl_init HQ2.out.2.1 e.2.1 (by omega), sl_init HQ2.out.2.2.1 e.2.2.1 (by omega), sl_init HQ2.out.2.2.2 e.2.2.2.1 (by omega)⟩
   rw [e.2.2.2.2.1, e.2.2.2.2.2]
  exact this.still hu)
 clear he h2 A2 p2 q0 q1 q2 q3 d0 d1 d2 d3 d4 d5 df
 obtain ⟨f0, f1, f2, f3, f4, f5, ff⟩ := HP2.out.cells
 go_wp2_with fail
 clear eW2 egl f0 f1 f2 f3 f4 f5 ff
 refine (HCp.out _ W2 (HL2.out W2 (Fr.refl _ _))).mono ?_
 rintro e w3 ⟨xa0, xb0, xc0, xd0, ya0, yb0, yc0, yd0, he, ho, h3⟩
 rw [he]
 have A3 := Still.alloc w3 (.cells (wdcs fr nx (.slice xa0 k1 ya0) (.slice xb0 k2 yb0) (.slice xc0 k3 yc0) (.slice xd0 k4 yd0)) 27)
 have p3 := newWd_wb w3 fr nx (.slice xa0 k1 ya0) (.slice xb0 k2 yb0) (.slice xc0 k3 yc0) (.slice xd0 k4 yd0)
 unfold newWd at p3
 have HS3 := hid (h3.trans A3)
 have HDx : Hid ((∀ k, (Value.slice xa0 k1 ya0).ownBlock = some k -> k < w3.heap.size) /\ (∀ k, (Value.slice xb0 k2 yb0).ownBlock = some k -> k < w3.heap.size) /\ (∀ k, (Value.slice xc0 k3 yc0).ownBlock = some k -> k < w3.heap.size) /\ (∀ k, (Value.slice xd0 k4 yd0).ownBlock = some k -> k < w3.heap.size)) := hid ⟨fun k hk => (ho.oa.block hk).2, fun k hk => (ho.ob.block hk).2, fun k hk => (ho.oc.block hk).2, fun k hk => (ho.od.block hk).2⟩
 have HO3 := hid (ho.still A3)
 obtain ⟨W3, eW3⟩ : ∃ X, w3.alloc (.cells (wdcs fr nx (.slice xa0 k1 ya0) (.slice xb0 k2 yb0) (.slice xc0 k3 yc0) (.slice xd0 k4 yd0)) 27) = X := ⟨_, rfl⟩
 obtain ⟨gx, egx⟩ : ∃ X, w3.heap.size = X := ⟨_, rfl⟩
 rw [eW3] at HS3 HO3 p3
 rw [egx] at p3 HDx
 have HP3 := hid p3
 have HB3 := hid (HB2.out.still HS3.out)
 clear he ho h3 A3 p3
 obtain ⟨f0, f1, f2, f3, f4, f5, ff⟩ := HP3.out.cells
 obtain ⟨d0, d1, d2, d3, d4, d5, df⟩ := HB3.out.l.cells
 go_wp2_with fail
 clear eW3 egx f0 f1 f2 f3 f4 f5 ff d0 d1 d2 d3 d4 d5 df
 refine (rsame_any W _ _ W3 (HRd4.out _ _ _ _ _ _ HO3.out) (HV.out.still HB3.out.s)).mono ?_
 rintro e w4 ⟨he, h4⟩
 rw [he]
 have HS4 := hid (HS3.out.trans h4)
 have HO4 := hid (HO3.out.still h4)
 have HP4 := hid (HP3.out.still h4)
 clear he h4 HS3 HO3 HP3 HB3
 obtain ⟨f0, f1, f2, f3, f4, f5, ff⟩ := HP4.out.cells
 go_wp2_with fail
 clear f0 f1 f2 f3 f4 f5 ff
 refine (HSp.out _ _ _ _ _ _ _ _ W2.heap.size gx w4 HO4.out HS4.out.size HDx.out.1 HDx.out.2.1 HDx.out.2.2.1 HDx.out.2.2.2).mono ?_
 rintro e w5 ⟨he, h5⟩
 rw [he]
 have HS5 : Hid (Still W2 w5) := hid (Fr.trans HS4.out h5 (fun k hk e => by have := e.1; omega))
 have HB5 := hid (HB2.out.still HS5.out)
 have HP5 := hid (HP2.out.still HS5.out)
 clear he h5 HS4 HO4 HP4 HDx
 obtain ⟨f0, f1, f2, f3, f4, f5, ff⟩ := HP5.out.cells
 obtain ⟨d0, d1, d2, d3, d4, d5, df⟩ := HB5.out.l.cells
 go_wp2_with fail
 clear f0 f1 f2 f3 f4 f5 ff d0 d1 d2 d3 d4 d5 df
 refine (lstill_any W fr nx g0 n0 g1 n1 g2 n2 g3 n3 xa xb xc xd k1 k2 k3 k4 ya yb yc yd w5 w1.heap.size (HQ2.out.1.still HS5.out) (HQ2.out.2.1.still HS5.out) (HQ2.out.2.2.1.still HS5.out) (HQ2.out.2.2.2.still HS5.out) (HL2.out w5 HS5.out) (HV.out.still HB5.out.s) ⟨EL.out.1, EL.out.2.1, EL.out.2.2.1, EL.out.2.2.2.1⟩ (by have := HBd.out; omega)).mono ?_
 rintro e w6 ⟨he, h6⟩
 rw [he]
 have HS6 := hid (HS5.out.trans h6)
 have HP6 := hid (HP2.out.still HS6.out)
 clear he h6 HS5 HB5 HP5
 obtain ⟨f0, f1, f2, f3, f4, f5, ff⟩ := HP6.out.cells
 go_wp2_with fail
 clear f0 f1 f2 f3 f4 f5 ff
 refine (HCp.out _ w6 (HL2.out w6 HS6.out)).mono ?_
 rintro e w7 ⟨xa1, xb1, xc1, xd1, ya1, yb1, yc1, yd1, he, ho, h7⟩
 rw [he]
 have A7 := Still.alloc w7 (.cells (wdcs fr nx (.slice xa1 k1 ya1) (.slice xb1 k2 yb1) (.slice xc1 k3 yc1) (.slice xd1 k4 yd1)) 27)
 have p7 := newWd_wb w7 fr nx (.slice xa1 k1 ya1) (.slice xb1 k2 yb1) (.slice xc1 k3 yc1) (.slice xd1 k4 yd1)
 unfold newWd at p7
 have HS7 := hid (HS6.out.trans (h7.trans A7))
 have HO7 := hid (ho.still A7)
 have HZ7 : Hid (gl <= w6.heap.size /\ gl <= w7.heap.size /\ w7.heap.size < (w7.alloc (.cells (wdcs fr nx (.slice xa1 k1 ya1) (.slice xb1 k2 yb1) (.slice xc1 k3 yc1) (.slice xd1 k4 yd1)) 27)).heap.size) := hid (by
  have h1 := HZ2.out
  have h2 := HS6.out.size
  have h3 := h7.size
  rw [size_alloc]
  omega)
 obtain ⟨W7, eW7⟩ : ∃ X, w7.alloc (.cells (wdcs fr nx (.slice xa1 k1 ya1) (.slice xb1 k2 yb1) (.slice xc1 k3 yc1) (.slice xd1 k4 yd1)) 27) = X := ⟨_, rfl⟩
 obtain ⟨gy, egy⟩ : ∃ X, w7.heap.size = X := ⟨_, rfl⟩
 rw [eW7] at HS7 HO7 HZ7 p7
 rw [egy] at p7 HZ7
 have HP7 := hid p7
 have HX7 := hid (HP2.out.still HS7.out)
 clear he ho h7 A7 p7 HS6 HP6
 obtain ⟨f0, f1, f2, f3, f4, f5, ff⟩ := HX7.out.cells
 go_wp2_with fail
 clear eW7 egy f0 f1 f2 f3 f4 f5 ff
 refine (HSp.out _ _ _ _ _ _ _ _ w1.heap.size gl W7 ⟨(HQ2.out.1.still HS7.out).pre14 EL.out.1, (HQ2.out.2.1.still HS7.out).pre14 EL.out.2.1, (HQ2.out.2.2.1.still HS7.out).pre14 EL.out.2.2.1, (HQ2.out.2.2.2.still HS7.out).pre14 EL.out.2.2.2.1⟩ (Nat.le_trans HS2.out.size HS7.out.size) (fun k hk => by cases hk; exact HLt.out.1) (fun k hk => by cases hk; exact HLt.out.2.1) (fun k hk => by cases hk; exact HLt.out.2.2.1) (fun k hk => by cases hk; exact HLt.out.2.2.2)).mono ?_
 rintro e w8 ⟨he, h8⟩
 rw [he]
 have HS8 : Hid (Still w1 w8) := hid (Fr.trans (HS2.out.trans HS7.out) h8 (fun k hk e => by have := e.1; omega))
 have HB8 := hid (HB1.out.still HS8.out)
 have HO8 := hid (HO7.out.keep h8 (fun k hk => by have := hk.2; have := HZ7.out; omega))
 have HP8 : Hid (Wdb w8 gy fr nx (.slice xa1 k1 ya1) (.slice xb1 k2 yb1) (.slice xc1 k3 yc1) (.slice xd1 k4 yd1)) := hid ((h8.block gy HZ7.out.2.2 (fun e => by have := e.2; have := HZ7.out; omega)).trans HP7.out)
 clear he h8 HS7 HO7 HP7 HX7
 obtain ⟨f0, f1, f2, f3, f4, f5, ff⟩ := HP8.out.cells
 obtain ⟨d0, d1, d2, d3, d4, d5, df⟩ := HB8.out.l.cells
 go_wp2_with fail
 clear f0 f1 f2 f3 f4 f5 ff d0 d1 d2 d3 d4 d5 df
 refine (rsame_any W _ _ w8 (HRd4.out _ _ _ _ _ _ HO8.out) (HV.out.still HB8.out.s)).mono ?_
 rintro e w9 ⟨he, h9⟩
 rw [he]
 have HB9 := hid (HB8.out.still h9)
 clear he h9 HS8 HO8 HP8 HB8 HQ2 HL2 HLt HZ2 HZ7 HS2 HB1 HB2 HP2
 obtain ⟨d0, d1, d2, d3, d4, d5, df⟩ := HB9.out.l.cells
 obtain ⟨f0, f1, f2, f3, f4, f5, ff⟩ := HB9.out.r.cells
 go_wp2_with fail
 clear f0 f1 f2 f3 f4 f5 ff d0 d1 d2 d3 d4 d5 df
 refine (rsamd_any W V _ _ w9 (HV.out.still HB9.out.s) (HU.out.still HB9.out.s)).mono ?_
 rintro e w10 ⟨he, h10⟩
 have HEq := hid (eqW_comm V W)
 obtain ⟨bq, ebq⟩ : ∃ b, eqW W V = b := ⟨_, rfl⟩
 rw [ebq] at he HEq
 have HEb := hid ebq
 rw [he]
 have HB10 := hid (HB9.out.still h10)
 have t1 : (bq == bq) = true := by cases bq <;> rfl
 have t2 : (sp == sp) = true := by simp
 clear he h10 HB9 ebq
 obtain ⟨d0, d1, d2, d3, d4, d5, df⟩ := HB10.out.l.cells
 obtain ⟨f0, f1, f2, f3, f4, f5, ff⟩ := HB10.out.r.cells
 go_wp2_with fail
 clear f0 f1 f2 f3 f4 f5 ff d0 d1 d2 d3 d4 d5 df
 refine (zsamd_any W V _ _ w10 (HV.out.still HB10.out.s) (HU.out.still HB10.out.s)).mono ?_
 rintro e w11 ⟨he, h11⟩
 rw [HEb.out] at he
 rw [he]
 have HB11 := hid (HB10.out.still h11)
 clear he h11 HB10
 obtain ⟨d0, d1, d2, d3, d4, d5, df⟩ := HB11.out.l.cells
 obtain ⟨f0, f1, f2, f3, f4, f5, ff⟩ := HB11.out.r.cells
 go_wp2_with fail
 clear f0 f1 f2 f3 f4 f5 ff d0 d1 d2 d3 d4 d5 df
 refine (zsamd_any V W _ _ w11 (HU.out.still HB11.out.s) (HV.out.still HB11.out.s)).mono ?_
 rintro e w12 ⟨he, h12⟩
 rw [HEq.out] at he
 rw [he]
 have HB12 := hid (HB11.out.still h12)
 clear he h12 HB11
 obtain ⟨d0, d1, d2, d3, d4, d5, df⟩ := HB12.out.l.cells
 go_wp2_with fail
 clear d0 d1 d2 d3 d4 d5 df
 refine (zsame_t W _ _ w12 (HV.out.still HB12.out.s) (HV.out.still HB12.out.s)).mono ?_
 rintro e w13 ⟨he, h13⟩
 rw [he]
 have HZ := hid (HB12.out.s.trans h13)
 clear he h13 HB12
 go_wp2_with fail
 go_ret
 exact ⟨rfl, HZ.out⟩
end Go.Proofs.YtkgbmefaphhcnaaGreatDoor
namespace Go.Proofs.YtkgbmefaphhcnaaGreatDoor
open Go.RowKit
open Pu Gp Ap Vp Np Za Ka Ja Ea Ha Hg Hi
set_option maxRecDepth 100000
set_option linter.unusedVariables false
abbrev cfv14 (p : Int) (q : Nat) (C R : Int) (s : ByteArray) (lo : Option Addr) (ln lc : Nat) : Value := .agg #[.int .i64 p, .int .u64 (q : Int), .int .i64 C, .int .i64 R, .string s, .slice lo ln lc]
structure Bq14 (w u : World) (g : Nat) (p : Int) (q : Nat) (C R : Int) (s : ByteArray) (lo : Option Addr) (ln lc : Nat) (fr nx : Int) (a b c d : Value) : Prop where
 cf : Cfb u g ⟨p, (q : Int), C, R, s, .slice lo ln lc⟩
 wd : Wdb u (g + 1) fr nx a b c d
 st : Still w u
theorem Bq14.still {w u u' : World} {g : Nat} {p : Int} {q : Nat} {C R : Int} {s : ByteArray} {lo : Option Addr} {ln lc : Nat} {fr nx : Int} {a b c d : Value} (h : Bq14 w u g p q C R s lo ln lc fr nx a b c d) (hs : Still u u') : Bq14 w u' g p q C R s lo ln lc fr nx a b c d := ⟨h.cf.still hs, h.wd.still hs, h.st.trans hs⟩
theorem Bq14.new (w : World) (p : Int) (q : Nat) (C R : Int) (s : ByteArray) (lo : Option Addr) (ln lc : Nat) (fr nx : Int) (a b c d : Value) : Bq14 w ((w.alloc (.cells #[.int .i64 p, .int .u64 (q : Int), .int .i64 C, .int .i64 R, .string s, .slice lo ln lc] 37)).alloc (.cells (wdcs fr nx a b c d) 27)) w.heap.size p q C R s lo ln lc fr nx a b c d := by
 have A0 := Still.alloc w (.cells #[.int .i64 p, .int .u64 (q : Int), .int .i64 C, .int .i64 R, .string s, .slice lo ln lc] 37)
 have A1 := Still.alloc (w.alloc (.cells #[.int .i64 p, .int .u64 (q : Int), .int .i64 C, .int .i64 R, .string s, .slice lo ln lc] 37)) (.cells (wdcs fr nx a b c d) 27)
 have w0 := newWd_wb (w.alloc (.cells #[.int .i64 p, .int .u64 (q : Int), .int .i64 C, .int .i64 R, .string s, .slice lo ln lc] 37)) fr nx a b c d
 rw [size_alloc] at w0
 exact ⟨(newCf_cb w ⟨p, (q : Int), C, R, s, .slice lo ln lc⟩).still A1, w0, A0.trans A1⟩
end Go.Proofs.YtkgbmefaphhcnaaGreatDoor
namespace Go.Proofs.YtkgbmefaphhcnaaGreatDoor
open Go.RowKit
open Pu Gp Ap Vp Np Za Ka Ja Ea Ha Hg Hi
set_option maxRecDepth 100000
set_option linter.unusedVariables false
theorem ck14r_any (p : Int) (q : Nat) (C R : Int) (s : ByteArray) (lo : Option Addr) (ln lc : Nat) (l : List Int) (hz : s.size <= 281474976710656) (hq : q < 18446744073709551616) (w : World) (hr : RdI w lo ln lc l) : ∃ X x, Ck14 p q C R s lo ln lc l w X x /\
  (∀ u, Still w u -> Calls Tryz.prog 43 #[.agg #[.int .i64 p, .int .u64 (q : Int), .int .i64 C, .int .i64 R, .string s, .slice lo ln lc]] u fun e w' => e = .returned (.int .i64 X) /\ Still u w') /\
  (∀ u v W, Still w u -> RdW u v W -> Calls Tryz.prog 34 #[.agg #[.int .i64 p, .int .u64 (q : Int), .int .i64 C, .int .i64 R, .string s, .slice lo ln lc], v] u fun e w' => e = .returned (.int .i64 (x W)) /\ Still u w') := by
 obtain ⟨v0, hv0⟩ := chkV_ex C R s w
 obtain ⟨E, eE⟩ : ∃ E : Env, E = ⟨fun _ _ => false, stV C s v0, spV C s v0, (q : Int)⟩ := ⟨_, rfl⟩
 have hQ : ∀ u, Q13 u ⟨p, (q : Int), C, R, s, .slice lo ln lc⟩ v0 E.st E.sp := fun u => by
  have h := q13_of ⟨p, (q : Int), C, R, s, .slice lo ln lc⟩ v0 hv0 u
  rw [eE]
  exact h
 have hA : ∀ u, A13 u ⟨p, (q : Int), C, R, s, .slice lo ln lc⟩ v0 E.st := fun u => by
  have h := a13_of ⟨p, (q : Int), C, R, s, .slice lo ln lc⟩ hz v0 hv0 u
  rw [eE]
  exact h
 have hP : ∀ u, Calls Tryz.prog 62 #[ar C R s] u fun e w' => ∃ a, e = .returned a /\ OwG KT 53 w' u.heap.size a E.sp /\ Still u w' := fun u => by
  have h := spots_of C R s hz v0 hv0 u
  rw [eE]
  exact h
 by_cases hc : CfgP p v0 E.st.length l
 ·refine ⟨0, chkW p E, ?_⟩
  obtain ⟨N, rfl⟩ : ∃ N : Nat, p = (N : Int) := ⟨p.toNat, by have := hc.1; omega⟩
  refine ⟨⟨fun u hu => wcfg_yes N q C R s lo ln lc E l u v0 (hQ u) (hr.still hu) hc, fun u v W hu hv => wchk_yes N q C R s lo ln lc E l u v0 (hQ u) (hr.still hu) hc W v hv, fun W hW => ?_, fun _ => ⟨cfg_in hv0 hq hc, hc.1, hc.2.1⟩, fun h => absurd rfl h, fun W hW => ?_⟩, fun u hu => ?_, fun u v W hu hv => rchk13_yes N q C R s lo ln lc E l u v0 (hA u) hP (hr.still hu) hc W v hv⟩
  ·by_cases hf : Fits (N : Int) E W
   ·exact ⟨rfl, fits_wr hf, fits_room hf hc.2.1⟩
   ·rw [chkW_no hf] at hW
    cases hW
  ·by_cases hf : Fits (N : Int) E W
   ·exact fits_len hf hc.2.1
   ·rw [chkW_no hf] at hW
    cases hW
  ·have h := rcfg_any ⟨(N : Int), (q : Int), C, R, s, .slice lo ln lc⟩ v0 E.st l lo ln lc rfl u (hA u) (hr.still hu)
   rw [show cfgE ((N : Int)) v0 E.st.length l = 0 from if_pos hc] at h
   exact h
 ·refine ⟨130, fun _ => 130, ⟨fun u hu => wcfg_no p q C R s lo ln lc E l u v0 (hQ u) (hr.still hu) hc, fun u v W hu hv => wchk_no p q C R s lo ln lc E l u v0 (hQ u) (hr.still hu) hc W v hv, fun W hW => (by cases hW), fun h => (by cases h), fun _ W => rfl, fun W hW => (by cases hW)⟩, fun u hu => ?_, fun u v W hu hv => rchk13_no p q C R s lo ln lc E.st l u v0 (hA u) (hr.still hu) hc W v hv⟩
  have h := rcfg_any ⟨p, (q : Int), C, R, s, .slice lo ln lc⟩ v0 E.st l lo ln lc rfl u (hA u) (hr.still hu)
  rw [show cfgE p v0 E.st.length l = 130 from if_neg hc] at h
  exact h
theorem Ow.setB14 {e : TypeId} {w : World} {b n cap : Nat} {bs : List UInt8} (h : Ow e w (some ⟨b, 0, none⟩) n cap bs) {i : Nat} (hi : i < n) (c : UInt8) : Ow e (w.setCell ⟨b, i, none⟩ (.int .u8 (c.toNat : Int))) (some ⟨b, 0, none⟩) n cap (bs.set i c) := by
 obtain ⟨_, _, cur, hg, hcs⟩ := h.row _ rfl
 have hl := h.rd.len
 have h1 := heap_setCell_same w b i cur e (.int .u8 (c.toNat : Int)) hg
 have hle := h.rd.le
 refine ⟨⟨by rw [List.length_set]; exact hl, hle, h.rd.max, h.rd.plain, h.rd.nil, fun a ha j hj => ?_⟩, fun a ha => ?_⟩
 ·cases ha
  rw [List.length_set] at hj
  rw [cell_of_row _ _ _ _ _ _ h1]
  simp only [Nat.zero_add]
  have hb := h.rd.byte (k := j) hj
  rw [cell_of_row _ _ _ _ _ _ hg] at hb
  simp only [Nat.zero_add] at hb
  rw [Array.getElem?_setIfInBounds]
  by_cases hij : i = j
  ·subst hij
   rw [if_pos rfl, if_pos (by omega)]
   simp
  ·rw [if_neg hij, hb]
   simp [hij]
 ·cases ha
  exact ⟨rfl, rfl, _, h1, by rw [Array.size_setIfInBounds]; exact hcs⟩
theorem Ow.frozen14 {e : TypeId} {w : World} {b n cap : Nat} {bs : List UInt8} (h : Ow e w (some ⟨b, 0, none⟩) n cap bs) (o : Nat) : w.frozen? ⟨b, o, none⟩ = false := by
 obtain ⟨_, _, cur, hg, hcs⟩ := h.row _ rfl
 exact frozen_of_row w b o _ _ hg
theorem Rd.one14 (w : World) (c : UInt8) : Rd (w.alloc (.cells #[.int .u8 (c.toNat : Int)] 5)) (some ⟨w.heap.size, 0, none⟩) 1 1 [c] := by
 exact (Ow.fresh (e := 5) w #[.int .u8 (c.toNat : Int)] 1 1 [c] rfl (Nat.le_refl _) (by unfold maxLen; omega) rfl (fun j h => by
  simp at h
  subst h
  rfl)).rd
theorem byte_up (b : UInt8) : ∃ c : UInt8, IntKind.u8.wrap ((b.toNat : Int) + 1) = (c.toNat : Int) := by
 have hb := b.toNat_lt
 refine ⟨UInt8.ofNat ((b.toNat + 1) % 256), ?_⟩
 rw [Cp.ofNat_toNat (by omega), IntKind.wrap_u8]
 omega
structure By14 (p : Int) (q : Nat) (C R : Int) (s : ByteArray) (lo : Option Addr) (ln lc : Nat) (w : World) (W : Wd) (X sX : Int) (N : Nat) (bs : List UInt8) (dg sn : Int) : Prop where
 enc : ∀ v u, Still w u -> RdW u v W -> Calls Tryz.prog 13 #[cfv14 p q C R s lo ln lc, v] u fun e w' => ∃ ao cap, e = .returned (.tuple #[.slice ao N cap, .int .i64 X]) /\ Ow 5 w' ao N cap bs /\ (∀ a, ao = some a -> u.heap.size <= a.block) /\ Still u w'
 ren : ∀ v u, Still w u -> RdW u v W -> Calls Tryz.prog 14 #[cfv14 p q C R s lo ln lc, v] u fun e w' => ∃ ao cap, e = .returned (.tuple #[.slice ao N cap, .int .i64 X]) /\ Rd w' ao N cap bs /\ (∀ a, ao = some a -> u.heap.size <= a.block) /\ Still u w'
 dig : ∀ v u, Still w u -> RdW u v W -> Calls Tryz.prog 15 #[cfv14 p q C R s lo ln lc, v] u fun e w' => e = .returned (.tuple #[.int .u64 dg, .int .i64 X]) /\ Still u w'
 rdi : ∀ v u, Still w u -> RdW u v W -> Calls Tryz.prog 16 #[cfv14 p q C R s lo ln lc, v] u fun e w' => e = .returned (.tuple #[.int .u64 dg, .int .i64 X]) /\ Still u w'
 ses : ∀ u, Still w u -> Calls Tryz.prog 17 #[cfv14 p q C R s lo ln lc] u fun e w' => e = .returned (.tuple #[.int .u64 sn, .int .i64 sX]) /\ Still u w'
 rse : ∀ u, Still w u -> Calls Tryz.prog 18 #[cfv14 p q C R s lo ln lc] u fun e w' => e = .returned (.tuple #[.int .u64 sn, .int .i64 sX]) /\ Still u w'
 few : N <= 5000
theorem by14_any (p : Int) (q : Nat) (C R : Int) (s : ByteArray) (lo : Option Addr) (ln lc : Nat) (l : List Int) (hz : s.size <= 281474976710656) (hq : q < 18446744073709551616) (w : World) (ht : FTab w) (hr : RdI w lo ln lc l) (W : Wd) : ∃ X sX N bs dg sn, By14 p q C R s lo ln lc w W X sX N bs dg sn := by
 obtain ⟨X, x, hC, hRc, hRk⟩ := ck14r_any p q C R s lo ln lc l hz hq w hr
 have hs1 : ∃ sn, (∀ u, Still w u -> Calls Tryz.prog 17 #[cfv14 p q C R s lo ln lc] u fun e w' => e = .returned (.tuple #[.int .u64 sn, .int .i64 X]) /\ Still u w') /\ (∀ u, Still w u -> Calls Tryz.prog 18 #[cfv14 p q C R s lo ln lc] u fun e w' => e = .returned (.tuple #[.int .u64 sn, .int .i64 X]) /\ Still u w') := by
  by_cases hX : X = 0
  ·subst hX
   obtain ⟨hi, _, _⟩ := hC.inc rfl
   exact ⟨_, fun u hu => pses_yes p q C R s lo ln lc l hi u (ht.still hu) (hr.still hu) (fun u' hu' => hC.cfg u' (hu.trans hu')), fun u hu => rses_yes p q C R s lo ln lc l hi u (hr.still hu) (fun u' hu' => hRc u' (hu.trans hu'))⟩
  ·exact ⟨0, fun u hu => pses_no p q C R s lo ln lc X hX u (fun u' hu' => hC.cfg u' (hu.trans hu')), fun u hu => rses_no p q C R s lo ln lc X hX u (fun u' hu' => hRc u' (hu.trans hu'))⟩
 obtain ⟨sn, hS, hRS⟩ := hs1
 have hk : ∀ v u u', Still w u -> RdW u v W -> Still u u' -> Calls Tryz.prog 31 #[cfv14 p q C R s lo ln lc, v] u' fun e w' => e = .returned (.int .i64 (x W)) /\ Still u' w' := fun v u u' hu hv hu' => hC.chk u' v W (hu.trans hu') (hv.still hu')
 have hrk : ∀ v u u', Still w u -> RdW u v W -> Still u u' -> Calls Tryz.prog 34 #[cfv14 p q C R s lo ln lc, v] u' fun e w' => e = .returned (.int .i64 (x W)) /\ Still u' w' := fun v u u' hu hv hu' => hRk u' v W (hu.trans hu') (hv.still hu')
 by_cases h : x W = 0
 ·obtain ⟨h0, hw, hb⟩ := hC.ok W h
  obtain ⟨hi, _, _⟩ := hC.inc h0
  have hle := hC.len W h
  rw [h] at hk hrk
  rw [h0] at hRc
  refine ⟨0, X, (wdB W).length + 8, wdB W ++ sumB (wdB W), _, sn, fun v u hu hv => ?_, fun v u hu hv => ?_, fun v u hu hv => zdig_yes p q C R s lo ln lc l hi W v hw.nm hb u (ht.still hu) (hr.still hu) hv (fun u' hu' => hk v u u' hu hv hu'), fun v u hu hv => rdig_yes p q C R s lo ln lc l hi W v hw.nm hb u (hr.still hu) hv (fun u' hu' => hRc u' (hu.trans hu')) (fun u' hu' => hrk v u u' hu hv hu'), hS, hRS, by omega⟩
  ·refine (penc_yes p q C R s lo ln lc W v hw.nm hb u (ht.still hu) hv (fun u' hu' => hk v u u' hu hv hu')).mono ?_
   rintro e w' ⟨ao, cap, he, ho, hs, ha⟩
   exact ⟨ao, cap, he, ho, ha, hs⟩
  ·refine (renc_yes p q C R s lo ln lc W v hw.nm hb u hv (fun u' hu' => hrk v u u' hu hv hu')).mono ?_
   rintro e w' ⟨ao, cap, he, ho, hs, ha⟩
   exact ⟨ao, cap, he, ho.rd, ha, hs⟩
 ·refine ⟨x W, X, 0, [], 0, sn, fun v u hu hv => ?_, fun v u hu hv => ?_, fun v u hu hv => ?_, fun v u hu hv => ?_, hS, hRS, by omega⟩
  ·obtain ⟨a, b, c, d, rfl, _⟩ := id hv
   refine (penc_no p q C R s lo ln lc (x W) h W.fr W.nx a b c d u (fun u' hu' => hk _ u u' hu hv hu')).mono ?_
   rintro e w' ⟨he, hs⟩
   exact ⟨none, 0, he, Ow.empty _ _, fun a ha => (by cases ha), hs⟩
  ·obtain ⟨a, b, c, d, rfl, _⟩ := id hv
   refine (renc_no p q C R s lo ln lc (x W) h W.fr W.nx a b c d u (fun u' hu' => hrk _ u u' hu hv hu')).mono ?_
   rintro e w' ⟨he, hs⟩
   exact ⟨none, 0, he, Rd.empty _, fun a ha => (by cases ha), hs⟩
  ·obtain ⟨a, b, c, d, rfl, ⟨xa, ya, rfl, _⟩, ⟨xb, yb, rfl, _⟩, ⟨xc, yc, rfl, _⟩, ⟨xd, yd, rfl, _⟩⟩ := id hv
   exact zdig_no p q C R s lo ln lc (x W) h W.fr W.nx xa xb xc xd _ _ _ _ ya yb yc yd u (fun u' hu' => hk _ u u' hu hv hu')
  ·obtain ⟨a, b, c, d, rfl, ⟨xa, ya, rfl, _⟩, ⟨xb, yb, rfl, _⟩, ⟨xc, yc, rfl, _⟩, ⟨xd, yd, rfl, _⟩⟩ := id hv
   exact rdig_no p q C R s lo ln lc (x W) h W.fr W.nx xa xb xc xd _ _ _ _ ya yb yc yd u (fun u' hu' => hrk _ u u' hu hv hu')
end Go.Proofs.YtkgbmefaphhcnaaGreatDoor
namespace Go.Proofs.YtkgbmefaphhcnaaGreatDoor
open Go.RowKit
open Pu Gp Ap Vp Np Za Ka Ja Ea Ha Hg Hi
set_option maxRecDepth 100000
set_option linter.unusedVariables false
set_option maxHeartbeats 16000000 in
theorem bytes14_law (p : Int) (q : Nat) (C R : Int) (s : ByteArray) (lo : Option Addr) (ln lc : Nat) (l : List Int) (hz : s.size <= 281474976710656) (hq : q < 18446744073709551616) (W : Wd) (v : Value) (hb : (W.ms.length + 1) * 104 <= 140737488355328 /\ (W.cs.length + 1) * 32 <= 140737488355328 /\ (W.hs.length + 1) * 64 <= 140737488355328 /\ (W.ks.length + 1) * 24 <= 140737488355328) (w : World) (ht : FTab w) (hr : RdI w lo ln lc l) (hv : RdW w v W) :
  Calls Tryz.prog 4 #[cfv14 p q C R s lo ln lc, v] w fun e w' => e = .returned (.bool true) /\ Still w w' := by
 obtain ⟨i0, hi0, hz0, hs10, hb10⟩ := info_parts info_u8
 obtain ⟨X, sX, N, bs, dg, sn, hY⟩ := by14_any p q C R s lo ln lc l hz hq w ht hr W
 have HY := hid hY
 have hNf := hY.few
 have HT := hid ht
 have HV := hid hv
 obtain ⟨a, b, c, d, rfl, ⟨xa, ya, rfl, l1, ha, hra⟩, ⟨xb, yb, rfl, l2, hb0, hrb⟩, ⟨xc, yc, rfl, l3, hc0, hrc⟩, ⟨xd, yd, rfl, l4, hd0, hrd⟩⟩ := hv
 have HRa := hid hra
 have HRb := hid hrb
 have HRc := hid hrc
 have HRd := hid hrd
 clear hra hrb hrc hrd l1 l2 l3 l4 ha hb0 hc0 hd0 ht hr hz hq hY
 obtain ⟨k1, e1⟩ : ∃ n, W.ms.length = n := ⟨_, rfl⟩
 obtain ⟨k2, e2⟩ : ∃ n, W.cs.length = n := ⟨_, rfl⟩
 obtain ⟨k3, e3⟩ : ∃ n, W.hs.length = n := ⟨_, rfl⟩
 obtain ⟨k4, e4⟩ : ∃ n, W.ks.length = n := ⟨_, rfl⟩
 obtain ⟨fr, e5⟩ : ∃ n, W.fr = n := ⟨_, rfl⟩
 obtain ⟨nx, e6⟩ : ∃ n, W.nx = n := ⟨_, rfl⟩
 rw [e1, e2, e3, e4, e5, e6] at HV ⊢
 rw [e1] at HRa
 rw [e2] at HRb
 rw [e3] at HRc
 rw [e4] at HRd
 rw [e1, e2, e3, e4] at hb
 have HBd := hid hb
 have EL := hid (And.intro e1 (And.intro e2 (And.intro e3 (And.intro e4 (And.intro e5 e6)))))
 clear e1 e2 e3 e4 e5 e6 hb
 have HB0 := hid (Bq14.new w p q C R s lo ln lc fr nx (.slice xa k1 ya) (.slice xb k2 yb) (.slice xc k3 yc) (.slice xd k4 yd))
 obtain ⟨W0, eW0⟩ : ∃ X, ((w.alloc (.cells #[.int .i64 p, .int .u64 (q : Int), .int .i64 C, .int .i64 R, .string s, .slice lo ln lc] 37)).alloc (.cells (wdcs fr nx (.slice xa k1 ya) (.slice xb k2 yb) (.slice xc k3 yc) (.slice xd k4 yd)) 27)) = X := ⟨_, rfl⟩
 rw [eW0] at HB0
 obtain ⟨g, eg⟩ : ∃ k, w.heap.size = k := ⟨_, rfl⟩
 rw [eg] at HB0
 go_enter Tryz.func4, Tryz.ntmps4
 go_wp2_with fail
 clear eW0 eg
 refine (awake14_any _ (HT.out.still HB0.out.st)).mono ?_
 rintro e w1 ⟨he, h1⟩
 rw [he]
 have HB1 := hid (HB0.out.still h1)
 clear he h1 HB0
 obtain ⟨d0, d1, d2, d3, d4, d5, df⟩ := HB1.out.wd.cells
 go_wp2_with fail
 refine (lent_any W fr nx xa xb xc xd k1 k2 k3 k4 ya yb yc yd w1 (HRa.out.still HB1.out.st) (HRb.out.still HB1.out.st) (HRc.out.still HB1.out.st) (HRd.out.still HB1.out.st) HBd.out).mono ?_
 rintro e w2 ⟨g0, n0, g1, n1, g2, n2, g3, n3, he, q0, q1, q2, q3, h2⟩
 rw [he]
 have A2 := Still.alloc w2 (.cells (wdcs fr nx (.slice (some ⟨g0, 0, none⟩) k1 n0) (.slice (some ⟨g1, 0, none⟩) k2 n1) (.slice (some ⟨g2, 0, none⟩) k3 n2) (.slice (some ⟨g3, 0, none⟩) k4 n3)) 27)
 have p2 := newWd_wb w2 fr nx (.slice (some ⟨g0, 0, none⟩) k1 n0) (.slice (some ⟨g1, 0, none⟩) k2 n1) (.slice (some ⟨g2, 0, none⟩) k3 n2) (.slice (some ⟨g3, 0, none⟩) k4 n3)
 unfold newWd at p2
 have HB2 := hid (HB1.out.still (h2.trans A2))
 have HQ2 := hid (And.intro (q0.still A2) (And.intro (q1.still A2) (And.intro (q2.still A2) (q3.still A2))))
 obtain ⟨W2, eW2⟩ : ∃ X, w2.alloc (.cells (wdcs fr nx (.slice (some ⟨g0, 0, none⟩) k1 n0) (.slice (some ⟨g1, 0, none⟩) k2 n1) (.slice (some ⟨g2, 0, none⟩) k3 n2) (.slice (some ⟨g3, 0, none⟩) k4 n3)) 27) = X := ⟨_, rfl⟩
 obtain ⟨gl, egl⟩ : ∃ X, w2.heap.size = X := ⟨_, rfl⟩
 rw [eW2] at HB2 HQ2 p2
 rw [egl] at p2
 have HP2 := hid p2
 have HL2 : Hid (∀ u, Still W2 u -> RdW u (.agg (wdcs fr nx (.slice (some ⟨g0, 0, none⟩) k1 n0) (.slice (some ⟨g1, 0, none⟩) k2 n1) (.slice (some ⟨g2, 0, none⟩) k3 n2) (.slice (some ⟨g3, 0, none⟩) k4 n3))) W) := hid (fun u hu => by
  have b := HBd.out
  have e := EL.out
  have : RdW W2 (.agg (wdcs fr nx (.slice (some ⟨g0, 0, none⟩) k1 n0) (.slice (some ⟨g1, 0, none⟩) k2 n1) (.slice (some ⟨g2, 0, none⟩) k3 n2) (.slice (some ⟨g3, 0, none⟩) k4 n3))) W := by
   refine ⟨_, _, _, _, ?_, sl_init HQ2.out.1 e.1 (by omega), sl_init HQ2.out.2.1 e.2.1 (by omega), sl_init HQ2.out.2.2.1 e.2.2.1 (by omega), sl_init HQ2.out.2.2.2 e.2.2.2.1 (by omega)⟩
   rw [e.2.2.2.2.1, e.2.2.2.2.2]
  exact this.still hu)
 clear he h2 A2 p2 q0 q1 q2 q3 d0 d1 d2 d3 d4 d5 df HB1
 obtain ⟨c0, c1, c2, c3, c4, c5, cf⟩ := HB2.out.cf.cells
 dsimp only at c0 c1 c2 c3 c4 c5
 obtain ⟨f0, f1, f2, f3, f4, f5, ff⟩ := HP2.out.cells
 go_wp2_with fail
 clear eW2 egl c0 c1 c2 c3 c4 c5 cf f0 f1 f2 f3 f4 f5 ff
 refine (HY.out.enc _ W2 HB2.out.st (HL2.out W2 (Fr.refl _ _))).mono ?_
 rintro e w3 ⟨ao, cap, he, ho, hao, h3⟩
 rw [he]
 have HS3 := hid h3
 have HO3 := hid (And.intro ho hao)
 have HB3 := hid (HB2.out.still h3)
 clear he ho hao h3
 obtain ⟨c0, c1, c2, c3, c4, c5, cf⟩ := HB3.out.cf.cells
 dsimp only at c0 c1 c2 c3 c4 c5
 obtain ⟨d0, d1, d2, d3, d4, d5, df⟩ := HB3.out.wd.cells
 go_wp2_with fail
 clear c0 c1 c2 c3 c4 c5 cf d0 d1 d2 d3 d4 d5 df
 refine (HY.out.ren _ w3 HB3.out.st (HV.out.still HB3.out.st)).mono ?_
 rintro e w4 ⟨bo, bcap, he, hb4, hbo, h4⟩
 rw [he]
 have HS4 := hid (HS3.out.trans h4)
 have HO4 : Hid (Ow 5 w4 ao N cap bs) := hid (HO3.out.1.still h4)
 have HN4 : Hid (∀ a, ao = some a -> W2.heap.size <= a.block) := hid HO3.out.2
 have HD4 : Hid (∀ a b, bo = some a -> ao = some b -> b.block ≠ a.block) := hid (fun a b h1 h2 e => by
  have := hbo a h1
  have := HO3.out.1.lt b h2
  omega)
 have HR4 := hid hb4
 have s1 := run_string (P := Tryz.prog) w4 38 5 9 Tryz.underlying38 Tryz.underlying5 Tryz.underlying9 HO4.out.rd
 have s2 := run_string (P := Tryz.prog) w4 38 5 9 Tryz.underlying38 Tryz.underlying5 Tryz.underlying9 hb4
 obtain ⟨BB, eBB⟩ : ∃ B, (⟨bs.toArray⟩ : ByteArray) = B := ⟨_, rfl⟩
 rw [eBB] at s1 s2
 have HBB := hid eBB
 clear he hb4 hbo h4 HS3 HO3 HB3 eBB
 go_wp2_with fail
 clear s1 s2
 go_loopw [12] (fun u wr => ∃ i : Nat, i <= N /\ u = .int .i64 (i : Int) /\ Hid ((∃ xs, Ow 5 wr ao N cap xs) /\ Fr (fun k => ∃ a, ao = some a /\ a.block = k) w4 wr)) (fun u _ => N - (intOf u).toNat)
 case atStart => exact ⟨0, by omega, rfl, hid ⟨⟨bs, HO4.out⟩, Fr.refl _ _⟩⟩
 case round =>
  obtain ⟨i, hi, rfl, HI⟩ := hrel
  by_cases hin : i < N
  ·have hlt : (i : Int) < (N : Int) := by omega
   obtain ⟨⟨xs, ho⟩, hf⟩ := HI.out
   obtain ⟨gb, egb⟩ := ho.head14 (by omega)
   subst egb
   have hlx := ho.rd.len
   obtain ⟨y, ey⟩ : ∃ y, xs[i]'(by omega) = y := ⟨_, rfl⟩
   have z0 := ho.rd.byte (k := i) (by omega)
   rw [ey, Nat.zero_add] at z0
   obtain ⟨z, ez⟩ := byte_up y
   have zf := ho.frozen14
   have HN : Hid ((∃ xs, Ow 5 (wr.setCell ⟨gb, i, none⟩ (.int .u8 (z.toNat : Int))) (some ⟨gb, 0, none⟩) N cap xs) /\ Fr (fun k => ∃ a, (some ⟨gb, 0, none⟩ : Option Addr) = some a /\ a.block = k) w4 (wr.setCell ⟨gb, i, none⟩ (.int .u8 (z.toNat : Int)))) := hid ⟨⟨_, ho.setB14 hin z⟩, hf.setCell _ _ (.inl ⟨_, rfl, rfl⟩)⟩
   obtain ⟨yy, eyy⟩ : ∃ n, (y.toNat : Int) = n := ⟨_, rfl⟩
   obtain ⟨zz, ezz⟩ : ∃ n, (z.toNat : Int) = n := ⟨_, rfl⟩
   rw [eyy] at z0 ez
   rw [ezz] at ez HN
   clear ho hf HI hlx ey eyy ezz
   go_wp2_with fail
   go_roundw
   case rel => exact ⟨i + 1, by omega, by go_num, HN⟩
   case measure => simp [intOf]; omega
  have hge : ¬ (i : Int) < (N : Int) := by omega
  clear hin hi
  obtain ⟨xs, ho⟩ := HI.out.1
  have A5 := Still.alloc wr (.cells #[.int .u8 ((7 : UInt8).toNat : Int)] 5)
  have HO5 := hid (ho.still A5)
  have HR5 := hid (Rd.one14 wr 7)
  have HF5 := hid (HI.out.2.alloc (.cells #[.int .u8 ((7 : UInt8).toNat : Int)] 5))
  rw [show ((7 : UInt8).toNat : Int) = 7 from rfl] at HO5 HR5 HF5
  clear ho A5 HI
  go_wp2_with (
   at_builtin
   refine wpList_app _ rfl _ _ 38 rfl 5 i0 Tryz.underlying38 hi0 hz0 hs10 hb10 ao (some ⟨wr.heap.size, 0, none⟩) N cap 1 1 xs [7] rfl rfl HO5.out HR5.out (by omega) ?_
   intro ao5 cap5 w5 ho5 hf5 hn5 _
   have hF := Fr.trans (F := fun k => ∃ a, ao = some a /\ a.block = k) HF5.out hf5 (fun k hk e => e)
   have HS5 : Hid (Still W2 w5) := hid (Fr.trans HS4.out hF (fun k hk e => by
    obtain ⟨a, ha, e⟩ := e
    have := HN4.out a ha
    omega))
   have HR6 : Hid (Rd w5 bo N bcap bs) := hid (HR4.out.kept hF (fun a ha _ e => by
    obtain ⟨b, hb, e⟩ := e
    exact HD4.out a b ha hb e))
   have HB5 := hid (HB2.out.still HS5.out)
   have HP5 := hid (HP2.out.still HS5.out)
   obtain ⟨c0, c1, c2, c3, c4, c5, cf⟩ := HB5.out.cf.cells
   dsimp only at c0 c1 c2 c3 c4 c5
   obtain ⟨f0, f1, f2, f3, f4, f5, ff⟩ := HP5.out.cells
   clear ho5 hf5 hn5 hF)
  clear c0 c1 c2 c3 c4 c5 cf f0 f1 f2 f3 f4 f5 ff HO4 HN4 HD4 HR4 HO5 HR5 HF5 HS4 hge
  refine (HY.out.enc _ w5 HB5.out.st (HL2.out w5 HS5.out)).mono ?_
  rintro e w6 ⟨a6, cap6, he, ho, _, h6⟩
  rw [he]
  have HS6 := hid (HS5.out.trans h6)
  have s1 := run_string (P := Tryz.prog) w6 38 5 9 Tryz.underlying38 Tryz.underlying5 Tryz.underlying9 ho.rd
  have s2 := run_string (P := Tryz.prog) w6 38 5 9 Tryz.underlying38 Tryz.underlying5 Tryz.underlying9 (HR6.out.still h6)
  rw [HBB.out] at s1 s2
  have HB6 := hid (HB2.out.still HS6.out)
  have HP6 := hid (HP2.out.still HS6.out)
  clear he ho h6 HS5 HB5 HP5 HR6 HBB
  obtain ⟨c0, c1, c2, c3, c4, c5, cf⟩ := HB6.out.cf.cells
  dsimp only at c0 c1 c2 c3 c4 c5
  obtain ⟨f0, f1, f2, f3, f4, f5, ff⟩ := HP6.out.cells
  go_wp2_with fail
  clear s1 s2 c0 c1 c2 c3 c4 c5 cf f0 f1 f2 f3 f4 f5 ff
  refine (HY.out.dig _ w6 HB6.out.st (HL2.out w6 HS6.out)).mono ?_
  rintro e w7 ⟨he, h7⟩
  rw [he]
  have HS7 := hid (HS6.out.trans h7)
  have HB7 := hid (HB2.out.still HS7.out)
  clear he h7 HS6 HB6 HP6
  obtain ⟨c0, c1, c2, c3, c4, c5, cf⟩ := HB7.out.cf.cells
  dsimp only at c0 c1 c2 c3 c4 c5
  obtain ⟨d0, d1, d2, d3, d4, d5, df⟩ := HB7.out.wd.cells
  go_wp2_with fail
  clear c0 c1 c2 c3 c4 c5 cf d0 d1 d2 d3 d4 d5 df
  refine (HY.out.rdi _ w7 HB7.out.st (HV.out.still HB7.out.st)).mono ?_
  rintro e w8 ⟨he, h8⟩
  rw [he]
  have HS8 := hid (HS7.out.trans h8)
  have HB8 := hid (HB2.out.still HS8.out)
  clear he h8 HS7 HB7
  obtain ⟨c0, c1, c2, c3, c4, c5, cf⟩ := HB8.out.cf.cells
  dsimp only at c0 c1 c2 c3 c4 c5
  go_wp2_with fail
  clear c0 c1 c2 c3 c4 c5 cf
  refine (HY.out.ses w8 HB8.out.st).mono ?_
  rintro e w9 ⟨he, h9⟩
  rw [he]
  have HS9 := hid (HS8.out.trans h9)
  have HB9 := hid (HB2.out.still HS9.out)
  clear he h9 HS8 HB8
  obtain ⟨c0, c1, c2, c3, c4, c5, cf⟩ := HB9.out.cf.cells
  dsimp only at c0 c1 c2 c3 c4 c5
  go_wp2_with fail
  clear c0 c1 c2 c3 c4 c5 cf
  refine (HY.out.rse w9 HB9.out.st).mono ?_
  rintro e w10 ⟨he, h10⟩
  rw [he]
  have HS10 := hid (HS9.out.trans h10)
  have HB10 := hid (HB2.out.still HS10.out)
  have HP10 := hid (HP2.out.still HS10.out)
  clear he h10 HS9 HB9
  obtain ⟨d0, d1, d2, d3, d4, d5, df⟩ := HB10.out.wd.cells
  obtain ⟨f0, f1, f2, f3, f4, f5, ff⟩ := HP10.out.cells
  go_wp2_with fail
  clear d0 d1 d2 d3 d4 d5 df f0 f1 f2 f3 f4 f5 ff
  refine (lstill_any W fr nx g0 n0 g1 n1 g2 n2 g3 n3 xa xb xc xd k1 k2 k3 k4 ya yb yc yd w10 w1.heap.size (HQ2.out.1.still HS10.out) (HQ2.out.2.1.still HS10.out) (HQ2.out.2.2.1.still HS10.out) (HQ2.out.2.2.2.still HS10.out) (HL2.out w10 HS10.out) (HV.out.still HB10.out.st) ⟨EL.out.1, EL.out.2.1, EL.out.2.2.1, EL.out.2.2.2.1⟩ (by have := HBd.out; omega)).mono ?_
  rintro e w11 ⟨he, h11⟩
  rw [he]
  have HZ := hid (HB10.out.st.trans h11)
  have t1 : (X == X) = true := by simp
  have t2 : (sX == sX) = true := by simp
  have t3 : (dg == dg) = true := by simp
  have t4 : (sn == sn) = true := by simp
  clear he h11 HS10 HB10 HP10
  go_wp2_with fail
  go_ret
  exact ⟨rfl, HZ.out⟩
end Go.Proofs.YtkgbmefaphhcnaaGreatDoor
