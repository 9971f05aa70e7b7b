/- Parts of the proof, laid end to end. -/
import Derived.Test.YtkgbmefaphhcnaaGreatDoorZU04
import Derived.Test.YtkgbmefaphhcnaaGreatDoorZU16
import Derived.Test.YtkgbmefaphhcnaaGreatDoorZU02
import Derived.Test.YtkgbmefaphhcnaaGreatDoorZU06
import Derived.Test.YtkgbmefaphhcnaaGreatDoorZU13
import Derived.Test.YtkgbmefaphhcnaaGreatDoorZU14
namespace Go.Proofs.YtkgbmefaphhcnaaGreatDoor
open Go.RowKit
open Np Za Ka Ja Ea Ha Wp
set_option maxRecDepth 100000
set_option linter.unusedVariables false
set_option linter.unusedSimpArgs false
def Dq (w : World) (p L : Nat) (s : Rs) : Prop := ∃ ao n cap B At, Rf w p ao n cap B At s.e /\ B.drop At = s.bs /\ B.length = L /\ Ub w ao
structure Td (w w' : World) (p L : Nat) (s : Rs) : Prop where
 r : Dq w' p L s
 f : Fr (fun k => k = p) w w'
theorem Dq.still {w w' : World} {p L : Nat} {s : Rs} (h : Dq w p L s) (hs : Still w w') : Dq w' p L s := by
 obtain ⟨ao, n, cap, B, At, h1, h2, h3, h4⟩ := h
 exact ⟨ao, n, cap, B, At, h1.still hs, h2, h3, h4.kept hs (fun _ _ e => e)⟩
theorem Dq.lt {w : World} {p L : Nat} {s : Rs} (h : Dq w p L s) : p < w.heap.size := by
 obtain ⟨ao, n, cap, B, At, h1, _⟩ := h
 exact h1.lt
theorem Dq.len {w : World} {p L : Nat} {s : Rs} (h : Dq w p L s) : s.bs.length <= L := by
 obtain ⟨ao, n, cap, B, At, h1, h2, h3, h4⟩ := h
 rw [<- h2, List.length_drop]
 omega
theorem Dq.like {w : World} {p L : Nat} {s t : Rs} (h : Dq w p L s) (h1 : t.bs = s.bs) (h2 : t.e = s.e) : Dq w p L t := by
 unfold Dq
 rw [h1, h2]
 exact h
theorem Dq.keep {w w' : World} {p L : Nat} {s : Rs} {F : Nat -> Prop} (h : Dq w p L s) (hf : Fr F w w') (hF : ∀ k, F k -> ∃ cs t z, w.heap[k]? = some (.cells cs t z) /\ t ≠ 121 /\ t ≠ 5) : Dq w' p L s := by
 obtain ⟨ao, n, cap, B, At, h1, h2, h3, h4⟩ := h
 have ha : ∀ a, ao = some a -> ¬ F a.block := fun a ha hk => by
  obtain ⟨cs, t, z, g1, g2, g3⟩ := hF _ hk
  exact h4.ne g1 g3 a ha rfl
 refine ⟨ao, n, cap, B, At, h1.kept hf (fun hk => ?_) (fun a e _ => ha a e), h2, h3, h4.kept hf ha⟩
 obtain ⟨cs, t, z, g1, g2, g3⟩ := hF _ hk
 have := h1.blk
 rw [this] at g1
 injection g1 with g1
 injection g1 with _ g1 _
 exact g2 g1.symm
theorem Td.trans {w w1 w2 : World} {p L : Nat} {s s2 : Rs} (h : Td w w1 p L s) (k : Td w1 w2 p L s2) : Td w w2 p L s2 := ⟨k.r, h.f.trans k.f (fun _ _ h => h)⟩
theorem Td.still {w w1 w2 : World} {p L : Nat} {s : Rs} (h : Td w w1 p L s) (k : Still w1 w2) : Td w w2 p L s := ⟨h.r.still k, h.f.trans k (fun _ _ e => e.elim)⟩
theorem Td.same {w w' : World} {p L : Nat} {s : Rs} (h : Dq w p L s) (hs : Still w w') : Td w w' p L s := ⟨h.still hs, Still.to hs⟩
theorem Td.of {w w' : World} {p L : Nat} {ao : Option Addr} {n cap : Nat} {B bs : List UInt8} {e : Int} {At : Nat} {e0 : Int} (y : Bool) (h0 : Rf w p ao n cap B At e0) (hL : B.length = L) (ha : Ub w ao) (k : TookF w w' p ao n cap B bs e) : Td w w' p L ⟨bs, e, y⟩ := by
 obtain ⟨At', h1, h2, h3⟩ := k
 exact ⟨⟨ao, n, cap, B, At', h1, h2, hL, ha.kept h3 (ha.ne h0.blk (by decide))⟩, h3⟩
theorem Td.growI {w u V : World} {p L n cap : Nat} {s : Rs} {ao : Option Addr} {l : List Int} (hT : Td w u p L s) (ha : ∀ a, ao = some a -> w.heap.size <= a.block) (ho : OwI 3 u ao n cap l) (hf : Fr (fun k => ∃ a, ao = some a /\ a.block = k) u V) : Td w V p L s :=
 ⟨hT.r.keep hf (fun k hk => by
  obtain ⟨a, h1, rfl⟩ := hk
  obtain ⟨_, _, cur, hg, _⟩ := ho.row a h1
  exact ⟨cur, _, _, hg, by decide, by decide⟩), hT.f.trans hf (fun k hk e => by
  obtain ⟨a, h1, rfl⟩ := e
  have := ha a h1
  omega)⟩
theorem dbyte_any (p L : Nat) (s : Rs) (w : World) (h : Dq w p L s) : Calls Tryz.prog 77 #[.pointer (some ⟨p, 0, none⟩)] w fun r w' => r = .returned (.int .u8 (nm (byM s).1)) /\ Td w w' p L (byM s).2 := by
 obtain ⟨ao, n, cap, B, At, h1, h2, h3, h4⟩ := h
 refine (fbyte_any p ao n cap B At s.e w h1).mono ?_
 rintro r w' ⟨rfl, ht⟩
 rw [h2] at ht ⊢
 exact ⟨rfl, Td.of s.y h1 h3 h4 ht⟩
theorem duint_any (p L : Nat) (s : Rs) (w : World) (h : Dq w p L s) : Calls Tryz.prog 52 #[.pointer (some ⟨p, 0, none⟩)] w fun r w' => r = .returned (.int .u64 ((unM s).1 : Int)) /\ Td w w' p L (unM s).2 := by
 obtain ⟨ao, n, cap, B, At, h1, h2, h3, h4⟩ := h
 refine (fuint_any p ao n cap B At s.e w h1).mono ?_
 rintro r w' ⟨rfl, ht⟩
 rw [h2] at ht ⊢
 exact ⟨rfl, Td.of s.y h1 h3 h4 ht⟩
theorem dint_any (p L : Nat) (s : Rs) (w : World) (h : Dq w p L s) : Calls Tryz.prog 78 #[.pointer (some ⟨p, 0, none⟩)] w fun r w' => r = .returned (.int .i64 (inM s).1) /\ Td w w' p L (inM s).2 := by
 obtain ⟨ao, n, cap, B, At, h1, h2, h3, h4⟩ := h
 refine (fint_any p ao n cap B At s.e w h1).mono ?_
 rintro r w' ⟨rfl, ht⟩
 rw [h2] at ht ⊢
 exact ⟨rfl, Td.of s.y h1 h3 h4 ht⟩
theorem ddone_any (p L : Nat) (s : Rs) (w : World) (h : Dq w p L s) : Calls Tryz.prog 54 #[.pointer (some ⟨p, 0, none⟩)] w fun r w' => r = .returned (.int .i64 (if s.e = 0 /\ 0 < s.bs.length then 23 else s.e)) /\ Still w w' := by
 obtain ⟨ao, n, cap, B, At, h1, h2, h3, h4⟩ := h
 have := fdone_any p ao n cap B At s.e w h1
 rw [h2] at this
 exact this
set_option maxHeartbeats 4000000 in
theorem rtaken_any (p L N : Nat) (hN : N <= 100) (s : Rs) (w : World) (h : Dq w p L s) : Calls Tryz.prog 53 #[.pointer (some ⟨p, 0, none⟩), .int .i64 (N : Int)] w fun e w' => ∃ ao cap, e = .returned (.slice ao N cap) /\ OwI 3 w' ao N cap (maM inM N s).1 /\ (∀ a, ao = some a -> w.heap.size <= a.block) /\ Td w w' p L (maM inM N s).2 := by
 have HL := hid h.lt
 have HR := hid h
 obtain ⟨i0, hi0, hz0, hs10, hb10⟩ := info_parts info_int
 clear h
 go_enter Tryz.func53, Tryz.ntmps53
 go_wp2_with fail
 go_loopw [5, 6] (fun u5 u6 wr => ∃ (i : Nat) (l : List Int) (ao : Option Addr) (cap : Nat) (s1 : Rs), i <= N /\ u5 = .slice ao i cap /\ u6 = .int .i64 (i : Int) /\ Hid (Td w wr p L s1 /\ maM inM N s = (l ++ (maM inM (N - i) s1).1, (maM inM (N - i) s1).2) /\ OwI 3 wr ao i cap l /\ ∀ a, ao = some a -> w.heap.size <= a.block)) (fun _ u6 _ => N - (intOf u6).toNat)
 case atStart => exact ⟨0, [], none, 0, s, by omega, rfl, rfl, hid ⟨Td.same HR.out (Fr.refl _ _), rfl, OwI.empty _ _, fun a h => by cases h⟩⟩
 case round =>
  obtain ⟨i, l, ao, cap, s1, hi, rfl, rfl, HI⟩ := hrel
  by_cases hin : i < N
  ·have hlt : (i : Int) < (N : Int) := by omega
   have HF := hid (maM_step hin HI.out.2.1)
   have HC := hid (dint_any p L s1 wr HI.out.1.r)
   obtain ⟨x, S, ex⟩ : ∃ a b, inM s1 = (a, b) := ⟨_, _, rfl⟩
   rw [ex] at HF HC
   dsimp only at HF HC
   clear ex
   go_wp2_with fail
   refine HC.out.mono ?_
   rintro e w1 ⟨he, h1⟩
   rw [he]
   have HO1 : Hid (OwI 3 w1 ao i cap l) := hid (HI.out.2.2.1.kept h1.f (fun a ha e => by
    have h4 := HI.out.2.2.2 a ha
    have h5 := HL.out
    omega))
   have HT1 := hid (HI.out.1.trans h1)
   have HA1 : Hid (∀ a, ao = some a -> w.heap.size <= a.block) := hid HI.out.2.2.2
   clear he h1 HC HI
   have A1 := Still.alloc w1 (.cells #[.int .i64 x] 3)
   have HO2 := hid (HO1.out.still A1)
   have HT2 := hid (HT1.out.still A1)
   have HX2 := hid (RdI.lit w1 [x] (by simp))
   have HS2 := hid A1.size
   clear A1
   go_wp2_with (at_builtin; refine wpList_appI _ rfl _ _ 35 rfl 3 i0 Tryz.underlying35 hi0 hz0 hs10 hb10 ao (some ⟨w1.heap.size, 0, none⟩) i cap 1 1 l [x] rfl rfl HO2.out HX2.out (by omega) ?_; intro ao2 cap2 w2 ho2 hf2 hn2 _)
   have HE : Hid (Td w w2 p L S /\ maM inM N s = ((l ++ [x]) ++ (maM inM (N - (i + 1)) S).1, (maM inM (N - (i + 1)) S).2) /\ OwI 3 w2 ao2 (i + 1) cap2 (l ++ [x]) /\ ∀ a, ao2 = some a -> w.heap.size <= a.block) := hid ⟨HT2.out.growI HA1.out HO2.out hf2, HF.out, ho2, fun a ha => by
    rcases hn2 a ha with h | h
    ·exact HA1.out a h
    ·have := HT2.out.f.size
     omega⟩
   clear ho2 hf2 hn2 HO1 HO2 HT1 HT2 HF HA1 HX2 HS2
   go_wp2_with fail
   go_roundw
   case rel => exact ⟨i + 1, l ++ [x], ao2, cap2, S, by omega, rfl, by go_num, HE⟩
   case measure => simp [intOf]; omega
  ·obtain rfl : i = N := by omega
   have HE := hid (maM_end HI.out.2.1)
   have HT := hid (And.intro HI.out.2.2.1 (And.intro HI.out.2.2.2 HI.out.1))
   clear HI
   go_wp2_with fail
   go_ret
   rw [HE.out]
   exact ⟨ao, cap, rfl, HT.out⟩
end Go.Proofs.YtkgbmefaphhcnaaGreatDoor
namespace Go.Proofs.YtkgbmefaphhcnaaGreatDoor
open Go.RowKit
open Np Za Ka Ja Ea Ha Wp
set_option maxRecDepth 100000
set_option linter.unusedVariables false
set_option linter.unusedSimpArgs false
theorem mvM_parts (s : Rs) : ∃ x0 x1 x2 x3 x4 x5 x6 x7 x8 x9 x10 x11 S b S2, maM inM 12 s = ([x0, x1, x2, x3, x4, x5, x6, x7, x8, x9, x10, x11], S) /\ byM S = (b, S2) /\ mvM s = (⟨x0, x1, x2, x3, x4, x5, x6, x7, x8, (b == 1), x9, x10, x11⟩, ⟨S2.bs, S2.e, S2.y || !(b == 1 || b == 0)⟩) /\ S2.y = s.y :=
 ⟨_, _, _, _, _, _, _, _, _, _, _, _, _, _, _, rfl, rfl, rfl, rfl⟩
theorem nm_one (b : UInt8) : (nm b == 1) = (b == 1) := by
 unfold nm
 by_cases h : b = 1
 ·subst h; rfl
 ·have : ¬ b.toNat = 1 := fun e => h (UInt8.toNat_inj.1 e)
  rw [beq_eq_false_iff_ne.2 h]
  simp only [beq_eq_false_iff_ne, ne_eq]
  omega
theorem nm_few (b : UInt8) : decide (nm b <= 1) = (b == 1 || b == 0) := by
 unfold nm
 by_cases h : b = 1
 ·subst h; rfl
 ·by_cases h0 : b = 0
  ·subst h0; rfl
  ·have h1 : ¬ b.toNat = 1 := fun e => h (UInt8.toNat_inj.1 e)
   have h2 : ¬ b.toNat = 0 := fun e => h0 (UInt8.toNat_inj.1 e)
   rw [beq_eq_false_iff_ne.2 h, beq_eq_false_iff_ne.2 h0]
   simp only [Bool.or_self, decide_eq_false_iff_not]
   omega
set_option maxHeartbeats 8000000 in
theorem rmover14_any (p L : Nat) (s : Rs) (w : World) (h : Dq w p L s) : Calls Tryz.prog 79 #[.pointer (some ⟨p, 0, none⟩)] w fun e w' => ∃ ok, e = .returned (.tuple #[mv (mvM s).1, .bool ok]) /\ (mvM s).2.y = (s.y || !ok) /\ Td w w' p L (mvM s).2 := by
 obtain ⟨x0, x1, x2, x3, x4, x5, x6, x7, x8, x9, x10, x11, S, b, S2, e1, e2, e3, e4⟩ := mvM_parts s
 have HLt := hid h.lt
 have A0 := Still.alloc w (.cells #[.int .i64 0, .int .i64 0, .int .i64 0, .int .i64 0, .int .i64 0, .int .i64 0, .int .i64 0, .int .i64 0, .int .i64 0, .bool false, .int .i64 0, .int .i64 0, .int .i64 0] 55)
 have HA0 := hid A0
 have HT0 := hid (rtaken_any p L 12 (by omega) s _ (h.still A0))
 have p0 : Mb (w.alloc (.cells #[.int .i64 0, .int .i64 0, .int .i64 0, .int .i64 0, .int .i64 0, .int .i64 0, .int .i64 0, .int .i64 0, .int .i64 0, .bool false, .int .i64 0, .int .i64 0, .int .i64 0] 55)) w.heap.size zM := heap_alloc_new w _
 rw [e1, show ((12 : Nat) : Int) = 12 from rfl] at HT0
 dsimp only at HT0
 have HG : Hid (p < w.heap.size) := hid h.lt
 obtain ⟨W0, eW0⟩ : ∃ X, w.alloc (.cells #[.int .i64 0, .int .i64 0, .int .i64 0, .int .i64 0, .int .i64 0, .int .i64 0, .int .i64 0, .int .i64 0, .int .i64 0, .bool false, .int .i64 0, .int .i64 0, .int .i64 0] 55) = X := ⟨_, rfl⟩
 obtain ⟨g0, eg0⟩ : ∃ X, w.heap.size = X := ⟨_, rfl⟩
 have hsz : W0.heap.size = g0 + 1 := by rw [<- eW0, size_alloc, eg0]
 have HSz := hid hsz
 rw [eW0] at HT0 HA0 p0
 rw [eg0] at p0 HG
 have HP0 := hid p0
 have HE3 := hid e3
 have HE4 := hid e4
 have HG0 : Hid (w.heap.size = g0) := hid eg0
 have HB := hid (fun u (hu : Dq u p L S) => dbyte_any p L S u hu)
 rw [e2] at HB
 dsimp only at HB
 obtain ⟨z, ez⟩ : ∃ z, nm b = z := ⟨_, rfl⟩
 have t1 := nm_one b
 have t2 := nm_few b
 rw [ez] at HB t1 t2
 obtain ⟨b1, eb1⟩ : ∃ q, (b == 1) = q := ⟨_, rfl⟩
 obtain ⟨ok, eok⟩ : ∃ q, (b == 1 || b == 0) = q := ⟨_, rfl⟩
 rw [eok] at t2 HE3
 rw [eb1] at t1 HE3
 obtain ⟨m1, em1⟩ : ∃ m : Mv, m = ⟨x0, x1, x2, x3, x4, x5, x6, x7, x8, b1, x9, x10, x11⟩ := ⟨_, rfl⟩
 have HM1 := hid em1
 clear h A0 p0 e1 e2 e3 e4 ez eb1 eok em1 hsz
 go_enter Tryz.func79, Tryz.ntmps79
 go_wp2_with fail
 clear eW0 eg0
 refine HT0.out.mono ?_
 rintro e w1 ⟨ao, cap, he, ho, ha, h1⟩
 rw [he]
 obtain ⟨gb, egb⟩ := ho.head (by omega)
 subst egb
 have HO1 := hid ho
 have HT1 := hid h1
 have HN1 : Hid (g0 + 1 <= gb) := hid (by have := ha _ rfl; have := HSz.out; dsimp only at *; omega)
 have HP1 : Hid (Mb w1 g0 zM) := hid (h1.f.kept HP0.out (fun e => by have := HG.out; omega))
 clear he ho ha h1 HT0 HP0
 go_wp2_with fail
 refine (HB.out w1 HT1.out.r).mono ?_
 rintro e w2 ⟨he, h2⟩
 rw [he]
 have HT2 := hid (HT1.out.trans h2)
 have HO2 : Hid (OwI 3 w2 (some ⟨gb, 0, none⟩) 12 cap [x0, x1, x2, x3, x4, x5, x6, x7, x8, x9, x10, x11]) := hid (HO1.out.kept h2.f (fun a ha e => by cases ha; have := HG.out; have := HN1.out; dsimp only at e; omega))
 have HP2 : Hid (Mb w2 g0 zM) := hid (h2.f.kept HP1.out (fun e => by have := HG.out; omega))
 clear he h2 HT1 HO1 HP1 HB
 go_upto_region 3 with fail
 refine region_mk1 42 6 (.cells (mcs zM) 55 (0, 0)) (.cells (mcs ⟨x0, x1, x2, x3, x4, x5, x6, x7, x8, b1, x9, x10, x11⟩) 55 (0, 0)) (by kernel_rfl) (by kernel_rfl) (by kernel_rfl) (by kernel_rfl) rfl rfl (fun u b => nw_mv rfl u) (fun u => heap_alloc_new u _) ?_
 apply Exists.intro
 refine And.intro ?_ (And.intro ?_ ?_)
 ·intro u hu
  have hrd := (HO2.out.still hu).rd
  have hrl := hrd.len
  have k0 := Cl.cell (hrd.byte (k := 0) (by rw [hrl]; omega))
  have k1 := Cl.cell (hrd.byte (k := 1) (by rw [hrl]; omega))
  have k2 := Cl.cell (hrd.byte (k := 2) (by rw [hrl]; omega))
  have k3 := Cl.cell (hrd.byte (k := 3) (by rw [hrl]; omega))
  have k4 := Cl.cell (hrd.byte (k := 4) (by rw [hrl]; omega))
  have k5 := Cl.cell (hrd.byte (k := 5) (by rw [hrl]; omega))
  have k6 := Cl.cell (hrd.byte (k := 6) (by rw [hrl]; omega))
  have k7 := Cl.cell (hrd.byte (k := 7) (by rw [hrl]; omega))
  have k8 := Cl.cell (hrd.byte (k := 8) (by rw [hrl]; omega))
  have k9 := Cl.cell (hrd.byte (k := 9) (by rw [hrl]; omega))
  have k10 := Cl.cell (hrd.byte (k := 10) (by rw [hrl]; omega))
  have k11 := Cl.cell (hrd.byte (k := 11) (by rw [hrl]; omega))
  simp only [List.getElem_cons_zero, List.getElem_cons_succ, Nat.zero_add, Nat.add_zero] at k0 k1 k2 k3 k4 k5 k6 k7 k8 k9 k10 k11
  have hne := Aft.here u
  clear hrd hrl
  simp only [qlist, List.take_succ_cons, List.take_zero, List.drop_succ_cons, List.drop_zero, List.cons_append, List.nil_append, Nat.mul_one, Nat.reduceAdd]
  repeat (go_big_quiet_step (fail))
  exact wpQuiet_nil rfl
 ·exact fun u h hh => st_mv rfl rfl rfl hh
 intro w3 g1 h3 hg1 hm1
 have p3 : Mb w3 g1 m1 := by rw [HM1.out]; exact hm1
 have HS3 := hid h3
 have HP3 := hid (HP2.out.still h3)
 have HT3 := hid (HT2.out.still h3)
 obtain ⟨c0, c1, c2, c3, c4, c5, c6, c7, c8, c9, c10, c11, c12, cf⟩ := p3.cells
 obtain ⟨d0, d1, d2, d3, d4, d5, d6, d7, d8, d9, d10, d11, d12, df⟩ := HP3.out.cells
 clear h3 hm1 HT2 HP2 HO2 p3 hg1
 simp only [Act.put, List.setIfInBounds_toArray, List.set_cons_succ, List.set_cons_zero]
 go_wp2_with fail
 refine bodyPost_ret (Mb.rest (HP3.out.put m1.ax m1.ay m1.sx m1.sy m1.px m1.py m1.fc m1.hl m1.en m1.sh m1.co m1.ou m1.sd) rfl _ _ rfl rfl) rfl ?_
 refine ⟨ok, ?_, ?_, ?_⟩
 ·rw [HE3.out]
  dsimp only
  rw [<- HM1.out]
  rfl
 ·rw [HE3.out]
  dsimp only
  rw [HE4.out]
 ·rw [HE3.out]
  have hf : Fr (fun k => k = g0) w3 (((((((((((((w3.setCell ⟨g0, 0, none⟩ (.int .i64 m1.ax)).setCell ⟨g0, 1, none⟩ (.int .i64 m1.ay)).setCell ⟨g0, 2, none⟩ (.int .i64 m1.sx)).setCell ⟨g0, 3, none⟩ (.int .i64 m1.sy)).setCell ⟨g0, 4, none⟩ (.int .i64 m1.px)).setCell ⟨g0, 5, none⟩ (.int .i64 m1.py)).setCell ⟨g0, 6, none⟩ (.int .i64 m1.fc)).setCell ⟨g0, 7, none⟩ (.int .i64 m1.hl)).setCell ⟨g0, 8, none⟩ (.int .i64 m1.en)).setCell ⟨g0, 9, none⟩ (.bool m1.sh)).setCell ⟨g0, 10, none⟩ (.int .i64 m1.co)).setCell ⟨g0, 11, none⟩ (.int .i64 m1.ou)).setCell ⟨g0, 12, none⟩ (.int .i64 m1.sd)) := Fr.setCell (Fr.setCell (Fr.setCell (Fr.setCell (Fr.setCell (Fr.setCell (Fr.setCell (Fr.setCell (Fr.setCell (Fr.setCell (Fr.setCell (Fr.setCell (Fr.setCell (Fr.refl (fun k => k = g0) w3) _ _ (.inl rfl)) _ _ (.inl rfl)) _ _ (.inl rfl)) _ _ (.inl rfl)) _ _ (.inl rfl)) _ _ (.inl rfl)) _ _ (.inl rfl)) _ _ (.inl rfl)) _ _ (.inl rfl)) _ _ (.inl rfl)) _ _ (.inl rfl)) _ _ (.inl rfl)) _ _ (.inl rfl)
  have hd : Dq (((((((((((((w3.setCell ⟨g0, 0, none⟩ (.int .i64 m1.ax)).setCell ⟨g0, 1, none⟩ (.int .i64 m1.ay)).setCell ⟨g0, 2, none⟩ (.int .i64 m1.sx)).setCell ⟨g0, 3, none⟩ (.int .i64 m1.sy)).setCell ⟨g0, 4, none⟩ (.int .i64 m1.px)).setCell ⟨g0, 5, none⟩ (.int .i64 m1.py)).setCell ⟨g0, 6, none⟩ (.int .i64 m1.fc)).setCell ⟨g0, 7, none⟩ (.int .i64 m1.hl)).setCell ⟨g0, 8, none⟩ (.int .i64 m1.en)).setCell ⟨g0, 9, none⟩ (.bool m1.sh)).setCell ⟨g0, 10, none⟩ (.int .i64 m1.co)).setCell ⟨g0, 11, none⟩ (.int .i64 m1.ou)).setCell ⟨g0, 12, none⟩ (.int .i64 m1.sd)) p L S2 := HT3.out.r.keep hf (fun k hk => ⟨mcs zM, 55, (0, 0), by rw [hk]; exact HP3.out, by decide, by decide⟩)
  exact ⟨hd.like rfl rfl, Fr.trans (Fr.trans (Still.to HA0.out) HT3.out.f (fun k hk e => e)) hf (fun k hk e => by have := HG0.out; omega)⟩
end Go.Proofs.YtkgbmefaphhcnaaGreatDoor
