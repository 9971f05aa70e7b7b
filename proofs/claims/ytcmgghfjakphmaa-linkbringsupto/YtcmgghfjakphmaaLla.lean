/- The honest end goes on: walked. -/
import Derived.Test.YtcmgghfjakphmaaLkz
import Derived.Deep.RegionHeld3
import Derived.Deep.DeepCutAuto
namespace Go.Proofs.Ytcmgghfjakphmaa
open Go.RowKit
open Wp Vp Lp
set_option maxRecDepth 100000
set_option linter.unusedVariables false
set_option linter.unusedSimpArgs false

set_option maxHeartbeats 16000000 in
theorem lsends_any (hb : Nat) (s : Stq) (hs1 : In64 s.on) (hs2 : In64 s.fa) (hs3 : In64 s.a) (H : Hst) (L : List Cc) (m : Int) (S : List (Int × Nat)) (g : Nat) (mq : Int) (mt : Bool) (hm : m ≤ 900000000) (hS : S.length ≤ 100000000) (w0 w : World) (h : HoM w0 w hb H L L m S g g mq mt) : Calls Try.prog 7 #[.pointer (some ⟨hb, 0, none⟩), .agg (stc s)] w fun e w' => e = .returned (.tuple #[]) ∧ ∃ H' L' m', HoM w0 w' hb H' L' L' m' (S ++ [(m', L'.length)]) g g mq mt ∧ H'.pb = H.pb ∧ m' ≤ m + 3 := by
  have A0 := Still.alloc w (.cells (stc s) 36)
  have b0 := heap_alloc_new w (.cells (stc s) 36)
  have h0 := h.still A0
  obtain ⟨sg, esg⟩ : ∃ g, w.heap.size = g := ⟨_, rfl⟩
  obtain ⟨W, eW⟩ : ∃ V, w.alloc (.cells (stc s) 36) = V := ⟨_, rfl⟩
  rw [eW] at A0 b0 h0
  rw [esg] at b0
  have HB0 := hid b0
  have HH0 := hid h0
  have HP1 := hid (fun w => pick_any s.on 4 hs1 (by omega) (by omega) w)
  have HP2 := hid (fun w => pick_any s.fa 17 hs2 (by omega) (by omega) w)
  have HP3 := hid (fun w => pick_any s.a 256 hs3 (by omega) (by omega) w)
  have i1 := pk_in s.on 4 (by omega)
  have i2 := pk_in s.fa 17 (by omega)
  have i3 := pk_in s.a 256 (by omega)
  obtain ⟨k1, ek1⟩ : ∃ k, pk s.on 4 = k := ⟨_, rfl⟩
  obtain ⟨k2, ek2⟩ : ∃ k, pk s.fa 17 = k := ⟨_, rfl⟩
  obtain ⟨k3, ek3⟩ : ∃ k, pk s.a 256 = k := ⟨_, rfl⟩
  rw [ek1] at HP1 i1
  rw [ek2] at HP2 i2
  rw [ek3] at HP3 i3
  have hm0 := h.i.m0
  have hl0 := h.i.l1
  have hw1 : IntKind.i64.wrap (m + k1) = m + k1 := wr64 (by omega) (by omega)
  have q3 := Cl.cell h0.cells.2.2.2.1
  have s2 : ∀ z : Aft W, z.u.cell? ⟨sg, 2, none⟩ = some (.int .i64 s.on) := Cl.cell (by rw [cell_of_row _ _ _ _ _ _ b0]; rfl)
  have hne := Aft.here W
  have HM1 : Hid (HoI L (m + k1) S g mq) := hid (h.i.up i1.1 (by omega))
  clear ek1 ek2 ek3 A0 b0 h0 h hs1 hs2 hs3
  go_enter Try.func7, Try.ntmps7
  go_wp2_with fail
  refine region_rest 9 (by kernel_rfl) (by kernel_rfl) ?_
  simp only [List.take_succ_cons, List.take_zero, List.drop_succ_cons, List.drop_zero]
  repeat (go_big_quiet_step ((go_at_call 9; exact Calls.cl_same (HP1.out _))))
  refine wpQuiet_nil ?_
  intro w1 h1
  have hh1 := HH0.out.still h1
  obtain ⟨c0, c1, c2, c3, c4, c5, c6, cf⟩ := hh1.cells
  have hh2 := hh1.mark HM1.out
  have hb2 : (w1.setCell ⟨hb, 3, none⟩ (.int .i64 (m + k1))).heap[sg]? = some (.cells (stc s) 36 (0, 0)) := hh1.self.kept (h1.kept_still HB0.out) (fun e => by
    have e2 := h1.kept_still HB0.out
    rw [e] at e2
    exact ty_ne e2 hh1.bk (by decide) rfl)
  obtain ⟨W2, eW2⟩ : ∃ V, w1.setCell ⟨hb, 3, none⟩ (.int .i64 (m + k1)) = V := ⟨_, rfl⟩
  rw [eW2] at hh2 hb2
  obtain ⟨m1, em1⟩ : ∃ x, m + k1 = x := ⟨_, rfl⟩
  rw [em1] at hh2 HM1 eW2 hw1
  have hmm : m1 ≤ m + 3 ∧ 0 ≤ m1 := by omega
  have HH2 := hid hh2
  have HB2 := hid hb2
  have s3 : W2.cell? ⟨sg, 3, none⟩ = some (.int .i64 s.fa) := by rw [cell_of_row _ _ _ _ _ _ hb2]; rfl
  clear h1 hh1 hh2 hb2 q3 s2 hne HP1 eW
  go_upto_region 3 with (go_at_call 9; refine (HP2.out _).mono ?_; rintro e w2 ⟨he, rfl⟩; rw [he]; clear he)
  refine region_mk1 18 5 (.cells (kmc zC) 47 (0, 0)) (.cells (kmc ⟨m1 + k2, 0, (L.length : Int) + 1, 7, k3, 0, 0⟩) 47 (0, 0)) (by kernel_rfl) (by kernel_rfl) (by kernel_rfl) (by kernel_rfl) rfl rfl (fun u b => nw_cc rfl u) (fun u => heap_alloc_new u _) ?_
  apply Exists.intro
  refine And.intro ?_ (And.intro ?_ ?_)
  · intro u hu
    obtain ⟨c0, c1, c2, c3, c4, c5, c6, cf⟩ := (HH2.out.still hu).cells
    have q3 := Cl.cell c3
    have q2 := Cl.cell c2
    have s5 : ∀ z : Aft u, z.u.cell? ⟨sg, 5, none⟩ = some (.int .i64 s.a) := Cl.cell (by rw [cell_of_row _ _ _ _ _ _ (hu.kept_still HB2.out)]; rfl)
    have hne := Aft.here u
    clear c0 c1 c2 c3 c4 c5 c6 cf
    simp only [qlist, List.take_succ_cons, List.take_zero, List.drop_succ_cons, List.drop_zero, List.cons_append, List.nil_append, Nat.mul_one, Nat.reduceAdd]
    repeat (go_big_quiet_step ((go_at_call 9; exact Calls.cl_same (HP3.out _))))
    exact wpQuiet_nil rfl
  · exact fun u h hh => st_cc rfl rfl rfl hh
  intro w3 g3 h3 hg3 hm3
  obtain ⟨C, eC⟩ : ∃ C : Cc, (⟨m1 + k2, 0, (L.length : Int) + 1, 7, k3, 0, 0⟩ : Cc) = C := ⟨_, rfl⟩
  rw [eC] at hm3
  have HC : Hid (C.fr = m1 + k2 ∧ okL 0 L.length C = (decide (1 ≤ m1 + k2) && (decide (m1 + k2 ≤ 1099511627776) && true))) := hid (by
    rw [← eC]
    refine ⟨rfl, ?_⟩
    unfold okL chC
    rw [say_ok k3 i3]
    simp)
  have HP := hid (show Ccb w3 g3 C from hm3)
  have HG3 : Hid (∀ k, Bl H.ko k ∨ Bl H.lo k ∨ Bl H.go k → k ≠ g3) := hid (fun k hk e => by have := (HH2.out.kty hk).2.2; omega)
  have HH3 := hid (HH2.out.still h3)
  clear h3 hg3 hm3 eC c0 c1 c2 c3 c4 c5 c6 cf s3 HB2 HB0 HP2 HP3
  simp only [Act.put, List.setIfInBounds_toArray, List.set_cons_succ, List.set_cons_zero]
  have HOn : Hid (∀ f, Calls Try.prog 16 #[.pointer (some ⟨hb, 0, none⟩), .int .i64 f] w3 fun e w' => e = .returned (.int .i64 ((onN L f : Nat) : Int)) ∧ w' = w3) := hid (fun f => lon_any hb H L L m1 S g g mq mt f w0 w3 HH3.out)
  obtain ⟨x0, x1, x2, x3, x4, x5, x6, xf⟩ := HP.out.cells
  obtain ⟨c0, c1, c2, c3, c4, c5, c6, cf⟩ := HH3.out.cells
  obtain ⟨on, eon⟩ : ∃ n, onN L C.fr = n := ⟨_, rfl⟩
  have HOc := hid (HOn.out C.fr)
  rw [eon] at HOc
  have HEo := hid eon
  clear eon HOn
  by_cases b1 : 0 < k2
  · have b1' : decide (0 < k2) = true := by simpa using b1
    by_cases b2 : on < 3
    · have b2' : (on : Int) < 3 := by omega
      by_cases b3 : L.length < 300
      · have b3' : (L.length : Int) < 300 := by omega
        have HLe : Hid (layE (hA L) C = 0 ∧ layS (hA L) C = hA (L ++ [C])) := hid (by
          have hok : okL (hA L).se (hA L).O.length C = true := by show okL 0 L.length C = true; rw [HC.out.2]; simp; omega
          have e : layE (hA L) C = 0 := by unfold layE; rw [if_pos hok, if_neg (by show ¬ 336 ≤ L.length - 0; omega)]
          refine ⟨e, ?_⟩
          unfold layS
          rw [if_pos e]
          rfl)
        have HNi : Hid (HoI (L ++ [C]) m1 S g mq) := hid (HM1.out.lay b3 (by rw [HC.out.2]; simp; omega) (by rw [HC.out.1]; omega) (by rw [HC.out.1]; omega) (by rw [HEo.out]; exact b2))
        go_upto_region 5 with (go_at_call 16; refine HOc.out.mono ?_; rintro e w4 ⟨he, rfl⟩; rw [he]; clear he)
        have q0 := Cl.cell c0
        have y0 := Cl.cell x0
        have y1 := Cl.cell x1
        have y2 := Cl.cell x2
        have y3 := Cl.cell x3
        have y4 := Cl.cell x4
        have y5 := Cl.cell x5
        have y6 := Cl.cell x6
        have hne := Aft.here w4
        clear x0 x1 x2 x3 x4 x5 x6 xf c0 c1 c2 c3 c4 c5 c6 cf HOc
        refine region_rest 5 (by kernel_rfl) (by kernel_rfl) ?_
        simp only [List.take_succ_cons, List.take_zero, List.drop_succ_cons, List.drop_zero]
        repeat (go_big_quiet_step (rfl))
        refine wpQuiet_nil ?_
        intro w5 h5
        have HH5 := hid (HH3.out.still h5)
        have HP5 := hid (HP.out.still h5)
        have HLa := hid (llay_any H.pa H.ko H.kc H.ma w0.heap.size (hA L) C (by show L.length ≤ _; omega) (Nat.zero_le _) w5 HH5.out.la)
        rw [HLe.out.1, HLe.out.2] at HLa
        clear h5 q0 y0 y1 y2 y3 y4 y5 y6 hne HH3 HP
        go_wp2_with fail
        refine HLa.out.mono ?_
        rintro e w6 ⟨ko', kc', he, l6, f6, hk6⟩
        rw [he]
        have hh6 := HH5.out.aLay l6 f6 hk6
        obtain ⟨H6, eH6⟩ : ∃ X : Hst, (⟨H.pa, H.ma, ko', kc', H.pb, H.mb, H.lo, H.lc, H.so, H.sc, H.go, H.gc, H.Q⟩ : Hst) = X := ⟨_, rfl⟩
        rw [eH6] at hh6
        have hp6 : Ccb w6 g3 C := f6.kept HP5.out (fun e => by
          rcases e with e | e
          · have e2 : Ccb w5 g3 C := HP5.out
            rw [e] at e2
            exact ty_ne e2 HH5.out.la.bk (by decide) rfl
          · exact HG3.out _ (.inl e) rfl)
        have hh7 := hh6.right
        have hp7 : Ccb (w6.setCell ⟨hb, 6, none⟩ (.bool true)) g3 C := hh6.self.kept hp6 (fun e => by
          rw [e] at hp6
          exact ty_ne hp6 hh6.bk (by decide) rfl)
        obtain ⟨c0, c1, c2, c3, c4, c5, c6, cf⟩ := hh6.cells
        obtain ⟨w7, e7⟩ : ∃ V, w6.setCell ⟨hb, 6, none⟩ (.bool true) = V := ⟨_, rfl⟩
        rw [e7] at hh7 hp7
        have HH7 := hid hh7
        have HP7 := hid hp7
        have HPb6 : Hid (H6.pb = H.pb ∧ H6.lo = H.lo ∧ H6.lc = H.lc) := hid (by rw [← eH6]; exact ⟨rfl, rfl, rfl⟩)
        clear he l6 f6 hk6 hh6 hh7 hp6 hp7 eH6 HLa HH5 HP5
        go_upto_region 7 with fail
        clear c0 c1 c2 c3 c4 c5 c6 cf e7
        refine region_laid 6 1 (by kernel_rfl) (by kernel_rfl) (by kernel_rfl) ?_
        apply Exists.intro
        refine And.intro ?_ (And.intro ?_ ?_)
        · intro u hu
          have q2 := Cl.cell (HH7.out.still hu).cells.2.2.1
          obtain ⟨n0, n1, n2, n3, n4, n5, n6, _⟩ := (HP7.out.still hu).cells
          have y0 := Cl.cell n0
          have y1 := Cl.cell n1
          have y2 := Cl.cell n2
          have y3 := Cl.cell n3
          have y4 := Cl.cell n4
          have y5 := Cl.cell n5
          have y6 := Cl.cell n6
          have hne := Aft.here u
          clear n0 n1 n2 n3 n4 n5 n6
          simp only [List.take_succ_cons, List.take_zero]
          repeat (go_big_quiet_step (fail))
          exact wpQuiet_nil rfl
        · intro _ o ho u hu
          obtain rfl := Option.some.inj ho
          exact ⟨_, _, bs_cc rfl rfl u, Still.alloc u _⟩
        intro w8 h8
        simp only [List.drop_succ_cons, List.drop_zero]
        have A9 := Still.alloc w8 (.cells (kmc C) 47)
        have HM9 := hid ((HH7.out.still h8).still A9)
        have HG9 : Hid ((w8.alloc (.cells (kmc C) 47)).heap[w8.heap.size]? = some (.cells (KCc.f C).toArray 47 (0, 0))) := hid (newCc_b w8 C)
        have HB9 : Hid (w0.heap.size ≤ (w8.alloc (.cells (kmc C) 47)).heap.size) := hid HM9.out.st.size
        clear h8 A9 HH7 HP7
        go_wp2_with (
          at_builtin
          refine wpList_appQ KCc _ rfl _ _ _ rfl Try.underlying29 56 infoCc w0.heap.size w8.heap.size _ L C rfl rfl (by have := HM9.out.lw; exact this) HG9.out (by omega) (by omega) HB9.out ?_
          intro v9 w9 ho9 hf9 hb9
          obtain ⟨lo2, lc2, ev, _⟩ := ho9.slice
          rw [List.length_append, List.length_singleton] at ev
          subst ev
          have hf9' : Fr (fun k => Bl H6.lo k) _ w9 := hf9.mono (fun k _ e => Bl.own.1 e)
          have hY := HM9.out.aLaid (c := C) ho9 hf9' (fun k hk => (hb9 k (Bl.own.2 hk)).imp (fun e => Bl.own.1 e) id) HNi.out HM9.out.i.g1
          have hb' := hf9'.kept HM9.out.bk (fun e => HM9.out.ne.2.2.2.2.2.1 hb e rfl)
          have e2 : w9.cell? ⟨hb, 2, none⟩ = some (.slice H6.lo L.length H6.lc) := by rw [cell_of_row _ _ _ _ _ _ hb']; rfl
          have ef := fun o => frozen_of_row w9 hb o _ _ hb'
          obtain ⟨HX, eHX⟩ : ∃ X : Hst, (⟨H6.pa, H6.ma, H6.ko, H6.kc, H6.pb, H6.mb, lo2, lc2, H6.so, H6.sc, H6.go, H6.gc, H6.Q⟩ : Hst) = X := ⟨_, rfl⟩
          rw [eHX] at hY
          have HPb : Hid (HX.pb = H.pb) := hid (by rw [← eHX]; exact HPb6.out.1)
          obtain ⟨w10, e10⟩ : ∃ V, w9.setCell ⟨hb, 2, none⟩ (.slice lo2 (L.length + 1) lc2) = V := ⟨_, rfl⟩
          rw [e10] at hY
          have HT := hid hY
          have cT := hY.cells
          clear ho9 hf9 hb9 hf9' hY hb' HM9 HG9 eHX)
        refine ⟨rfl, ?_⟩
        obtain ⟨LX, eLX⟩ : ∃ X, L ++ [C] = X := ⟨_, rfl⟩
        rw [eLX] at HT cT
        clear e2 ef eLX HNi cT
        have cT := HT.out.cells
        obtain ⟨t0, t1, t2, t3, t4, t5, t6, tf⟩ := cT
        have HTu : Hid (∀ u, Still w10 u → Calls Try.prog 12 #[.pointer (some ⟨HX.pa, 0, none⟩), .int .i64 m1] u fun e w' => ∃ co cp, e = .returned (dgv (hD LX (m1, LX.length)) co LX.length cp) ∧ OwG KCc 47 w' u.heap.size (.slice co LX.length cp) LX ∧ Still u w') := hid (fun u hu => by
          have hft := hA_fits HT.out.i
          have hc := lturn_any HX.pa HX.ko HX.kc HX.ma w0.heap.size (hA LX) m1 hft.g (by show (0 : Nat) ≤ _; omega) hft.a2 hft.a1 u (HT.out.la.still hu)
          rw [hA_turn HT.out.i] at hc
          exact hc)
        have hl1 := HT.out.i.l1
        have HLw : Hid (w0.heap.size ≤ w10.heap.size) := hid HT.out.st.size
        have k1 : w10.heap.size ≠ hb := by have := HT.out.lt; omega
        (try simp only [Exit.inBlock, Exit.then])
        go_upto_region 8 with fail
        go_cut [7] (fun v7 wx => ∃ gD co cp, v7 = .pointer (some ⟨gD, 0, none⟩) ∧ Dgb wx gD (hD LX (m1, LX.length)) co LX.length cp ∧ OwG KCc 47 wx w10.heap.size (.slice co LX.length cp) LX ∧ Still w10 wx)
        case first =>
          go_region_held3 (fun w' => w'.cell? ⟨hb, 0, none⟩ = some (.pointer (some ⟨HX.pa, 0, none⟩)) ∧ w'.cell? ⟨hb, 3, none⟩ = some (.int .i64 m1)) (go_keep)
            (first
              | (go_at_call 12
                 refine (HTu.out _ (by repeat (first | exact Fr.refl _ _ | refine Fr.drew ?_ | refine Fr.alloc ?_ _))).mono ?_
                 rintro e x1 ⟨co, cp, rfl, o1, g1⟩
                 have HX1 : Hid (Still w10 x1) := hid (by
                   refine Still.trans ?_ g1
                   repeat (first | exact Fr.refl _ _ | refine Fr.drew ?_ | refine Fr.alloc ?_ _))
                 obtain ⟨e0, e1, e2, e3, e4, e5, e6, ef⟩ := (HT.out.still HX1.out).cells
                 have HO1 : Hid (OwG KCc 47 x1 w10.heap.size (.slice co LX.length cp) LX) := hid (o1.less (by
                   first
                     | exact Nat.le_refl _
                     | (simp only [World.drew]; exact Nat.le_refl _)
                     | (rw [size_alloc]; exact Nat.le_succ _)
                     | (simp)))
                 have HO2 := hid (fun k hk => (o1.block (k := k) hk).1)
                 have m1' : x1.heap.size ≠ hb := by have := HX1.out.size; have := HT.out.lt; omega
                 try (have z1 : Dgb x1 w10.heap.size zD none 0 0 := Fr.kept_still (Still.undrew g1) (heap_alloc_new w10 _); obtain ⟨u0, u1, u2, u3, u4, u5, u6, u7, uf⟩ := z1.cells)
                 clear o1 g1))
          · go_wp2_with fail
            go_meet
            have hA1 := Still.alloc x1 (.cells (dgc (hD LX (m1, LX.length)) co LX.length cp) 51)
            exact ⟨x1.heap.size, co, cp, rfl, newDg_b x1 (hD LX (m1, LX.length)) co LX.length cp, HO1.out.still hA1, HX1.out.trans hA1⟩
          · go_wp2_with fail
            go_meet
            exact ⟨w10.heap.size, co, cp, rfl, z1.set (hD LX (m1, LX.length)) co LX.length cp, HO1.out.keep (setDg_fr (Fr.refl (fun k => k = w10.heap.size) x1) w10.heap.size (hD LX (m1, LX.length)) co LX.length cp (.inl rfl)) (fun k hk e => by have := HO2.out k e; simp at this; omega), setDg_fr HX1.out w10.heap.size (hD LX (m1, LX.length)) co LX.length cp (.inr (Nat.le_refl _))⟩
        case rest =>
          obtain ⟨gD, co, cp, rfl, hd, ho, hs⟩ := hcut
          have HD := hid hd
          have HMc := hid (HT.out.still hs)
          have HOc2 := hid ho
          have HWl : Hid (∀ k, Bl co k → w10.heap.size ≤ k) := hid (fun k hk => (ho.block (Bl.own.2 hk)).1)
          have HKt := hid (fun k (hk : Bl HX.ko k ∨ Bl HX.lo k ∨ Bl HX.go k) => (HT.out.kty hk).2.2)
          clear hd ho hs t0 t1 t2 t3 t4 t5 t6 tf HTu HT
          go_upto_region 9 with fail
          refine region_laid 6 1 (by kernel_rfl) (by kernel_rfl) (by kernel_rfl) ?_
          apply Exists.intro
          refine And.intro ?_ (And.intro ?_ ?_)
          · intro u hu
            have q4 := Cl.cell (HMc.out.still hu).cells.2.2.2.2.1
            obtain ⟨d0, d1, d2, d3, d4, d5, d6, d7, df⟩ := (HD.out.still hu).cells
            have r0 := Cl.cell d0
            have r1 := Cl.cell d1
            have r2 := Cl.cell d2
            have r3 := Cl.cell d3
            have r4 := Cl.cell d4
            have r5 := Cl.cell d5
            have r6 := Cl.cell d6
            have r7 := Cl.cell d7
            have hne := Aft.here u
            clear d0 d1 d2 d3 d4 d5 d6 d7 df
            simp only [List.take_succ_cons, List.take_zero]
            repeat (go_big_quiet_step (fail))
            exact wpQuiet_nil rfl
          · intro _ o ho u hu
            obtain rfl := Option.some.inj ho
            exact ⟨_, _, bs_dg (d := hD LX (m1, LX.length)) (co := co) (cn := LX.length) (cp := cp) rfl rfl u, Still.alloc u _⟩
          intro w7 h7
          simp only [List.drop_succ_cons, List.drop_zero]
          have A8 := Still.alloc w7 (.cells (dgc (hD LX (m1, LX.length)) co LX.length cp) 51)
          have HM8 := hid ((HMc.out.still h7).still A8)
          have HO8 := hid ((HOc2.out.still h7).still A8)
          have HG8 : Hid ((w7.alloc (.cells (dgc (hD LX (m1, LX.length)) co LX.length cp) 51)).heap[w7.heap.size]? = some (.cells (KDq.f ⟨hD LX (m1, LX.length), co, LX.length, cp⟩).toArray 51 (0, 0))) := hid (newDg_b w7 (hD LX (m1, LX.length)) co LX.length cp)
          have HB8 : Hid (w0.heap.size ≤ (w7.alloc (.cells (dgc (hD LX (m1, LX.length)) co LX.length cp) 51)).heap.size) := hid HM8.out.st.size
          have HQl := hid HM8.out.ql
          clear h7 A8 HD HMc HOc2
          go_wp2_with (
            at_builtin
            refine wpList_appQ KDq _ rfl _ _ _ rfl Try.underlying30 80 infoDq w0.heap.size w7.heap.size _ HX.Q ⟨hD LX (m1, LX.length), co, LX.length, cp⟩ rfl rfl (by have := HM8.out.sw; exact this) HG8.out (by rw [HQl.out]; omega) (by rw [HQl.out]; omega) HB8.out ?_
            intro v9 w9 ho9 hf9 hb9
            obtain ⟨so2, sc2, ev, _⟩ := ho9.slice
            rw [List.length_append, List.length_singleton, HQl.out] at ev
            subst ev
            have hf9' : Fr (fun k => Bl HX.so k) _ w9 := hf9.mono (fun k _ e => Bl.own.1 e)
            have hxr : SrG KCc (w7.alloc (.cells (dgc (hD LX (m1, LX.length)) co LX.length cp) 51)) co cp LX := SrG.own HO8.out (by omega)
            have hY := HM8.out.aSent (x := ⟨hD LX (m1, LX.length), co, LX.length, cp⟩) rfl rfl hxr (fun a ha => ⟨by have := HWl.out a.block ⟨a, ha, rfl⟩; have := HLw.out; omega, ow_ty HO8.out (Bl.own.2 ⟨a, ha, rfl⟩), fun e => by have := HWl.out a.block ⟨a, ha, rfl⟩; have := HKt.out _ (.inl e); omega, fun e => by have := HWl.out a.block ⟨a, ha, rfl⟩; have := HKt.out _ (.inr (.inl e)); omega, fun e => by have := HWl.out a.block ⟨a, ha, rfl⟩; have := HKt.out _ (.inr (.inr e)); omega⟩) ho9 hf9'
            have HY := hid hY
            have hb' := hf9'.kept HM8.out.bk (fun e => HM8.out.ne.2.2.2.2.2.2.2 hb e rfl)
            have e4 : w9.cell? ⟨hb, 4, none⟩ = some (.slice HX.so S.length HX.sc) := by rw [cell_of_row _ _ _ _ _ _ hb']; rfl
            have ef := fun o => frozen_of_row w9 hb o _ _ hb'
            clear ho9 hf9 hb9 hf9' hxr hY hb' HM8 HO8 HG8)
          refine ⟨rfl, ?_⟩
          go_wp2_with fail
          (try simp only [Exit.inBlock, Exit.then])
          go_end0
          exact ⟨rfl, _, LX, m1, HY.out, by first | exact HPb.out | rfl, hmm.1⟩
      · have b3' : ¬ (L.length : Int) < 300 := by omega
        go_upto_region 8 with (go_at_call 16; refine HOc.out.mono ?_; rintro e w4 ⟨he, rfl⟩; rw [he]; clear he)
        clear x0 x1 x2 x3 x4 x5 x6 xf c0 c1 c2 c3 c4 c5 c6 cf HOc
        have HT := HH3
        have HPb : Hid (H.pb = H.pb) := hid rfl
        have cT := HT.out.cells
        obtain ⟨t0, t1, t2, t3, t4, t5, t6, tf⟩ := cT
        have HTu : Hid (∀ u, Still w4 u → Calls Try.prog 12 #[.pointer (some ⟨H.pa, 0, none⟩), .int .i64 m1] u fun e w' => ∃ co cp, e = .returned (dgv (hD L (m1, L.length)) co L.length cp) ∧ OwG KCc 47 w' u.heap.size (.slice co L.length cp) L ∧ Still u w') := hid (fun u hu => by
          have hft := hA_fits HT.out.i
          have hc := lturn_any H.pa H.ko H.kc H.ma w0.heap.size (hA L) m1 hft.g (by show (0 : Nat) ≤ _; omega) hft.a2 hft.a1 u (HT.out.la.still hu)
          rw [hA_turn HT.out.i] at hc
          exact hc)
        have hl1 := HT.out.i.l1
        have HLw : Hid (w0.heap.size ≤ w4.heap.size) := hid HT.out.st.size
        have k1 : w4.heap.size ≠ hb := by have := HT.out.lt; omega
        go_cut [7] (fun v7 wx => ∃ gD co cp, v7 = .pointer (some ⟨gD, 0, none⟩) ∧ Dgb wx gD (hD L (m1, L.length)) co L.length cp ∧ OwG KCc 47 wx w4.heap.size (.slice co L.length cp) L ∧ Still w4 wx)
        case first =>
          go_region_held3 (fun w' => w'.cell? ⟨hb, 0, none⟩ = some (.pointer (some ⟨H.pa, 0, none⟩)) ∧ w'.cell? ⟨hb, 3, none⟩ = some (.int .i64 m1)) (go_keep)
            (first
              | (go_at_call 12
                 refine (HTu.out _ (by repeat (first | exact Fr.refl _ _ | refine Fr.drew ?_ | refine Fr.alloc ?_ _))).mono ?_
                 rintro e x1 ⟨co, cp, rfl, o1, g1⟩
                 have HX1 : Hid (Still w4 x1) := hid (by
                   refine Still.trans ?_ g1
                   repeat (first | exact Fr.refl _ _ | refine Fr.drew ?_ | refine Fr.alloc ?_ _))
                 obtain ⟨e0, e1, e2, e3, e4, e5, e6, ef⟩ := (HT.out.still HX1.out).cells
                 have HO1 : Hid (OwG KCc 47 x1 w4.heap.size (.slice co L.length cp) L) := hid (o1.less (by
                   first
                     | exact Nat.le_refl _
                     | (simp only [World.drew]; exact Nat.le_refl _)
                     | (rw [size_alloc]; exact Nat.le_succ _)
                     | (simp)))
                 have HO2 := hid (fun k hk => (o1.block (k := k) hk).1)
                 have m1' : x1.heap.size ≠ hb := by have := HX1.out.size; have := HT.out.lt; omega
                 try (have z1 : Dgb x1 w4.heap.size zD none 0 0 := Fr.kept_still (Still.undrew g1) (heap_alloc_new w4 _); obtain ⟨u0, u1, u2, u3, u4, u5, u6, u7, uf⟩ := z1.cells)
                 clear o1 g1))
          · go_wp2_with fail
            go_meet
            have hA1 := Still.alloc x1 (.cells (dgc (hD L (m1, L.length)) co L.length cp) 51)
            exact ⟨x1.heap.size, co, cp, rfl, newDg_b x1 (hD L (m1, L.length)) co L.length cp, HO1.out.still hA1, HX1.out.trans hA1⟩
          · go_wp2_with fail
            go_meet
            exact ⟨w4.heap.size, co, cp, rfl, z1.set (hD L (m1, L.length)) co L.length cp, HO1.out.keep (setDg_fr (Fr.refl (fun k => k = w4.heap.size) x1) w4.heap.size (hD L (m1, L.length)) co L.length cp (.inl rfl)) (fun k hk e => by have := HO2.out k e; simp at this; omega), setDg_fr HX1.out w4.heap.size (hD L (m1, L.length)) co L.length cp (.inr (Nat.le_refl _))⟩
        case rest =>
          obtain ⟨gD, co, cp, rfl, hd, ho, hs⟩ := hcut
          have HD := hid hd
          have HMc := hid (HT.out.still hs)
          have HOc2 := hid ho
          have HWl : Hid (∀ k, Bl co k → w4.heap.size ≤ k) := hid (fun k hk => (ho.block (Bl.own.2 hk)).1)
          have HKt := hid (fun k (hk : Bl H.ko k ∨ Bl H.lo k ∨ Bl H.go k) => (HT.out.kty hk).2.2)
          clear hd ho hs t0 t1 t2 t3 t4 t5 t6 tf HTu HT
          go_upto_region 9 with fail
          refine region_laid 6 1 (by kernel_rfl) (by kernel_rfl) (by kernel_rfl) ?_
          apply Exists.intro
          refine And.intro ?_ (And.intro ?_ ?_)
          · intro u hu
            have q4 := Cl.cell (HMc.out.still hu).cells.2.2.2.2.1
            obtain ⟨d0, d1, d2, d3, d4, d5, d6, d7, df⟩ := (HD.out.still hu).cells
            have r0 := Cl.cell d0
            have r1 := Cl.cell d1
            have r2 := Cl.cell d2
            have r3 := Cl.cell d3
            have r4 := Cl.cell d4
            have r5 := Cl.cell d5
            have r6 := Cl.cell d6
            have r7 := Cl.cell d7
            have hne := Aft.here u
            clear d0 d1 d2 d3 d4 d5 d6 d7 df
            simp only [List.take_succ_cons, List.take_zero]
            repeat (go_big_quiet_step (fail))
            exact wpQuiet_nil rfl
          · intro _ o ho u hu
            obtain rfl := Option.some.inj ho
            exact ⟨_, _, bs_dg (d := hD L (m1, L.length)) (co := co) (cn := L.length) (cp := cp) rfl rfl u, Still.alloc u _⟩
          intro w7 h7
          simp only [List.drop_succ_cons, List.drop_zero]
          have A8 := Still.alloc w7 (.cells (dgc (hD L (m1, L.length)) co L.length cp) 51)
          have HM8 := hid ((HMc.out.still h7).still A8)
          have HO8 := hid ((HOc2.out.still h7).still A8)
          have HG8 : Hid ((w7.alloc (.cells (dgc (hD L (m1, L.length)) co L.length cp) 51)).heap[w7.heap.size]? = some (.cells (KDq.f ⟨hD L (m1, L.length), co, L.length, cp⟩).toArray 51 (0, 0))) := hid (newDg_b w7 (hD L (m1, L.length)) co L.length cp)
          have HB8 : Hid (w0.heap.size ≤ (w7.alloc (.cells (dgc (hD L (m1, L.length)) co L.length cp) 51)).heap.size) := hid HM8.out.st.size
          have HQl := hid HM8.out.ql
          clear h7 A8 HD HMc HOc2
          go_wp2_with (
            at_builtin
            refine wpList_appQ KDq _ rfl _ _ _ rfl Try.underlying30 80 infoDq w0.heap.size w7.heap.size _ H.Q ⟨hD L (m1, L.length), co, L.length, cp⟩ rfl rfl (by have := HM8.out.sw; exact this) HG8.out (by rw [HQl.out]; omega) (by rw [HQl.out]; omega) HB8.out ?_
            intro v9 w9 ho9 hf9 hb9
            obtain ⟨so2, sc2, ev, _⟩ := ho9.slice
            rw [List.length_append, List.length_singleton, HQl.out] at ev
            subst ev
            have hf9' : Fr (fun k => Bl H.so k) _ w9 := hf9.mono (fun k _ e => Bl.own.1 e)
            have hxr : SrG KCc (w7.alloc (.cells (dgc (hD L (m1, L.length)) co L.length cp) 51)) co cp L := SrG.own HO8.out (by omega)
            have hY := HM8.out.aSent (x := ⟨hD L (m1, L.length), co, L.length, cp⟩) rfl rfl hxr (fun a ha => ⟨by have := HWl.out a.block ⟨a, ha, rfl⟩; have := HLw.out; omega, ow_ty HO8.out (Bl.own.2 ⟨a, ha, rfl⟩), fun e => by have := HWl.out a.block ⟨a, ha, rfl⟩; have := HKt.out _ (.inl e); omega, fun e => by have := HWl.out a.block ⟨a, ha, rfl⟩; have := HKt.out _ (.inr (.inl e)); omega, fun e => by have := HWl.out a.block ⟨a, ha, rfl⟩; have := HKt.out _ (.inr (.inr e)); omega⟩) ho9 hf9'
            have HY := hid hY
            have hb' := hf9'.kept HM8.out.bk (fun e => HM8.out.ne.2.2.2.2.2.2.2 hb e rfl)
            have e4 : w9.cell? ⟨hb, 4, none⟩ = some (.slice H.so S.length H.sc) := by rw [cell_of_row _ _ _ _ _ _ hb']; rfl
            have ef := fun o => frozen_of_row w9 hb o _ _ hb'
            clear ho9 hf9 hb9 hf9' hxr hY hb' HM8 HO8 HG8)
          refine ⟨rfl, ?_⟩
          go_wp2_with fail
          (try simp only [Exit.inBlock, Exit.then])
          go_end0
          exact ⟨rfl, _, L, m1, HY.out, by first | exact HPb.out | rfl, hmm.1⟩
    · have b2' : ¬ (on : Int) < 3 := by omega
      go_upto_region 8 with (go_at_call 16; refine HOc.out.mono ?_; rintro e w4 ⟨he, rfl⟩; rw [he]; clear he)
      clear x0 x1 x2 x3 x4 x5 x6 xf c0 c1 c2 c3 c4 c5 c6 cf HOc
      have HT := HH3
      have HPb : Hid (H.pb = H.pb) := hid rfl
      have cT := HT.out.cells
      obtain ⟨t0, t1, t2, t3, t4, t5, t6, tf⟩ := cT
      have HTu : Hid (∀ u, Still w4 u → Calls Try.prog 12 #[.pointer (some ⟨H.pa, 0, none⟩), .int .i64 m1] u fun e w' => ∃ co cp, e = .returned (dgv (hD L (m1, L.length)) co L.length cp) ∧ OwG KCc 47 w' u.heap.size (.slice co L.length cp) L ∧ Still u w') := hid (fun u hu => by
        have hft := hA_fits HT.out.i
        have hc := lturn_any H.pa H.ko H.kc H.ma w0.heap.size (hA L) m1 hft.g (by show (0 : Nat) ≤ _; omega) hft.a2 hft.a1 u (HT.out.la.still hu)
        rw [hA_turn HT.out.i] at hc
        exact hc)
      have hl1 := HT.out.i.l1
      have HLw : Hid (w0.heap.size ≤ w4.heap.size) := hid HT.out.st.size
      have k1 : w4.heap.size ≠ hb := by have := HT.out.lt; omega
      go_cut [7] (fun v7 wx => ∃ gD co cp, v7 = .pointer (some ⟨gD, 0, none⟩) ∧ Dgb wx gD (hD L (m1, L.length)) co L.length cp ∧ OwG KCc 47 wx w4.heap.size (.slice co L.length cp) L ∧ Still w4 wx)
      case first =>
        go_region_held3 (fun w' => w'.cell? ⟨hb, 0, none⟩ = some (.pointer (some ⟨H.pa, 0, none⟩)) ∧ w'.cell? ⟨hb, 3, none⟩ = some (.int .i64 m1)) (go_keep)
          (first
            | (go_at_call 12
               refine (HTu.out _ (by repeat (first | exact Fr.refl _ _ | refine Fr.drew ?_ | refine Fr.alloc ?_ _))).mono ?_
               rintro e x1 ⟨co, cp, rfl, o1, g1⟩
               have HX1 : Hid (Still w4 x1) := hid (by
                 refine Still.trans ?_ g1
                 repeat (first | exact Fr.refl _ _ | refine Fr.drew ?_ | refine Fr.alloc ?_ _))
               obtain ⟨e0, e1, e2, e3, e4, e5, e6, ef⟩ := (HT.out.still HX1.out).cells
               have HO1 : Hid (OwG KCc 47 x1 w4.heap.size (.slice co L.length cp) L) := hid (o1.less (by
                 first
                   | exact Nat.le_refl _
                   | (simp only [World.drew]; exact Nat.le_refl _)
                   | (rw [size_alloc]; exact Nat.le_succ _)
                   | (simp)))
               have HO2 := hid (fun k hk => (o1.block (k := k) hk).1)
               have m1' : x1.heap.size ≠ hb := by have := HX1.out.size; have := HT.out.lt; omega
               try (have z1 : Dgb x1 w4.heap.size zD none 0 0 := Fr.kept_still (Still.undrew g1) (heap_alloc_new w4 _); obtain ⟨u0, u1, u2, u3, u4, u5, u6, u7, uf⟩ := z1.cells)
               clear o1 g1))
        · go_wp2_with fail
          go_meet
          have hA1 := Still.alloc x1 (.cells (dgc (hD L (m1, L.length)) co L.length cp) 51)
          exact ⟨x1.heap.size, co, cp, rfl, newDg_b x1 (hD L (m1, L.length)) co L.length cp, HO1.out.still hA1, HX1.out.trans hA1⟩
        · go_wp2_with fail
          go_meet
          exact ⟨w4.heap.size, co, cp, rfl, z1.set (hD L (m1, L.length)) co L.length cp, HO1.out.keep (setDg_fr (Fr.refl (fun k => k = w4.heap.size) x1) w4.heap.size (hD L (m1, L.length)) co L.length cp (.inl rfl)) (fun k hk e => by have := HO2.out k e; simp at this; omega), setDg_fr HX1.out w4.heap.size (hD L (m1, L.length)) co L.length cp (.inr (Nat.le_refl _))⟩
      case rest =>
        obtain ⟨gD, co, cp, rfl, hd, ho, hs⟩ := hcut
        have HD := hid hd
        have HMc := hid (HT.out.still hs)
        have HOc2 := hid ho
        have HWl : Hid (∀ k, Bl co k → w4.heap.size ≤ k) := hid (fun k hk => (ho.block (Bl.own.2 hk)).1)
        have HKt := hid (fun k (hk : Bl H.ko k ∨ Bl H.lo k ∨ Bl H.go k) => (HT.out.kty hk).2.2)
        clear hd ho hs t0 t1 t2 t3 t4 t5 t6 tf HTu HT
        go_upto_region 9 with fail
        refine region_laid 6 1 (by kernel_rfl) (by kernel_rfl) (by kernel_rfl) ?_
        apply Exists.intro
        refine And.intro ?_ (And.intro ?_ ?_)
        · intro u hu
          have q4 := Cl.cell (HMc.out.still hu).cells.2.2.2.2.1
          obtain ⟨d0, d1, d2, d3, d4, d5, d6, d7, df⟩ := (HD.out.still hu).cells
          have r0 := Cl.cell d0
          have r1 := Cl.cell d1
          have r2 := Cl.cell d2
          have r3 := Cl.cell d3
          have r4 := Cl.cell d4
          have r5 := Cl.cell d5
          have r6 := Cl.cell d6
          have r7 := Cl.cell d7
          have hne := Aft.here u
          clear d0 d1 d2 d3 d4 d5 d6 d7 df
          simp only [List.take_succ_cons, List.take_zero]
          repeat (go_big_quiet_step (fail))
          exact wpQuiet_nil rfl
        · intro _ o ho u hu
          obtain rfl := Option.some.inj ho
          exact ⟨_, _, bs_dg (d := hD L (m1, L.length)) (co := co) (cn := L.length) (cp := cp) rfl rfl u, Still.alloc u _⟩
        intro w7 h7
        simp only [List.drop_succ_cons, List.drop_zero]
        have A8 := Still.alloc w7 (.cells (dgc (hD L (m1, L.length)) co L.length cp) 51)
        have HM8 := hid ((HMc.out.still h7).still A8)
        have HO8 := hid ((HOc2.out.still h7).still A8)
        have HG8 : Hid ((w7.alloc (.cells (dgc (hD L (m1, L.length)) co L.length cp) 51)).heap[w7.heap.size]? = some (.cells (KDq.f ⟨hD L (m1, L.length), co, L.length, cp⟩).toArray 51 (0, 0))) := hid (newDg_b w7 (hD L (m1, L.length)) co L.length cp)
        have HB8 : Hid (w0.heap.size ≤ (w7.alloc (.cells (dgc (hD L (m1, L.length)) co L.length cp) 51)).heap.size) := hid HM8.out.st.size
        have HQl := hid HM8.out.ql
        clear h7 A8 HD HMc HOc2
        go_wp2_with (
          at_builtin
          refine wpList_appQ KDq _ rfl _ _ _ rfl Try.underlying30 80 infoDq w0.heap.size w7.heap.size _ H.Q ⟨hD L (m1, L.length), co, L.length, cp⟩ rfl rfl (by have := HM8.out.sw; exact this) HG8.out (by rw [HQl.out]; omega) (by rw [HQl.out]; omega) HB8.out ?_
          intro v9 w9 ho9 hf9 hb9
          obtain ⟨so2, sc2, ev, _⟩ := ho9.slice
          rw [List.length_append, List.length_singleton, HQl.out] at ev
          subst ev
          have hf9' : Fr (fun k => Bl H.so k) _ w9 := hf9.mono (fun k _ e => Bl.own.1 e)
          have hxr : SrG KCc (w7.alloc (.cells (dgc (hD L (m1, L.length)) co L.length cp) 51)) co cp L := SrG.own HO8.out (by omega)
          have hY := HM8.out.aSent (x := ⟨hD L (m1, L.length), co, L.length, cp⟩) rfl rfl hxr (fun a ha => ⟨by have := HWl.out a.block ⟨a, ha, rfl⟩; have := HLw.out; omega, ow_ty HO8.out (Bl.own.2 ⟨a, ha, rfl⟩), fun e => by have := HWl.out a.block ⟨a, ha, rfl⟩; have := HKt.out _ (.inl e); omega, fun e => by have := HWl.out a.block ⟨a, ha, rfl⟩; have := HKt.out _ (.inr (.inl e)); omega, fun e => by have := HWl.out a.block ⟨a, ha, rfl⟩; have := HKt.out _ (.inr (.inr e)); omega⟩) ho9 hf9'
          have HY := hid hY
          have hb' := hf9'.kept HM8.out.bk (fun e => HM8.out.ne.2.2.2.2.2.2.2 hb e rfl)
          have e4 : w9.cell? ⟨hb, 4, none⟩ = some (.slice H.so S.length H.sc) := by rw [cell_of_row _ _ _ _ _ _ hb']; rfl
          have ef := fun o => frozen_of_row w9 hb o _ _ hb'
          clear ho9 hf9 hb9 hf9' hxr hY hb' HM8 HO8 HG8)
        refine ⟨rfl, ?_⟩
        go_wp2_with fail
        (try simp only [Exit.inBlock, Exit.then])
        go_end0
        exact ⟨rfl, _, L, m1, HY.out, by first | exact HPb.out | rfl, hmm.1⟩
  · have b1' : decide (0 < k2) = false := by simpa using b1
    go_upto_region 8 with fail
    clear x0 x1 x2 x3 x4 x5 x6 xf c0 c1 c2 c3 c4 c5 c6 cf HOc
    have HT := HH3
    have HPb : Hid (H.pb = H.pb) := hid rfl
    have cT := HT.out.cells
    obtain ⟨t0, t1, t2, t3, t4, t5, t6, tf⟩ := cT
    have HTu : Hid (∀ u, Still w3 u → Calls Try.prog 12 #[.pointer (some ⟨H.pa, 0, none⟩), .int .i64 m1] u fun e w' => ∃ co cp, e = .returned (dgv (hD L (m1, L.length)) co L.length cp) ∧ OwG KCc 47 w' u.heap.size (.slice co L.length cp) L ∧ Still u w') := hid (fun u hu => by
      have hft := hA_fits HT.out.i
      have hc := lturn_any H.pa H.ko H.kc H.ma w0.heap.size (hA L) m1 hft.g (by show (0 : Nat) ≤ _; omega) hft.a2 hft.a1 u (HT.out.la.still hu)
      rw [hA_turn HT.out.i] at hc
      exact hc)
    have hl1 := HT.out.i.l1
    have HLw : Hid (w0.heap.size ≤ w3.heap.size) := hid HT.out.st.size
    have k1 : w3.heap.size ≠ hb := by have := HT.out.lt; omega
    go_cut [7] (fun v7 wx => ∃ gD co cp, v7 = .pointer (some ⟨gD, 0, none⟩) ∧ Dgb wx gD (hD L (m1, L.length)) co L.length cp ∧ OwG KCc 47 wx w3.heap.size (.slice co L.length cp) L ∧ Still w3 wx)
    case first =>
      go_region_held3 (fun w' => w'.cell? ⟨hb, 0, none⟩ = some (.pointer (some ⟨H.pa, 0, none⟩)) ∧ w'.cell? ⟨hb, 3, none⟩ = some (.int .i64 m1)) (go_keep)
        (first
          | (go_at_call 12
             refine (HTu.out _ (by repeat (first | exact Fr.refl _ _ | refine Fr.drew ?_ | refine Fr.alloc ?_ _))).mono ?_
             rintro e x1 ⟨co, cp, rfl, o1, g1⟩
             have HX1 : Hid (Still w3 x1) := hid (by
               refine Still.trans ?_ g1
               repeat (first | exact Fr.refl _ _ | refine Fr.drew ?_ | refine Fr.alloc ?_ _))
             obtain ⟨e0, e1, e2, e3, e4, e5, e6, ef⟩ := (HT.out.still HX1.out).cells
             have HO1 : Hid (OwG KCc 47 x1 w3.heap.size (.slice co L.length cp) L) := hid (o1.less (by
               first
                 | exact Nat.le_refl _
                 | (simp only [World.drew]; exact Nat.le_refl _)
                 | (rw [size_alloc]; exact Nat.le_succ _)
                 | (simp)))
             have HO2 := hid (fun k hk => (o1.block (k := k) hk).1)
             have m1' : x1.heap.size ≠ hb := by have := HX1.out.size; have := HT.out.lt; omega
             try (have z1 : Dgb x1 w3.heap.size zD none 0 0 := Fr.kept_still (Still.undrew g1) (heap_alloc_new w3 _); obtain ⟨u0, u1, u2, u3, u4, u5, u6, u7, uf⟩ := z1.cells)
             clear o1 g1))
      · go_wp2_with fail
        go_meet
        have hA1 := Still.alloc x1 (.cells (dgc (hD L (m1, L.length)) co L.length cp) 51)
        exact ⟨x1.heap.size, co, cp, rfl, newDg_b x1 (hD L (m1, L.length)) co L.length cp, HO1.out.still hA1, HX1.out.trans hA1⟩
      · go_wp2_with fail
        go_meet
        exact ⟨w3.heap.size, co, cp, rfl, z1.set (hD L (m1, L.length)) co L.length cp, HO1.out.keep (setDg_fr (Fr.refl (fun k => k = w3.heap.size) x1) w3.heap.size (hD L (m1, L.length)) co L.length cp (.inl rfl)) (fun k hk e => by have := HO2.out k e; simp at this; omega), setDg_fr HX1.out w3.heap.size (hD L (m1, L.length)) co L.length cp (.inr (Nat.le_refl _))⟩
    case rest =>
      obtain ⟨gD, co, cp, rfl, hd, ho, hs⟩ := hcut
      have HD := hid hd
      have HMc := hid (HT.out.still hs)
      have HOc2 := hid ho
      have HWl : Hid (∀ k, Bl co k → w3.heap.size ≤ k) := hid (fun k hk => (ho.block (Bl.own.2 hk)).1)
      have HKt := hid (fun k (hk : Bl H.ko k ∨ Bl H.lo k ∨ Bl H.go k) => (HT.out.kty hk).2.2)
      clear hd ho hs t0 t1 t2 t3 t4 t5 t6 tf HTu HT
      go_upto_region 9 with fail
      refine region_laid 6 1 (by kernel_rfl) (by kernel_rfl) (by kernel_rfl) ?_
      apply Exists.intro
      refine And.intro ?_ (And.intro ?_ ?_)
      · intro u hu
        have q4 := Cl.cell (HMc.out.still hu).cells.2.2.2.2.1
        obtain ⟨d0, d1, d2, d3, d4, d5, d6, d7, df⟩ := (HD.out.still hu).cells
        have r0 := Cl.cell d0
        have r1 := Cl.cell d1
        have r2 := Cl.cell d2
        have r3 := Cl.cell d3
        have r4 := Cl.cell d4
        have r5 := Cl.cell d5
        have r6 := Cl.cell d6
        have r7 := Cl.cell d7
        have hne := Aft.here u
        clear d0 d1 d2 d3 d4 d5 d6 d7 df
        simp only [List.take_succ_cons, List.take_zero]
        repeat (go_big_quiet_step (fail))
        exact wpQuiet_nil rfl
      · intro _ o ho u hu
        obtain rfl := Option.some.inj ho
        exact ⟨_, _, bs_dg (d := hD L (m1, L.length)) (co := co) (cn := L.length) (cp := cp) rfl rfl u, Still.alloc u _⟩
      intro w7 h7
      simp only [List.drop_succ_cons, List.drop_zero]
      have A8 := Still.alloc w7 (.cells (dgc (hD L (m1, L.length)) co L.length cp) 51)
      have HM8 := hid ((HMc.out.still h7).still A8)
      have HO8 := hid ((HOc2.out.still h7).still A8)
      have HG8 : Hid ((w7.alloc (.cells (dgc (hD L (m1, L.length)) co L.length cp) 51)).heap[w7.heap.size]? = some (.cells (KDq.f ⟨hD L (m1, L.length), co, L.length, cp⟩).toArray 51 (0, 0))) := hid (newDg_b w7 (hD L (m1, L.length)) co L.length cp)
      have HB8 : Hid (w0.heap.size ≤ (w7.alloc (.cells (dgc (hD L (m1, L.length)) co L.length cp) 51)).heap.size) := hid HM8.out.st.size
      have HQl := hid HM8.out.ql
      clear h7 A8 HD HMc HOc2
      go_wp2_with (
        at_builtin
        refine wpList_appQ KDq _ rfl _ _ _ rfl Try.underlying30 80 infoDq w0.heap.size w7.heap.size _ H.Q ⟨hD L (m1, L.length), co, L.length, cp⟩ rfl rfl (by have := HM8.out.sw; exact this) HG8.out (by rw [HQl.out]; omega) (by rw [HQl.out]; omega) HB8.out ?_
        intro v9 w9 ho9 hf9 hb9
        obtain ⟨so2, sc2, ev, _⟩ := ho9.slice
        rw [List.length_append, List.length_singleton, HQl.out] at ev
        subst ev
        have hf9' : Fr (fun k => Bl H.so k) _ w9 := hf9.mono (fun k _ e => Bl.own.1 e)
        have hxr : SrG KCc (w7.alloc (.cells (dgc (hD L (m1, L.length)) co L.length cp) 51)) co cp L := SrG.own HO8.out (by omega)
        have hY := HM8.out.aSent (x := ⟨hD L (m1, L.length), co, L.length, cp⟩) rfl rfl hxr (fun a ha => ⟨by have := HWl.out a.block ⟨a, ha, rfl⟩; have := HLw.out; omega, ow_ty HO8.out (Bl.own.2 ⟨a, ha, rfl⟩), fun e => by have := HWl.out a.block ⟨a, ha, rfl⟩; have := HKt.out _ (.inl e); omega, fun e => by have := HWl.out a.block ⟨a, ha, rfl⟩; have := HKt.out _ (.inr (.inl e)); omega, fun e => by have := HWl.out a.block ⟨a, ha, rfl⟩; have := HKt.out _ (.inr (.inr e)); omega⟩) ho9 hf9'
        have HY := hid hY
        have hb' := hf9'.kept HM8.out.bk (fun e => HM8.out.ne.2.2.2.2.2.2.2 hb e rfl)
        have e4 : w9.cell? ⟨hb, 4, none⟩ = some (.slice H.so S.length H.sc) := by rw [cell_of_row _ _ _ _ _ _ hb']; rfl
        have ef := fun o => frozen_of_row w9 hb o _ _ hb'
        clear ho9 hf9 hb9 hf9' hxr hY hb' HM8 HO8 HG8)
      refine ⟨rfl, ?_⟩
      go_wp2_with fail
      (try simp only [Exit.inBlock, Exit.then])
      go_end0
      exact ⟨rfl, _, L, m1, HY.out, by first | exact HPb.out | rfl, hmm.1⟩
end Go.Proofs.Ytcmgghfjakphmaa
