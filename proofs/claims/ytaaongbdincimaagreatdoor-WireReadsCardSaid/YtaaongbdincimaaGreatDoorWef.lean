/- The document's Decode. -/
import Derived.Test.YtaaongbdincimaaGreatDoorWee
import Derived.Test.YtaaongbdincimaaGreatDoorWrk
import Derived.Test.YtaaongbdincimaaGreatDoorWla
import Derived.Test.YtaaongbdincimaaGreatDoorWdd
namespace Go.Proofs.YtaaongbdincimaaGreatDoor
open Go.RowKit
open Wp Vp
set_option maxRecDepth 100000
set_option linter.unusedVariables false
set_option linter.unusedSimpArgs false

theorem eCs_len (mk f fi : Int) : ∀ (k i : Nat) (s : Rs), (eCsM mk f fi k i s).1.length ≤ k
  | 0, _, _ => Nat.le_refl _
  | k + 1, i, s => by
    show (if s.y = true then (([] : List Cc), s) else (mB (eCmM mk f (fi + i)) fun x => mB (eCsM mk f fi k (i + 1)) fun l => mR (x :: l)) s).1.length ≤ k + 1
    split
    · exact Nat.zero_le _
    · have := eCs_len mk f fi k (i + 1) (eCmM mk f (fi + i) s).2
      show ((eCmM mk f (fi + i) s).1 :: (eCsM mk f fi k (i + 1) (eCmM mk f (fi + i) s).2).1).length ≤ k + 1
      rw [List.length_cons]
      omega
theorem eDg_cs (s : Rs) : (eDgM s).1.cs.length ≤ 336 := by
  unfold eDgM mB
  dsimp only
  unfold eTlM
  split
  · unfold mB mR
    dsimp only
    exact Nat.le_trans (eCs_len _ _ _ _ _ _) (eUp_le 336 _)
  · exact Nat.zero_le _
/-- a reader of the document over new bytes -/
theorem fnew16_any (so : Option Addr) (n c : Nat) (bs : List UInt8) (w : World) (hr : Rd w so n c bs) (h47 : n ≤ 140737488355328) :
    Calls Tryz.prog 28 #[.slice so n c] w fun r w' => ∃ p ao cap, r = .returned (.pointer (some ⟨p, 0, none⟩)) ∧ w.heap.size ≤ p ∧ Rf w' p ao n cap bs 0 0 ∧ Ub w' ao ∧ Still w w' := by
  obtain ⟨i0, hi, hz, hs1, hb1⟩ := info_parts info_u8
  go_enter Tryz.func28, Tryz.ntmps28
  go_wp2_with (at_builtin; refine wpList_app _ rfl _ _ 31 rfl 5 i0 Tryz.underlying31 hi hz hs1 hb1 none so 0 0 n c [] bs rfl rfl (Ow.empty _ _) hr (by omega) ?_; intro ao' cap' w1 ho' hf' hn' _)
  go_ret
  have hst : Still w w1 := hf'.mono (by rintro k hk ⟨a, h, _⟩; cases h)
  rw [Nat.zero_add, List.nil_append] at ho'
  have hub : Ub (w1.alloc (.cells #[.slice ao' n cap', .int .i64 0, .int .i64 0] 86)) ao' := fun a ha => by
    obtain ⟨_, _, cur, hc, _⟩ := ho'.row a ha
    exact ⟨cur, (Still.alloc w1 _).kept_still hc⟩
  have hrf : Rf (w1.alloc (.cells #[.slice ao' n cap', .int .i64 0, .int .i64 0] 86)) w1.heap.size ao' n cap' bs 0 0 := ⟨heap_alloc_new w1 _, ho'.rd.alloc _, Nat.zero_le _⟩
  first
    | exact ⟨w1.heap.size, ao', cap', rfl, hst.size, hrf, hub, Fr.alloc hst _⟩
    | exact ⟨w1.heap.size, rfl, hst.size, ⟨ao', ⟨cap', hrf⟩, hub⟩, Fr.alloc hst _⟩
    | exact ⟨w1.heap.size, rfl, hst.size, ⟨ao', ⟨cap', hrf⟩, hub, Fr.alloc hst _⟩⟩
    | exact ⟨w1.heap.size, rfl, hst.size, ao', cap', hrf, hub, Fr.alloc hst _⟩
set_option maxHeartbeats 4000000 in
theorem rdec_len (ao : Option Addr) (n cap : Nat) (hn : 16384 < n ∨ n < 8) (hsm : n ≤ 9223372036854775807) (w : World) :
    Calls Tryz.prog 13 #[.slice ao n cap] w fun e w' => DecR w w' (zD, 160) e := by
  have A0 := Still.alloc w (.cells #[.int .i64 0, .int .u64 0, .int .i64 0, .int .i64 0, .int .i64 0, .int .i64 0, .slice none 0 0, .int .i64 0] 25)
  have B0 : Dgb (w.alloc (.cells #[.int .i64 0, .int .u64 0, .int .i64 0, .int .i64 0, .int .i64 0, .int .i64 0, .slice none 0 0, .int .i64 0] 25)) w.heap.size zD none 0 0 := newDg_b w zD none 0 0
  obtain ⟨W, eW⟩ : ∃ W, w.alloc (.cells #[.int .i64 0, .int .u64 0, .int .i64 0, .int .i64 0, .int .i64 0, .int .i64 0, .slice none 0 0, .int .i64 0] 25) = W := ⟨_, rfl⟩
  obtain ⟨g2, eg2⟩ : ∃ g, w.heap.size = g := ⟨_, rfl⟩
  have hWs : W.heap.size = g2 + 1 := by rw [← eW, size_alloc, eg2]
  rw [eW] at A0 B0
  rw [eg2] at B0
  have HA := hid A0
  have HB0 := hid B0
  have HWs := hid hWs
  have HG2 := hid eg2
  have HS : Hid (Still W W) := hid (Fr.refl _ _)
  clear A0 B0 hWs
  by_cases h1 : (16384 : Int) < (n : Int)
  · go_enter Tryz.func13, Tryz.ntmps13
    go_upto_region 1 with fail
    clear eW
    obtain ⟨m0, m1, m2, m3, m4, m5, m6, m7, mf⟩ := (HB0.out.still HS.out).cells
    dsimp only [zD] at m0 m1 m2 m3 m4 m5 m6 m7
    have HZ := hid (And.intro ((HB0.out.still HS.out).set zD none 0 0) (show Still w (setDg W g2 zD none 0 0) from setDg_fr (HA.out.trans HS.out) g2 zD none 0 0 (.inr (by have := HG2.out; omega))))
    go_wp2_with fail
    exact bodyPost_ret (HZ.out.1.rest rfl _ _ rfl rfl) rfl ⟨none, 0, 0, rfl, OwG.nil _ _, HZ.out.2⟩
  · have h2 : (n : Int) < 8 := by omega
    go_enter Tryz.func13, Tryz.ntmps13
    go_upto_region 1 with fail
    clear eW
    obtain ⟨m0, m1, m2, m3, m4, m5, m6, m7, mf⟩ := (HB0.out.still HS.out).cells
    dsimp only [zD] at m0 m1 m2 m3 m4 m5 m6 m7
    have HZ := hid (And.intro ((HB0.out.still HS.out).set zD none 0 0) (show Still w (setDg W g2 zD none 0 0) from setDg_fr (HA.out.trans HS.out) g2 zD none 0 0 (.inr (by have := HG2.out; omega))))
    go_wp2_with fail
    exact bodyPost_ret (HZ.out.1.rest rfl _ _ rfl rfl) rfl ⟨none, 0, 0, rfl, OwG.nil _ _, HZ.out.2⟩
set_option maxHeartbeats 4000000 in
theorem rdec_main (ao : Option Addr) (n cap : Nat) (b : List UInt8) (hb : ¬ (16384 < b.length ∨ b.length < 8)) (w : World) (hO : OTab w) (hr : Rd w ao n cap b) :
    Calls Tryz.prog 13 #[.slice ao n cap] w fun e w' => DecR w w' (dec16 b) e := by
  have hln := hr.len
  have hsm := hr.small
  have h1 : ¬ (16384 : Int) < (n : Int) := by omega
  have h2 : ¬ (n : Int) < 8 := by omega
  obtain ⟨i0, hi0, hz0, hs10, hb10⟩ := info_parts info_u8
  have hcap := hr.le
  have hwn : IntKind.i64.wrap ((n : Int) - 8) = (n : Int) - 8 := wr64 (by omega) (by omega)
  have hsu : ∀ W' : World, (Instr.slice 31 (.slice ao n cap) none (some (.int .i64 ((n : Int) - 8))) none).run Tryz.prog W' = .ok (.slice ao (n - 8) cap) W' := fun W' => by
    have := run_upto (P := Tryz.prog) W' 31 5 i0 Tryz.underlying31 hi0 hs10 .i64 ao n cap ((n : Int) - 8) (by omega) (by omega)
    rw [this, show ((n : Int) - 8).toNat = n - 8 by omega]
  have HRa : Hid (∀ u, Still w u → Rd u ao (n - 8) cap (b.take (n - 8))) := hid (fun u hu => (hr.take (by omega)).still hu)
  have HRb : Hid (∀ u, Still w u → Rd u ao n cap b) := hid (fun u hu => hr.still hu)
  have HOT : Hid (∀ u, Still w u → OTab u) := hid (fun u hu => hO.still hu)
  have HLb := hid hln
  have HBn := hid hb
  have hbk : b = b.take (n - 8) ++ b.drop (n - 8) := (List.take_append_drop _ _).symm
  obtain ⟨X, eX⟩ : ∃ X, b.take (n - 8) = X := ⟨_, rfl⟩
  obtain ⟨Y, eY⟩ : ∃ Y, b.drop (n - 8) = Y := ⟨_, rfl⟩
  have HXY : Hid (b.take (b.length - 8) = X ∧ b.drop (b.length - 8) = Y ∧ b = X ++ Y) := hid ⟨by rw [hln]; exact eX, by rw [hln]; exact eY, by rw [eX, eY] at hbk; exact hbk⟩
  rw [eX] at HRa
  have hn14 : n ≤ 16384 := by omega
  have A0 := Still.alloc w (.cells #[.int .i64 0, .int .u64 0, .int .i64 0, .int .i64 0, .int .i64 0, .int .i64 0, .slice none 0 0, .int .i64 0] 25)
  have B0 : Dgb (w.alloc (.cells #[.int .i64 0, .int .u64 0, .int .i64 0, .int .i64 0, .int .i64 0, .int .i64 0, .slice none 0 0, .int .i64 0] 25)) w.heap.size zD none 0 0 := newDg_b w zD none 0 0
  obtain ⟨W, eW⟩ : ∃ W, w.alloc (.cells #[.int .i64 0, .int .u64 0, .int .i64 0, .int .i64 0, .int .i64 0, .int .i64 0, .slice none 0 0, .int .i64 0] 25) = W := ⟨_, rfl⟩
  obtain ⟨g2, eg2⟩ : ∃ g, w.heap.size = g := ⟨_, rfl⟩
  have hWs : W.heap.size = g2 + 1 := by rw [← eW, size_alloc, eg2]
  rw [eW] at A0 B0
  rw [eg2] at B0
  have HA := hid A0
  have HB0 := hid B0
  have HWs := hid hWs
  have HG2 := hid eg2
  have HSl := hid (fun (u : World) (hu : Still w u) => rseal_any ao (n - 8) cap X u (HRa.out u hu) (by omega))
  rw [show n - 8 + 8 = n by omega] at HSl
  clear A0 B0 hWs hr hO hb hbk eX eY
  go_enter Tryz.func13, Tryz.ntmps13
  go_upto_region 1 with fail
  clear eW
  go_wp2_with fail
  refine (HSl.out _ HA.out).mono ?_
  rintro e w1 ⟨ao1, cap1, he, ho1, h1s, _⟩
  rw [he]
  have HS1 := hid h1s
  have s1 := run_string (P := Tryz.prog) w1 31 5 9 Tryz.underlying31 Tryz.underlying5 Tryz.underlying9 ho1.rd
  have s2 := run_string (P := Tryz.prog) w1 31 5 9 Tryz.underlying31 Tryz.underlying5 Tryz.underlying9 (HRb.out _ (HA.out.trans h1s))
  clear he ho1 h1s HSl
  by_cases hs : sumZ X = Y
  · have e1 : X ++ sumZ X = b := by rw [hs]; exact HXY.out.2.2.symm
    rw [e1] at s1
    have HSs : Hid (sumZ (b.take (b.length - 8)) = b.drop (b.length - 8)) := hid (by rw [HXY.out.1, HXY.out.2.1]; exact hs)
    obtain ⟨T, eT⟩ : ∃ T, (⟨b.toArray⟩ : ByteArray) = T := ⟨_, rfl⟩
    rw [eT] at s1 s2
    have HNr := hid (fnew16_any ao (n - 8) cap X w1 (HRa.out _ (HA.out.trans HS1.out)) (by omega))
    clear e1 eT hs
    go_wp2_with fail
    refine HNr.out.mono ?_
    rintro e w2 ⟨p, ao2, cap2, he, hp, hf2, hu2, h2s⟩
    rw [he]
    have A2 := Still.alloc w2 (.cells #[.pointer (some ⟨p, 0, none⟩), .bool true] 65)
    have hE : Ez (w2.alloc (.cells #[.pointer (some ⟨p, 0, none⟩), .bool true] 65)) w2.heap.size p ⟨X, 0, false⟩ := ⟨heap_alloc_new w2 _, ⟨ao2, n - 8, cap2, X, 0, hf2.still A2, rfl, hu2.kept A2 (fun _ _ e => e)⟩, by have := hf2.lt; omega⟩
    have hS2 := (HS1.out.trans h2s).trans A2
    have hpq : W.heap.size ≤ w2.heap.size ∧ W.heap.size ≤ p := ⟨(HS1.out.trans h2s).size, by have := HS1.out.size; omega⟩
    obtain ⟨W2, eW2⟩ : ∃ W, w2.alloc (.cells #[.pointer (some ⟨p, 0, none⟩), .bool true] 65) = W := ⟨_, rfl⟩
    obtain ⟨q, eq⟩ : ∃ q, w2.heap.size = q := ⟨_, rfl⟩
    rw [eW2] at hE hS2
    rw [eq] at hE hpq
    have HS2 := hid hS2
    have HPq := hid hpq
    have HFs : Hid (∀ u, Fr (RF q p) W2 u → Still W u) := hid (fun u hu => Fr.trans HS2.out hu (fun k hk e => by have := HPq.out; rcases e with e | e <;> omega))
    have HD := hid (edg_any q p X W2 (fun u hu => HOT.out u (HA.out.trans (HFs.out u hu))) hE)
    have HZs : Hid (W.heap.size ≤ W2.heap.size) := hid hS2.size
    have HCs := hid (eDg_cs ⟨X, 0, false⟩)
    clear he hp hf2 hu2 h2s A2 hE hS2 hpq HNr s1 s2
    cases hsd : saysD X with
    | none =>
      have hy := says_no par_edg hsd
      have HR : Hid (dec16 b = (zD, 160)) := hid (dec_none HBn.out HSs.out (by rw [HXY.out.1]; exact hsd))
      obtain ⟨D, eD⟩ : ∃ D, eDgM ⟨X, 0, false⟩ = D := ⟨_, rfl⟩
      rw [eD] at HD hy HCs
      rw [hy] at HD
      clear hsd eD hy
      go_wp2_with fail
      refine HD.out.mono ?_
      rintro e w3 ⟨co, cn, c3, he, ho3, h3⟩
      rw [he]
      have A3 := Still.alloc w3 (.cells (dgc D.1 co cn c3) 25)
      have HS3 := hid ((HFs.out _ h3.f).trans A3)
      obtain ⟨_, k1, _⟩ := (h3.r.still A3).cells
      dsimp only at k1
      clear he ho3 h3 A3 HD
      go_upto_region 9 with fail
      obtain ⟨w4, e4⟩ : ∃ u, w3.alloc (.cells (dgc D.1 co cn c3) 25) = u := ⟨_, rfl⟩
      rw [e4] at HS3 k1 ⊢
      clear e4
      obtain ⟨m0, m1, m2, m3, m4, m5, m6, m7, mf⟩ := (HB0.out.still HS3.out).cells
      dsimp only [zD] at m0 m1 m2 m3 m4 m5 m6 m7
      have HZ := hid (And.intro ((HB0.out.still HS3.out).set zD none 0 0) (show Still w (setDg w4 g2 zD none 0 0) from setDg_fr (HA.out.trans HS3.out) g2 zD none 0 0 (.inr (by have := HG2.out; omega))))
      go_wp2_with fail
      rw [HR.out]
      exact bodyPost_ret (HZ.out.1.rest rfl _ _ rfl rfl) rfl ⟨none, 0, 0, rfl, OwG.nil _ _, HZ.out.2⟩
    | some d =>
      obtain ⟨hd1, hy⟩ := says_yes par_edg hsd
      have HR : Hid (dec16 b = if okD d then (d, 0) else (zD, 162)) := hid (dec_some HBn.out HSs.out (by rw [HXY.out.1]; exact hsd))
      obtain ⟨D, eD⟩ : ∃ D, eDgM ⟨X, 0, false⟩ = D := ⟨_, rfl⟩
      rw [eD] at HD hy HCs hd1
      rw [hy, hd1] at HD
      rw [hd1] at HCs
      clear hsd eD hy hd1
      go_wp2_with fail
      refine HD.out.mono ?_
      rintro e w3 ⟨co, cn, c3, he, ho3, h3⟩
      rw [he]
      have hcn : cn = d.cs.length := ho3.len16
      subst hcn
      have A3 := Still.alloc w3 (.cells (dgc d co d.cs.length c3) 25)
      have HS3 := hid ((HFs.out _ h3.f).trans A3)
      have HO3 := hid (ho3.still A3)
      have hv := newDg_b w3 d co d.cs.length c3
      obtain ⟨_, k1, _⟩ := (h3.r.still A3).cells
      dsimp only at k1
      unfold newDg at hv
      have HV := hid hv
      clear he ho3 h3 A3 HD hv
      go_upto_region 9 with fail
      obtain ⟨w4, e4⟩ : ∃ u, w3.alloc (.cells (dgc d co d.cs.length c3) 25) = u := ⟨_, rfl⟩
      obtain ⟨g7, eg7⟩ : ∃ g, w3.heap.size = g := ⟨_, rfl⟩
      rw [e4] at HS3 k1 HO3 HV ⊢
      rw [eg7] at HV ⊢
      clear e4 eg7
      have HCk := hid (rchkd_any d co d.cs.length c3 w4 (HOT.out _ (HA.out.trans HS3.out)) (HO3.out.rdz (by have := HCs.out; omega)))
      obtain ⟨v0, v1, v2, v3, v4, v5, v6, v7, _⟩ := HV.out.cells
      cases hok : okD d with
      | false =>
        rw [show chkD d = 162 by unfold chkD; rw [hok]; rfl] at HCk
        have HR : Hid (dec16 b = (zD, 162)) := hid (by rw [HR.out, hok]; rfl)
        clear hok
        go_wp2_with fail
        refine HCk.out.mono ?_
        rintro e w5 ⟨he, h5⟩
        rw [he]
        have HS5 := hid (HS3.out.trans h5)
        clear he h5 HCk k1 v0 v1 v2 v3 v4 v5 v6 v7
        obtain ⟨m0, m1, m2, m3, m4, m5, m6, m7, mf⟩ := (HB0.out.still HS5.out).cells
        dsimp only [zD] at m0 m1 m2 m3 m4 m5 m6 m7
        have HZ := hid (And.intro ((HB0.out.still HS5.out).set zD none 0 0) (show Still w (setDg w5 g2 zD none 0 0) from setDg_fr (HA.out.trans HS5.out) g2 zD none 0 0 (.inr (by have := HG2.out; omega))))
        go_wp2_with fail
        rw [HR.out]
        exact bodyPost_ret (HZ.out.1.rest rfl _ _ rfl rfl) rfl ⟨none, 0, 0, rfl, OwG.nil _ _, HZ.out.2⟩
      | true =>
        rw [show chkD d = 0 by unfold chkD; rw [hok]; rfl] at HCk
        have HR : Hid (dec16 b = (d, 0)) := hid (by rw [HR.out, hok]; rfl)
        clear hok
        go_wp2_with fail
        refine HCk.out.mono ?_
        rintro e w5 ⟨he, h5⟩
        rw [he]
        have HS5 := hid (HS3.out.trans h5)
        have HO5 := hid (HO3.out.still h5)
        have HV5 := hid (HV.out.still h5)
        clear he h5 HCk k1 v0 v1 v2 v3 v4 v5 v6 v7
        obtain ⟨v0, v1, v2, v3, v4, v5, v6, v7, _⟩ := HV5.out.cells
        obtain ⟨m0, m1, m2, m3, m4, m5, m6, m7, mf⟩ := (HB0.out.still HS5.out).cells
        have hfz := setDg_fr (Fr.refl (fun k => k = g2) w5) g2 d co d.cs.length c3 (.inl rfl)
        have HZ := hid (And.intro ((HB0.out.still HS5.out).set d co d.cs.length c3) (And.intro (show Still w (setDg w5 g2 d co d.cs.length c3) from setDg_fr (HA.out.trans HS5.out) g2 d co d.cs.length c3 (.inr (by have := HG2.out; omega))) (HO5.out.keep hfz (fun k hk e => by have := (HO5.out.block e).1; have hk' : k = g2 := hk; have := HWs.out; have := HZs.out; omega))))
        clear hfz
        go_wp2_with fail
        rw [HR.out]
        exact bodyPost_ret (HZ.out.1.rest rfl _ _ rfl rfl) rfl ⟨co, _, c3, rfl, HZ.out.2.2.less (by have := HWs.out; have := HZs.out; have := HG2.out; omega), HZ.out.2.1⟩
  · have HR : Hid (dec16 b = (zD, 161)) := hid (dec_sum HBn.out (by rw [HXY.out.1, HXY.out.2.1]; exact hs))
    have hnq : (⟨(X ++ sumZ X).toArray⟩ : ByteArray) ≠ ⟨b.toArray⟩ := by
      intro e
      have e2 : X ++ sumZ X = b := by
        have := congrArg (fun a : ByteArray => a.data.toList) e
        simpa using this
      rw [HXY.out.2.2] at e2
      exact hs (List.append_cancel_left e2)
    have hne : ((⟨(X ++ sumZ X).toArray⟩ : ByteArray).toList == (⟨b.toArray⟩ : ByteArray).toList) = false := by
      rw [Bool.eq_false_iff]
      intro k
      rw [beq_iff_eq, ByteArray.toList_eq, ByteArray.toList_eq] at k
      exact hnq (congrArg ByteArray.mk (Array.toList_inj.1 k))
    obtain ⟨T, eT⟩ : ∃ T, (⟨b.toArray⟩ : ByteArray) = T := ⟨_, rfl⟩
    obtain ⟨T', eT'⟩ : ∃ T, (⟨(X ++ sumZ X).toArray⟩ : ByteArray) = T := ⟨_, rfl⟩
    rw [eT] at s2 hne hnq
    rw [eT'] at s1 hne hnq
    clear eT eT' hs
    obtain ⟨m0, m1, m2, m3, m4, m5, m6, m7, mf⟩ := (HB0.out.still HS1.out).cells
    dsimp only [zD] at m0 m1 m2 m3 m4 m5 m6 m7
    have HZ := hid (And.intro ((HB0.out.still HS1.out).set zD none 0 0) (show Still w (setDg w1 g2 zD none 0 0) from setDg_fr (HA.out.trans HS1.out) g2 zD none 0 0 (.inr (by have := HG2.out; omega))))
    go_wp2_with fail
    rw [HR.out]
    exact bodyPost_ret (HZ.out.1.rest rfl _ _ rfl rfl) rfl ⟨none, 0, 0, rfl, OwG.nil _ _, HZ.out.2⟩
theorem rdec16_any (ao : Option Addr) (n cap : Nat) (b : List UInt8) (w : World) (hO : OTab w) (hr : Rd w ao n cap b) :
    Calls Tryz.prog 13 #[.slice ao n cap] w fun e w' => DecR w w' (dec16 b) e := by
  by_cases hb : 16384 < b.length ∨ b.length < 8
  · rw [dec_len hb]
    rw [hr.len] at hb
    exact rdec_len ao n cap hb hr.small w
  · exact rdec_main ao n cap b hb w hO hr
end Go.Proofs.YtaaongbdincimaaGreatDoor
