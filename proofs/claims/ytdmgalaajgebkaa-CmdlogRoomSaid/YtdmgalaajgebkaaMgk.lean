/- The program's ring.put. -/
import Derived.Test.YtdmgalaajgebkaaMgj
import Derived.Test.YtdmgalaajgebkaaQvg
namespace Go.Proofs.Ytdmgalaajgebkaa
open Go.RowKit
set_option maxRecDepth 100000

theorem hasK_take {R : List En} (h : Srt R) {k : Nat} (hk : k < R.length) : hasK (att R k) (R.take k) = false := by
  unfold hasK
  rw [List.any_eq_false]
  intro y hy
  obtain ⟨t, ht, rfl⟩ := att_of_mem hy
  have ht' : t < k := by simp at ht; omega
  have e : att (R.take k) t = att R t := by unfold att; rw [List.getD_eq_getElem?_getD, List.getD_eq_getElem?_getD, List.getElem?_take_of_lt ht']
  have := srt_at h t k ht' hk
  rw [e]
  rw [kc_lt] at this
  simp only [decide_eq_true_eq]
  rw [kc_eq]
  omega
set_option maxHeartbeats 4000000 in
theorem cm_ringput (s : Lgs) (B p i : Nat) (vs : Nat → Value) (x : En) (R : List En) (hf : 0 ≤ x.fr ∧ x.fr ≤ 9223372036854775807) (hi : x.fr % 112 = (i : Int)) (hR : Srt R) (hl : R.length ≤ 1000) (hx : hasK x R = false) (w : World) (hv : OwG KE enT w B (vs i) R) (hb : w.heap[p]? = some (.cells (lcs s vs) lgT (0, 0))) : Calls Try.prog 40 #[.pointer (some ⟨p, 3, none⟩), ev x] w fun e w' => e = .returned (.tuple #[]) ∧ ∃ v' R', R'.Perm (R ++ [x]) ∧ Srt R' ∧ OwG KE enT w' w.heap.size v' R' ∧ w'.heap[p]? = some (.cells (lcs s (upV vs i v')) lgT (0, 0)) ∧ Fr (fun k => k = p) w w' := by
  have hil : i < 112 := by omega
  have hpw : p < w.heap.size := block_lt hb
  obtain ⟨ao, cap, ev', _⟩ := hv.slice
  have A0 := Still.alloc w (.cells (ecs x) enT)
  obtain ⟨W0, eW0⟩ : ∃ W, newE w x = W := ⟨_, rfl⟩
  obtain ⟨b0, eb0⟩ : ∃ g, w.heap.size = g := ⟨_, rfl⟩
  have HX0 : Hid (Eb W0 b0 x) := hid (by rw [← eW0, ← eb0]; exact newE_eb w x)
  have HS0 : Hid (Still w W0) := hid (by rw [← eW0]; exact A0)
  have HZ0 : Hid (W0.heap.size = w.heap.size + 1) := hid (by rw [← eW0]; simp)
  have HNQ := hid (fun w => qnew_any w)
  have HQ1 := hid (newQ_qk W0 W0.heap.size (Nat.le_refl _))
  have HA1 := hid (Still.alloc W0 (.cells #[.slice none 0 0] 90))
  obtain ⟨W1, eW1⟩ : ∃ W, newQ W0 = W := ⟨_, rfl⟩
  obtain ⟨q, eq⟩ : ∃ g, W0.heap.size = g := ⟨_, rfl⟩
  rw [show W0.alloc (.cells #[.slice none 0 0] 90) = W1 from eW1] at HA1
  rw [eW1] at HQ1
  rw [eq] at HQ1 HZ0
  have HEq := hid eq
  have hci : ∀ u, Still W0 u → u.cell? ⟨p, 3 + i, none⟩ = some (.slice ao R.length cap) := fun u hu => by
    rw [cell_of_row _ _ _ _ _ _ (hu.kept_still (HS0.out.kept_still hb)), lcs_at _ _ hil, ev']
  have HAt := hid (fun u (hu : Still W0 u) => cm_at p R.length cap i ao x.fr hf hi u (hci u hu))
  have HR : Hid (RdG KE w ao R.length R) := hid (by
    rw [ev'] at hv
    exact OwG.rd (M := []) (by rw [List.append_nil]; exact hv) (by omega))
  have HSR := hid hR
  have HXR := hid hx
  have HBk := hid hb
  have HCi := hid hci
  obtain ⟨n, en⟩ : ∃ n, R.length = n := ⟨_, rfl⟩
  have HN := hid en
  rw [en] at HAt HR hl
  rw [en] at HCi
  obtain ⟨c0, c1, c2, c3, c4, c5, c6, c7, _⟩ := (HX0.out.still HA1.out).cells
  have hPl := hid (fun w => cm_place x.fr hf w)
  rw [hi] at hPl
  have hi0 : (0 : Int) ≤ (i : Int) := by omega
  have hi1 : (i : Int) < 112 := by omega
  simp only [newE] at eW0
  have HB0 := hid eb0
  clear A0 hv hb hR hx hf hi ev' hci en
  go_enter Try.func40, Try.ntmps40
  go_wp2_with fail
  refine (HNQ.out _).mono ?_
  rintro e w1 ⟨he, hw⟩
  rw [he, hw, eW1, eq]
  clear he hw w1 HNQ eW1 eW0
  clear eb0 eq
  go_wp2_with fail
  refine (HAt.out _ HA1.out).mono ?_
  rintro e w2 ⟨he, h2⟩
  rw [he]
  have HQ2 := hid (HQ1.out.still h2)
  have HS2 := hid (HA1.out.trans h2)
  obtain ⟨L0, eL0⟩ : ∃ L : List En, [] = L := ⟨_, rfl⟩
  have HL0 : Hid (Qu L0 ∧ L0.Perm (R.take 0)) := hid (by rw [← eL0]; exact ⟨Qu.nil, by simp⟩)
  rw [eL0] at HQ2
  clear he h2 HQ1 HA1 HAt c0 c1 c2 c3 c4 c5 c6 c7 eL0
  go_wp2_with fail
  go_loopw [14] (fun u wr => ∃ k : Nat, k ≤ n ∧ u = .int .i64 (k : Int) ∧ Hid (Still W0 wr ∧ ∃ v L, Qk wr q q v L ∧ Qu L ∧ L.Perm (R.take k))) (fun u _ => n - (intOf u).toNat)
  case atStart => exact ⟨0, by omega, rfl, hid ⟨HS2.out, _, L0, HQ2.out, HL0.out.1, HL0.out.2⟩⟩
  case round =>
    obtain ⟨k, hk, rfl, HK⟩ := hrel
    clear HS2 HQ2 HL0
    obtain ⟨hsr, v, L, hq, hL, hp⟩ := HK.out
    have hqz : q ≤ wr.heap.size := Nat.le_of_lt (block_lt hq.bk)
    by_cases hkn : k < n
    · have hlt : (k : Int) < (n : Int) := by omega
      obtain ⟨g, o, rfl⟩ := HR.out.at (by omega)
      obtain ⟨d0, d1, d2, d3, d4, d5, d6, d7⟩ := rdE (HR.out.still (HS0.out.trans hsr)) hkn
      have HH := hid (hasK_take HSR.out (k := k) (by have := HN.out; omega))
      have HT := hid (take_next (S := R) (k := k) (by have := HN.out; omega))
      obtain ⟨y, ey⟩ : ∃ y, att R k = y := ⟨_, rfl⟩
      rw [ey] at d0 d1 d2 d3 d4 d5 d6 d7 HH HT
      have A1 := Still.alloc wr (.cells (ecs y) enT)
      obtain ⟨f0, f1, f2, f3, f4, f5, f6, f7, _⟩ := (newE_eb wr y).cells
      have HP := hid (qPush_any y L q q v hL (newE wr y) (by rw [size_alloc]; omega) (hq.still A1))
      have HQ3 := hid (hq.still A1)
      have HS3 := hid (hsr.trans A1)
      have HPm := hid hp
      have HLk : Hid ((R.take k).length < 4096) := hid (by simp; omega)
      clear A1 ey hq hp hsr hL HK
      go_wp2_with fail
      refine HP.out.mono ?_
      rintro e w3 ⟨c, v3, L3, he, hps, hq3, hf3, _⟩
      rw [he]
      obtain ⟨_, hL3, hp3⟩ := hps.new HPm.out HH.out HLk.out
      have HK3 : Hid (Still W0 w3 ∧ ∃ v L, Qk w3 q q v L ∧ Qu L ∧ L.Perm (R.take (k + 1))) := hid ⟨HQ3.out.stl HS3.out (Nat.le_of_eq HEq.out) hf3, v3, L3, hq3, hL3, by rw [HT.out]; exact hp3⟩
      clear he hps hq3 hf3 hL3 hp3 HP HQ3 HS3 HPm HH HT HLk d0 d1 d2 d3 d4 d5 d6 d7 f0 f1 f2 f3 f4 f5 f6 f7
      go_wp2_with fail
      go_roundw
      case rel => exact ⟨k + 1, by omega, by go_num, HK3⟩
      case measure => simp [intOf]; omega
    · have hge : ¬ (k : Int) < (n : Int) := by omega
      have hp2 : L.Perm R := by rwa [List.take_of_length_le (by have := HN.out; omega)] at hp
      obtain ⟨c0, c1, c2, c3, c4, c5, c6, c7, _⟩ := (HX0.out.still hsr).cells
      have HP := hid (qPush_any x L q q v hL wr hqz hq)
      have HQ3 := hid hq
      have HS3 := hid hsr
      have HPm := hid hp2
      have HLk : Hid (R.length < 4096) := hid (by have := HN.out; omega)
      clear hp hp2 hsr hL hq HK hkn
      go_wp2_with fail
      refine HP.out.mono ?_
      rintro e w3 ⟨c, v3, L3, he, hps, hq3, hf3, _⟩
      rw [he]
      obtain ⟨_, hL3, hp3⟩ := hps.new HPm.out HXR.out HLk.out
      have HS4 : Hid (Still W0 w3) := hid (HQ3.out.stl HS3.out (Nat.le_of_eq HEq.out) hf3)
      have HAll : Hid (∀ u, Still w3 u → Calls Try.prog 49 #[.pointer (some ⟨q, 0, none⟩)] u fun e w' => ∃ v' L', e = .returned v' ∧ L'.Perm L3 ∧ Srt L' ∧ OwG KE enT w' u.heap.size v' L' ∧ Still u w') := hid (fun u hu => qAll_any L3 q q v3 hL3 u (hq3.still hu))
      have HP3 := hid hp3
      have e0 := (HX0.out.still HS4.out).cells.1
      clear he hps hq3 hf3 hL3 hp3 HP HQ3 HS3 HPm HLk c0 c1 c2 c3 c4 c5 c6 c7
      have hbp : p ≠ b0 := by have := HB0.out; omega
      have hbp' : b0 ≠ p := fun e => hbp e.symm
      go_upto_region 9 with fail
      go_region_held3 (fun w' => w'.cell? ⟨b0, 0, none⟩ = some (.int .i64 x.fr)) (go_keep)
        (first
          | (go_at_call 50
             refine (hPl.out _).mono ?_
             rintro e u ⟨he, hu⟩
             rw [he, hu]
             clear he hu)
          | (go_at_call 49
             refine (HAll.out _ (by repeat (first | exact Fr.refl _ _ | refine Fr.drew ?_ | refine Fr.alloc ?_ _))).mono ?_
             rintro e x1 ⟨v1, L1, rfl, p1, s1, o1, g1⟩
             have HX1 : Hid (Still w3 x1) := hid (by
               refine Still.trans ?_ g1
               repeat (first | exact Fr.refl _ _ | refine Fr.drew ?_ | refine Fr.alloc ?_ _))
             have k0 := (HX0.out.still (HS4.out.trans HX1.out)).cells.1
             have hzz : w.heap.size ≤ w3.heap.size := (HS0.out.trans HS4.out).size
             have HR1 : Hid (L1.Perm L3 ∧ Srt L1 ∧ OwG KE enT x1 w.heap.size v1 L1) := hid (And.intro p1 (And.intro s1 (o1.less (by first | exact hzz | (simp only [World.drew]; exact hzz) | (simp; omega)))))
             clear hzz
             have k1 := HCi.out _ (HS4.out.trans HX1.out)
             have k2 : ∀ o, x1.frozen? ⟨p, o, none⟩ = false := fun o => frozen_of_row x1 p o _ _ ((HS4.out.trans HX1.out).kept_still (HS0.out.kept_still HBk.out))
             obtain ⟨ao1, cap1, ev1, _⟩ := o1.slice
             subst ev1
             clear p1 s1 o1 g1))
      all_goals
        go_wp2_with fail
        go_end0
        have hS1 := HS0.out.trans (HS4.out.trans HX1.out)
        have hb1 := hS1.kept_still HBk.out
        refine ⟨rfl, .slice ao1 L1.length cap1, L1, HR1.out.1.trans HP3.out, HR1.out.2.1, ?_, ?_, ?_⟩
        · refine HR1.out.2.2.keep (F := fun k => k = p) ((Fr.refl _ x1).setCell _ _ (.inl rfl)) (fun k hk e => ?_)
          have := (HR1.out.2.2.block e).1
          omega
        · rw [heap_setCell_same x1 p (3 + i) _ _ _ hb1, lcs_set _ _ hil]
        · exact Fr.setCell (hS1.mono (fun _ _ e => e.elim)) _ _ (.inl rfl)
end Go.Proofs.Ytdmgalaajgebkaa
