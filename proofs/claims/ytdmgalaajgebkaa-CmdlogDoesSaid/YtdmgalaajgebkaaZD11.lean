/- Parts of the proof, laid end to end. -/
import Derived.Test.YtdmgalaajgebkaaZD07
import Derived.Test.YtdmgalaajgebkaaZD10
import Derived.Test.YtdmgalaajgebkaaZD04
namespace Go.Proofs.Ytdmgalaajgebkaa
open Go.RowKit
set_option maxRecDepth 100000
theorem hasK_take {R : List En} (h : Srt R) {k : Nat} (hk : k < R.length) : hasK (att R k) (R.take k) = false := by
 unfold hasK
 rw [List.any_eq_false]
 intro y hy
 obtain ⟨t, ht, rfl⟩ := att_of_mem hy
 have ht' : t < k := by simp at ht; omega
 have e : att (R.take k) t = att R t := by unfold att; rw [List.getD_eq_getElem?_getD, List.getD_eq_getElem?_getD, List.getElem?_take_of_lt ht']
 have := srt_at h t k ht' hk
 rw [e]
 rw [kc_lt] at this
 simp only [decide_eq_true_eq]
 rw [kc_eq]
 omega
set_option maxHeartbeats 4000000 in
theorem cm_ringput (s : Lgs) (B p i : Nat) (vs : Nat -> Value) (x : En) (R : List En) (hf : 0 <= x.fr /\ x.fr <= 9223372036854775807) (hi : x.fr % 112 = (i : Int)) (hR : Srt R) (hl : R.length <= 1000) (hx : hasK x R = false) (w : World) (hv : OwG KE enT w B (vs i) R) (hb : w.heap[p]? = some (.cells (lcs s vs) lgT (0, 0))) : Calls Try.prog 40 #[.pointer (some ⟨p, 3, none⟩), ev x] w fun e w' => e = .returned (.tuple #[]) /\ ∃ v' R', R'.Perm (R ++ [x]) /\ Srt R' /\ OwG KE enT w' w.heap.size v' R' /\ w'.heap[p]? = some (.cells (lcs s (upV vs i v')) lgT (0, 0)) /\ Fr (fun k => k = p) w w' := by
  have hil : i < 112 := by omega
  have hpw : p < w.heap.size := block_lt hb
  obtain ⟨ao, cap, ev', _⟩ := hv.slice
  have A0 := Still.alloc w (.cells (ecs x) enT)
  obtain ⟨W0, eW0⟩ : ∃ W, newE w x = W := ⟨_, rfl⟩
  obtain ⟨b0, eb0⟩ : ∃ g, w.heap.size = g := ⟨_, rfl⟩
  have HX0 : Hid (Eb W0 b0 x) := hid (by rw [<- eW0, <- eb0]; exact newE_eb w x)
  have HS0 : Hid (Still w W0) := hid (by rw [<- eW0]; exact A0)
  have HZ0 : Hid (W0.heap.size = w.heap.size + 1) := hid (by rw [<- eW0]; simp)
  have HNQ := hid (fun w => qnew_any w)
  have HQ1 := hid (newQ_qk W0 W0.heap.size (Nat.le_refl _))
  have HA1 := hid (Still.alloc W0 (.cells #[.slice none 0 0] 90))
  obtain ⟨W1, eW1⟩ : ∃ W, newQ W0 = W := ⟨_, rfl⟩
  obtain ⟨q, eq⟩ : ∃ g, W0.heap.size = g := ⟨_, rfl⟩
  rw [show W0.alloc (.cells #[.slice none 0 0] 90) = W1 from eW1] at HA1
  rw [eW1] at HQ1
  rw [eq] at HQ1 HZ0
  have HEq := hid eq
  have hci : ∀ u, Still W0 u -> u.cell? ⟨p, 3 + i, none⟩ = some (.slice ao R.length cap) := fun u hu => by
    rw [cell_of_row _ _ _ _ _ _ (hu.kept_still (HS0.out.kept_still hb)), lcs_at _ _ hil, ev']
  have HAt := hid (fun u (hu : Still W0 u) => cm_at p R.length cap i ao x.fr hf hi u (hci u hu))
  have HR : Hid (RdG KE w ao R.length R) := hid (by
    rw [ev'] at hv
    exact OwG.rd (M := []) (by rw [List.append_nil]; exact hv) (by omega))
  have HSR := hid hR
  have HXR := hid hx
  have HBk := hid hb
  have HCi := hid hci
  obtain ⟨n, en⟩ : ∃ n, R.length = n := ⟨_, rfl⟩
  have HN := hid en
  rw [en] at HAt HR hl
  rw [en] at HCi
  obtain ⟨c0, c1, c2, c3, c4, c5, c6, c7, _⟩ := (HX0.out.still HA1.out).cells
  have hPl := hid (fun w => cm_place x.fr hf w)
  rw [hi] at hPl
  have hi0 : (0 : Int) <= (i : Int) := by omega
  have hi1 : (i : Int) < 112 := by omega
  simp only [newE] at eW0
  have HB0 := hid eb0
  clear A0 hv hb hR hx hf hi ev' hci en
  go_enter Try.func40, Try.ntmps40
  go_wp2_with fail
  refine (HNQ.out _).mono ?_
  rintro e w1 ⟨he, hw⟩
  rw [he, hw, eW1, eq]
  clear he hw w1 HNQ eW1 eW0
  clear eb0 eq
  go_wp2_with fail
  refine (HAt.out _ HA1.out).mono ?_
  rintro e w2 ⟨he, h2⟩
  rw [he]
  have HQ2 := hid (HQ1.out.still h2)
  have HS2 := hid (HA1.out.trans h2)
  obtain ⟨L0, eL0⟩ : ∃ L : List En, [] = L := ⟨_, rfl⟩
  have HL0 : Hid (Qu L0 /\ L0.Perm (R.take 0)) := hid (by rw [<- eL0]; exact ⟨Qu.nil, by simp⟩)
  rw [eL0] at HQ2
  clear he h2 HQ1 HA1 HAt c0 c1 c2 c3 c4 c5 c6 c7 eL0
  go_wp2_with fail
  go_loopw [14] (fun u wr => ∃ k : Nat, k <= n /\ u = .int .i64 (k : Int) /\ Hid (Still W0 wr /\ ∃ v L, Qk wr q q v L /\ Qu L /\ L.Perm (R.take k))) (fun u _ => n - (intOf u).toNat)
  case atStart => exact ⟨0, by omega, rfl, hid ⟨HS2.out, _, L0, HQ2.out, HL0.out.1, HL0.out.2⟩⟩
  case round =>
    obtain ⟨k, hk, rfl, HK⟩ := hrel
    clear HS2 HQ2 HL0
    obtain ⟨hsr, v, L, hq, hL, hp⟩ := HK.out
    have hqz : q <= wr.heap.size := Nat.le_of_lt (block_lt hq.bk)
    by_cases hkn : k < n
    · have hlt : (k : Int) < (n : Int) := by omega
      obtain ⟨g, o, rfl⟩ := HR.out.at (by omega)
      obtain ⟨d0, d1, d2, d3, d4, d5, d6, d7⟩ := rdE (HR.out.still (HS0.out.trans hsr)) hkn
      have HH := hid (hasK_take HSR.out (k := k) (by have := HN.out; omega))
      have HT := hid (take_next (S := R) (k := k) (by have := HN.out; omega))
      obtain ⟨y, ey⟩ : ∃ y, att R k = y := ⟨_, rfl⟩
      rw [ey] at d0 d1 d2 d3 d4 d5 d6 d7 HH HT
      have A1 := Still.alloc wr (.cells (ecs y) enT)
      obtain ⟨f0, f1, f2, f3, f4, f5, f6, f7, _⟩ := (newE_eb wr y).cells
      have HP := hid (qPush_any y L q q v hL (newE wr y) (by rw [size_alloc]; omega) (hq.still A1))
      have HQ3 := hid (hq.still A1)
      have HS3 := hid (hsr.trans A1)
      have HPm := hid hp
      have HLk : Hid ((R.take k).length < 4096) := hid (by simp; omega)
      clear A1 ey hq hp hsr hL HK
      go_wp2_with fail
      refine HP.out.mono ?_
      rintro e w3 ⟨c, v3, L3, he, hps, hq3, hf3, _⟩
      rw [he]
      obtain ⟨_, hL3, hp3⟩ := hps.new HPm.out HH.out HLk.out
      have HK3 : Hid (Still W0 w3 /\ ∃ v L, Qk w3 q q v L /\ Qu L /\ L.Perm (R.take (k + 1))) := hid ⟨HQ3.out.stl HS3.out (Nat.le_of_eq HEq.out) hf3, v3, L3, hq3, hL3, by rw [HT.out]; exact hp3⟩
      clear he hps hq3 hf3 hL3 hp3 HP HQ3 HS3 HPm HH HT HLk d0 d1 d2 d3 d4 d5 d6 d7 f0 f1 f2 f3 f4 f5 f6 f7
      go_wp2_with fail
      go_roundw
      case rel => exact ⟨k + 1, by omega, by go_num, HK3⟩
      case measure => simp [intOf]; omega
    · have hge : ¬ (k : Int) < (n : Int) := by omega
      have hp2 : L.Perm R := by rwa [List.take_of_length_le (by have := HN.out; omega)] at hp
      obtain ⟨c0, c1, c2, c3, c4, c5, c6, c7, _⟩ := (HX0.out.still hsr).cells
      have HP := hid (qPush_any x L q q v hL wr hqz hq)
      have HQ3 := hid hq
      have HS3 := hid hsr
      have HPm := hid hp2
      have HLk : Hid (R.length < 4096) := hid (by have := HN.out; omega)
      clear hp hp2 hsr hL hq HK hkn
      go_wp2_with fail
      refine HP.out.mono ?_
      rintro e w3 ⟨c, v3, L3, he, hps, hq3, hf3, _⟩
      rw [he]
      obtain ⟨_, hL3, hp3⟩ := hps.new HPm.out HXR.out HLk.out
      have HS4 : Hid (Still W0 w3) := hid (HQ3.out.stl HS3.out (Nat.le_of_eq HEq.out) hf3)
      have HAll : Hid (∀ u, Still w3 u -> Calls Try.prog 49 #[.pointer (some ⟨q, 0, none⟩)] u fun e w' => ∃ v' L', e = .returned v' /\ L'.Perm L3 /\ Srt L' /\ OwG KE enT w' u.heap.size v' L' /\ Still u w') := hid (fun u hu => qAll_any L3 q q v3 hL3 u (hq3.still hu))
      have HP3 := hid hp3
      have e0 := (HX0.out.still HS4.out).cells.1
      clear he hps hq3 hf3 hL3 hp3 HP HQ3 HS3 HPm HLk c0 c1 c2 c3 c4 c5 c6 c7
      have hbp : p ≠ b0 := by have := HB0.out; omega
      have hbp' : b0 ≠ p := fun e => hbp e.symm
      go_upto_region 9 with fail
      go_region_held3 (fun w' => w'.cell? ⟨b0, 0, none⟩ = some (.int .i64 x.fr)) (go_keep)
        (first
          | (go_at_call 50
             refine (hPl.out _).mono ?_
             rintro e u ⟨he, hu⟩
             rw [he, hu]
             clear he hu)
          | (go_at_call 49
             refine (HAll.out _ (by repeat (first | exact Fr.refl _ _ | refine Fr.drew ?_ | refine Fr.alloc ?_ _))).mono ?_
             rintro e x1 ⟨v1, L1, rfl, p1, s1, o1, g1⟩
             have HX1 : Hid (Still w3 x1) := hid (by
               refine Still.trans ?_ g1
               repeat (first | exact Fr.refl _ _ | refine Fr.drew ?_ | refine Fr.alloc ?_ _))
             have k0 := (HX0.out.still (HS4.out.trans HX1.out)).cells.1
             have hzz : w.heap.size <= w3.heap.size := (HS0.out.trans HS4.out).size
             have HR1 : Hid (L1.Perm L3 /\ Srt L1 /\ OwG KE enT x1 w.heap.size v1 L1) := hid (And.intro p1 (And.intro s1 (o1.less (by first | exact hzz | (simp only [World.drew]; exact hzz) | (simp; omega)))))
             clear hzz
             have k1 := HCi.out _ (HS4.out.trans HX1.out)
             have k2 : ∀ o, x1.frozen? ⟨p, o, none⟩ = false := fun o => frozen_of_row x1 p o _ _ ((HS4.out.trans HX1.out).kept_still (HS0.out.kept_still HBk.out))
             obtain ⟨ao1, cap1, ev1, _⟩ := o1.slice
             subst ev1
             clear p1 s1 o1 g1))
      all_goals
        go_wp2_with fail
        go_end0
        have hS1 := HS0.out.trans (HS4.out.trans HX1.out)
        have hb1 := hS1.kept_still HBk.out
        refine ⟨rfl, .slice ao1 L1.length cap1, L1, HR1.out.1.trans HP3.out, HR1.out.2.1, ?_, ?_, ?_⟩
        · refine HR1.out.2.2.keep (F := fun k => k = p) ((Fr.refl _ x1).setCell _ _ (.inl rfl)) (fun k hk e => ?_)
          have := (HR1.out.2.2.block e).1
          omega
        · rw [heap_setCell_same x1 p (3 + i) _ _ _ hb1, lcs_set _ _ hil]
        · exact Fr.setCell (hS1.mono (fun _ _ e => e.elim)) _ _ (.inl rfl)
end Go.Proofs.Ytdmgalaajgebkaa
namespace Go.Proofs.Ytdmgalaajgebkaa
open Go.RowKit
set_option maxRecDepth 100000
def insE (x : En) (S : List En) : List En := (S.filter fun y => decide (kc y x < 0)) ++ x :: (S.filter fun y => !decide (kc y x < 0))
theorem ins_perm (x : En) (S : List En) : (insE x S).Perm (S ++ [x]) := by
 unfold insE
 have h1 := List.filter_append_perm (fun y => decide (kc y x < 0)) S
 refine List.Perm.trans ?_ (List.Perm.append_right [x] h1)
 rw [List.append_assoc]
 exact List.Perm.append_left _ (List.perm_append_comm (l₁ := [x]))
theorem ins_sorted {x : En} {S : List En} (h : Srt S) (hx : hasK x S = false) : Srt (insE x S) := by
 unfold insE
 refine List.pairwise_append.2 ⟨List.Pairwise.sublist List.filter_sublist h, List.pairwise_cons.2 ⟨fun y hy => ?_, List.Pairwise.sublist List.filter_sublist h⟩, fun a ha b hb => ?_⟩
 ·obtain ⟨hy1, hy2⟩ := List.mem_filter.1 hy
  have n1 : ¬ kc y x < 0 := by simpa using hy2
  have n2 := hasK_false hx y hy1
  rw [Ne, kc_eq] at n2
  rw [kc_lt] at n1 ⊢
  omega
 ·obtain ⟨ha1, ha2⟩ := List.mem_filter.1 ha
  have h1 : kc a x < 0 := by simpa using ha2
  rcases List.mem_cons.1 hb with rfl | hb
  ·exact h1
  ·obtain ⟨hb1, hb2⟩ := List.mem_filter.1 hb
   have n1 : ¬ kc b x < 0 := by simpa using hb2
   have n2 := hasK_false hx b hb1
   rw [Ne, kc_eq] at n2
   rw [kc_lt] at n1 h1 ⊢
   omega
theorem hasK_of_PS {x : En} {S : List En} (h : hasPS x.pe x.se S = false) : hasK x S = false := by
 unfold hasK
 unfold hasPS at h
 rw [List.any_eq_false] at h ⊢
 intro y hy
 have := h y hy
 simp only [decide_eq_true_eq] at this ⊢
 rw [kc_eq]
 omega
theorem plc_perm {S S' : List En} (h : S'.Perm S) (i : Nat) : (plc i S').Perm (plc i S) := h.filter _
def argB (s : Lgs) (x : En) (m : Int) : Bool := inR x.pe s.np && decide (1 <= x.se /\ x.se <= 1099511627776) && inR m s.nr
def putC (s : Lgs) (x : En) (m : Int) : Int := if argB s x m = false then 1 else if kpB s x.fr = false then 190 else if hasPS x.pe x.se s.S = true then 191 else if 3 <= cntF x.fr x.pe s.S then 192 else 0
def putA (s : Lgs) (x : En) (m : Int) : Lgs := if putC s x m = 0 then { s with S := insE (stM x m) s.S } else s
theorem lo_put {s : Lgs} (h : Lo s) {x : En} {m : Int} (h1 : argB s x m = true) (h2 : kpB s x.fr = true) (h3 : hasPS x.pe x.se s.S = false) (h4 : ¬ 3 <= cntF x.fr x.pe s.S) : Lo { s with S := insE (stM x m) s.S } := by
 unfold argB at h1
 simp only [Bool.and_eq_true] at h1
 obtain ⟨⟨a1, a2⟩, a3⟩ := h1
 have a1 : 0 <= x.pe /\ x.pe < s.np := of_decide_eq_true a1
 have a3 : 0 <= m /\ m < s.nr := of_decide_eq_true a3
 have hp := ins_perm (stM x m) s.S
 have mem : ∀ y ∈ insE (stM x m) s.S, y ∈ s.S \/ y = stM x m := fun y hy => by
  have := hp.mem_iff.1 hy
  simpa using this
 refine ⟨h.p, h.r, h.b, ins_sorted h.srt (hasK_of_PS (x := stM x m) h3), fun y hy => ?_, fun y hy => ?_, fun y hy => ?_, fun f p => ?_⟩
 ·rcases mem y hy with hy | rfl
  ·exact h.fr y hy
  ·exact kpB_t h2
 ·rcases mem y hy with hy | rfl
  ·exact h.pe y hy
  ·exact a1
 ·rcases mem y hy with hy | rfl
  ·exact h.ms y hy
  ·exact a3
 ·show (insE (stM x m) s.S).countP _ <= 3
  rw [hp.countP_eq, List.countP_append, List.countP_cons, List.countP_nil, Nat.zero_add]
  have hf := h.few f p
  by_cases e : (stM x m).fr = f /\ (stM x m).pe = p
  ·rw [if_pos (decide_eq_true e)]
   obtain ⟨e1, e2⟩ := e
   have : s.S.countP (fun x => decide (x.fr = f /\ x.pe = p)) = cntF x.fr x.pe s.S := by
    subst e1 e2
    rfl
   omega
  ·rw [if_neg (by simpa using e)]
   omega
theorem Lm.put {w w' : World} {B p i : Nat} {s : Lgs} {vs : Nat -> Value} (h : Lm w B p s vs) {x : En} {m : Int} (h1 : argB s x m = true) (h2 : kpB s x.fr = true) (h3 : hasPS x.pe x.se s.S = false) (h4 : ¬ 3 <= cntF x.fr x.pe s.S) (hi : x.fr % 112 = (i : Int)) (hB : B <= w.heap.size) {v' : Value} {R' : List En} (hp : R'.Perm (plc i s.S ++ [stM x m])) (hs : Srt R') (ho : OwG KE enT w' w.heap.size v' R') (hb : w'.heap[p]? = some (.cells (lcs s (upV vs i v')) lgT (0, 0))) (hfr : Fr (fun k => k = p) w w') : Lm w' B p { s with S := insE (stM x m) s.S } (upV vs i v') /\ ∀ k, Rw (upV vs i v') k -> Rw vs k \/ w.heap.size <= k := by
 have hil : i < 112 := by omega
 have hSr := ins_sorted h.ok.srt (hasK_of_PS (x := stM x m) h3)
 have hpi : ∀ t, (plc t (insE (stM x m) s.S)).Perm (plc t s.S ++ plc t [stM x m]) := fun t => by
  have := plc_perm (ins_perm (stM x m) s.S) t
  unfold plc at this ⊢
  rwa [List.filter_append] at this
 refine ⟨⟨hb, h.lo, fun t ht => ?_, fun a b ha hb' hne k e1 e2 => ?_, lo_put h.ok h1 h2 h3 h4⟩, fun k ⟨t, ht, e⟩ => ?_⟩
 ·show OwG KE enT w' B (upV vs i v' t) (plc t (insE (stM x m) s.S))
  unfold upV
  by_cases e : t = i
  ·subst e
   rw [if_pos rfl]
   have e2 : plc t [stM x m] = [stM x m] := by
    have hi' : (stM x m).fr % 112 = (t : Int) := hi
    unfold plc
    rw [List.filter_cons_of_pos (by simpa using hi')]
    rfl
   have := hpi t
   rw [e2] at this
   rw [srt_eq (plc_srt hSr t) hs (this.trans hp.symm)]
   exact ho.less hB
  ·rw [if_neg e]
   have e2 : plc t [stM x m] = [] := by
    unfold plc
    have : ¬ (stM x m).fr % 112 = (t : Int) := by show ¬ x.fr % 112 = _; omega
    rw [List.filter_cons_of_neg (by simpa using this)]
    rfl
   have := hpi t
   rw [e2, List.append_nil] at this
   rw [srt_eq (plc_srt hSr t) (plc_srt h.ok.srt t) this]
   exact (h.ow t ht).keep hfr (fun k hk e => by subst hk; exact h.pne ⟨t, ht, e⟩)
 ·unfold upV at e1 e2
  by_cases ea : a = i
  ·rw [if_pos ea] at e1
   rw [if_neg (fun e => hne (by rw [ea, e]))] at e2
   have l1 := (ho.block e1).1
   have l2 := ((h.ow b hb').block e2).2
   omega
  ·rw [if_neg ea] at e1
   by_cases eb : b = i
   ·rw [if_pos eb] at e2
    have l1 := (ho.block e2).1
    have l2 := ((h.ow a ha).block e1).2
    omega
   ·rw [if_neg eb] at e2
    exact h.sp a b ha hb' hne k e1 e2
 ·unfold upV at e
  by_cases et : t = i
  ·rw [if_pos et] at e
   exact .inr (ho.block e).1
  ·rw [if_neg et] at e
   exact .inl ⟨t, ht, e⟩
def Cb19 (w : World) (g : Nat) (x : En) : Prop := w.heap[g]? = some (.cells (hcs x) cmT (0, 0))
theorem Cb19.still {w w' : World} {g : Nat} {x : En} (h : Cb19 w g x) (hs : Still w w') : Cb19 w' g x := hs.kept_still h
theorem Cb19.cells {w : World} {g : Nat} {x : En} (h : Cb19 w g x) : w.cell? ⟨g, 0, none⟩ = some (.int .i64 x.fr) /\ w.cell? ⟨g, 1, none⟩ = some (.int .i64 x.pe) /\ w.cell? ⟨g, 2, none⟩ = some (.int .i64 x.se) /\ w.cell? ⟨g, 3, none⟩ = some (.int .i64 x.vb) /\ w.cell? ⟨g, 4, none⟩ = some (.int .i64 x.a) /\ w.cell? ⟨g, 5, none⟩ = some (.int .i64 x.b) /\ w.cell? ⟨g, 6, none⟩ = some (.int .i64 x.c) := by
 refine ⟨?_, ?_, ?_, ?_, ?_, ?_, ?_⟩ <;> (rw [cell_of_row _ _ _ _ _ _ h]; rfl)
structure Pu19 (w w' : World) (B p : Nat) (s : Lgs) (vs : Nat -> Value) : Prop where
 ex : ∃ vs', Lm w' B p s vs' /\ ∀ k, Rw vs' k -> Rw vs k \/ w.heap.size <= k
 fr : Fr (fun k => k = p) w w'
theorem Pu19.same {w w' : World} {B p : Nat} {s : Lgs} {vs : Nat -> Value} (h : Lm w B p s vs) (hs : Still w w') : Pu19 w w' B p s vs := ⟨⟨vs, h.still hs, fun _ hk => .inl hk⟩, hs.mono (fun _ _ e => e.elim)⟩
theorem pe_seat {s : Lgs} {x : En} {m : Int} (h : inR x.pe s.np = false) : putC s x m = 1 := by
 unfold putC argB
 rw [h]
 rfl
theorem pe_arg {s : Lgs} {x : En} {m : Int} (h : argB s x m = false) : putC s x m = 1 := by
 unfold putC
 rw [if_pos h]
theorem putA_no {s : Lgs} {x : En} {m c : Int} (h : putC s x m = c) (hc : c ≠ 0) : putA s x m = s := by
 unfold putA
 rw [if_neg (by rw [h]; exact hc)]
set_option maxHeartbeats 4000000 in
theorem cm_put (s : Lgs) (B p : Nat) (vs : Nat -> Value) (x : En) (m : Int) (w : World) (hB : B <= w.heap.size) (h : Lm w B p s vs) : Calls Try.prog 23 #[.pointer (some ⟨p, 0, none⟩), .agg (hcs x), .int .i64 m] w fun e w' => e = .returned (.int .i64 (putC s x m)) /\ Pu19 w w' B p (putA s x m) vs := by
 have A0 := Still.alloc w (.cells (hcs x) cmT)
 have HX0 : Hid (Cb19 (w.alloc (.cells (hcs x) cmT)) w.heap.size x) := hid (heap_alloc_new w _)
 have HL := hid (h.still A0)
 have HLw := hid h
 have HS0 := hid A0
 have hzw : B <= (w.alloc (.cells (hcs x) cmT)).heap.size := by rw [size_alloc]; omega
 obtain ⟨W, eW⟩ : ∃ W, w.alloc (.cells (hcs x) cmT) = W := ⟨_, rfl⟩
 obtain ⟨g, eg⟩ : ∃ g, w.heap.size = g := ⟨_, rfl⟩
 rw [eW] at HX0 HL HS0 hzw
 rw [eg] at HX0
 have HG := hid eg
 obtain ⟨c0, c1, c2, c3, c4, c5, c6⟩ := HX0.out.cells
 have HSeat := hid (cm_isSeat s B p vs x.pe W HL.out)
 have HRung := hid (cm_isRung s B p vs m W HL.out)
 have HKeep := hid (cm_keeps s B p vs x.fr W HL.out)
 have HHas := hid (cm_has s B p vs x.pe x.se W HL.out)
 obtain ⟨b1, e1⟩ : ∃ b, inR x.pe s.np = b := ⟨_, rfl⟩
 obtain ⟨b2, e2⟩ : ∃ b, inR m s.nr = b := ⟨_, rfl⟩
 obtain ⟨b3, e3⟩ : ∃ b, kpB s x.fr = b := ⟨_, rfl⟩
 obtain ⟨b4, e4⟩ : ∃ b, hasPS x.pe x.se s.S = b := ⟨_, rfl⟩
 rw [e1] at HSeat
 rw [e2] at HRung
 rw [e3] at HKeep
 rw [e4] at HHas
 have HA1 : Hid (b1 = false -> putC s x m = 1) := hid (fun hb => pe_seat (by rw [e1, hb]))
 have HA2 : Hid (¬ (1 <= x.se /\ x.se <= 1099511627776) -> putC s x m = 1) := hid (fun hb => pe_arg (by unfold argB; rw [decide_eq_false hb]; simp))
 have HA3 : Hid (b2 = false -> putC s x m = 1) := hid (fun hb => pe_arg (by unfold argB; rw [e2, hb]; simp))
 have HT : Hid (b1 = true -> (1 <= x.se /\ x.se <= 1099511627776) -> b2 = true -> argB s x m = true) := hid (fun h1 h2 h3 => by unfold argB; rw [e1, h1, e2, h3, decide_eq_true h2]; rfl)
 have HE3 := hid e3
 have HE4 := hid e4
 clear e1 e2 e3 e4 h A0
 cases b1 with
 | false =>
  have HP := hid (HA1.out rfl)
  clear HA1 HA2 HA3 HT HRung HKeep HHas
  go_enter Try.func23, Try.ntmps23
  go_wp2_with fail
  refine HSeat.out.mono ?_
  rintro e w1 ⟨he, hw⟩
  rw [he, hw]
  clear he hw w1 HSeat
  go_wp2_with fail
  go_ret
  rw [HP.out, putA_no HP.out (by decide)]
  exact ⟨rfl, Pu19.same HLw.out HS0.out⟩
 | true =>
  clear HA1
  by_cases h1 : x.se < 1
  ·have HP := hid (HA2.out (by omega))
   clear HA2 HA3 HT HRung HKeep HHas
   go_enter Try.func23, Try.ntmps23
   go_wp2_with fail
   refine HSeat.out.mono ?_
   rintro e w1 ⟨he, hw⟩
   rw [he, hw]
   clear he hw w1 HSeat
   go_wp2_with fail
   go_ret
   rw [HP.out, putA_no HP.out (by decide)]
   exact ⟨rfl, Pu19.same HLw.out HS0.out⟩
  ·by_cases h2 : x.se > 1099511627776
   ·have HP := hid (HA2.out (by omega))
    clear HA2 HA3 HT HRung HKeep HHas
    go_enter Try.func23, Try.ntmps23
    go_wp2_with fail
    refine HSeat.out.mono ?_
    rintro e w1 ⟨he, hw⟩
    rw [he, hw]
    clear he hw w1 HSeat
    go_wp2_with fail
    go_ret
    rw [HP.out, putA_no HP.out (by decide)]
    exact ⟨rfl, Pu19.same HLw.out HS0.out⟩
   ·clear HA2
    have HT2 := hid (HT.out rfl (by omega))
    clear HT
    cases b2 with
    | false =>
     have HP := hid (HA3.out rfl)
     clear HA3 HT2 HKeep HHas
     go_enter Try.func23, Try.ntmps23
     go_wp2_with fail
     refine HSeat.out.mono ?_
     rintro e w1 ⟨he, hw⟩
     rw [he, hw]
     clear he hw w1 HSeat
     go_wp2_with fail
     refine HRung.out.mono ?_
     rintro e w1 ⟨he, hw⟩
     rw [he, hw]
     clear he hw w1 HRung
     go_wp2_with fail
     go_ret
     rw [HP.out, putA_no HP.out (by decide)]
     exact ⟨rfl, Pu19.same HLw.out HS0.out⟩
    | true =>
     have HArg := hid (HT2.out rfl)
     clear HT2 HA3
     go_enter Try.func23, Try.ntmps23
     go_wp2_with fail
     refine HSeat.out.mono ?_
     rintro e w1 ⟨he, hw⟩
     rw [he, hw]
     clear he hw w1 HSeat
     go_wp2_with fail
     refine HRung.out.mono ?_
     rintro e w1 ⟨he, hw⟩
     rw [he, hw]
     clear he hw w1 HRung eW eg
     go_wp2_with fail
     refine HKeep.out.mono ?_
     rintro e w1 ⟨he, hw⟩
     rw [he, hw]
     clear he hw w1 HKeep h1 h2
     cases b3 with
     | false =>
      have HP : Hid (putC s x m = 190) := hid (by unfold putC; rw [if_neg (by rw [HArg.out]; decide), if_pos HE3.out])
      clear HHas
      go_wp2_with fail
      go_ret
      rw [HP.out, putA_no HP.out (by decide)]
      exact ⟨rfl, Pu19.same HLw.out HS0.out⟩
     | true =>
      go_wp2_with fail
      refine HHas.out.mono ?_
      rintro e w1 ⟨he, h1⟩
      rw [he]
      have HS1 := hid (HS0.out.trans h1)
      have HL1 := hid (HL.out.still h1)
      have HX1 := hid (HX0.out.still h1)
      have hz1 : B <= w1.heap.size := Nat.le_trans hzw h1.size
      clear he h1 HHas HL HX0 HS0 c0 c1 c2 c3 c4 c5 c6 hzw
      cases b4 with
      | true =>
       have HP : Hid (putC s x m = 191) := hid (by unfold putC; rw [if_neg (by rw [HArg.out]; decide), if_neg (by rw [HE3.out]; decide), if_pos HE4.out])
       go_wp2_with fail
       go_ret
       rw [HP.out, putA_no HP.out (by decide)]
       exact ⟨rfl, Pu19.same HLw.out HS1.out⟩
      | false =>
       have HCnt := hid (cm_count s B p vs x.fr x.pe w1 HL1.out)
       obtain ⟨c0, c1, c2, c3, c4, c5, c6⟩ := HX1.out.cells
       obtain ⟨n, en⟩ : ∃ n, cntF x.fr x.pe s.S = n := ⟨_, rfl⟩
       rw [en] at HCnt
       have HN := hid en
       clear en
       go_wp2_with fail
       refine HCnt.out.mono ?_
       rintro e w2 ⟨he, h2⟩
       rw [he]
       have HS2 := hid (HS1.out.trans h2)
       have HL2 := hid (HL1.out.still h2)
       have HX2 := hid (HX1.out.still h2)
       have hz2 : B <= w2.heap.size := Nat.le_trans hz1 h2.size
       clear he h2 HCnt HL1 HX1 HS1 c0 c1 c2 c3 c4 c5 c6 hz1
       by_cases hn : 3 <= n
       ·have hn' : (n : Int) ≥ 3 := by omega
        have HP : Hid (putC s x m = 192) := hid (by unfold putC; rw [if_neg (by rw [HArg.out]; decide), if_neg (by rw [HE3.out]; decide), if_neg (by rw [HE4.out]; decide), if_pos (by rw [HN.out]; exact hn)])
        clear hn
        go_wp2_with fail
        go_ret
        rw [HP.out, putA_no HP.out (by decide)]
        exact ⟨rfl, Pu19.same HLw.out HS2.out⟩
       ·have hn' : ¬ (n : Int) ≥ 3 := by omega
        have HP : Hid (putC s x m = 0) := hid (by unfold putC; rw [if_neg (by rw [HArg.out]; decide), if_neg (by rw [HE3.out]; decide), if_neg (by rw [HE4.out]; decide), if_neg (by rw [HN.out]; exact hn)])
        have HN3 : Hid (¬ 3 <= cntF x.fr x.pe s.S) := hid (by rw [HN.out]; exact hn)
        obtain ⟨c0, c1, c2, c3, c4, c5, c6⟩ := HX2.out.cells
        have hk := kpB_t HE3.out
        have hbb := HL2.out.ok.b
        obtain ⟨i, ei⟩ : ∃ i : Nat, x.fr % 112 = (i : Int) := ⟨(x.fr % 112).toNat, by omega⟩
        have HI := hid ei
        have hil : i < 112 := by omega
        have HRP : Hid (∀ u, Still w2 u -> Calls Try.prog 40 #[.pointer (some ⟨p, 3, none⟩), ev (stM x m)] u fun e w' => e = .returned (.tuple #[]) /\ ∃ v' R', R'.Perm (plc i s.S ++ [stM x m]) /\ Srt R' /\ OwG KE enT w' u.heap.size v' R' /\ w'.heap[p]? = some (.cells (lcs s (upV vs i v')) lgT (0, 0)) /\ Fr (fun k => k = p) u w') := hid (fun u hu =>
         cm_ringput s B p i vs (stM x m) (plc i s.S) (by show 0 <= x.fr /\ x.fr <= _; omega) ei (plc_srt HL2.out.ok.srt i) (by have h5 := on_len HL2.out.ok x.fr; have h6 := plc_on HL2.out.ok hk.1 hk.2; rw [ei, Int.toNat_natCast] at h6; rw [h6]; omega) (by
          have := hasK_of_PS (x := stM x m) HE4.out
          unfold hasK at this ⊢
          rw [List.any_eq_false] at this ⊢
          exact fun y hy => this y (List.mem_filter.1 hy).1) u ((HL2.out.still hu).ow i hil) (HL2.out.still hu).bk)
        have d0 := Cl.cell c0
        have d1 := Cl.cell c1
        have d2 := Cl.cell c2
        have d3 := Cl.cell c3
        have d4 := Cl.cell c4
        have d5 := Cl.cell c5
        have d6 := Cl.cell c6
        have hne := Aft.here w2
        clear hn c0 c1 c2 c3 c4 c5 c6 hk hbb ei
        go_upto_region 10 with fail
        refine region_rest 6 (by kernel_rfl) (by kernel_rfl) ?_
        simp only [List.take_succ_cons, List.take_zero, List.drop_succ_cons, List.drop_zero]
        repeat (go_big_quiet_step (rfl))
        refine wpQuiet_nil ?_
        intro w3 h3
        have HC := hid (HRP.out w3 h3)
        have HS3 := hid (HS2.out.trans h3)
        have HL3 := hid (HL2.out.still h3)
        have hz3 : B <= w3.heap.size := Nat.le_trans hz2 h3.size
        clear h3 HRP d0 d1 d2 d3 d4 d5 d6 hne HX2 HL2 HS2
        go_wp2_with fail
        refine HC.out.mono ?_
        rintro e w4 ⟨he, v', R', hp', hs', ho', hb', hf'⟩
        rw [he]
        obtain ⟨q1, q2⟩ := HL3.out.put HArg.out HE3.out HE4.out HN3.out HI.out hz3 hp' hs' ho' hb' hf'
        have HF : Hid (Pu19 w w4 B p (putA s x m) vs) := hid (by
         refine ⟨⟨upV vs i v', ?_, fun k hk => (q2 k hk).imp_right (fun h => Nat.le_trans HS3.out.size h)⟩, Fr.trans (HS3.out.mono (fun _ _ e => e.elim)) hf' (fun _ _ e => e)⟩
         unfold putA
         rw [if_pos HP.out]
         exact q1)
        clear he hp' hs' ho' hb' hf' q1 q2 HC
        go_wp2_with fail
        go_ret
        rw [HP.out]
        exact ⟨rfl, HF.out⟩
end Go.Proofs.Ytdmgalaajgebkaa
namespace Go.Proofs.Ytdmgalaajgebkaa
open Go.RowKit
set_option maxRecDepth 100000
theorem equal_o19 (x y : En) (w : World) : (Op.equalIn 9999 28 (.agg (ocs x)) (.agg (ocs y))).run Try.prog w = .ok ((x.vb == y.vb) && ((x.a == y.a) && ((x.b == y.b) && (x.c == y.c)))) w := by
 have c0 := fun w => (opart x w).1
 have d0 := fun w => (opart y w).1
 have r0 := fun w => equalE_int 9997 x.vb y.vb w
 have c1 := fun w => (opart x w).2.1
 have d1 := fun w => (opart y w).2.1
 have r1 := fun w => equalE_int 9997 x.a y.a w
 have c2 := fun w => (opart x w).2.2.1
 have d2 := fun w => (opart y w).2.2.1
 have r2 := fun w => equalE_int 9997 x.b y.b w
 have c3 := fun w => (opart x w).2.2.2
 have d3 := fun w => (opart y w).2.2.2
 have r3 := fun w => equalE_int 9997 x.c y.c w
 rw [run_equalIn_struct w 9998 _ _ _ (by kernel_rfl) (by kernel_rfl)]
 have e : (Try.prog.fieldsOf 28) = #[⟨ "Verb", 3, 0, false, "", "", 0⟩, ⟨ "A", 3, 1, false, "", "", 8⟩, ⟨ "B", 3, 2, false, "", "", 16⟩, ⟨ "C", 3, 3, false, "", "", 24⟩] := by kernel_rfl
 rw [e]
 simp only [Op.eqFields, ne_eq, String.reduceEq, not_false_eq_true, if_true, Sem.run_bind, c0, c1, c2, c3, d0, d1, d2, d3, Result.andThen_ok, r0, r1, r2, r3, Sem.run_ite, Sem.run_pure]
 exact stE (stE (stE (stE1 _)))
theorem equal_h19 (x y : En) (w : World) : (Op.equalIn 10000 30 (.agg (hcs x)) (.agg (hcs y))).run Try.prog w = .ok ((x.fr == y.fr) && ((x.pe == y.pe) && ((x.se == y.se) && ((x.vb == y.vb) && ((x.a == y.a) && ((x.b == y.b) && (x.c == y.c))))))) w := by
 have c0 := fun w => (hpart x w).1
 have d0 := fun w => (hpart y w).1
 have r0 := fun w => equalE_i64 9998 x.fr y.fr w
 have c1 := fun w => (hpart x w).2.1
 have d1 := fun w => (hpart y w).2.1
 have r1 := fun w => equalE_int 9998 x.pe y.pe w
 have c2 := fun w => (hpart x w).2.2.1
 have d2 := fun w => (hpart y w).2.2.1
 have r2 := fun w => equalE_int 9998 x.se y.se w
 have c3 := fun w => (hpart x w).2.2.2
 have d3 := fun w => (hpart y w).2.2.2
 have r3 := fun w => equal_o19 x y w
 rw [run_equalIn_struct w 9999 _ _ _ (by kernel_rfl) (by kernel_rfl)]
 have e : (Try.prog.fieldsOf 30) = #[⟨ "Frame", 2, 0, false, "", "", 0⟩, ⟨ "Peer", 3, 1, false, "", "", 8⟩, ⟨ "Seq", 3, 2, false, "", "", 16⟩, ⟨ "Order", 28, 3, false, "", "", 24⟩] := by kernel_rfl
 rw [e]
 simp only [Op.eqFields, ne_eq, String.reduceEq, not_false_eq_true, if_true, Sem.run_bind, c0, c1, c2, c3, d0, d1, d2, d3, Result.andThen_ok, r0, r1, r2, r3, Sem.run_ite, Sem.run_pure]
 exact stE (stE (stE (stE1 _)))
def eqC (x y : En) : Bool := (x.fr == y.fr) && ((x.pe == y.pe) && ((x.se == y.se) && ((x.vb == y.vb) && ((x.a == y.a) && ((x.b == y.b) && (x.c == y.c))))))
theorem eqC_refl (x : En) : eqC x x = true := by unfold eqC; simp
theorem eql_hc (x y : En) (w : World) : (binOp .eql cmT (.agg (hcs x)) (.agg (hcs y))).run Try.prog w = .ok (.bool (eqC x y)) w := by
 rw [run_eql_struct, equal_h19]; rfl
theorem neq_hc (x y : En) (w : World) : (binOp .neq cmT (.agg (hcs x)) (.agg (hcs y))).run Try.prog w = .ok (.bool (!eqC x y)) w := by
 rw [run_neq_struct, equal_h19]; rfl
theorem eql_hc_t (x : En) (w : World) : (binOp .eql cmT (.agg (hcs x)) (.agg (hcs x))).run Try.prog w = .ok (.bool true) w := by
 rw [eql_hc, eqC_refl]
theorem neq_hc_f (x : En) (w : World) : (binOp .neq cmT (.agg (hcs x)) (.agg (hcs x))).run Try.prog w = .ok (.bool false) w := by
 rw [neq_hc, eqC_refl]; rfl
theorem guard_hc (op : BinOp) (a b : Operand) (xs ys : Array Value) (w : World) : (eqGuard op cmT a b (.agg xs) (.agg ys)).run Try.prog w = .ok () w := run_eqGuard_agg w op _ a b xs ys (by kernel_rfl)
theorem rdC19 {w : World} {B o n : Nat} {L : List En} (h : RdG KC w (some ⟨B, o, none⟩) n L) {i : Nat} (hi : i < n) : w.cell? ⟨B, o + i * 7, none⟩ = some (.int .i64 (att L i).fr) /\ w.cell? ⟨B, o + i * 7 + 1, none⟩ = some (.int .i64 (att L i).pe) /\ w.cell? ⟨B, o + i * 7 + 2, none⟩ = some (.int .i64 (att L i).se) /\ w.cell? ⟨B, o + i * 7 + 3, none⟩ = some (.int .i64 (att L i).vb) /\ w.cell? ⟨B, o + i * 7 + 4, none⟩ = some (.int .i64 (att L i).a) /\ w.cell? ⟨B, o + i * 7 + 5, none⟩ = some (.int .i64 (att L i).b) /\ w.cell? ⟨B, o + i * 7 + 6, none⟩ = some (.int .i64 (att L i).c) :=
 ⟨h.get hi 0 _ rfl, h.get hi 1 _ rfl, h.get hi 2 _ rfl, h.get hi 3 _ rfl, h.get hi 4 _ rfl, h.get hi 5 _ rfl, h.get hi 6 _ rfl⟩
set_option maxHeartbeats 2000000 in
theorem rsamec19_t (L : List En) (ao bo : Option Addr) (n c1 c2 : Nat) (w : World) (ha : RdG KC w ao n L) (hb : RdG KC w bo n L) : Calls Try.prog 17 #[.slice ao n c1, .slice bo n c2] w fun e w' => e = .returned (.bool true) /\ Still w w' := by
 have h47 := ha.2.1
 have HA := hid ha
 have HB := hid hb
 have hnn : ((n : Int) != (n : Int)) = false := by simp
 clear ha hb
 go_enter Try.func17, Try.ntmps17
 go_wp2_with fail
 go_loopw [5] (fun u wr => ∃ k : Nat, k <= n /\ u = .int .i64 (k : Int) /\ Hid (Still w wr)) (fun u _ => n - (intOf u).toNat)
 case atStart => exact ⟨0, by omega, rfl, hid (Fr.refl _ _)⟩
 case round =>
  obtain ⟨k, hk, rfl, HS⟩ := hrel
  by_cases hkn : k < n
  ·have hlt : (k : Int) < (n : Int) := by omega
   obtain ⟨B1, o1, rfl⟩ := HA.out.at (by omega)
   obtain ⟨B2, o2, rfl⟩ := HB.out.at (by omega)
   obtain ⟨c0, c1', c2', c3, c4, c5, c6⟩ := rdC19 (HA.out.still HS.out) hkn
   obtain ⟨d0, d1, d2, d3, d4, d5, d6⟩ := rdC19 (HB.out.still HS.out) hkn
   obtain ⟨x, ex⟩ : ∃ x, att L k = x := ⟨_, rfl⟩
   rw [ex] at c0 c1' c2' c3 c4 c5 c6 d0 d1 d2 d3 d4 d5 d6
   clear ex
   have k0 := Cl.cell c0
   have k1 := Cl.cell c1'
   have k2 := Cl.cell c2'
   have k3 := Cl.cell c3
   have k4 := Cl.cell c4
   have k5 := Cl.cell c5
   have k6 := Cl.cell c6
   have l0 := Cl.cell d0
   have l1 := Cl.cell d1
   have l2 := Cl.cell d2
   have l3 := Cl.cell d3
   have l4 := Cl.cell d4
   have l5 := Cl.cell d5
   have l6 := Cl.cell d6
   have hne := Aft.here wr
   have hq := fun w => neq_hc_f x w
   have hg := fun a b w => guard_hc .neq a b (hcs x) (hcs x) w
   clear c0 c1' c2' c3 c4 c5 c6 d0 d1 d2 d3 d4 d5 d6
   go_upto_region 6 with fail
   refine region_all (by kernel_rfl) (by kernel_rfl) ?_
   repeat (go_big_quiet_step (fail))
   refine wpQuiet_nil ?_
   intro w3 h3
   have HS3 := hid (HS.out.trans h3)
   clear h3 hne k0 k1 k2 k3 k4 k5 k6 l0 l1 l2 l3 l4 l5 l6 hq hg
   go_wp2_with fail
   go_roundw
   case rel => exact ⟨k + 1, by omega, by go_num, HS3⟩
   case measure => simp [intOf]; omega
  ·have hge : ¬ (k : Int) < (n : Int) := by omega
   go_wp2_with fail
   go_ret
   exact ⟨rfl, HS.out⟩
def fnd (x : En) (L : List En) (k : Nat) : Bool := (L.take k).any fun y => eqC x y
theorem fnd_next (x : En) {L : List En} {k : Nat} (hk : k < L.length) : fnd x L (k + 1) = (fnd x L k || eqC x (att L k)) := by
 unfold fnd
 rw [take_next hk, List.any_append, List.any_cons, List.any_nil, Bool.or_false]
theorem fnd_all {x : En} {L : List En} (h : x ∈ L) : fnd x L L.length = true := by
 unfold fnd
 rw [List.take_of_length_le (Nat.le_refl _)]
 exact List.any_eq_true.2 ⟨x, h, eqC_refl x⟩
set_option maxHeartbeats 4000000 in
theorem rpart_t (L M : List En) (ao bo : Option Addr) (n m c1 c2 : Nat) (hs : ∀ x ∈ L, x ∈ M) (w : World) (ha : RdG KC w ao n L) (hb : RdG KC w bo m M) : Calls Try.prog 14 #[.slice ao n c1, .slice bo m c2] w fun e w' => e = .returned (.bool true) /\ Still w w' := by
 have h47 := ha.2.1
 have h48 := hb.2.1
 have HA := hid ha
 have HB := hid hb
 have HLn := hid ha.1
 have HMn := hid hb.1
 have HSub := hid hs
 clear ha hb hs
 go_enter Try.func14, Try.ntmps14
 go_wp2_with fail
 go_loopw [5] (fun u wr => ∃ k : Nat, k <= n /\ u = .int .i64 (k : Int) /\ Hid (Still w wr)) (fun u _ => n - (intOf u).toNat)
 case atStart => exact ⟨0, by omega, rfl, hid (Fr.refl _ _)⟩
 case round =>
  obtain ⟨k, hk, rfl, HS⟩ := hrel
  by_cases hkn : k < n
  ·have hlt : (k : Int) < (n : Int) := by omega
   obtain ⟨B1, o1, rfl⟩ := HA.out.at (by omega)
   have HX : Hid (fnd (att L k) M m = true) := hid (by rw [<- HMn.out]; exact fnd_all (HSub.out _ (att_mem (by have := HLn.out; omega))))
   have HC := hid (fun (u : World) (hu : Still w u) => rdC19 (HA.out.still hu) hkn)
   obtain ⟨x, ex⟩ : ∃ x, att L k = x := ⟨_, rfl⟩
   rw [ex] at HX HC
   clear ex
   go_wp2_with fail
   go_loopw [7, 6] (fun u v wr => ∃ j : Nat, j <= m /\ u = .int .i64 (j : Int) /\ v = .bool (fnd x M j) /\ Hid (Still w wr)) (fun u _ _ => m - (intOf u).toNat)
   case atStart => exact ⟨0, by omega, rfl, rfl, HS⟩
   case round =>
    obtain ⟨j, hj, rfl, rfl, HS2⟩ := hrel
    by_cases hjm : j < m
    ·have hltj : (j : Int) < (m : Int) := by omega
     obtain ⟨B2, o2, rfl⟩ := HB.out.at (by omega)
     have HN := hid (fnd_next x (L := M) (k := j) (by have := HMn.out; omega))
     obtain ⟨c0, c1', c2', c3, c4, c5, c6⟩ := HC.out _ HS2.out
     obtain ⟨d0, d1, d2, d3, d4, d5, d6⟩ := rdC19 (HB.out.still HS2.out) hjm
     obtain ⟨y, ey⟩ : ∃ y, att M j = y := ⟨_, rfl⟩
     rw [ey] at d0 d1 d2 d3 d4 d5 d6 HN
     clear ey
     have k0 := Cl.cell c0
     have k1 := Cl.cell c1'
     have k2 := Cl.cell c2'
     have k3 := Cl.cell c3
     have k4 := Cl.cell c4
     have k5 := Cl.cell c5
     have k6 := Cl.cell c6
     have l0 := Cl.cell d0
     have l1 := Cl.cell d1
     have l2 := Cl.cell d2
     have l3 := Cl.cell d3
     have l4 := Cl.cell d4
     have l5 := Cl.cell d5
     have l6 := Cl.cell d6
     have hne := Aft.here wr
     have hg := fun a b w => guard_hc .eql a b (hcs x) (hcs y) w
     have hq := fun w => eql_hc x y w
     obtain ⟨z, ez⟩ : ∃ z, eqC x y = z := ⟨_, rfl⟩
     rw [ez] at HN
     simp only [ez] at hq
     obtain ⟨fb, efb⟩ : ∃ b, fnd x M j = b := ⟨_, rfl⟩
     rw [efb] at HN ⊢
     clear ez efb c0 c1' c2' c3 c4 c5 c6 d0 d1 d2 d3 d4 d5 d6
     cases fb with
     | true =>
      have HN2 : Hid (fnd x M (j + 1) = true) := hid (by rw [HN.out]; rfl)
      clear HN
      go_upto_region 8 with fail
      refine region_all (by kernel_rfl) (by kernel_rfl) ?_
      repeat (go_big_quiet_step (rfl))
      refine wpQuiet_nil ?_
      intro w3 h3
      have HS3 := hid (HS2.out.trans h3)
      clear h3 hne k0 k1 k2 k3 k4 k5 k6 l0 l1 l2 l3 l4 l5 l6 hq hg
      go_wp2_with fail
      go_roundw
      case rel => exact ⟨j + 1, by omega, by go_num, by rw [HN2.out], HS3⟩
      case measure => simp [intOf]; omega
     | false =>
      have HN2 : Hid (fnd x M (j + 1) = z) := hid (by rw [HN.out]; rfl)
      clear HN
      go_upto_region 8 with fail
      refine region_all (by kernel_rfl) (by kernel_rfl) ?_
      repeat (go_big_quiet_step (rfl))
      refine wpQuiet_nil ?_
      intro w3 h3
      have HS3 := hid (HS2.out.trans h3)
      clear h3 hne k0 k1 k2 k3 k4 k5 k6 l0 l1 l2 l3 l4 l5 l6 hq hg
      go_wp2_with fail
      go_roundw
      case rel => exact ⟨j + 1, by omega, by go_num, by rw [HN2.out], HS3⟩
      case measure => simp [intOf]; omega
    ·have hgej : ¬ (j : Int) < (m : Int) := by omega
     obtain rfl : j = m := by omega
     rw [HX.out]
     go_wp2_with fail
     go_roundw
     case rel => exact ⟨k + 1, by omega, by go_num, HS2⟩
     case measure => simp [intOf]; omega
  ·have hge : ¬ (k : Int) < (n : Int) := by omega
   go_wp2_with fail
   go_ret
   exact ⟨rfl, HS.out⟩
end Go.Proofs.Ytdmgalaajgebkaa
namespace Go.Proofs.Ytdmgalaajgebkaa
open Go.RowKit
set_option maxRecDepth 100000
abbrev ylT : TypeId := 68
structure Ym (w : World) (yb : Nat) (ao : Option Addr) (cap : Nat) (s : Lgs) : Prop where
 bk : w.heap[yb]? = some (.cells #[.int .i64 s.np, .int .i64 s.nr, .int .i64 s.ba, .slice ao s.S.length cap] ylT (0, 0))
 sr : Sr w ao cap s.S
section
variable {w w' : World} {yb cap : Nat} {ao : Option Addr} {s : Lgs}
theorem Ym.keep {F : Nat -> Prop} (h : Ym w yb ao cap s) (hf : Fr F w w') (hy : ¬ F yb) (hF : ∀ a, ao = some a -> 0 < s.S.length -> ¬ F a.block) : Ym w' yb ao cap s := ⟨hf.kept h.bk hy, h.sr.keep hf hF⟩
theorem Ym.still (h : Ym w yb ao cap s) (hs : Still w w') : Ym w' yb ao cap s := ⟨hs.kept_still h.bk, h.sr.still hs⟩
theorem Ym.cell (h : Ym w yb ao cap s) : w.cell? ⟨yb, 0, none⟩ = some (.int .i64 s.np) /\ w.cell? ⟨yb, 1, none⟩ = some (.int .i64 s.nr) /\ w.cell? ⟨yb, 2, none⟩ = some (.int .i64 s.ba) /\ w.cell? ⟨yb, 3, none⟩ = some (.slice ao s.S.length cap) /\ ∀ o, w.frozen? ⟨yb, o, none⟩ = false := by
 refine ⟨?_, ?_, ?_, ?_, fun o => frozen_of_row w yb o _ _ h.bk⟩ <;> (rw [cell_of_row _ _ _ _ _ _ h.bk]; rfl)
theorem Ym.lt (h : Ym w yb ao cap s) : yb < w.heap.size := block_lt h.bk
theorem Ym.ane (h : Ym w yb ao cap s) : ∀ a, ao = some a -> 0 < s.S.length -> a.block ≠ yb := by
 rintro a ha h0 rfl
 obtain ⟨B, o, e⟩ := h.sr.rd.at h0
 have hrd := h.sr.rd
 rw [e] at hrd
 rw [ha] at e
 cases e
 have c0 := hrd.get h0 3 _ rfl
 have c7 := hrd.get h0 7 _ rfl
 simp only [Nat.zero_mul, Nat.add_zero] at c0 c7
 rw [cell_of_row _ _ _ _ _ _ h.bk] at c0 c7
 rw [Array.getElem?_eq_none (by simp)] at c7
 cases c7
end
theorem rn19_yes {a b : Int} (h : 2 <= a /\ a <= 6 /\ 2 <= b /\ b <= 5) (w : World) : Calls Try.prog 22 #[.int .i64 a, .int .i64 b] w fun e w' => e = .returned (.tuple #[.pointer (some ⟨w.heap.size, 0, none⟩), .int .i64 0]) /\ Ym w' w.heap.size none 0 ⟨a, b, 0, []⟩ /\ Still w w' := by
 have d1 : ¬ a < 2 := by omega
 have d2 : ¬ a > 6 := by omega
 have d3 : ¬ b < 2 := by omega
 have d4 : ¬ b > 5 := by omega
 have HY : Hid (Ym (w.alloc (.cells #[.int .i64 a, .int .i64 b, .int .i64 0, .slice none 0 0] ylT)) w.heap.size none 0 ⟨a, b, 0, []⟩) := hid ⟨heap_alloc_new w _, Sr.nil _⟩
 have HS := hid (Still.alloc w (.cells #[.int .i64 a, .int .i64 b, .int .i64 0, .slice none 0 0] ylT))
 clear h
 go_enter Try.func22, Try.ntmps22
 go_wp2_with fail
 go_ret2
 exact ⟨rfl, HY.out, HS.out⟩
theorem rn19_no {a b : Int} (h : ¬ (2 <= a /\ a <= 6 /\ 2 <= b /\ b <= 5)) (w : World) : Calls Try.prog 22 #[.int .i64 a, .int .i64 b] w fun e w' => e = .returned (.tuple #[.pointer none, .int .i64 1]) /\ w' = w := by
 by_cases h1 : a < 2
 ·clear h
  go_enter Try.func22, Try.ntmps22
  go_wp2_with fail
  go_ret2
  exact ⟨rfl, rfl⟩
 ·by_cases h2 : a > 6
  ·clear h
   go_enter Try.func22, Try.ntmps22
   go_wp2_with fail
   go_ret2
   exact ⟨rfl, rfl⟩
  ·by_cases h3 : b < 2
   ·clear h
    go_enter Try.func22, Try.ntmps22
    go_wp2_with fail
    go_ret2
    exact ⟨rfl, rfl⟩
   ·have h4 : b > 5 := by omega
    clear h
    go_enter Try.func22, Try.ntmps22
    go_wp2_with fail
    go_ret2
    exact ⟨rfl, rfl⟩
set_option maxHeartbeats 2000000 in
theorem rcount19 (s : Lgs) (yb cap : Nat) (ao : Option Addr) (f a : Int) (hl : s.S.length <= 2016) (w : World) (h : Ym w yb ao cap s) : Calls Try.prog 25 #[.pointer (some ⟨yb, 0, none⟩), .int .i64 f, .int .i64 a] w fun e w' => e = .returned (.int .i64 (cntF f a s.S : Int)) /\ w' = w := by
 obtain ⟨_, _, _, c3, _⟩ := h.cell
 have HR := hid h.sr.rd
 obtain ⟨S, eS⟩ : ∃ S, s.S = S := ⟨_, rfl⟩
 rw [eS] at HR c3 hl ⊢
 clear eS
 obtain ⟨n, en⟩ : ∃ n, S.length = n := ⟨_, rfl⟩
 have HN := hid en
 rw [en] at HR c3 hl
 clear h en
 go_enter Try.func25, Try.ntmps25
 go_wp2_with fail
 go_loopw [8, 7] (fun u v wr => ∃ k : Nat, k <= n /\ u = .int .i64 (k : Int) /\ v = .int .i64 ((cntF f a (S.take k) : Nat) : Int) /\ wr = w) (fun u _ _ => n - (intOf u).toNat)
 case atStart => exact ⟨0, by omega, rfl, rfl, rfl⟩
 case round =>
  obtain ⟨k, hk, rfl, rfl, rfl⟩ := hrel
  have hck : cntF f a (S.take k) <= 2016 := Nat.le_trans List.countP_le_length (by simp; omega)
  by_cases hkn : k < n
  ·have hlt : (k : Int) < (n : Int) := by omega
   obtain ⟨g, o, rfl⟩ := HR.out.at (by omega)
   obtain ⟨d0, d1, _⟩ := rdE HR.out hkn
   have HC := hid (cnt_take (p := fun x => decide (x.fr = f /\ x.pe = a)) (L := S) (k := k) (by have := HN.out; omega))
   obtain ⟨x, ex⟩ : ∃ x, att S k = x := ⟨_, rfl⟩
   rw [ex] at d0 d1 HC
   have HC : Hid (cntF f a (S.take (k + 1)) = cntF f a (S.take k) + if decide (x.fr = f /\ x.pe = a) = true then 1 else 0) := HC
   obtain ⟨m, em⟩ : ∃ m, cntF f a (S.take k) = m := ⟨_, rfl⟩
   rw [em] at HC hck ⊢
   clear ex em
   by_cases h1 : x.fr = f
   ·have b1 : (x.fr == f) = true := beq_iff_eq.2 h1
    by_cases h2 : x.pe = a
    ·have b2 : (x.pe == a) = true := beq_iff_eq.2 h2
     have HC2 : Hid (cntF f a (S.take (k + 1)) = m + 1) := hid (by rw [HC.out, if_pos (decide_eq_true ⟨h1, h2⟩)])
     clear h1 h2 HC
     go_wp2_with fail
     go_roundw
     case rel => exact ⟨k + 1, by omega, by go_num, by rw [HC2.out]; go_num, by trivial⟩
     case measure => simp [intOf]; omega
    ·have b2 : (x.pe == a) = false := beq_eq_false_iff_ne.2 h2
     have HC2 : Hid (cntF f a (S.take (k + 1)) = m) := hid (by rw [HC.out, if_neg (by simp; omega)]; rfl)
     clear h1 h2 HC
     go_wp2_with fail
     go_roundw
     case rel => exact ⟨k + 1, by omega, by go_num, by rw [HC2.out], by trivial⟩
     case measure => simp [intOf]; omega
   ·have b1 : (x.fr == f) = false := beq_eq_false_iff_ne.2 h1
    have HC2 : Hid (cntF f a (S.take (k + 1)) = m) := hid (by rw [HC.out, if_neg (by simp; omega)]; rfl)
    clear h1 HC
    go_wp2_with fail
    go_roundw
    case rel => exact ⟨k + 1, by omega, by go_num, by rw [HC2.out], by trivial⟩
    case measure => simp [intOf]; omega
  ·have hge : ¬ (k : Int) < (n : Int) := by omega
   have HF : Hid (cntF f a (S.take k) = cntF f a S) := hid (by rw [List.take_of_length_le (by have := HN.out; omega)])
   rw [HF.out]
   go_wp2_with fail
   go_ret
   exact ⟨rfl, rfl⟩
theorem on_next {f : Int} {S : List En} {k : Nat} (hk : k < S.length) : onF f (S.take (k + 1)) = if (att S k).fr = f then onF f (S.take k) ++ [att S k] else onF f (S.take k) := by
 unfold onF
 rw [take_next hk, List.filter_append]
 by_cases h : (att S k).fr = f
 ·rw [if_pos h, List.filter_cons_of_pos (by simpa using h), List.filter_nil]
 ·rw [if_neg h, List.filter_cons_of_neg (by simpa using h), List.filter_nil, List.append_nil]
theorem on_len2 (f : Int) (S : List En) (k : Nat) : (onF f (S.take k)).length <= S.length := Nat.le_trans (List.length_filter_le _ _) (List.length_take_le' ..)
set_option maxHeartbeats 2000000 in
theorem rAt19 (s : Lgs) (yb cap : Nat) (ao : Option Addr) (f : Int) (hl : s.S.length <= 2016) (w : World) (h : Ym w yb ao cap s) : Calls Try.prog 27 #[.pointer (some ⟨yb, 0, none⟩), .int .i64 f] w fun e w' => ∃ v, e = .returned v /\ OwG KE enT w' w.heap.size v (onF f s.S) /\ Still w w' := by
 have HY := hid h
 obtain ⟨S, eS⟩ : ∃ S, s.S = S := ⟨_, rfl⟩
 have HSS := hid eS
 rw [eS] at hl ⊢
 obtain ⟨n, en⟩ : ∃ n, S.length = n := ⟨_, rfl⟩
 have HN := hid en
 have HCy : Hid (∀ u, Still w u -> u.cell? ⟨yb, 3, none⟩ = some (.slice ao n cap) /\ RdG KE u ao n S) := hid (fun u hu => by
  have := (HY.out.still hu).cell.2.2.2.1
  have h2 := (HY.out.still hu).sr.rd
  rw [eS, en] at this h2
  exact ⟨this, h2⟩)
 rw [en] at hl
 clear h en eS
 go_enter Try.func27, Try.ntmps27
 go_wp2_with fail
 go_loopw [6, 5] (fun u v wr => ∃ k : Nat, k <= n /\ u = .int .i64 (k : Int) /\ ∃ bo m bc, v = .slice bo m bc /\ Hid (OwG KE enT wr w.heap.size (.slice bo m bc) (onF f (S.take k)) /\ Still w wr)) (fun u _ _ => n - (intOf u).toNat)
 case atStart => exact ⟨0, by omega, rfl, _, _, _, rfl, hid ⟨OwG.nil _ _, Fr.refl _ _⟩⟩
 case round =>
  obtain ⟨k, hk, rfl, bo, m, bc, rfl, HK⟩ := hrel
  obtain ⟨c3, hr⟩ := HCy.out wr HK.out.2
  by_cases hkn : k < n
  ·have hlt : (k : Int) < (n : Int) := by omega
   obtain ⟨g, o, rfl⟩ := hr.at (by omega)
   obtain ⟨d0, d1, d2, d3, d4, d5, d6, d7⟩ := rdE hr hkn
   have HT := hid (on_next (f := f) (S := S) (k := k) (by have := HN.out; omega))
   have HLn : Hid ((onF f (S.take k)).length <= 100000) := hid (by have := on_len2 f S k; have := HN.out; omega)
   obtain ⟨x, ex⟩ : ∃ x, att S k = x := ⟨_, rfl⟩
   rw [ex] at d0 d1 d2 d3 d4 d5 d6 d7 HT
   obtain ⟨M, eM⟩ : ∃ M, onF f (S.take k) = M := ⟨_, rfl⟩
   rw [eM] at HT HLn HK
   clear ex eM hr
   by_cases h1 : x.fr = f
   ·have b1 : (x.fr == f) = true := beq_iff_eq.2 h1
    have HT2 := hid (HT.out.trans (if_pos h1))
    have A4 := Still.alloc wr (.cells (ecs x) enT)
    have HO4 := hid (HK.out.1.still A4)
    have HX4 : Hid ((newE wr x).heap[wr.heap.size]? = some (.cells (KE.f x).toArray enT (0, 0))) := hid (newE_eb wr x)
    have HS4 := hid (HK.out.2.trans A4)
    have HB4 := hid HS4.out.size
    clear A4 HK HT h1
    go_wp2_with (
     at_builtin
     refine wpList_appG KE _ rfl _ _ _ rfl rfl 64 infoE (by omega) w.heap.size wr.heap.size (.slice bo m bc) M x rfl rfl HO4.out HX4.out HLn.out HB4.out ?_
     intro v' w' ho' hf'
     have HK5 : Hid (OwG KE enT w' w.heap.size v' (M ++ [x]) /\ Still w w') := hid ⟨ho', still_appG HS4.out HO4.out hf' (Nat.le_refl _)⟩
     obtain ⟨bo5, bc5, e5, _⟩ := ho'.slice
     subst e5
     obtain ⟨m5, em5⟩ : ∃ m, (M ++ [x]).length = m := ⟨_, rfl⟩
     rw [em5] at HK5 ⊢
     clear ho' hf' em5)
    clear c3 d0 d1 d2 d3 d4 d5 d6 d7
    go_roundw
    case rel => exact ⟨k + 1, by omega, by go_num, _, _, _, rfl, by rw [HT2.out]; exact HK5⟩
    case measure => simp [intOf]; omega
   ·have b1 : (x.fr == f) = false := beq_eq_false_iff_ne.2 h1
    have HT2 := hid (HT.out.trans (if_neg h1))
    clear h1 HT
    go_wp2_with fail
    go_roundw
    case rel => exact ⟨k + 1, by omega, by go_num, _, _, _, rfl, by rw [HT2.out]; exact HK⟩
    case measure => simp [intOf]; omega
  ·have hge : ¬ (k : Int) < (n : Int) := by omega
   have HK2 : Hid (OwG KE enT wr w.heap.size (.slice bo m bc) (onF f S) /\ Still w wr) := hid ⟨by have := HK.out.1; rwa [List.take_of_length_le (by have := HN.out; omega)] at this, HK.out.2⟩
   clear HK hr
   go_wp2_with fail
   go_ret
   exact ⟨_, rfl, HK2.out⟩
set_option maxHeartbeats 2000000 in
theorem rMissed19 (s : Lgs) (yb cap : Nat) (ao : Option Addr) (r : Int) (hl : s.S.length <= 2016) (w : World) (h : Ym w yb ao cap s) : Calls Try.prog 29 #[.pointer (some ⟨yb, 0, none⟩), .int .i64 r] w fun e w' => ∃ v, e = .returned v /\ OwG KC cmT w' w.heap.size v (misA s r) /\ Still w w' := by
 have HY := hid h
 have HMA : Hid (∀ S, s.S = S -> misA s r = if inR r s.nr then misL r S else []) := hid (fun S e => by unfold misA; rw [e])
 obtain ⟨S, eS⟩ : ∃ S, s.S = S := ⟨_, rfl⟩
 have HMB := hid (HMA.out S eS)
 rw [HMB.out]
 rw [eS] at hl
 obtain ⟨z, ez⟩ : ∃ z, s.nr = z := ⟨_, rfl⟩
 rw [ez]
 obtain ⟨n, en⟩ : ∃ n, S.length = n := ⟨_, rfl⟩
 have HN := hid en
 have HCy : Hid (∀ u, Still w u -> u.cell? ⟨yb, 3, none⟩ = some (.slice ao n cap) /\ u.cell? ⟨yb, 1, none⟩ = some (.int .i64 z) /\ RdG KE u ao n S) := hid (fun u hu => by
  have := (HY.out.still hu).cell.2.2.2.1
  have h1 := (HY.out.still hu).cell.2.1
  have h2 := (HY.out.still hu).sr.rd
  rw [eS, en] at this h2
  rw [ez] at h1
  exact ⟨this, h1, h2⟩)
 rw [en] at hl
 obtain ⟨ib, eib⟩ : ∃ b, inR r z = b := ⟨_, rfl⟩
 rw [eib]
 have HIB := hid eib
 obtain ⟨X9, eX9⟩ : ∃ X, (if ib = true then misL r S else []) = X := ⟨_, rfl⟩
 rw [eX9]
 have HX9 := hid eX9
 clear h en eS ez HMA HMB eib eX9
 go_enter Try.func29, Try.ntmps29
 go_wp2_with fail
 go_loopw [6, 5] (fun u v wr => ∃ k : Nat, k <= n /\ u = .int .i64 (k : Int) /\ ∃ bo m bc, v = .slice bo m bc /\ Hid (OwG KC cmT wr w.heap.size (.slice bo m bc) (if ib then misL r (S.take k) else []) /\ Still w wr)) (fun u _ _ => n - (intOf u).toNat)
 case atStart => exact ⟨0, by omega, rfl, _, _, _, rfl, hid ⟨by cases ib <;> exact OwG.nil _ _, Fr.refl _ _⟩⟩
 case round =>
  obtain ⟨k, hk, rfl, bo, m, bc, rfl, HK⟩ := hrel
  obtain ⟨c3, c1, hr⟩ := HCy.out wr HK.out.2
  by_cases hkn : k < n
  ·have hlt : (k : Int) < (n : Int) := by omega
   obtain ⟨g, o, rfl⟩ := hr.at (by omega)
   obtain ⟨d0, d1, d2, d3, d4, d5, d6, d7⟩ := rdE hr hkn
   cases ib with
   | true =>
    have hin : 0 <= r /\ r < z := of_decide_eq_true HIB.out
    have r1 : r ≥ 0 := hin.1
    have r2 : r < z := hin.2
    have HTt := hid (fun h => misL_t (r := r) (S := S) (k := k) (by have := HN.out; omega) h)
    have HTf := hid (fun h => misL_f (r := r) (S := S) (k := k) (by have := HN.out; omega) h)
    have HLn : Hid ((misL r (S.take k)).length <= 100000) := hid (by have := misL_len r S k; have := HN.out; omega)
    have HK' : Hid (OwG KC cmT wr w.heap.size (.slice bo m bc) (misL r (S.take k)) /\ Still w wr) := HK
    obtain ⟨x, ex⟩ : ∃ x, att S k = x := ⟨_, rfl⟩
    rw [ex] at d0 d1 d2 d3 d4 d5 d6 d7 HTt HTf
    obtain ⟨M, eM⟩ : ∃ M, misL r (S.take k) = M := ⟨_, rfl⟩
    rw [eM] at HTt HTf HLn HK'
    clear ex eM hr HK hin
    by_cases h1 : x.ms > r
    ·have HT2 := hid (HTt.out h1)
     have A4 := Still.alloc wr (.cells (hcs x) cmT)
     have HO4 := hid (HK'.out.1.still A4)
     have HX4 : Hid ((wr.alloc (.cells (hcs x) cmT)).heap[wr.heap.size]? = some (.cells (KC.f (cmE x)).toArray cmT (0, 0))) := hid (heap_alloc_new wr _)
     have HS4 := hid (HK'.out.2.trans A4)
     have HB4 := hid HS4.out.size
     clear A4 HK' HTt HTf
     go_wp2_with (
      at_builtin
      refine wpList_appG KC _ rfl _ _ _ rfl rfl 56 infoC (by omega) w.heap.size wr.heap.size (.slice bo m bc) M (cmE x) rfl rfl HO4.out HX4.out HLn.out HB4.out ?_
      intro v' w' ho' hf'
      have HK5 : Hid (OwG KC cmT w' w.heap.size v' (M ++ [cmE x]) /\ Still w w') := hid ⟨ho', still_appG HS4.out HO4.out hf' (Nat.le_refl _)⟩
      obtain ⟨bo5, bc5, e5, _⟩ := ho'.slice
      subst e5
      obtain ⟨m5, em5⟩ : ∃ m, (M ++ [cmE x]).length = m := ⟨_, rfl⟩
      rw [em5] at HK5 ⊢
      clear ho' hf' em5)
     clear c3 c1 d0 d1 d2 d3 d4 d5 d6 d7
     go_roundw
     case rel => exact ⟨k + 1, by omega, by go_num, _, _, _, rfl, by rw [HT2.out]; exact HK5⟩
     case measure => simp [intOf]; omega
    ·have HT2 := hid (HTf.out h1)
     clear HTt HTf
     go_wp2_with fail
     go_roundw
     case rel => exact ⟨k + 1, by omega, by go_num, _, _, _, rfl, by rw [HT2.out]; exact HK'⟩
     case measure => simp [intOf]; omega
   | false =>
    have hin : ¬ (0 <= r /\ r < z) := of_decide_eq_false HIB.out
    have HK' : Hid (OwG KC cmT wr w.heap.size (.slice bo m bc) [] /\ Still w wr) := HK
    clear hr HK
    by_cases r1 : r ≥ 0
    ·have r2 : ¬ r < z := by omega
     clear hin
     go_wp2_with fail
     go_roundw
     case rel => exact ⟨k + 1, by omega, by go_num, _, _, _, rfl, HK'⟩
     case measure => simp [intOf]; omega
    ·clear hin
     go_wp2_with fail
     go_roundw
     case rel => exact ⟨k + 1, by omega, by go_num, _, _, _, rfl, HK'⟩
     case measure => simp [intOf]; omega
  ·have hge : ¬ (k : Int) < (n : Int) := by omega
   have HK2 : Hid (OwG KC cmT wr w.heap.size (.slice bo m bc) X9 /\ Still w wr) := hid ⟨by have := HK.out.1; rwa [List.take_of_length_le (by have := HN.out; omega), HX9.out] at this, HK.out.2⟩
   clear HK hr
   go_wp2_with fail
   go_ret
   exact ⟨_, rfl, HK2.out⟩
end Go.Proofs.Ytdmgalaajgebkaa
namespace Go.Proofs.Ytdmgalaajgebkaa
open Go.RowKit
set_option maxRecDepth 100000
structure Yf (w w' : World) (yb : Nat) (ao : Option Addr) (s0 s : Lgs) : Prop where
 ex : ∃ ao' cap', Ym w' yb ao' cap' s /\ ∀ a, ao' = some a -> 0 < s.S.length -> (∃ a0, ao = some a0 /\ 0 < s0.S.length /\ a0.block = a.block) \/ w.heap.size <= a.block
 fr : Fr (fun k => k = yb) w w'
theorem Yf.same {w w' : World} {yb cap : Nat} {ao : Option Addr} {s : Lgs} (h : Ym w yb ao cap s) (hs : Still w w') : Yf w w' yb ao s s := ⟨⟨ao, cap, h.still hs, fun a ha h0 => .inl ⟨a, ha, h0, rfl⟩⟩, hs.mono (fun _ _ e => e.elim)⟩
theorem Ym.list {w wr : World} {yb cap : Nat} {ao : Option Addr} {s : Lgs} (h : Ym w yb ao cap s) (hs : Still w wr) {bo : Option Addr} {bc : Nat} {S' : List En} (ho : OwG KE enT wr w.heap.size (.slice bo S'.length bc) S') (hm : S'.length <= 100000) : Yf w (wr.setCell ⟨yb, 3, none⟩ (.slice bo S'.length bc)) yb ao s { s with S := S' } := by
 have hf : Fr (fun k => k = yb) wr (wr.setCell ⟨yb, 3, none⟩ (.slice bo S'.length bc)) := (Fr.refl _ wr).setCell _ _ (.inl rfl)
 have hyl := h.lt
 refine ⟨⟨bo, bc, ⟨(heap_setCell_same wr yb 3 _ _ _ (h.still hs).bk).trans (by rfl), (Sr.own ho (by omega)).keep hf (fun a ha h0 e => ?_)⟩, fun a ha h0 => .inr ?_⟩, Fr.trans (hs.mono (fun _ _ e => e.elim)) hf (fun _ _ e => e)⟩
 ·obtain ⟨g, cap', e', hb, _⟩ := ho.head h0
  injection e' with e1 _ _
  rw [ha] at e1
  cases e1
  simp only at e
  omega
 ·have h0' : 0 < S'.length := h0
  obtain ⟨g, cap', e', hb, _⟩ := ho.head h0'
  injection e' with e1 _ _
  rw [ha] at e1
  cases e1
  exact hb
theorem he_next {r : Int} {b : Bool} {S : List En} {k : Nat} (hk : k < S.length) : (S.take (k + 1)).map (fun x => if b then heE r x else x) = (S.take k).map (fun x => if b then heE r x else x) ++ [if b then heE r (att S k) else att S k] := by
 rw [take_next hk, List.map_append]
 rfl
theorem heA_map (s : Lgs) (r : Int) : heA s r = { s with S := s.S.map (fun x => if inR r s.nr then heE r x else x) } := by
 unfold heA
 cases inR r s.nr with
 | true => rfl
 | false => simp
set_option maxHeartbeats 4000000 in
theorem rHeal19 (s : Lgs) (yb cap : Nat) (ao : Option Addr) (r : Int) (hl : s.S.length <= 2016) (w : World) (h : Ym w yb ao cap s) : Calls Try.prog 31 #[.pointer (some ⟨yb, 0, none⟩), .int .i64 r] w fun e w' => e = .returned (.tuple #[]) /\ Yf w w' yb ao s (heA s r) := by
 have HY := hid h
 obtain ⟨s', es'⟩ : ∃ s', heA s r = s' := ⟨_, rfl⟩
 rw [es']
 obtain ⟨S, eS⟩ : ∃ S, s.S = S := ⟨_, rfl⟩
 obtain ⟨z, ez⟩ : ∃ z, s.nr = z := ⟨_, rfl⟩
 obtain ⟨ib, eib⟩ : ∃ b, inR r z = b := ⟨_, rfl⟩
 have HIB := hid eib
 obtain ⟨F, eF⟩ : ∃ F : En -> En, (fun x => if ib = true then heE r x else x) = F := ⟨_, rfl⟩
 have HFin : Hid (∀ wr bo bc, Still w wr -> OwG KE enT wr w.heap.size (.slice bo (S.map F).length bc) (S.map F) -> Yf w (wr.setCell ⟨yb, 3, none⟩ (.slice bo (S.map F).length bc)) yb ao s s') := hid (fun wr bo bc hs ho => by
  have e5 : s.S.map (fun x => if inR r s.nr then heE r x else x) = S.map F := by rw [ez, eib, eF, eS]
  rw [<- es', heA_map, e5]
  exact h.list hs ho (by rw [<- eS]; simp; omega))
 have HF : Hid (∀ x, F x = if ib = true then heE r x else x) := hid (fun x => by rw [<- eF])
 have HTn : Hid (∀ k, k < S.length -> (S.take (k + 1)).map F = (S.take k).map F ++ [F (att S k)]) := hid (fun k hk => by rw [<- eF]; exact he_next hk)
 rw [eS] at hl
 obtain ⟨n, en⟩ : ∃ n, S.length = n := ⟨_, rfl⟩
 have HN := hid en
 have HCy : Hid (∀ u, Still w u -> u.cell? ⟨yb, 3, none⟩ = some (.slice ao n cap) /\ u.cell? ⟨yb, 1, none⟩ = some (.int .i64 z) /\ RdG KE u ao n S /\ ∀ o, u.frozen? ⟨yb, o, none⟩ = false) := hid (fun u hu => by
  have := (HY.out.still hu).cell.2.2.2.1
  have h1 := (HY.out.still hu).cell.2.1
  have h2 := (HY.out.still hu).sr.rd
  rw [eS, en] at this h2
  rw [ez] at h1
  exact ⟨this, h1, h2, (HY.out.still hu).cell.2.2.2.2⟩)
 have HL := hid hl
 rw [en] at hl
 clear h en eS ez eib eF es'
 go_enter Try.func31, Try.ntmps31
 go_wp2_with fail
 go_loopw [5, 4] (fun u v wr => ∃ k : Nat, k <= n /\ u = .int .i64 (k : Int) /\ ∃ bo m bc, v = .slice bo m bc /\ Hid (OwG KE enT wr w.heap.size (.slice bo m bc) ((S.take k).map F) /\ Still w wr)) (fun u _ _ => n - (intOf u).toNat)
 case atStart => exact ⟨0, by omega, rfl, _, _, _, rfl, hid ⟨OwG.nil _ _, Fr.refl _ _⟩⟩
 case round =>
  obtain ⟨k, hk, rfl, bo, m, bc, rfl, HK⟩ := hrel
  obtain ⟨c3, c1, hr, _⟩ := HCy.out wr HK.out.2
  by_cases hkn : k < n
  ·have hlt : (k : Int) < (n : Int) := by omega
   obtain ⟨g, o, rfl⟩ := hr.at (by omega)
   obtain ⟨d0, d1, d2, d3, d4, d5, d6, d7⟩ := rdE hr hkn
   have HT := hid (HTn.out k (by have := HN.out; omega))
   have HLn : Hid (((S.take k).map F).length <= 100000) := hid (by have := HN.out; simp; omega)
   obtain ⟨x, ex⟩ : ∃ x, att S k = x := ⟨_, rfl⟩
   rw [ex] at d0 d1 d2 d3 d4 d5 d6 d7 HT
   obtain ⟨M, eM⟩ : ∃ M, (S.take k).map F = M := ⟨_, rfl⟩
   rw [eM] at HT HLn HK
   have HFx := hid (HF.out x)
   obtain ⟨y, ey⟩ : ∃ y, F x = y := ⟨_, rfl⟩
   rw [ey] at HT HFx
   have A3 := Still.alloc wr (.cells (ecs y) enT)
   have A4 := Still.alloc (newE wr y) (.cells (ecs y) enT)
   have HO4 := hid ((HK.out.1.still A3).still A4)
   have HX4 : Hid ((newE (newE wr y) y).heap[wr.heap.size + 1]? = some (.cells (KE.f y).toArray enT (0, 0))) := hid (by
    have := newE_eb (newE wr y) y
    rw [size_alloc] at this
    exact this)
   have HS4 := hid ((HK.out.2.trans A3).trans A4)
   have HB4 := hid HS4.out.size
   have A5 := Still.alloc wr (.cells (ecs x) enT)
   obtain ⟨e1, e2, _, _⟩ := HCy.out (newE wr x) (HK.out.2.trans A5)
   obtain ⟨f0, f1, f2, f3, f4, f5, f6, f7, ff⟩ := (newE_eb wr x).cells
   clear A3 A4 A5 HK ex eM ey hr
   cases ib with
   | true =>
    have hin : 0 <= r /\ r < z := of_decide_eq_true HIB.out
    have r1 : r ≥ 0 := hin.1
    have r2 : r < z := hin.2
    clear hin
    by_cases h1 : x.ms <= r
    ·have hy : y = stM x 0 := by
      have := HFx.out
      rw [if_pos rfl] at this
      unfold heE at this
      rwa [if_pos h1] at this
     subst hy
     simp only [stM] at HO4 HX4 HS4 HB4 HT
     go_wp2_with (
      at_builtin
      refine wpList_appG KE _ rfl _ _ _ rfl rfl 64 infoE (by omega) w.heap.size (wr.heap.size + 1) (.slice bo m bc) M (stM x 0) rfl rfl HO4.out HX4.out HLn.out HB4.out ?_
      intro v' w' ho' hf'
      have HK5 : Hid (OwG KE enT w' w.heap.size v' (M ++ [stM x 0]) /\ Still w w') := hid ⟨ho', still_appG HS4.out HO4.out hf' (Nat.le_refl _)⟩
      obtain ⟨bo5, bc5, e5, _⟩ := ho'.slice
      subst e5
      obtain ⟨m5, em5⟩ : ∃ m, (M ++ [stM x 0]).length = m := ⟨_, rfl⟩
      rw [em5] at HK5 ⊢
      clear ho' hf' em5)
     clear c3 c1 d0 d1 d2 d3 d4 d5 d6 d7 e1 e2 f0 f1 f2 f3 f4 f5 f6 f7 ff
     go_roundw
     case rel => exact ⟨k + 1, by omega, by go_num, _, _, _, rfl, by rw [HT.out]; exact HK5⟩
     case measure => simp [intOf]; omega
    ·have hy : y = x := by
      have := HFx.out
      rw [if_pos rfl] at this
      unfold heE at this
      rwa [if_neg h1] at this
     subst hy
     go_wp2_with (
      at_builtin
      refine wpList_appG KE _ rfl _ _ _ rfl rfl 64 infoE (by omega) w.heap.size (wr.heap.size + 1) (.slice bo m bc) M y rfl rfl HO4.out HX4.out HLn.out HB4.out ?_
      intro v' w' ho' hf'
      have HK5 : Hid (OwG KE enT w' w.heap.size v' (M ++ [y]) /\ Still w w') := hid ⟨ho', still_appG HS4.out HO4.out hf' (Nat.le_refl _)⟩
      obtain ⟨bo5, bc5, e5, _⟩ := ho'.slice
      subst e5
      obtain ⟨m5, em5⟩ : ∃ m, (M ++ [y]).length = m := ⟨_, rfl⟩
      rw [em5] at HK5 ⊢
      clear ho' hf' em5)
     clear c3 c1 d0 d1 d2 d3 d4 d5 d6 d7 e1 e2 f0 f1 f2 f3 f4 f5 f6 f7 ff
     go_roundw
     case rel => exact ⟨k + 1, by omega, by go_num, _, _, _, rfl, by rw [HT.out]; exact HK5⟩
     case measure => simp [intOf]; omega
   | false =>
    have hin : ¬ (0 <= r /\ r < z) := of_decide_eq_false HIB.out
    have hy : y = x := by
     have := HFx.out
     rwa [if_neg (by decide)] at this
    subst hy
    have hc : r < 0 \/ (r ≥ 0 /\ ¬ r < z) := by omega
    clear hin
    rcases hc with r1 | ⟨r1, r2⟩
    ·have r1' : ¬ r ≥ 0 := by omega
     go_wp2_with (
      at_builtin
      refine wpList_appG KE _ rfl _ _ _ rfl rfl 64 infoE (by omega) w.heap.size (wr.heap.size + 1) (.slice bo m bc) M y rfl rfl HO4.out HX4.out HLn.out HB4.out ?_
      intro v' w' ho' hf'
      have HK5 : Hid (OwG KE enT w' w.heap.size v' (M ++ [y]) /\ Still w w') := hid ⟨ho', still_appG HS4.out HO4.out hf' (Nat.le_refl _)⟩
      obtain ⟨bo5, bc5, e5, _⟩ := ho'.slice
      subst e5
      obtain ⟨m5, em5⟩ : ∃ m, (M ++ [y]).length = m := ⟨_, rfl⟩
      rw [em5] at HK5 ⊢
      clear ho' hf' em5)
     clear c3 c1 d0 d1 d2 d3 d4 d5 d6 d7 e1 e2 f0 f1 f2 f3 f4 f5 f6 f7 ff
     go_roundw
     case rel => exact ⟨k + 1, by omega, by go_num, _, _, _, rfl, by rw [HT.out]; exact HK5⟩
     case measure => simp [intOf]; omega
    ·go_wp2_with (
      at_builtin
      refine wpList_appG KE _ rfl _ _ _ rfl rfl 64 infoE (by omega) w.heap.size (wr.heap.size + 1) (.slice bo m bc) M y rfl rfl HO4.out HX4.out HLn.out HB4.out ?_
      intro v' w' ho' hf'
      have HK5 : Hid (OwG KE enT w' w.heap.size v' (M ++ [y]) /\ Still w w') := hid ⟨ho', still_appG HS4.out HO4.out hf' (Nat.le_refl _)⟩
      obtain ⟨bo5, bc5, e5, _⟩ := ho'.slice
      subst e5
      obtain ⟨m5, em5⟩ : ∃ m, (M ++ [y]).length = m := ⟨_, rfl⟩
      rw [em5] at HK5 ⊢
      clear ho' hf' em5)
     clear c3 c1 d0 d1 d2 d3 d4 d5 d6 d7 e1 e2 f0 f1 f2 f3 f4 f5 f6 f7 ff
     go_roundw
     case rel => exact ⟨k + 1, by omega, by go_num, _, _, _, rfl, by rw [HT.out]; exact HK5⟩
     case measure => simp [intOf]; omega
  ·have hge : ¬ (k : Int) < (n : Int) := by omega
   have ho : OwG KE enT wr w.heap.size (.slice bo m bc) (S.map F) := by have := HK.out.1; rwa [List.take_of_length_le (by have := HN.out; omega)] at this
   have hm : m = (S.map F).length := by
    obtain ⟨_, _, e6, _⟩ := ho.slice
    injection e6
   obtain ⟨_, _, _, ff⟩ := HCy.out wr HK.out.2
   rw [hm] at ho
   have HFn := hid (HFin.out wr bo bc HK.out.2 ho)
   rw [<- hm] at HFn
   clear HK hr ho hm
   go_wp2_with fail
   go_end0
   exact ⟨rfl, HFn.out⟩
end Go.Proofs.Ytdmgalaajgebkaa
namespace Go.Proofs.Ytdmgalaajgebkaa
open Go.RowKit
set_option maxRecDepth 100000
theorem Yf.base {w wr : World} {yb : Nat} {ao : Option Addr} {s0 s : Lgs} (h : Yf w wr yb ao s0 s) (f : Int) : Yf w (wr.setCell ⟨yb, 2, none⟩ (.int .i64 f)) yb ao s0 { s with ba := f } := by
 obtain ⟨⟨bo, bc, hy, hx⟩, hf⟩ := h
 have hf2 : Fr (fun k => k = yb) wr (wr.setCell ⟨yb, 2, none⟩ (.int .i64 f)) := (Fr.refl _ wr).setCell _ _ (.inl rfl)
 exact ⟨⟨bo, bc, ⟨(heap_setCell_same wr yb 2 _ _ _ hy.bk).trans (by rfl), hy.sr.keep hf2 (fun a ha h0 e => hy.ane a ha h0 e)⟩, hx⟩, Fr.trans hf hf2 (fun _ _ e => e)⟩
theorem pu_next {f : Int} {S : List En} {k : Nat} (hk : k < S.length) : puS f (S.take (k + 1)) = if f < (att S k).fr then puS f (S.take k) ++ [att S k] else puS f (S.take k) := by
 unfold puS
 rw [take_next hk, List.filter_append]
 by_cases h : f < (att S k).fr
 ·rw [if_pos h, List.filter_cons_of_pos (by simpa using h), List.filter_nil]
 ·rw [if_neg h, List.filter_cons_of_neg (by simpa using h), List.filter_nil, List.append_nil]
theorem pu_len (f : Int) (S : List En) (k : Nat) : (puS f (S.take k)).length <= S.length := Nat.le_trans (List.length_filter_le _ _) (List.length_take_le' ..)
theorem pu_sum (f : Int) : ∀ (S : List En), S.length = puN f S + (puS f S).length
 | [] => rfl
 | x :: S => by
  have ih := pu_sum f S
  unfold puN puS at ih ⊢
  rw [List.countP_cons, List.length_cons]
  by_cases h : f < x.fr
  ·rw [List.filter_cons_of_pos (by simpa using h), List.length_cons, if_neg (by simp; omega)]
   omega
  ·rw [List.filter_cons_of_neg (by simpa using h), if_pos (by simp; omega)]
   omega
set_option maxHeartbeats 4000000 in
theorem rPurge19_yes (s : Lgs) (yb cap : Nat) (ao : Option Addr) (f : Int) (hf : s.ba < f /\ f <= 1099511627776) (hl : s.S.length <= 2016) (w : World) (h : Ym w yb ao cap s) : Calls Try.prog 33 #[.pointer (some ⟨yb, 0, none⟩), .int .i64 f] w fun e w' => e = .returned (.int .i64 (puN f s.S : Int)) /\ Yf w w' yb ao s ⟨s.np, s.nr, f, puS f s.S⟩ := by
 have HY := hid h
 obtain ⟨s', es'⟩ : ∃ s' : Lgs, (⟨s.np, s.nr, f, puS f s.S⟩ : Lgs) = s' := ⟨_, rfl⟩
 rw [es']
 obtain ⟨_, _, c2, _, _⟩ := h.cell
 obtain ⟨S, eS⟩ : ∃ S, s.S = S := ⟨_, rfl⟩
 obtain ⟨b, eb⟩ : ∃ z, s.ba = z := ⟨_, rfl⟩
 have HFin : Hid (∀ wr bo bc, Still w wr -> OwG KE enT wr w.heap.size (.slice bo (puS f S).length bc) (puS f S) -> Yf w ((wr.setCell ⟨yb, 3, none⟩ (.slice bo (puS f S).length bc)).setCell ⟨yb, 2, none⟩ (.int .i64 f)) yb ao s s') := hid (fun wr bo bc hs ho => by
  rw [<- es', eS]
  exact (h.list hs ho (by have := pu_len f S S.length; rw [List.take_of_length_le (Nat.le_refl _)] at this; rw [eS] at hl; omega)).base f)
 have HSum := hid (pu_sum f S)
 rw [eS] at hl ⊢
 rw [eb] at hf c2
 obtain ⟨n, en⟩ : ∃ n, S.length = n := ⟨_, rfl⟩
 have HN := hid en
 have HCy : Hid (∀ u, Still w u -> u.cell? ⟨yb, 3, none⟩ = some (.slice ao n cap) /\ u.cell? ⟨yb, 2, none⟩ = some (.int .i64 b) /\ RdG KE u ao n S /\ ∀ o, u.frozen? ⟨yb, o, none⟩ = false) := hid (fun u hu => by
  have := (HY.out.still hu).cell.2.2.2.1
  have h1 := (HY.out.still hu).cell.2.2.1
  have h2 := (HY.out.still hu).sr.rd
  rw [eS, en] at this h2
  rw [eb] at h1
  exact ⟨this, h1, h2, (HY.out.still hu).cell.2.2.2.2⟩)
 rw [en] at hl HSum
 obtain ⟨q, eq⟩ : ∃ q, puN f S = q := ⟨_, rfl⟩
 rw [eq] at HSum ⊢
 clear eq
 have d1 : ¬ f <= b := by omega
 have d2 : ¬ f > 1099511627776 := by omega
 clear h en eS eb es' hf
 go_enter Try.func33, Try.ntmps33
 go_wp2_with fail
 go_loopw [6, 5] (fun u v wr => ∃ k : Nat, k <= n /\ u = .int .i64 (k : Int) /\ ∃ bo m bc, v = .slice bo m bc /\ Hid (OwG KE enT wr w.heap.size (.slice bo m bc) (puS f (S.take k)) /\ Still w wr)) (fun u _ _ => n - (intOf u).toNat)
 case atStart => exact ⟨0, by omega, rfl, _, _, _, rfl, hid ⟨OwG.nil _ _, Fr.refl _ _⟩⟩
 case round =>
  obtain ⟨k, hk, rfl, bo, m, bc, rfl, HK⟩ := hrel
  obtain ⟨c3, c2', hr, ff⟩ := HCy.out wr HK.out.2
  by_cases hkn : k < n
  ·have hlt : (k : Int) < (n : Int) := by omega
   obtain ⟨g, o, rfl⟩ := hr.at (by omega)
   obtain ⟨d0, d1', d2', d3, d4, d5, d6, d7⟩ := rdE hr hkn
   have HT := hid (pu_next (f := f) (S := S) (k := k) (by have := HN.out; omega))
   have HLn : Hid ((puS f (S.take k)).length <= 100000) := hid (by have := pu_len f S k; have := HN.out; omega)
   obtain ⟨x, ex⟩ : ∃ x, att S k = x := ⟨_, rfl⟩
   rw [ex] at d0 d1' d2' d3 d4 d5 d6 d7 HT
   obtain ⟨M, eM⟩ : ∃ M, puS f (S.take k) = M := ⟨_, rfl⟩
   rw [eM] at HT HLn HK
   clear ex eM hr
   by_cases h1 : f < x.fr
   ·have HT2 := hid (HT.out.trans (if_pos h1))
    have A4 := Still.alloc wr (.cells (ecs x) enT)
    have HO4 := hid (HK.out.1.still A4)
    have HX4 : Hid ((newE wr x).heap[wr.heap.size]? = some (.cells (KE.f x).toArray enT (0, 0))) := hid (newE_eb wr x)
    have HS4 := hid (HK.out.2.trans A4)
    have HB4 := hid HS4.out.size
    clear A4 HK HT
    go_wp2_with (
     at_builtin
     refine wpList_appG KE _ rfl _ _ _ rfl rfl 64 infoE (by omega) w.heap.size wr.heap.size (.slice bo m bc) M x rfl rfl HO4.out HX4.out HLn.out HB4.out ?_
     intro v' w' ho' hf'
     have HK5 : Hid (OwG KE enT w' w.heap.size v' (M ++ [x]) /\ Still w w') := hid ⟨ho', still_appG HS4.out HO4.out hf' (Nat.le_refl _)⟩
     obtain ⟨bo5, bc5, e5, _⟩ := ho'.slice
     subst e5
     obtain ⟨m5, em5⟩ : ∃ m, (M ++ [x]).length = m := ⟨_, rfl⟩
     rw [em5] at HK5 ⊢
     clear ho' hf' em5)
    clear c3 c2' d0 d1' d2' d3 d4 d5 d6 d7
    go_roundw
    case rel => exact ⟨k + 1, by omega, by go_num, _, _, _, rfl, by rw [HT2.out]; exact HK5⟩
    case measure => simp [intOf]; omega
   ·have h1' : ¬ x.fr > f := h1
    have HT2 := hid (HT.out.trans (if_neg h1))
    clear h1 HT
    go_wp2_with fail
    go_roundw
    case rel => exact ⟨k + 1, by omega, by go_num, _, _, _, rfl, by rw [HT2.out]; exact HK⟩
    case measure => simp [intOf]; omega
  ·have hge : ¬ (k : Int) < (n : Int) := by omega
   have ho : OwG KE enT wr w.heap.size (.slice bo m bc) (puS f S) := by have := HK.out.1; rwa [List.take_of_length_le (by have := HN.out; omega)] at this
   have hm : m = (puS f S).length := by
    obtain ⟨_, _, e6, _⟩ := ho.slice
    injection e6
   have hms : n = q + m := by rw [hm]; exact HSum.out
   rw [hm] at ho
   have HFn := hid (HFin.out wr bo bc HK.out.2 ho)
   rw [<- hm] at HFn
   have hwq : IntKind.i64.wrap ((n : Int) - (m : Int)) = (q : Int) := by rw [IntKind.wrap_i64]; omega
   have hwq2 : wrap64 ((n : Int) - (m : Int)) = (q : Int) := by rw [<- IntWalk.i64_left]; exact hwq
   have HW := hid hwq2
   clear HK hr ho hm hms hwq2
   go_wp2_with fail
   go_ret
   exact ⟨by first | rfl | (rw [<- HW.out]; rfl), HFn.out⟩
theorem rPurge19_no (s : Lgs) (yb cap : Nat) (ao : Option Addr) (f : Int) (hf : ¬ (s.ba < f /\ f <= 1099511627776)) (w : World) (h : Ym w yb ao cap s) : Calls Try.prog 33 #[.pointer (some ⟨yb, 0, none⟩), .int .i64 f] w fun e w' => e = .returned (.int .i64 0) /\ w' = w := by
 obtain ⟨_, _, c2, _, _⟩ := h.cell
 obtain ⟨b, eb⟩ : ∃ z, s.ba = z := ⟨_, rfl⟩
 rw [eb] at c2 hf
 clear h eb
 by_cases h1 : f <= b
 ·clear hf
  go_enter Try.func33, Try.ntmps33
  go_wp2_with fail
  go_ret
  exact ⟨rfl, rfl⟩
 ·have h2 : f > 1099511627776 := by omega
  clear hf
  go_enter Try.func33, Try.ntmps33
  go_wp2_with fail
  go_ret
  exact ⟨rfl, rfl⟩
theorem rPurge19 (s : Lgs) (yb cap : Nat) (ao : Option Addr) (f : Int) (hl : s.S.length <= 2016) (w : World) (h : Ym w yb ao cap s) : Calls Try.prog 33 #[.pointer (some ⟨yb, 0, none⟩), .int .i64 f] w fun e w' => e = .returned (.int .i64 (puR s f : Int)) /\ Yf w w' yb ao s (puA s f) := by
 unfold puA puR
 cases hb : puB s f with
 | true => exact rPurge19_yes s yb cap ao f (of_decide_eq_true hb) hl w h
 | false =>
  refine (rPurge19_no s yb cap ao f (of_decide_eq_false hb) w h).mono ?_
  rintro e w' ⟨rfl, hw⟩
  subst hw
  exact ⟨rfl, Yf.same h (Fr.refl _ _)⟩
end Go.Proofs.Ytdmgalaajgebkaa
namespace Go.Proofs.Ytdmgalaajgebkaa
open Go.RowKit
set_option maxRecDepth 100000
theorem cntF_next {f p : Int} {S : List En} {k : Nat} (hk : k < S.length) : cntF f p (S.take (k + 1)) = cntF f p (S.take k) + if decide ((att S k).fr = f /\ (att S k).pe = p) = true then 1 else 0 := cnt_take (p := fun x => decide (x.fr = f /\ x.pe = p)) hk
theorem ins_eq {x : En} {S S' : List En} (h : Srt S) (hx : hasK x S = false) (hp : S'.Perm (S ++ [x])) (hs : Srt S') : S' = insE x S := srt_eq hs (ins_sorted h hx) (hp.trans (ins_perm x S).symm)
set_option maxHeartbeats 4000000 in
theorem rPut19_arg (s : Lgs) (yb cap : Nat) (ao : Option Addr) (x : En) (m : Int) (ha : argB s x m = false) (w : World) (h : Ym w yb ao cap s) : Calls Try.prog 24 #[.pointer (some ⟨yb, 0, none⟩), .agg (hcs x), .int .i64 m] w fun e w' => e = .returned (.int .i64 1) /\ Still w w' := by
 have A0 := Still.alloc w (.cells (hcs x) cmT)
 have HX0 : Hid (Cb19 (w.alloc (.cells (hcs x) cmT)) w.heap.size x) := hid (heap_alloc_new w _)
 have HY := hid (h.still A0)
 have HS0 := hid A0
 obtain ⟨W, eW⟩ : ∃ W, w.alloc (.cells (hcs x) cmT) = W := ⟨_, rfl⟩
 obtain ⟨g, eg⟩ : ∃ g, w.heap.size = g := ⟨_, rfl⟩
 rw [eW] at HX0 HY HS0
 rw [eg] at HX0
 obtain ⟨c0, c1, c2, c3, c4, c5, c6⟩ := HX0.out.cells
 obtain ⟨y0, y1, y2, y3, _⟩ := HY.out.cell
 obtain ⟨a, ea⟩ : ∃ z, s.np = z := ⟨_, rfl⟩
 obtain ⟨r, er⟩ : ∃ z, s.nr = z := ⟨_, rfl⟩
 have hcases : (x.pe < 0) \/ (¬ x.pe < 0 /\ x.pe ≥ a) \/ (¬ x.pe < 0 /\ ¬ x.pe ≥ a /\ x.se < 1) \/ (¬ x.pe < 0 /\ ¬ x.pe ≥ a /\ ¬ x.se < 1 /\ x.se > 1099511627776) \/ (¬ x.pe < 0 /\ ¬ x.pe ≥ a /\ ¬ x.se < 1 /\ ¬ x.se > 1099511627776 /\ m < 0) \/ (¬ x.pe < 0 /\ ¬ x.pe ≥ a /\ ¬ x.se < 1 /\ ¬ x.se > 1099511627776 /\ ¬ m < 0 /\ m ≥ r) := by
  unfold argB inR at ha
  rw [ea, er] at ha
  simp only [<- Bool.decide_and] at ha
  have := of_decide_eq_false ha
  omega
 rw [ea] at y0
 rw [er] at y1
 have k1 := Cl.cell c1
 have k2 := Cl.cell c2
 have l0 := Cl.cell y0
 have l1 := Cl.cell y1
 have hne := Aft.here W
 clear A0 ha ea er c0 c1 c2 c3 c4 c5 c6 y0 y1 y2 y3 h
 have hd : ∃ b1 b2 b3 b4 b5 b6 : Bool, decide (x.pe < 0) = b1 /\ decide (a <= x.pe) = b2 /\ decide (x.se < 1) = b3 /\ decide (1099511627776 < x.se) = b4 /\ decide (m < 0) = b5 /\ decide (r <= m) = b6 /\ (b1 = true \/ (b1 = false /\ b2 = true) \/ (b1 = false /\ b2 = false /\ b3 = true) \/ (b1 = false /\ b2 = false /\ b3 = false /\ b4 = true) \/ (b1 = false /\ b2 = false /\ b3 = false /\ b4 = false /\ b5 = true) \/ (b1 = false /\ b2 = false /\ b3 = false /\ b4 = false /\ b5 = false /\ b6 = true)) := by
  refine ⟨_, _, _, _, _, _, rfl, rfl, rfl, rfl, rfl, rfl, ?_⟩
  simp only [decide_eq_true_eq, decide_eq_false_iff_not]
  omega
 clear hcases
 obtain ⟨b1, b2, b3, b4, b5, b6, e1, e2, e3, e4, e5, e6, hd⟩ := hd
 have e2' : decide (x.pe ≥ a) = b2 := e2
 have e4' : decide (x.se > 1099511627776) = b4 := e4
 have e6' : decide (m ≥ r) = b6 := e6
 rcases hd with rfl | ⟨rfl, rfl⟩ | ⟨rfl, rfl, rfl⟩ | ⟨rfl, rfl, rfl, rfl⟩ | ⟨rfl, rfl, rfl, rfl, rfl⟩ | ⟨rfl, rfl, rfl, rfl, rfl, rfl⟩
 all_goals
  go_enter Try.func24, Try.ntmps24
  go_upto_region 1 with fail
  clear eW eg
  refine region_all (by kernel_rfl) (by kernel_rfl) ?_
  repeat (go_big_quiet_step (rfl))
  refine wpQuiet_nil ?_
  intro w2 h2
  have HS2 := hid (HS0.out.trans h2)
  clear h2 hne k1 k2 l0 l1
  go_wp2_with fail
  go_ret
  exact ⟨rfl, HS2.out⟩
end Go.Proofs.Ytdmgalaajgebkaa
namespace Go.Proofs.Ytdmgalaajgebkaa
open Go.RowKit
set_option maxRecDepth 100000
set_option maxHeartbeats 8000000 in
theorem rPut19_ok (s : Lgs) (yb cap : Nat) (ao : Option Addr) (x : En) (m : Int) (ha : argB s x m = true) (hs : Lo s) (hx : -9223372036854775808 <= x.fr /\ x.fr <= 9223372036854775807) (w : World) (h : Ym w yb ao cap s) : Calls Try.prog 24 #[.pointer (some ⟨yb, 0, none⟩), .agg (hcs x), .int .i64 m] w fun e w' => e = .returned (.int .i64 (putC s x m)) /\ Yf w w' yb ao s (putA s x m) := by
  have A0 := Still.alloc w (.cells (hcs x) cmT)
  have HX0 : Hid (Cb19 (w.alloc (.cells (hcs x) cmT)) w.heap.size x) := hid (heap_alloc_new w _)
  have HYw := hid h
  have HY := hid (h.still A0)
  have HS0 := hid A0
  have HOk := hid hs
  have hb := hs.b
  have hl := len_2016 hs
  have HArg := hid ha
  obtain ⟨W, eW⟩ : ∃ W, w.alloc (.cells (hcs x) cmT) = W := ⟨_, rfl⟩
  obtain ⟨g, eg⟩ : ∃ g, w.heap.size = g := ⟨_, rfl⟩
  rw [eW] at HX0 HY HS0
  rw [eg] at HX0
  have HG := hid eg
  obtain ⟨c0, c1, c2, c3, c4, c5, c6⟩ := HX0.out.cells
  obtain ⟨y0, y1, y2, y3, _⟩ := HY.out.cell
  obtain ⟨a, ea⟩ : ∃ z, s.np = z := ⟨_, rfl⟩
  obtain ⟨r, er⟩ : ∃ z, s.nr = z := ⟨_, rfl⟩
  have hd : decide (x.pe < 0) = false /\ decide (a <= x.pe) = false /\ decide (x.se < 1) = false /\ decide (1099511627776 < x.se) = false /\ decide (m < 0) = false /\ decide (r <= m) = false := by
    unfold argB inR at ha
    rw [ea, er] at ha
    simp only [<- Bool.decide_and] at ha
    have := of_decide_eq_true ha
    simp only [decide_eq_false_iff_not]
    omega
  obtain ⟨e1, e2, e3, e4, e5, e6⟩ := hd
  have e2' : decide (x.pe ≥ a) = false := e2
  have e4' : decide (x.se > 1099511627776) = false := e4
  have e6' : decide (m ≥ r) = false := e6
  obtain ⟨b, eb⟩ : ∃ z, s.ba = z := ⟨_, rfl⟩
  have HBa := hid eb
  have HKp : Hid (kpB s x.fr = decide (b < x.fr /\ x.fr <= b + 112)) := hid (by unfold kpB; rw [eb])
  rw [ea] at y0
  rw [er] at y1
  rw [eb] at y2 hb
  have k0 := Cl.cell c0
  have k1 := Cl.cell c1
  have k2 := Cl.cell c2
  have l0 := Cl.cell y0
  have l1 := Cl.cell y1
  have hne := Aft.here W
  clear A0 ha ea er eb c0 c1 c2 c3 c4 c5 c6 y0 y1 y2 y3 h hs
  go_enter Try.func24, Try.ntmps24
  go_upto_region 1 with fail
  clear eW eg
  refine region_all (by kernel_rfl) (by kernel_rfl) ?_
  repeat (go_big_quiet_step (rfl))
  refine wpQuiet_nil ?_
  intro w2 h2
  have HS2 := hid (HS0.out.trans h2)
  have HX2 := hid (HX0.out.still h2)
  have HY2 := hid (HY.out.still h2)
  clear h2 hne k0 k1 k2 l0 l1 e1 e2 e3 e4 e5 e6 e2' e4' e6' HX0 HY HS0
  go_upto_region 3 with fail
  obtain ⟨c0, c1, c2, c3, c4, c5, c6⟩ := HX2.out.cells
  obtain ⟨y0, y1, y2, y3, _⟩ := HY2.out.cell
  rw [HBa.out] at y2
  have k0 := Cl.cell c0
  have l2 := Cl.cell y2
  have hne := Aft.here w2
  clear c0 c1 c2 c3 c4 c5 c6 y0 y1 y2 y3
  have hP190 : kpB s x.fr = false -> putC s x m = 190 := fun hk => by unfold putC; rw [if_neg (by rw [HArg.out]; decide), if_pos hk]
  by_cases h1 : x.fr <= b
  · have d1 : decide (x.fr <= b) = true := decide_eq_true h1
    have HP := hid (hP190 (by rw [HKp.out]; exact decide_eq_false (by omega)))
    clear h1 hP190
    refine region_all (by kernel_rfl) (by kernel_rfl) ?_
    repeat (go_big_quiet_step (rfl))
    refine wpQuiet_nil ?_
    intro w3 h3
    have HS3 := hid (HS2.out.trans h3)
    clear h3 hne k0 l2
    go_wp2_with fail
    go_ret
    rw [HP.out, putA_no HP.out (by decide)]
    exact ⟨rfl, Yf.same HYw.out HS3.out⟩
  · have d1 : decide (x.fr <= b) = false := decide_eq_false h1
    have hw1 : IntKind.i64.wrap (x.fr - b) = x.fr - b := by rw [IntKind.wrap_i64]; omega
    have hw2 : wrap64 (x.fr - b) = x.fr - b := by rw [<- IntWalk.i64_left]; exact hw1
    by_cases h2 : x.fr - b > 112
    · have d2 : decide (x.fr - b > 112) = true := decide_eq_true h2
      have d2' : decide (112 < x.fr - b) = true := d2
      have HP := hid (hP190 (by rw [HKp.out]; exact decide_eq_false (by omega)))
      clear h1 h2 hP190
      refine region_all (by kernel_rfl) (by kernel_rfl) ?_
      repeat (go_big_quiet_step (rfl))
      refine wpQuiet_nil ?_
      intro w3 h3
      have HS3 := hid (HS2.out.trans h3)
      clear h3 hne k0 l2 hw1 hw2
      go_wp2_with fail
      go_ret
      rw [HP.out, putA_no HP.out (by decide)]
      exact ⟨rfl, Yf.same HYw.out HS3.out⟩
    · have d2 : decide (x.fr - b > 112) = false := decide_eq_false h2
      have d2' : decide (112 < x.fr - b) = false := d2
      have HKt : Hid (kpB s x.fr = true) := hid (by rw [HKp.out]; exact decide_eq_true (by omega))
      clear h1 h2 hP190
      refine region_all (by kernel_rfl) (by kernel_rfl) ?_
      repeat (go_big_quiet_step (rfl))
      refine wpQuiet_nil ?_
      intro w3 h3
      have HS3 := hid (HS2.out.trans h3)
      have HX3 := hid (HX2.out.still h3)
      have HY3 := hid (HY2.out.still h3)
      clear h3 hne k0 l2 hw1 hw2 d1 d2 d2' HS2 HX2 HY2 hb hx HKp
      obtain ⟨S, eS⟩ : ∃ S, s.S = S := ⟨_, rfl⟩
      have HSS := hid eS
      rw [eS] at hl
      obtain ⟨n, en⟩ : ∃ n, S.length = n := ⟨_, rfl⟩
      have HN := hid en
      have HCy : Hid (∀ u, Still w3 u -> u.cell? ⟨yb, 3, none⟩ = some (.slice ao n cap) /\ RdG KE u ao n S /\ Cb19 u g x) := hid (fun u hu => by
        have := (HY3.out.still hu).cell.2.2.2.1
        have h2 := (HY3.out.still hu).sr.rd
        rw [eS, en] at this h2
        exact ⟨this, h2, HX3.out.still hu⟩)
      rw [en] at hl
      clear en eS
      go_wp2_with fail
      go_loopw [8, 7] (fun u v wr => ∃ k : Nat, k <= n /\ u = .int .i64 (k : Int) /\ v = .int .i64 ((cntF x.fr x.pe (S.take k) : Nat) : Int) /\ Hid (Still w3 wr /\ ∀ t, t < k -> ¬ ((att S t).pe = x.pe /\ (att S t).se = x.se))) (fun u _ _ => n - (intOf u).toNat)
      case atStart => exact ⟨0, by omega, rfl, rfl, hid ⟨Fr.refl _ _, fun t ht => by omega⟩⟩
      case round =>
        obtain ⟨k, hk, rfl, rfl, HK⟩ := hrel
        obtain ⟨c3, hr, hX⟩ := HCy.out wr HK.out.1
        have hck : cntF x.fr x.pe (S.take k) <= 2016 := Nat.le_trans List.countP_le_length (by simp; omega)
        by_cases hkn : k < n
        · have hlt : (k : Int) < (n : Int) := by omega
          obtain ⟨G, o, rfl⟩ := hr.at (by omega)
          obtain ⟨d0, d1, d2, d3, d4, d5, d6, _⟩ := rdE hr hkn
          have HC := hid (cntF_next (f := x.fr) (p := x.pe) (S := S) (k := k) (by have := HN.out; omega))
          have HHas := hid (fun h => hasPS_t (a := x.pe) (b := x.se) (S := S) (t := k) (by have := HN.out; omega) h)
          obtain ⟨y, ey⟩ : ∃ y, att S k = y := ⟨_, rfl⟩
          rw [ey] at d0 d1 d2 d3 d4 d5 d6 HC HHas
          have HEy := hid ey
          obtain ⟨q, eq⟩ : ∃ q, cntF x.fr x.pe (S.take k) = q := ⟨_, rfl⟩
          rw [eq] at HC hck ⊢
          have A1 := Still.alloc wr (.cells (hcs y) cmT)
          obtain ⟨f0, f1, f2, f3, f4, f5, f6⟩ := (show Cb19 (wr.alloc (.cells (hcs y) cmT)) wr.heap.size y from heap_alloc_new wr _).cells
          obtain ⟨j3, _, hX4⟩ := HCy.out _ (HK.out.1.trans A1)
          obtain ⟨b0, b1, b2, _, _, _, _⟩ := hX4.cells
          have HS4 := hid (HK.out.1.trans A1)
          have HK1 := hid HK.out.2
          clear A1 ey eq HK hr hX hX4
          by_cases h1 : y.pe = x.pe
          · have t1 : (y.pe == x.pe) = true := beq_iff_eq.2 h1
            by_cases h2 : y.se = x.se
            · have t2 : (y.se == x.se) = true := beq_iff_eq.2 h2
              have HP : Hid (putC s x m = 191) := hid (by unfold putC; rw [if_neg (by rw [HArg.out]; decide), if_neg (by rw [HKt.out]; decide), if_pos (by rw [HSS.out]; exact HHas.out ⟨h1, h2⟩)])
              clear h1 h2 HC HHas
              go_wp2_with fail
              (first | rw [Exit.noGoto_ret] | skip)
              go_ret
              rw [HP.out, putA_no HP.out (by decide)]
              exact ⟨rfl, Yf.same HYw.out (HS3.out.trans HS4.out)⟩
            · have t2 : (y.se == x.se) = false := beq_eq_false_iff_ne.2 h2
              have HN1 : Hid (∀ t, t < k + 1 -> ¬ ((att S t).pe = x.pe /\ (att S t).se = x.se)) := hid (fun t ht => if e : t = k then (by rw [e, HEy.out]; exact fun h => h2 h.2) else HK1.out t (by omega))
              by_cases h3 : y.fr = x.fr
              · have t3 : (y.fr == x.fr) = true := beq_iff_eq.2 h3
                have HC2 : Hid (cntF x.fr x.pe (S.take (k + 1)) = q + 1) := hid (by rw [HC.out, if_pos (decide_eq_true ⟨h3, h1⟩)])
                clear h1 h2 h3 HC HHas
                go_wp2_with fail
                go_roundw
                case rel => exact ⟨k + 1, by omega, by go_num, by rw [HC2.out]; go_num, hid ⟨HS4.out, HN1.out⟩⟩
                case measure => simp [intOf]; omega
              · have t3 : (y.fr == x.fr) = false := beq_eq_false_iff_ne.2 h3
                have HC2 : Hid (cntF x.fr x.pe (S.take (k + 1)) = q) := hid (by rw [HC.out, if_neg (by simp; omega)]; rfl)
                clear h1 h2 h3 HC HHas
                go_wp2_with fail
                go_roundw
                case rel => exact ⟨k + 1, by omega, by go_num, by rw [HC2.out], hid ⟨HS4.out, HN1.out⟩⟩
                case measure => simp [intOf]; omega
          · have t1 : (y.pe == x.pe) = false := beq_eq_false_iff_ne.2 h1
            have HN1 : Hid (∀ t, t < k + 1 -> ¬ ((att S t).pe = x.pe /\ (att S t).se = x.se)) := hid (fun t ht => if e : t = k then (by rw [e, HEy.out]; exact fun h => h1 h.1) else HK1.out t (by omega))
            have HC2 : Hid (cntF x.fr x.pe (S.take (k + 1)) = q) := hid (by rw [HC.out, if_neg (by simp; omega)]; rfl)
            clear h1 HC HHas
            go_wp2_with fail
            go_roundw
            case rel => exact ⟨k + 1, by omega, by go_num, by rw [HC2.out], hid ⟨HS4.out, HN1.out⟩⟩
            case measure => simp [intOf]; omega
        · have hge : ¬ (k : Int) < (n : Int) := by omega
          have HF : Hid (cntF x.fr x.pe (S.take k) = cntF x.fr x.pe S) := hid (by rw [List.take_of_length_le (by have := HN.out; omega)])
          have HNo : Hid (hasPS x.pe x.se s.S = false) := hid (by rw [HSS.out]; exact hasPS_f (fun t ht => HK.out.2 t (by have := HN.out; omega)))
          have HS4 := hid HK.out.1
          rw [HF.out]
          obtain ⟨q, eq⟩ : ∃ q, cntF x.fr x.pe S = q := ⟨_, rfl⟩
          have HQ : Hid (cntF x.fr x.pe s.S = q) := hid (by rw [HSS.out]; exact eq)
          rw [eq]
          clear eq HK hkn hck hr
          by_cases hq : 3 <= q
          · have hq' : (q : Int) ≥ 3 := by omega
            have HP : Hid (putC s x m = 192) := hid (by unfold putC; rw [if_neg (by rw [HArg.out]; decide), if_neg (by rw [HKt.out]; decide), if_neg (by rw [HNo.out]; decide), if_pos (by rw [HQ.out]; exact hq)])
            clear hq
            go_wp2_with fail
            go_ret
            rw [HP.out, putA_no HP.out (by decide)]
            exact ⟨rfl, Yf.same HYw.out (HS3.out.trans HS4.out)⟩
          · have hq' : ¬ (q : Int) ≥ 3 := by omega
            have HP : Hid (putC s x m = 0) := hid (by unfold putC; rw [if_neg (by rw [HArg.out]; decide), if_neg (by rw [HKt.out]; decide), if_neg (by rw [HNo.out]; decide), if_neg (by rw [HQ.out]; exact hq)])
            have HHk : Hid (hasK (stM x m) S = false) := hid (by rw [<- HSS.out]; exact hasK_of_PS (x := stM x m) HNo.out)
            have HSrt : Hid (Srt S) := hid (by rw [<- HSS.out]; exact HOk.out.srt)
            have HPut : Hid (∀ u, Still wr u -> Calls Try.prog 41 #[.slice ao n cap, ev (stM x m)] u fun e w' => ∃ ao' cap' S', e = .returned (.tuple #[.slice ao' S'.length cap', .bool true]) /\ S' = insE (stM x m) S /\ OwG KE enT w' u.heap.size (.slice ao' S'.length cap') S' /\ Still u w') := hid (fun u hu => by
              have hsr : Sr u ao cap S := by
                have := (HY3.out.still (HS4.out.trans hu)).sr
                rwa [HSS.out] at this
              have hc := rPut_any (stM x m) S cap ao (by have := HN.out; omega) HSrt.out u hsr
              rw [HN.out] at hc
              refine hc.mono ?_
              rintro e w' (⟨h1, _⟩ | ⟨_, ao', cap', S', he, hp, hsS, ho, hs'⟩)
              · rw [HHk.out] at h1; cases h1
              · exact ⟨ao', cap', S', he, ins_eq HSrt.out HHk.out hp hsS, ho, hs'⟩)
            obtain ⟨b0, b1, b2, b3, b4, b5, b6⟩ := hX.cells
            have hyg : yb ≠ g := fun e => by
              have h1 := hX
              unfold Cb19 at h1
              have h2 := (HY3.out.still HS4.out).bk
              rw [e, h1] at h2
              injection h2 with h2
              injection h2 with _ h3 _
              exact absurd h3 (by decide)
            clear hq
            go_upto_region 16 with fail
            go_region_with
              (go_at_call 41
               refine (HPut.out _ (by repeat (first | exact Fr.refl _ _ | refine Fr.drew ?_ | refine Fr.alloc ?_ _))).mono ?_
               rintro e x1 ⟨ao1, cap1, S1, rfl, eS1, o1, g1⟩
               have HX1 : Hid (Still wr x1) := hid (by
                 refine Still.trans ?_ g1
                 repeat (first | exact Fr.refl _ _ | refine Fr.drew ?_ | refine Fr.alloc ?_ _))
               have HO1 : Hid (S1 = insE (stM x m) S /\ OwG KE enT x1 w.heap.size (.slice ao1 S1.length cap1) S1) := hid ⟨eS1, o1.less (by have h5 := (HS3.out.trans HS4.out).size; first | exact h5 | (simp only [World.drew]; exact h5) | (simp; omega))⟩
               obtain ⟨m3, _, mX⟩ := HCy.out x1 (HS4.out.trans HX1.out)
               have mf : ∀ o, x1.frozen? ⟨yb, o, none⟩ = false := (HY3.out.still (HS4.out.trans HX1.out)).cell.2.2.2.2
               obtain ⟨n0, n1, n2, n3, n4, n5, n6⟩ := mX.cells
               clear eS1 o1 g1 mX)
            all_goals
              go_wp2_with fail
              go_ret
              have hlen : S1.length <= 100000 := by
                have h5 := (ins_perm (stM x m) S).length_eq
                rw [HO1.out.1, h5, List.length_append]
                have := HN.out
                simp; omega
              have hL := HYw.out.list ((HS3.out.trans HS4.out).trans HX1.out) HO1.out.2 hlen
              have e9 : putA s x m = { s with S := S1 } := by unfold putA; rw [if_pos HP.out, HO1.out.1, HSS.out]
              rw [HP.out, e9]
              exact ⟨rfl, hL⟩
theorem rPut19 (s : Lgs) (yb cap : Nat) (ao : Option Addr) (x : En) (m : Int) (hs : Lo s) (hx : -9223372036854775808 <= x.fr /\ x.fr <= 9223372036854775807) (w : World) (h : Ym w yb ao cap s) : Calls Try.prog 24 #[.pointer (some ⟨yb, 0, none⟩), .agg (hcs x), .int .i64 m] w fun e w' => e = .returned (.int .i64 (putC s x m)) /\ Yf w w' yb ao s (putA s x m) := by
 cases ha : argB s x m with
 | true => exact rPut19_ok s yb cap ao x m ha hs hx w h
 | false =>
  refine (rPut19_arg s yb cap ao x m ha w h).mono ?_
  rintro e w' ⟨rfl, hw⟩
  have hp : putC s x m = 1 := pe_arg ha
  rw [hp, putA_no hp (by decide)]
  exact ⟨rfl, Yf.same h hw⟩
end Go.Proofs.Ytdmgalaajgebkaa
namespace Go.Proofs.Ytdmgalaajgebkaa
open Go.RowKit
set_option maxRecDepth 100000
def sp9E : En := ⟨0, 0, 0, 0, 0, 0, 0, -9⟩
def sp8E : En := ⟨0, 0, 0, 0, 0, 0, 0, -8⟩
def sp9C : En := ⟨0, 0, -9, 0, 0, 0, 0, 0⟩
def sp8C : En := ⟨0, 0, -8, 0, 0, 0, 0, 0⟩
theorem owC19 {e : TypeId} {w : World} {B g n cap : Nat} {L : List En} (h : OwG KC e w B (.slice (some ⟨g, 0, none⟩) n cap) L) {i : Nat} (hi : i < L.length) : w.cell? ⟨g, i * 7, none⟩ = some (.int .i64 (att L i).fr) /\ w.cell? ⟨g, i * 7 + 1, none⟩ = some (.int .i64 (att L i).pe) /\ w.cell? ⟨g, i * 7 + 2, none⟩ = some (.int .i64 (att L i).se) /\ w.cell? ⟨g, i * 7 + 3, none⟩ = some (.int .i64 (att L i).vb) /\ w.cell? ⟨g, i * 7 + 4, none⟩ = some (.int .i64 (att L i).a) /\ w.cell? ⟨g, i * 7 + 5, none⟩ = some (.int .i64 (att L i).b) /\ w.cell? ⟨g, i * 7 + 6, none⟩ = some (.int .i64 (att L i).c) /\ ∀ o, w.frozen? ⟨g, o, none⟩ = false :=
 ⟨h.get hi 0 _ rfl, h.get hi 1 _ rfl, h.get hi 2 _ rfl, h.get hi 3 _ rfl, h.get hi 4 _ rfl, h.get hi 5 _ rfl, h.get hi 6 _ rfl, h.frozen⟩
set_option maxHeartbeats 4000000 in
theorem lent19 (va : Value) (bo : Option Addr) (bc : Nat) (L : List En) (B : Nat) (h47 : L.length <= 3000) (w : World) (ho : OwG KE enT w B va L) (hB : B <= w.heap.size) (hb : RdG KE w bo L.length L) : Calls Try.prog 28 #[va, .slice bo L.length bc] w fun e w' => e = .returned (.bool true) /\ Fr (fun k => va.ownBlock = some k) w w' := by
 obtain ⟨co, cp, rfl, _⟩ := ho.slice
 have HS := hid (rsame_t L co bo L.length cp bc w (OwG.rd (M := []) (by rw [List.append_nil]; exact ho) (by omega)) hb)
 have HO := hid ho
 have HB := hid hB
 obtain ⟨n, en⟩ : ∃ n, L.length = n := ⟨_, rfl⟩
 have HL := hid en
 rw [en] at HS HO h47 ⊢
 clear ho hB hb en
 go_enter Try.func28, Try.ntmps28
 go_wp2_with fail
 refine HS.out.mono ?_
 rintro e w1 ⟨he, h1⟩
 rw [he]
 have HO1 := hid (HO.out.still h1)
 have HB1 := hid (Nat.le_trans HB.out h1.size)
 have HT1 : Hid (Fr (fun k => (Value.slice co n cp).ownBlock = some k) w w1) := hid (h1.mono (fun _ _ e => e.elim))
 clear he h1 HS HO HB
 go_wp2_with fail
 go_loopw [6] (fun u wr => ∃ i : Nat, i <= n /\ u = .int .i64 (i : Int) /\ Hid (∃ M : List En, M.length = n /\ OwG KE enT wr B (.slice co n cp) M) /\ Hid (Fr (fun k => (Value.slice co n cp).ownBlock = some k) w wr /\ B <= wr.heap.size)) (fun u _ => n - (intOf u).toNat)
 case atStart => exact ⟨0, by omega, rfl, hid ⟨L, HL.out, HO1.out⟩, hid ⟨HT1.out, HB1.out⟩⟩
 case round =>
  obtain ⟨i, hi, rfl, HM, HT⟩ := hrel
  obtain ⟨M, hM, oM⟩ := HM.out
  by_cases hin : i < n
  ·have hlt : (i : Int) < (n : Int) := by omega
   obtain ⟨g8, cap8, e8, _, _⟩ := oM.head (by omega)
   injection e8 with e81 e82 e83
   subst e81
   clear e82 e83
   obtain ⟨x0, x1, x2, x3, x4, x5, x6, x7, xf⟩ := owE oM (i := i) (by omega)
   have o2 := oM.put (i := i) (by omega) sp9E
   have HO2 := hid o2
   have HT2 : Hid (Fr (fun k => (Value.slice (some ⟨g8, 0, none⟩) n cp).ownBlock = some k) w (wr.setCells g8 (i * KE.k) (KE.f sp9E)) /\ B <= (wr.setCells g8 (i * KE.k) (KE.f sp9E)).heap.size) := hid ⟨fr_setCells g8 _ _ _ HT.out.1 (.inl rfl), Nat.le_trans HT.out.2 (fr_setCells (F := fun _ => True) g8 (KE.f sp9E) (i * KE.k) wr (Fr.refl _ _) (.inl trivial)).size⟩
   have HMl : Hid ((M.set i sp9E).length = n) := hid (by rw [List.length_set]; exact hM)
   clear o2 hM oM
   go_wp2_with fail
   go_roundw
   case rel => exact ⟨i + 1, by omega, by go_num, hid ⟨_, HMl.out, HO2.out⟩, HT2⟩
   case measure => simp [intOf]; omega
  ·have hlt : ¬ (i : Int) < (n : Int) := by omega
   obtain rfl : i = n := by omega
   have A1 := Still.alloc wr (.cells (KE.f sp8E).toArray enT)
   have HO3 := hid (oM.still A1)
   have HX3 : Hid ((wr.alloc (.cells (KE.f sp8E).toArray enT)).heap[wr.heap.size]? = some (.cells (KE.f sp8E).toArray enT (0, 0))) := hid (heap_alloc_new wr _)
   have HB3 : Hid (B <= (wr.alloc (.cells (KE.f sp8E).toArray enT)).heap.size) := hid (Nat.le_trans HT.out.2 A1.size)
   have HT3 : Hid (Fr (fun k => (Value.slice co i cp).ownBlock = some k) w (wr.alloc (.cells (KE.f sp8E).toArray enT))) := hid (Fr.trans HT.out.1 A1 (fun _ _ e => e.elim))
   have HLn : Hid (M.length <= 100000) := hid (by omega)
   have HMn := hid hM
   have hNN : (((i : Int) + 1) == ((i : Int) + 1)) = true := beq_self_eq_true _
   clear hM oM A1 HM HT
   go_wp2_with (
    at_builtin
    refine wpList_appG KE _ rfl _ _ _ rfl rfl 64 infoE (by omega) B wr.heap.size (.slice co i cp) M sp8E rfl rfl HO3.out HX3.out HLn.out HB3.out ?_
    intro v' w' ho' hf'
    have HF5 : Hid (Fr (fun k => (Value.slice co i cp).ownBlock = some k) w w') := hid (Fr.trans HT3.out hf' (fun _ _ e => e))
    obtain ⟨bo5, bc5, e5, _⟩ := ho'.slice
    subst e5
    have em5 : (M ++ [sp8E]).length = i + 1 := by rw [List.length_append, List.length_singleton, HMn.out]
    rw [em5]
    clear ho' hf' em5)
   go_ret
   exact ⟨by simp, HF5.out⟩
set_option maxHeartbeats 4000000 in
theorem lcom19 (va : Value) (bo : Option Addr) (bc : Nat) (L : List En) (B : Nat) (h47 : L.length <= 3000) (w : World) (ho : OwG KC cmT w B va L) (hB : B <= w.heap.size) (hb : RdG KC w bo L.length L) : Calls Try.prog 30 #[va, .slice bo L.length bc] w fun e w' => e = .returned (.bool true) /\ Fr (fun k => va.ownBlock = some k) w w' := by
 obtain ⟨co, cp, rfl, _⟩ := ho.slice
 have HS := hid (rsamec19_t L co bo L.length cp bc w (OwG.rd (M := []) (by rw [List.append_nil]; exact ho) (by omega)) hb)
 have HO := hid ho
 have HB := hid hB
 obtain ⟨n, en⟩ : ∃ n, L.length = n := ⟨_, rfl⟩
 have HL := hid en
 rw [en] at HS HO h47 ⊢
 clear ho hB hb en
 go_enter Try.func30, Try.ntmps30
 go_wp2_with fail
 refine HS.out.mono ?_
 rintro e w1 ⟨he, h1⟩
 rw [he]
 have HO1 := hid (HO.out.still h1)
 have HB1 := hid (Nat.le_trans HB.out h1.size)
 have HT1 : Hid (Fr (fun k => (Value.slice co n cp).ownBlock = some k) w w1) := hid (h1.mono (fun _ _ e => e.elim))
 clear he h1 HS HO HB
 go_wp2_with fail
 go_loopw [6] (fun u wr => ∃ i : Nat, i <= n /\ u = .int .i64 (i : Int) /\ Hid (∃ M : List En, M.length = n /\ OwG KC cmT wr B (.slice co n cp) M) /\ Hid (Fr (fun k => (Value.slice co n cp).ownBlock = some k) w wr /\ B <= wr.heap.size)) (fun u _ => n - (intOf u).toNat)
 case atStart => exact ⟨0, by omega, rfl, hid ⟨L, HL.out, HO1.out⟩, hid ⟨HT1.out, HB1.out⟩⟩
 case round =>
  obtain ⟨i, hi, rfl, HM, HT⟩ := hrel
  obtain ⟨M, hM, oM⟩ := HM.out
  by_cases hin : i < n
  ·have hlt : (i : Int) < (n : Int) := by omega
   obtain ⟨g8, cap8, e8, _, _⟩ := oM.head (by omega)
   injection e8 with e81 e82 e83
   subst e81
   clear e82 e83
   obtain ⟨x0, x1, x2, x3, x4, x5, x6, xf⟩ := owC19 oM (i := i) (by omega)
   have o2 := oM.put (i := i) (by omega) sp9C
   have HO2 := hid o2
   have HT2 : Hid (Fr (fun k => (Value.slice (some ⟨g8, 0, none⟩) n cp).ownBlock = some k) w (wr.setCells g8 (i * KC.k) (KC.f sp9C)) /\ B <= (wr.setCells g8 (i * KC.k) (KC.f sp9C)).heap.size) := hid ⟨fr_setCells g8 _ _ _ HT.out.1 (.inl rfl), Nat.le_trans HT.out.2 (fr_setCells (F := fun _ => True) g8 (KC.f sp9C) (i * KC.k) wr (Fr.refl _ _) (.inl trivial)).size⟩
   have HMl : Hid ((M.set i sp9C).length = n) := hid (by rw [List.length_set]; exact hM)
   clear o2 hM oM
   go_wp2_with fail
   go_roundw
   case rel => exact ⟨i + 1, by omega, by go_num, hid ⟨_, HMl.out, HO2.out⟩, HT2⟩
   case measure => simp [intOf]; omega
  ·have hlt : ¬ (i : Int) < (n : Int) := by omega
   obtain rfl : i = n := by omega
   have A1 := Still.alloc wr (.cells (KC.f sp8C).toArray cmT)
   have HO3 := hid (oM.still A1)
   have HX3 : Hid ((wr.alloc (.cells (KC.f sp8C).toArray cmT)).heap[wr.heap.size]? = some (.cells (KC.f sp8C).toArray cmT (0, 0))) := hid (heap_alloc_new wr _)
   have HB3 : Hid (B <= (wr.alloc (.cells (KC.f sp8C).toArray cmT)).heap.size) := hid (Nat.le_trans HT.out.2 A1.size)
   have HT3 : Hid (Fr (fun k => (Value.slice co i cp).ownBlock = some k) w (wr.alloc (.cells (KC.f sp8C).toArray cmT))) := hid (Fr.trans HT.out.1 A1 (fun _ _ e => e.elim))
   have HLn : Hid (M.length <= 100000) := hid (by omega)
   have HMn := hid hM
   have hNN : (((i : Int) + 1) == ((i : Int) + 1)) = true := beq_self_eq_true _
   clear hM oM A1 HM HT
   go_wp2_with (
    at_builtin
    refine wpList_appG KC _ rfl _ _ _ rfl rfl 56 infoC (by omega) B wr.heap.size (.slice co i cp) M sp8C rfl rfl HO3.out HX3.out HLn.out HB3.out ?_
    intro v' w' ho' hf'
    have HF5 : Hid (Fr (fun k => (Value.slice co i cp).ownBlock = some k) w w') := hid (Fr.trans HT3.out hf' (fun _ _ e => e))
    obtain ⟨bo5, bc5, e5, _⟩ := ho'.slice
    subst e5
    have em5 : (M ++ [sp8C]).length = i + 1 := by rw [List.length_append, List.length_singleton, HMn.out]
    rw [em5]
    clear ho' hf' em5)
   go_ret
   exact ⟨by simp, HF5.out⟩
end Go.Proofs.Ytdmgalaajgebkaa
namespace Go.Proofs.Ytdmgalaajgebkaa
open Go.RowKit
set_option maxRecDepth 100000
theorem cm_new_yes {a b : Int} (h : 2 <= a /\ a <= 6 /\ 2 <= b /\ b <= 5) (w : World) : Calls Try.prog 21 #[.int .i64 a, .int .i64 b] w fun e w' => e = .returned (.tuple #[.pointer (some ⟨w.heap.size, 0, none⟩), .int .i64 0]) /\ Lm w' w.heap.size w.heap.size ⟨a, b, 0, []⟩ zV /\ Still w w' := by
 refine (cm_new a b w).mono ?_
 rintro e w' (⟨_, he, hw⟩ | ⟨hf, _, _⟩)
 ·rw [hw]
  exact ⟨he, lm_new w h, Still.alloc w _⟩
 ·exact absurd h (of_decide_eq_false hf)
def k19 : En := ⟨1, 1, 1, 0, 0, 0, 0, 0⟩
theorem aw_put : putC ⟨2, 3, 0, []⟩ k19 1 = 0 /\ putA ⟨2, 3, 0, []⟩ k19 1 = ⟨2, 3, 0, [stM k19 1]⟩ := by
 refine ⟨by decide, ?_⟩
 unfold putA
 rw [if_pos (by decide)]
 rfl
theorem aw_mis : misA ⟨2, 3, 0, [stM k19 1]⟩ 0 = [k19] /\ misA ⟨2, 3, 0, [stM k19 1]⟩ 1 = [] := ⟨rfl, rfl⟩
set_option maxHeartbeats 4000000 in
theorem awake19_any (w : World) : Calls Try.prog 10 #[] w fun e w' => e = .returned (.bool true) /\ Still w w' := by
 have HN := hid (fun w => cm_new_yes (a := 2) (b := 3) (by omega) w)
 go_enter Try.func10, Try.ntmps10
 go_wp2_with fail
 refine (HN.out _).mono ?_
 rintro e w1 ⟨he, h1, hs1⟩
 rw [he]
 have HL1 := hid h1
 have HS1 := hid hs1
 obtain ⟨p, ep⟩ : ∃ p, w.heap.size = p := ⟨_, rfl⟩
 rw [ep] at HL1 ⊢
 have HP := hid ep
 clear he h1 hs1 HN ep
 have A2 := Still.alloc w1 (.cells (hcs k19) cmT)
 have HL2 := hid (HL1.out.still A2)
 have HX2 : Hid (Cb19 (w1.alloc (.cells (hcs k19) cmT)) w1.heap.size k19) := hid (heap_alloc_new w1 _)
 have HS2 := hid (HS1.out.trans A2)
 obtain ⟨W2, eW2⟩ : ∃ W, w1.alloc (.cells (hcs k19) cmT) = W := ⟨_, rfl⟩
 obtain ⟨g, eg⟩ : ∃ g, w1.heap.size = g := ⟨_, rfl⟩
 rw [eW2] at HL2 HX2 HS2
 rw [eg] at HX2
 obtain ⟨c0, c1, c2, c3, c4, c5, c6⟩ := HX2.out.cells
 have HC := hid (cm_put ⟨2, 3, 0, []⟩ p p zV k19 1 W2 (by have := HL2.out.lt; omega) HL2.out)
 rw [aw_put.1, aw_put.2] at HC
 simp only [hcs, k19] at eW2 c0 c1 c2 c3 c4 c5 c6
 have HGl : Hid (g < W2.heap.size /\ W2.heap.size = W2.heap.size) := hid ⟨block_lt HX2.out, rfl⟩
 have HEW := hid eW2
 clear A2 HL1 HS1 eW2
 go_upto_region 5 with fail
 rw [HEW.out]
 clear HEW
 go_wp2_with fail
 clear eg
 refine HC.out.mono ?_
 rintro e w3 ⟨he, hp⟩
 rw [he]
 obtain ⟨⟨vs3, hL3, _⟩, hf3⟩ := hp
 have hgp : g ≠ p := fun e => by
  have h1 := HX2.out
  unfold Cb19 at h1
  rw [e, HL2.out.bk] at h1
  injection h1 with h1
  injection h1 with _ h2 _
  exact absurd h2 (by decide)
 have HX3 : Hid (Cb19 w3 g k19) := hid (hf3.kept HX2.out hgp)
 have HS3 : Hid (Still w w3) := hid (Fr.trans HS2.out hf3 (fun k hk e => by have := HP.out; omega))
 have HL3 := hid hL3
 have HM := hid (cm_missed _ p p vs3 0 w3 hL3)
 rw [aw_mis.1] at HM
 clear he hf3 hL3 HC HL2 HX2 HS2 c0 c1 c2 c3 c4 c5 c6
 go_wp2_with fail
 refine HM.out.mono ?_
 rintro e w4 ⟨v4, he, ho4, hs4⟩
 rw [he]
 obtain ⟨g4, cap4, ev4, _, _⟩ := ho4.head (by decide)
 subst ev4
 have HO4 := hid ho4
 have HX4 := hid (HX3.out.still hs4)
 have HS4 := hid (HS3.out.trans hs4)
 have HM2 := hid (cm_missed _ p p vs3 1 w4 (HL3.out.still hs4))
 rw [aw_mis.2] at HM2
 clear he ho4 hs4 HM HX3 HS3
 go_wp2_with fail
 refine HM2.out.mono ?_
 rintro e w5 ⟨v5, he, ho5, hs5⟩
 rw [he]
 obtain ⟨ao5, cap5, ev5, _⟩ := ho5.slice
 subst ev5
 have HS5 := hid (HS4.out.trans hs5)
 have ho4 := HO4.out.still hs5
 have hr4 : RdG KC w5 (some ⟨g4, 0, none⟩) 1 [k19] := OwG.rd (M := []) ho4 (by decide)
 obtain ⟨d0, d1, d2, d3, d4, d5, d6⟩ : w5.cell? ⟨g4, 0, none⟩ = some (.int .i64 1) /\ w5.cell? ⟨g4, 1, none⟩ = some (.int .i64 1) /\ w5.cell? ⟨g4, 2, none⟩ = some (.int .i64 1) /\ w5.cell? ⟨g4, 3, none⟩ = some (.int .i64 0) /\ w5.cell? ⟨g4, 4, none⟩ = some (.int .i64 0) /\ w5.cell? ⟨g4, 5, none⟩ = some (.int .i64 0) /\ w5.cell? ⟨g4, 6, none⟩ = some (.int .i64 0) := rdC19 hr4 (i := 0) (by omega)
 obtain ⟨c0, c1, c2, c3, c4, c5, c6⟩ := (HX4.out.still hs5).cells
 simp only [k19] at c0 c1 c2 c3 c4 c5 c6
 have k0 := Cl.cell d0
 have k1 := Cl.cell d1
 have k2 := Cl.cell d2
 have k3 := Cl.cell d3
 have k4 := Cl.cell d4
 have k5 := Cl.cell d5
 have k6 := Cl.cell d6
 have l0 := Cl.cell c0
 have l1 := Cl.cell c1
 have l2 := Cl.cell c2
 have l3 := Cl.cell c3
 have l4 := Cl.cell c4
 have l5 := Cl.cell c5
 have l6 := Cl.cell c6
 have hne := Aft.here w5
 have hg := fun a b w => guard_hc .eql a b (hcs k19) (hcs k19) w
 have hq := fun w => eql_hc_t k19 w
 simp only [hcs, k19] at hg hq
 clear he ho5 hs5 HM2 ho4 hr4 d0 d1 d2 d3 d4 d5 d6 c0 c1 c2 c3 c4 c5 c6 HX4 HS4
 go_upto_region 9 with fail
 refine region_all (by kernel_rfl) (by kernel_rfl) ?_
 repeat (go_big_quiet_step (rfl))
 refine wpQuiet_nil ?_
 intro w6 h6
 have HS6 := hid (HS5.out.trans h6)
 clear h6
 go_wp2_with fail
 go_ret
 exact ⟨rfl, HS6.out⟩
end Go.Proofs.Ytdmgalaajgebkaa
namespace Go.Proofs.Ytdmgalaajgebkaa
open Go.RowKit
set_option maxRecDepth 100000
structure Ok9 where
 k : Int
 n : Int
 x : En
def zO9 : Ok9 := ⟨0, 0, zE⟩
abbrev ok9 (o : Ok9) : Array Value := #[.int .i64 o.k, .int .i64 o.n, .int .i64 o.x.fr, .int .i64 o.x.pe, .int .i64 o.x.se, .int .i64 o.x.vb, .int .i64 o.x.a, .int .i64 o.x.b, .int .i64 o.x.c, .int .i64 o.x.ms]
abbrev opT : TypeId := 32
def KO9 : Kd Ok9 := ⟨fun o => (ok9 o).toList, 10, zO9, fun _ => rfl, fun m u hu => by
 simp at hu
 rcases hu with rfl | rfl | rfl | rfl | rfl | rfl | rfl | rfl | rfl | rfl <;> rfl, by decide⟩
def Bd9 (o : Ok9) : Prop := (-9223372036854775808 <= o.k /\ o.k <= 9223372036854775807) /\ (-9223372036854775808 <= o.n /\ o.n <= 9223372036854775807)
theorem rdO9 {w : World} {B o n : Nat} {L : List Ok9} (h : RdG KO9 w (some ⟨B, o, none⟩) n L) {i : Nat} (hi : i < n) {x : Ok9} (hx : L.getD i KO9.d = x) : w.cell? ⟨B, o + i * 10, none⟩ = some (.int .i64 x.k) /\ w.cell? ⟨B, o + i * 10 + 1, none⟩ = some (.int .i64 x.n) /\ w.cell? ⟨B, o + i * 10 + 2, none⟩ = some (.int .i64 x.x.fr) /\ w.cell? ⟨B, o + i * 10 + 3, none⟩ = some (.int .i64 x.x.pe) /\ w.cell? ⟨B, o + i * 10 + 4, none⟩ = some (.int .i64 x.x.se) /\ w.cell? ⟨B, o + i * 10 + 5, none⟩ = some (.int .i64 x.x.vb) /\ w.cell? ⟨B, o + i * 10 + 6, none⟩ = some (.int .i64 x.x.a) /\ w.cell? ⟨B, o + i * 10 + 7, none⟩ = some (.int .i64 x.x.b) /\ w.cell? ⟨B, o + i * 10 + 8, none⟩ = some (.int .i64 x.x.c) /\ w.cell? ⟨B, o + i * 10 + 9, none⟩ = some (.int .i64 x.x.ms) := by
 subst hx
 exact ⟨h.get hi 0 _ rfl, h.get hi 1 _ rfl, h.get hi 2 _ rfl, h.get hi 3 _ rfl, h.get hi 4 _ rfl, h.get hi 5 _ rfl, h.get hi 6 _ rfl, h.get hi 7 _ rfl, h.get hi 8 _ rfl, h.get hi 9 _ rfl⟩
def Ob9 (w : World) (g : Nat) (o : Ok9) : Prop := w.heap[g]? = some (.cells (ok9 o) opT (0, 0))
theorem Ob9.cells {w : World} {g : Nat} {x : Ok9} (h : Ob9 w g x) : w.cell? ⟨g, 0, none⟩ = some (.int .i64 x.k) /\ w.cell? ⟨g, 1, none⟩ = some (.int .i64 x.n) /\ w.cell? ⟨g, 2, none⟩ = some (.int .i64 x.x.fr) /\ w.cell? ⟨g, 3, none⟩ = some (.int .i64 x.x.pe) /\ w.cell? ⟨g, 4, none⟩ = some (.int .i64 x.x.se) /\ w.cell? ⟨g, 5, none⟩ = some (.int .i64 x.x.vb) /\ w.cell? ⟨g, 6, none⟩ = some (.int .i64 x.x.a) /\ w.cell? ⟨g, 7, none⟩ = some (.int .i64 x.x.b) /\ w.cell? ⟨g, 8, none⟩ = some (.int .i64 x.x.c) /\ w.cell? ⟨g, 9, none⟩ = some (.int .i64 x.x.ms) := by
 refine ⟨?_, ?_, ?_, ?_, ?_, ?_, ?_, ?_, ?_, ?_⟩ <;> (rw [cell_of_row _ _ _ _ _ _ h]; rfl)
theorem heA_np (s : Lgs) (r : Int) : (heA s r).np = s.np /\ (heA s r).nr = s.nr := ⟨rfl, rfl⟩
theorem puA_np (s : Lgs) (f : Int) : (puA s f).np = s.np /\ (puA s f).nr = s.nr := by unfold puA; split <;> exact ⟨rfl, rfl⟩
theorem putA_np (s : Lgs) (x : En) (m : Int) : (putA s x m).np = s.np /\ (putA s x m).nr = s.nr := by unfold putA; split <;> exact ⟨rfl, rfl⟩
def Play (w wr : World) (p : Nat) (a b : Int) : Prop := Still w wr /\ ∃ s vs, Lm wr w.heap.size p s vs /\ s.np = a /\ s.nr = b
theorem Play.still {w wr w' : World} {p : Nat} {a b : Int} (h : Play w wr p a b) (hs : Still wr w') : Play w w' p a b := by
 obtain ⟨h1, s, vs, h2, h3, h4⟩ := h
 exact ⟨h1.trans hs, s, vs, h2.still hs, h3, h4⟩
theorem Play.step {w wr w' : World} {p : Nat} {a b : Int} {s : Lgs} {vs : Nat -> Value} (h1 : Still w wr) (h2 : Lm wr w.heap.size p s vs) (hf : Fr (fun k => k = p \/ Rw vs k) wr w') {s' : Lgs} {vs' : Nat -> Value} (h3 : Lm w' w.heap.size p s' vs') (e1 : s'.np = a) (e2 : s'.nr = b) : Play w w' p a b :=
 ⟨Fr.trans h1 hf (fun k hk e => by
  rcases e with e | e
  ·have := h2.lo; omega
  ·have := (h2.rlt k e).1; omega), s', vs', h3, e1, e2⟩
set_option maxHeartbeats 8000000 in
theorem played_any (a b : Int) (so : Option Addr) (n c : Nat) (L : List Ok9) (ha : -9223372036854775808 <= a /\ a <= 9223372036854775807) (hb : -9223372036854775808 <= b /\ b <= 9223372036854775807) (hp : ∀ i, i < n -> Bd9 (L.getD i KO9.d)) (w : World) (hr : RdG KO9 w so n L) : Calls Try.prog 11 #[.int .i64 a, .int .i64 b, .slice so n c] w fun e w' => ∃ p, e = .returned (.tuple #[.pointer (some ⟨p, 0, none⟩), .int .i64 (2 + pk a 5), .int .i64 (2 + pk b 4)]) /\ Play w w' p (2 + pk a 5) (2 + pk b 4) := by
 have h47 := hr.2.1
 have HR := hid hr
 have HP := hid hp
 have h1 := pk_in a 5 (by omega)
 have h2 := pk_in b 4 (by omega)
 have HPa := hid (fun w => pick_any a 5 ha (by omega) (by omega) w)
 have HPb := hid (fun w => pick_any b 4 hb (by omega) (by omega) w)
 obtain ⟨A, eA⟩ : ∃ A, pk a 5 = A := ⟨_, rfl⟩
 obtain ⟨D, eD⟩ : ∃ A, pk b 4 = A := ⟨_, rfl⟩
 rw [eA] at h1 HPa ⊢
 rw [eD] at h2 HPb ⊢
 obtain ⟨A2, eA2⟩ : ∃ A', 2 + A = A' := ⟨_, rfl⟩
 obtain ⟨D2, eD2⟩ : ∃ A', 2 + D = A' := ⟨_, rfl⟩
 rw [eA2, eD2]
 have hw1 : IntKind.i64.wrap (2 + A) = A2 := by rw [IntKind.wrap_i64]; omega
 have hw2 : IntKind.i64.wrap (2 + D) = D2 := by rw [IntKind.wrap_i64]; omega
 have HN := hid (fun w => cm_new_yes (a := A2) (b := D2) (by omega) w)
 clear eA eD eA2 eD2 h1 h2 hr hp ha hb
 go_enter Try.func11, Try.ntmps11
 go_wp2_with fail
 refine (HPa.out _).mono ?_
 rintro e w1 ⟨he, hw⟩
 rw [he, hw]
 clear he hw w1 HPa
 go_wp2_with fail
 refine (HPb.out _).mono ?_
 rintro e w1 ⟨he, hw⟩
 rw [he, hw]
 clear he hw w1 HPb
 go_wp2_with fail
 refine (HN.out _).mono ?_
 rintro e w1 ⟨he, hl1, hs1⟩
 rw [he]
 have HPl : Hid (Play w w1 w.heap.size A2 D2) := hid ⟨hs1, _, _, hl1, rfl, rfl⟩
 obtain ⟨p, ep⟩ : ∃ p, w.heap.size = p := ⟨_, rfl⟩
 rw [ep] at HPl ⊢
 have HEp := hid ep
 clear he hl1 hs1 HN ep hw1 hw2
 go_wp2_with fail
 go_loopw [13] (fun u wr => ∃ k : Nat, k <= n /\ u = .int .i64 (k : Int) /\ Hid (Play w wr p A2 D2)) (fun u _ => n - (intOf u).toNat)
 case atStart => exact ⟨0, by omega, rfl, HPl⟩
 case round =>
  obtain ⟨k, hk, rfl, HK⟩ := hrel
  clear HPl
  by_cases hkn : k < n
  ·have hlt : (k : Int) < (n : Int) := by omega
   obtain ⟨G, o, rfl⟩ := HR.out.at (by omega)
   have HB := hid (HP.out k hkn)
   obtain ⟨q, eq⟩ : ∃ q, L.getD k KO9.d = q := ⟨_, rfl⟩
   obtain ⟨c0, c1, c2, c3, c4, c5, c6, c7, c8, c9⟩ := rdO9 (HR.out.still HK.out.1) hkn eq
   rw [eq] at HB
   have HPk := hid (fun w => pick_any q.k 9 HB.out.1 (by omega) (by omega) w)
   have hpk := pk_in q.k 9 (by omega)
   obtain ⟨z, ez⟩ : ∃ z, pk q.k 9 = z := ⟨_, rfl⟩
   rw [ez] at HPk hpk
   have A1 := Still.alloc wr (.cells (ok9 q) opT)
   obtain ⟨d0, d1, d2, d3, d4, d5, d6, d7, d8, d9⟩ := (show Ob9 (wr.alloc (.cells (ok9 q) opT)) wr.heap.size q from heap_alloc_new wr _).cells
   obtain ⟨hs, s, vs, hL, es1, es2⟩ := HK.out.still A1
   have HL := hid hL
   have HS := hid hs
   have HE := hid (And.intro es1 es2)
   obtain ⟨W, eW⟩ : ∃ W, wr.alloc (.cells (ok9 q) opT) = W := ⟨_, rfl⟩
   have HW := hid eW
   rw [eW] at d0 d1 d2 d3 d4 d5 d6 d7 d8 d9 HL HS
   have hBW : w.heap.size <= W.heap.size := HS.out.size
   simp only [ok9] at eW
   clear A1 ez hL hs es1 es2 HK eq HB
   go_wp2_with fail
   clear eW
   refine (HPk.out _).mono ?_
   rintro e w2 ⟨he, hw⟩
   rw [he, hw]
   clear he hw w2 HPk c0 c1 c2 c3 c4 c5 c6 c7 c8 c9 HW
   by_cases h4 : z = 4
   ·subst h4
    have HC := hid (cm_heal s w.heap.size p vs q.x.ms W HL.out)
    go_wp2_with fail
    refine HC.out.mono ?_
    rintro e w3 ⟨he, hL3, hf3⟩
    rw [he]
    have HK2 : Hid (Play w w3 p A2 D2) := hid (Play.step HS.out HL.out (hf3.mono (fun _ _ h => .inr h)) hL3 HE.out.1 HE.out.2)
    clear he hL3 hf3 HC d0 d1 d2 d3 d4 d5 d6 d7 d8 d9
    go_wp2_with fail
    go_roundw
    case rel => exact ⟨k + 1, by omega, by go_num, HK2⟩
    case measure => simp [intOf]; omega
   ·have n4 : (z == 4) = false := beq_eq_false_iff_ne.2 h4
    by_cases h5 : z = 5
    ·subst h5
     have HC := hid (cm_purge s w.heap.size p vs q.x.fr W HL.out)
     clear h4
     go_wp2_with fail
     refine HC.out.mono ?_
     rintro e w3 ⟨he, ⟨vs3, hL3, _⟩, hf3⟩
     rw [he]
     have HK2 : Hid (Play w w3 p A2 D2) := hid (Play.step HS.out HL.out (hf3.mono (fun _ _ h => .inl h)) hL3 ((puA_np s q.x.fr).1.trans HE.out.1) ((puA_np s q.x.fr).2.trans HE.out.2))
     clear he hL3 hf3 HC d0 d1 d2 d3 d4 d5 d6 d7 d8 d9
     go_wp2_with fail
     go_roundw
     case rel => exact ⟨k + 1, by omega, by go_num, HK2⟩
     case measure => simp [intOf]; omega
    ·have n5 : (z == 5) = false := beq_eq_false_iff_ne.2 h5
     have HC := hid (cm_put s w.heap.size p vs q.x q.x.ms W hBW HL.out)
     clear h4 h5
     go_wp2_with fail
     refine HC.out.mono ?_
     rintro e w3 ⟨he, ⟨vs3, hL3, _⟩, hf3⟩
     rw [he]
     have HK2 : Hid (Play w w3 p A2 D2) := hid (Play.step HS.out HL.out (hf3.mono (fun _ _ h => .inl h)) hL3 ((putA_np s q.x q.x.ms).1.trans HE.out.1) ((putA_np s q.x q.x.ms).2.trans HE.out.2))
     clear he hL3 hf3 HC d0 d1 d2 d3 d4 d5 d6 d7 d8 d9
     go_wp2_with fail
     go_roundw
     case rel => exact ⟨k + 1, by omega, by go_num, HK2⟩
     case measure => simp [intOf]; omega
  ·have hge : ¬ (k : Int) < (n : Int) := by omega
   go_wp2_with fail
   go_ret3
   exact ⟨p, rfl, HK.out⟩
end Go.Proofs.Ytdmgalaajgebkaa
namespace Go.Proofs.Ytdmgalaajgebkaa
open Go.RowKit
set_option maxRecDepth 100000
def ahL (S : List En) : Nat -> List En
 | 0 => S.map cmE
 | k + 1 => misL (k : Int) S
theorem ah_sub (S : List En) (k : Nat) : ∀ x ∈ misL (k : Int) S, x ∈ ahL S k := by
 intro x hx
 unfold misL at hx
 obtain ⟨y, hy, rfl⟩ := List.mem_map.1 hx
 obtain ⟨h1, h2⟩ := List.mem_filter.1 hy
 cases k with
 | zero => exact List.mem_map_of_mem h1
 | succ k =>
  unfold ahL misL
  refine List.mem_map_of_mem (List.mem_filter.2 ⟨h1, ?_⟩)
  have := of_decide_eq_true h2
  exact decide_eq_true (by omega)
theorem mis_last {s : Lgs} (h : Lo s) {k : Nat} (hk : (k : Int) = s.nr - 1) : misL (k : Int) s.S = [] := by
 unfold misL
 rw [List.filter_eq_nil_iff.2 (fun x hx => ?_)]
 ·rfl
 ·have := h.ms x hx
  simp; omega
theorem misA_in {s : Lgs} {k : Nat} (h : (k : Int) < s.nr) : misA s (k : Int) = misL (k : Int) s.S := by
 unfold misA
 rw [if_pos (inR_t (by omega) h)]
theorem cm_map_next {S : List En} {k : Nat} (hk : k < S.length) : (S.take (k + 1)).map cmE = (S.take k).map cmE ++ [cmE (att S k)] := by
 rw [take_next hk, List.map_append]
 rfl
theorem owC_rd {w : World} {B n cap : Nat} {ao : Option Addr} {L : List En} (h : OwG KC cmT w B (.slice ao n cap) L) (hl : L.length <= 100000) : RdG KC w ao L.length L := OwG.rd (M := []) (by rw [List.append_nil]; exact h) (by omega)
set_option maxHeartbeats 8000000 in
theorem nests_law (a b : Int) (so : Option Addr) (n c : Nat) (L : List Ok9) (ha : -9223372036854775808 <= a /\ a <= 9223372036854775807) (hb : -9223372036854775808 <= b /\ b <= 9223372036854775807) (hp : ∀ i, i < n -> Bd9 (L.getD i KO9.d)) (w : World) (hr : RdG KO9 w so n L) : Calls Try.prog 4 #[.int .i64 a, .int .i64 b, .slice so n c] w fun e w' => e = .returned (.bool true) /\ Still w w' := by
 have HAw := hid (fun w => awake19_any w)
 have HPl := hid (fun u (hu : Still w u) => played_any a b so n c L ha hb hp u (hr.still hu))
 have h2 := pk_in b 4 (by omega)
 obtain ⟨A, eA⟩ : ∃ A, 2 + pk a 5 = A := ⟨_, rfl⟩
 obtain ⟨D, eD⟩ : ∃ A, 2 + pk b 4 = A := ⟨_, rfl⟩
 have hD : 2 <= D /\ D <= 5 := by omega
 rw [eA, eD] at HPl
 obtain ⟨R, rfl⟩ : ∃ R : Nat, D = (R : Int) := ⟨D.toNat, by omega⟩
 clear hr hp ha hb eA eD h2
 go_enter Try.func4, Try.ntmps4
 go_wp2_with fail
 refine (HAw.out _).mono ?_
 rintro e w1 ⟨he, h1⟩
 rw [he]
 have HP1 := hid (HPl.out w1 h1)
 have HS1 := hid h1
 clear he h1 HAw HPl
 go_wp2_with fail
 refine HP1.out.mono ?_
 rintro e w2 ⟨p, he, hpl⟩
 rw [he]
 obtain ⟨hs2, s, vs, hL2, en1, en2⟩ := hpl
 have HS2 := hid (HS1.out.trans hs2)
 have HL2 := hid hL2
 have HE := hid en2
 have HAl := hid (cm_all s _ p vs w2 hL2)
 have hn := len_2016 hL2.ok
 clear he hs2 hL2 en1 en2 HP1 HS1
 go_wp2_with fail
 refine HAl.out.mono ?_
 rintro e w3 ⟨va, he, hoa, hs3⟩
 rw [he]
 have HS3 := hid (HS2.out.trans hs3)
 have HL3 := hid (HL2.out.still hs3)
 obtain ⟨ao, cap, eva, _⟩ := hoa.slice
 subst eva
 have HRa : Hid (RdG KE w3 ao s.S.length s.S) := hid (OwG.rd (M := []) (by rw [List.append_nil]; exact hoa) (by omega))
 obtain ⟨N, eN⟩ : ∃ N, s.S.length = N := ⟨_, rfl⟩
 have HN := hid eN
 rw [eN] at HRa hn ⊢
 clear he hoa hs3 HAl HS2 HL2 eN
 go_wp2_with fail
 go_loopw [13, 12] (fun u v wr => ∃ k : Nat, k <= N /\ u = .int .i64 (k : Int) /\ ∃ bo m bc, v = .slice bo m bc /\ Hid (OwG KC cmT wr w3.heap.size (.slice bo m bc) ((s.S.take k).map cmE) /\ Still w3 wr)) (fun u _ _ => N - (intOf u).toNat)
 case atStart => exact ⟨0, by omega, rfl, _, _, _, rfl, hid ⟨OwG.nil _ _, Fr.refl _ _⟩⟩
 case round =>
  obtain ⟨k, hk, rfl, bo, m, bc, rfl, HK⟩ := hrel
  by_cases hkn : k < N
  ·have hlt : (k : Int) < (N : Int) := by omega
   obtain ⟨G, o, rfl⟩ := HRa.out.at (by omega)
   obtain ⟨c0, c1, c2, c3, c4, c5, c6, _⟩ := rdE (HRa.out.still HK.out.2) hkn
   have HT := hid (cm_map_next (S := s.S) (k := k) (by have := HN.out; omega))
   have HLn : Hid (((s.S.take k).map cmE).length <= 100000) := hid (by simp; omega)
   obtain ⟨x, ex⟩ : ∃ x, att s.S k = x := ⟨_, rfl⟩
   rw [ex] at c0 c1 c2 c3 c4 c5 c6 HT
   obtain ⟨M, eM⟩ : ∃ M, (s.S.take k).map cmE = M := ⟨_, rfl⟩
   rw [eM] at HT HLn HK
   have A4 := Still.alloc wr (.cells (hcs x) cmT)
   have HO4 := hid (HK.out.1.still A4)
   have HX4 : Hid ((wr.alloc (.cells (hcs x) cmT)).heap[wr.heap.size]? = some (.cells (KC.f (cmE x)).toArray cmT (0, 0))) := hid (heap_alloc_new wr _)
   have HS4 := hid (HK.out.2.trans A4)
   have HB4 := hid HS4.out.size
   clear A4 ex eM HK
   go_wp2_with (
    at_builtin
    refine wpList_appG KC _ rfl _ _ _ rfl rfl 56 infoC (by omega) w3.heap.size wr.heap.size (.slice bo m bc) M (cmE x) rfl rfl HO4.out HX4.out HLn.out HB4.out ?_
    intro v' w' ho' hf'
    have HK5 : Hid (OwG KC cmT w' w3.heap.size v' (M ++ [cmE x]) /\ Still w3 w') := hid ⟨ho', still_appG HS4.out HO4.out hf' (Nat.le_refl _)⟩
    obtain ⟨bo5, bc5, e5, _⟩ := ho'.slice
    subst e5
    obtain ⟨m5, em5⟩ : ∃ m, (M ++ [cmE x]).length = m := ⟨_, rfl⟩
    rw [em5] at HK5 ⊢
    clear ho' hf' em5)
   clear c0 c1 c2 c3 c4 c5 c6
   go_roundw
   case rel => exact ⟨k + 1, by omega, by go_num, _, _, _, rfl, by rw [HT.out]; exact HK5⟩
   case measure => simp [intOf]; omega
  ·have hge : ¬ (k : Int) < (N : Int) := by omega
   have HK2 : Hid (OwG KC cmT wr w3.heap.size (.slice bo m bc) (ahL s.S 0) /\ Still w3 wr) := hid ⟨by have := HK.out.1; rwa [List.take_of_length_le (by have := HN.out; omega)] at this, HK.out.2⟩
   clear HK hkn HRa
   go_wp2_with fail
   go_loopw [15, 14] (fun u v wr => ∃ k : Nat, k <= R /\ u = .int .i64 (k : Int) /\ ∃ bo m bc, v = .slice bo m bc /\ Hid (OwG KC cmT wr w3.heap.size (.slice bo m bc) (ahL s.S k) /\ Still w3 wr)) (fun u _ _ => R - (intOf u).toNat)
   case atStart => exact ⟨0, by omega, rfl, _, _, _, rfl, HK2⟩
   case round =>
    obtain ⟨i, hi, rfl, bo2, m2, bc2, rfl, HI⟩ := hrel
    clear HK2
    by_cases hin : i < R
    ·have hlti : (i : Int) < (R : Int) := by omega
     have HM := hid (cm_missed s _ p vs (i : Int) wr (HL3.out.still HI.out.2))
     rw [misA_in (by rw [HE.out]; exact hlti)] at HM
     have HSub := hid (ah_sub s.S i)
     have HLa : Hid (i + 1 = R -> misL (i : Int) s.S = []) := hid (fun h => mis_last HL3.out.ok (by rw [HE.out]; omega))
     have HLen : Hid ((ahL s.S i).length <= 100000 /\ (misL (i : Int) s.S).length <= 100000) := hid ⟨by
      cases i with
      | zero => show (s.S.map cmE).length <= _; have := HN.out; simp; omega
      | succ j => show (misL (j : Int) s.S).length <= _; have h1 := misL_len (j : Int) s.S s.S.length; rw [List.take_of_length_le (Nat.le_refl _)] at h1; have := HN.out; omega, by
      have h1 := misL_len (i : Int) s.S s.S.length; rw [List.take_of_length_le (Nat.le_refl _)] at h1; have := HN.out; omega⟩
     have HA1 : Hid (ahL s.S (i + 1) = misL (i : Int) s.S) := hid rfl
     obtain ⟨X, eX⟩ : ∃ X, misL (i : Int) s.S = X := ⟨_, rfl⟩
     obtain ⟨Y, eY⟩ : ∃ Y, ahL s.S i = Y := ⟨_, rfl⟩
     rw [eX] at HM HSub HLa HLen HA1
     rw [eY] at HSub HLen HI
     clear eX eY
     go_wp2_with fail
     refine HM.out.mono ?_
     rintro e w4 ⟨v4, he, ho4, hs4⟩
     rw [he]
     obtain ⟨ao4, cap4, ev4, _⟩ := ho4.slice
     subst ev4
     have hoY := HI.out.1.still hs4
     have hmY : Y.length = m2 := by
      obtain ⟨_, _, e5, _⟩ := hoY.slice
      injection e5 with _ e6 _
      exact e6.symm
     have HPt := hid (rpart_t X Y ao4 bo2 X.length m2 cap4 bc2 HSub.out w4 (owC_rd ho4 HLen.out.2) (by rw [<- hmY]; exact owC_rd hoY HLen.out.1))
     have HO4 := hid (ho4.less HI.out.2.size)
     have HS4 := hid (HI.out.2.trans hs4)
     obtain ⟨x4, ex4⟩ : ∃ x, X.length = x := ⟨_, rfl⟩
     have HX4 := hid ex4
     have HX100 : Hid (x4 <= 100000) := hid (by rw [<- ex4]; exact HLen.out.2)
     rw [ex4] at HPt HO4 ⊢
     clear he ho4 hs4 hoY hmY HM HI ex4
     go_wp2_with fail
     refine HPt.out.mono ?_
     rintro e w5 ⟨he, hs5⟩
     rw [he]
     have HO5 : Hid (OwG KC cmT w5 w3.heap.size (.slice ao4 x4 cap4) (ahL s.S (i + 1)) /\ Still w3 w5) := hid ⟨by rw [HA1.out]; exact HO4.out.still hs5, HS4.out.trans hs5⟩
     clear he hs5 HPt HO4 HS4
     have hwR : IntKind.i64.wrap ((R : Int) - 1) = (R : Int) - 1 := by rw [IntKind.wrap_i64]; omega
     by_cases hlast : i + 1 = R
     ·have d1 : ((i : Int) == (R : Int) - 1) = true := beq_iff_eq.2 (by omega)
      have hx0 : x4 = 0 := by rw [<- HX4.out, HLa.out hlast]; rfl
      subst hx0
      clear hlast
      go_wp2_with fail
      go_roundw
      case rel => exact ⟨i + 1, by omega, by go_num, _, _, _, rfl, HO5⟩
      case measure => simp [intOf]; omega
     ·have d1 : ((i : Int) == (R : Int) - 1) = false := beq_eq_false_iff_ne.2 (by omega)
      clear hlast
      go_wp2_with fail
      go_roundw
      case rel => exact ⟨i + 1, by omega, by go_num, _, _, _, rfl, HO5⟩
      case measure => simp [intOf]; omega
    ·have hgei : ¬ (i : Int) < (R : Int) := by omega
     have HF := hid (HS3.out.trans HI.out.2)
     clear HI
     go_wp2_with fail
     go_ret
     exact ⟨rfl, HF.out⟩
end Go.Proofs.Ytdmgalaajgebkaa
namespace Go.Proofs.Ytdmgalaajgebkaa
open Go.RowKit
set_option maxRecDepth 100000
structure Sl9 where
 ao : Option Addr
 n : Nat
 cap : Nat
abbrev sl9 (t : Sl9) : Value := .slice t.ao t.n t.cap
def KV9 : Kd Sl9 := ⟨fun t => [sl9 t], 1, ⟨none, 0, 0⟩, fun _ => rfl, fun m u hu => by
 simp at hu
 subst hu
 rfl, by decide⟩
abbrev slT : TypeId := 42
theorem infoV9 : ∃ i, Try.prog.info? slT = some i /\ i.zero = some (.slice none 0 0) /\ i.size = KV9.k /\ i.bytes = 24 := ⟨_, rfl, rfl, rfl, rfl⟩
theorem wpList_appV {α : Type} {e : TypeId} {P : Program} (K : Kd α) (w : World) {ops : Array Oper} {rest : List Oper} {o : Oper} {a : Act} {Q : Exit -> Act -> World -> Prop} (hgd : o.guard = none) (s x : Operand) (t : TypeId)
  (hop : o.op = .call { callee := .builtin .append, args := #[s, x], argTypes := #[t, t] })
  (hu : P.underlying t = some (.slice e)) (bytes : Nat) (z : Value) (hzc : z.cells.size = K.k) (hinfo : ∃ i, P.info? e = some i /\ i.zero = some z /\ i.size = K.k /\ i.bytes = bytes) (hb : bytes <= 1000000)
  (B g : Nat) (v : Value) (L : List α) (p : α) (hs : a.eval s = v) (hx : a.eval x = .slice (some ⟨g, 0, none⟩) 1 1) (ho : OwG K e w B v L) (hr : w.heap[g]? = some (.cells (K.f p).toArray e (0, 0))) (h47 : L.length <= 100000) (hB : B <= w.heap.size)
  (h : ∀ v' w', OwG K e w' B v' (L ++ [p]) -> Fr (fun k => v.ownBlock = some k) w w' -> wpList P ops Q rest (a.put o.dst v') w') : wpList P ops Q (o :: rest) a w := by
 obtain ⟨i, hi, hz, h1, h2⟩ := hinfo
 refine wpList_append_own (P := P) w hgd s x t hop B e i z K.k bytes hu hi hz h1 h2 hzc K.pos v L.length (K.row L) hs ho ⟨g, 0, none⟩ 1 1 (K.f p) hx (by rw [K.len, Nat.one_mul]) ?_ (K.one p) (by unfold maxLen; omega) ?_ hB ?_
 ·intro j u hj
  rw [add_plain, Nat.zero_add, cell_of_row _ _ _ _ _ _ hr]
  simpa using hj
 ·have : (L.length + 1) * bytes <= 100001 * 1000000 := Nat.mul_le_mul (by omega) hb
  omega
 ·intro v' w' hown hgr _
  refine h v' w' ?_ ⟨hgr.os, hgr.tape, hgr.output, hgr.size, fun k hk hn => hgr.block k hk (fun e => hn e.symm)⟩
  unfold OwG
  rw [K.row_app, List.length_append, show K.row [p] = K.f p by simp [Kd.row]]
  exact hown
theorem ow_ty19 {α : Type} {K : Kd α} {e : TypeId} {w : World} {B k : Nat} {u : Value} {L : List α} (ho : OwG K e w B u L) (hk : u.ownBlock = some k) : ∃ cur, w.heap[k]? = some (.cells cur e (0, 0)) := by
 rcases ho.2 with ⟨rfl, _⟩ | ⟨g, cap, cur, rfl, _, hg, _⟩
 ·cases hk
 ·simp [Value.ownBlock] at hk
  subst hk
  exact ⟨cur, hg⟩
theorem ow_ne19 {α β : Type} {K : Kd α} {K' : Kd β} {e e' : TypeId} {w : World} {B B' : Nat} {u u' : Value} {L : List α} {L' : List β} (ho : OwG K e w B u L) (ho' : OwG K' e' w B' u' L') (he : e ≠ e') : ∀ k, u.ownBlock = some k -> u'.ownBlock ≠ some k := fun k h1 h2 => by
 obtain ⟨c1, g1⟩ := ow_ty19 ho h1
 obtain ⟨c2, g2⟩ := ow_ty19 ho' h2
 rw [g1] at g2
 injection g2 with g2
 injection g2 with _ h3 _
 exact he h3
structure Bef (B : Nat) (w : World) (v : Value) (T : List Sl9) (S : List En) (k : Nat) : Prop where
 l : T.length = k
 o : OwG KV9 slT w B v T
 r : ∀ j, j < k -> OwG KC cmT w B (sl9 (T.getD j KV9.d)) (misL (j : Int) S)
theorem Bef.keep {F : Nat -> Prop} {B : Nat} {w w' : World} {v : Value} {T : List Sl9} {S : List En} {k : Nat} (h : Bef B w v T S k) (hf : Fr F w w') (hF : ∀ b, F b -> b < B) : Bef B w' v T S k :=
 ⟨h.l, h.o.keep hf (fun b hb e => by have := (h.o.block e).1; have := hF b hb; omega), fun j hj => (h.r j hj).keep hf (fun b hb e => by have := ((h.r j hj).block e).1; have := hF b hb; omega)⟩
theorem Bef.still {B : Nat} {w w' : World} {v : Value} {T : List Sl9} {S : List En} {k : Nat} (h : Bef B w v T S k) (hs : Still w w') : Bef B w' v T S k := h.keep hs (fun _ e => e.elim)
theorem Bef.app {B : Nat} {w w' : World} {v v' : Value} {T : List Sl9} {S : List En} {k : Nat} {t : Sl9} (h : Bef B w v T S k) (ho : OwG KV9 slT w' B v' (T ++ [t])) (hf : Fr (fun b => v.ownBlock = some b) w w') (ht : OwG KC cmT w B (sl9 t) (misL (k : Int) S)) : Bef B w' v' (T ++ [t]) S (k + 1) := by
 refine ⟨by rw [List.length_append, h.l]; rfl, ho, fun j hj => ?_⟩
 by_cases e : j < k
 ·have e2 : (T ++ [t]).getD j KV9.d = T.getD j KV9.d := by simp [List.getD, List.getElem?_append_left (show j < T.length by rw [h.l]; exact e)]
  rw [e2]
  exact (h.r j e).keep hf (fun b hb => ow_ne19 h.o (h.r j e) (by decide) b hb)
 ·obtain rfl : j = k := by omega
  have e2 : (T ++ [t]).getD j KV9.d = t := by rw [<- h.l]; simp [List.getD]
  rw [e2]
  exact ht.keep hf (fun b hb => ow_ne19 h.o ht (by decide) b hb)
theorem Bef.cell {B : Nat} {w : World} {g n cap : Nat} {T : List Sl9} {S : List En} {k : Nat} (h : Bef B w (.slice (some ⟨g, 0, none⟩) n cap) T S k) {j : Nat} (hj : j < k) : w.cell? ⟨g, j, none⟩ = some (sl9 (T.getD j KV9.d)) := by
 have := h.o.get (i := j) (by rw [h.l]; exact hj) 0 _ rfl
 simpa [KV9] using this
theorem mis_heal {S : List En} {k d : Nat} : misL (k : Int) (S.map (heE (d : Int))) = misL (((if k < d then d else k) : Nat) : Int) S := by
 unfold misL
 rw [List.filter_map, List.map_map]
 have e : cmE ∘ heE (d : Int) = cmE := funext (heE_cm _)
 rw [e]
 congr 1
 apply List.filter_congr
 intro x _
 simp only [Function.comp]
 refine decide_eq_decide.2 ?_
 unfold heE
 by_cases h1 : x.ms <= (d : Int)
 ·rw [if_pos h1]
  show (k : Int) < 0 ↔ _
  split <;> omega
 ·rw [if_neg h1]
  split <;> omega
set_option maxHeartbeats 8000000 in
theorem heals_law (a b r : Int) (so : Option Addr) (n c : Nat) (L : List Ok9) (ha : -9223372036854775808 <= a /\ a <= 9223372036854775807) (hb : -9223372036854775808 <= b /\ b <= 9223372036854775807) (hr9 : -9223372036854775808 <= r /\ r <= 9223372036854775807) (hp : ∀ i, i < n -> Bd9 (L.getD i KO9.d)) (w : World) (hr : RdG KO9 w so n L) : Calls Try.prog 5 #[.int .i64 a, .int .i64 b, .slice so n c, .int .i64 r] w fun e w' => e = .returned (.bool true) /\ Still w w' := by
 have HAw := hid (fun w => awake19_any w)
 have HPl := hid (fun u (hu : Still w u) => played_any a b so n c L ha hb hp u (hr.still hu))
 have h2 := pk_in b 4 (by omega)
 obtain ⟨A, eA⟩ : ∃ A, 2 + pk a 5 = A := ⟨_, rfl⟩
 obtain ⟨D, eD⟩ : ∃ A, 2 + pk b 4 = A := ⟨_, rfl⟩
 have hD : 2 <= D /\ D <= 5 := by omega
 rw [eA, eD] at HPl
 obtain ⟨R, rfl⟩ : ∃ R : Nat, D = (R : Int) := ⟨D.toNat, by omega⟩
 have HPk := hid (fun w => pick_any r (R : Int) hr9 (by omega) (by omega) w)
 have h3 := pk_in r (R : Int) (by omega)
 obtain ⟨d', ed'⟩ : ∃ d, pk r (R : Int) = d := ⟨_, rfl⟩
 rw [ed'] at HPk h3
 obtain ⟨d, rfl⟩ : ∃ d : Nat, d' = (d : Int) := ⟨d'.toNat, by omega⟩
 have hdR : d < R := by omega
 clear hr hp ha hb hr9 eA eD h2 h3 ed'
 go_enter Try.func5, Try.ntmps5
 go_wp2_with fail
 refine (HAw.out _).mono ?_
 rintro e w1 ⟨he, h1⟩
 rw [he]
 have HP1 := hid (HPl.out w1 h1)
 have HS1 := hid h1
 clear he h1 HAw HPl
 go_wp2_with fail
 refine HP1.out.mono ?_
 rintro e w2 ⟨p, he, hpl⟩
 rw [he]
 obtain ⟨hs2, s, vs, hL2, en1, en2⟩ := hpl
 have HS2 := hid (HS1.out.trans hs2)
 have HL2 := hid hL2
 have HE := hid en2
 have HLe := hid (cm_len s _ p vs w2 hL2)
 have HN2016 := hid (len_2016 hL2.ok)
 have HLo := hid (And.intro hL2.lt hL2.rlt)
 have HB1 := hid HS1.out.size
 clear he hs2 hL2 en1 en2 HP1
 go_wp2_with fail
 refine (HPk.out _).mono ?_
 rintro e w' ⟨he, hw⟩
 rw [he, hw]
 clear he hw w' HPk
 go_wp2_with fail
 refine HLe.out.mono ?_
 rintro e w3 ⟨he, hs3⟩
 rw [he]
 have HS3 := hid (HS2.out.trans hs3)
 have HL3 := hid (HL2.out.still hs3)
 have HZ3 := hid hs3.size
 obtain ⟨N, eN⟩ : ∃ N, s.S.length = N := ⟨_, rfl⟩
 have HN := hid eN
 rw [eN]
 clear he hs3 HLe HS2 HL2 eN
 go_wp2_with fail
 go_loopw [16, 15] (fun u v wr => ∃ k : Nat, k <= R /\ u = .int .i64 (k : Int) /\ ∃ bo m bc, v = .slice bo m bc /\ Hid ((∃ T, Bef w3.heap.size wr (.slice bo m bc) T s.S k) /\ Still w3 wr)) (fun u _ _ => R - (intOf u).toNat)
 case atStart => exact ⟨0, by omega, rfl, _, _, _, rfl, hid ⟨⟨[], rfl, OwG.nil _ _, fun j hj => by omega⟩, Fr.refl _ _⟩⟩
 case round =>
  obtain ⟨k, hk, rfl, bo, m, bc, rfl, HK⟩ := hrel
  by_cases hkn : k < R
  ·have hlt : (k : Int) < (R : Int) := by omega
   have HM := hid (cm_missed s _ p vs (k : Int) wr (HL3.out.still HK.out.2))
   rw [misA_in (by rw [HE.out]; exact hlt)] at HM
   go_wp2_with fail
   refine HM.out.mono ?_
   rintro e w4 ⟨v4, he, ho4, hs4⟩
   rw [he]
   obtain ⟨ao4, cap4, ev4, _⟩ := ho4.slice
   subst ev4
   obtain ⟨T, hT⟩ := HK.out.1
   have A5 := Still.alloc w4 (.cells #[.slice ao4 (misL (k : Int) s.S).length cap4] slT)
   have HT5 := hid ((hT.still hs4).still A5)
   have HO5 := hid ((ho4.less HK.out.2.size).still A5)
   have HX5 : Hid ((w4.alloc (.cells #[.slice ao4 (misL (k : Int) s.S).length cap4] slT)).heap[w4.heap.size]? = some (.cells (KV9.f ⟨ao4, (misL (k : Int) s.S).length, cap4⟩).toArray slT (0, 0))) := hid (heap_alloc_new w4 _)
   have HS5 := hid ((HK.out.2.trans hs4).trans A5)
   have HB5 := hid HS5.out.size
   have HLn : Hid (T.length <= 100000) := hid (by rw [hT.l]; omega)
   obtain ⟨z, ez⟩ : ∃ z, (misL (k : Int) s.S).length = z := ⟨_, rfl⟩
   rw [ez] at HT5 HO5 HX5 HS5 HB5 ⊢
   clear he ho4 hs4 hT A5 HM HK ez
   go_wp2_with (
    at_builtin
    refine wpList_appV KV9 _ rfl _ _ _ rfl rfl 24 (.slice none 0 0) rfl infoV9 (by omega) w3.heap.size w4.heap.size (.slice bo m bc) T ⟨ao4, z, cap4⟩ rfl rfl HT5.out.o HX5.out HLn.out HB5.out ?_
    intro v' w' ho' hf'
    have HK6 : Hid ((∃ T, Bef w3.heap.size w' v' T s.S (k + 1)) /\ Still w3 w') := hid ⟨⟨_, HT5.out.app ho' hf' HO5.out⟩, still_appG HS5.out HT5.out.o hf' (Nat.le_refl _)⟩
    obtain ⟨bo6, bc6, e6, _⟩ := ho'.slice
    subst e6
    obtain ⟨m6, em6⟩ : ∃ m, (T ++ [(⟨ao4, z, cap4⟩ : Sl9)]).length = m := ⟨_, rfl⟩
    rw [em6] at HK6 ⊢
    clear ho' hf' em6)
   go_roundw
   case rel => exact ⟨k + 1, by omega, by go_num, _, _, _, rfl, HK6⟩
   case measure => simp [intOf]; omega
  ·have hge : ¬ (k : Int) < (R : Int) := by omega
   obtain rfl : k = R := by omega
   obtain ⟨T, hT⟩ := HK.out.1
   have HT := hid hT
   have HSr := hid HK.out.2
   have HC := hid (cm_heal s _ p vs (d : Int) wr (HL3.out.still HK.out.2))
   have eh : heA s (d : Int) = { s with S := s.S.map (heE (d : Int)) } := by
    unfold heA
    rw [if_pos (inR_t (by omega) (by rw [HE.out]; omega))]
   rw [eh] at HC
   clear HK hkn hT eh
   go_wp2_with fail
   refine HC.out.mono ?_
   rintro e w5 ⟨he, hL5, hf5⟩
   rw [he]
   have HT5 : Hid (Bef w3.heap.size w5 (.slice bo m bc) T s.S k) := hid (HT.out.keep hf5 (fun x hx => by have := (HLo.out.2 x hx).2; have := HZ3.out; omega))
   have HL5 := hid hL5
   have HS5 : Hid (Still w w5) := hid (Fr.trans (HS3.out.trans HSr.out) hf5 (fun x hx e => by have := (HLo.out.2 x e).1; have := HB1.out; omega))
   obtain ⟨s5, es5⟩ : ∃ s5 : Lgs, { s with S := s.S.map (heE (d : Int)) } = s5 := ⟨_, rfl⟩
   have HE5 : Hid (s5.nr = (k : Int) /\ s5.S.length = N /\ ∀ j : Nat, misL (j : Int) s5.S = misL (((if j < d then d else j) : Nat) : Int) s.S) := hid (by rw [<- es5]; exact ⟨HE.out, by simp [HN.out], fun j => mis_heal⟩)
   rw [es5] at HL5
   have hbo : ∃ g, bo = some ⟨g, 0, none⟩ := by
    obtain ⟨g, _, e6, _⟩ := HT5.out.o.head (by rw [HT5.out.l]; omega)
    injection e6 with e7 _ _
    exact ⟨g, e7⟩
   obtain ⟨gb, rfl⟩ := hbo
   have hm : m = k := by
    obtain ⟨_, _, e6, _⟩ := HT5.out.o.slice
    injection e6 with _ e7 _
    rw [e7]; exact HT5.out.l
   subst hm
   have HN2 : Hid (∀ j : Nat, (misL (j : Int) s.S).length <= 100000) := hid (fun j => by have h1 := misL_len (j : Int) s.S s.S.length; rw [List.take_of_length_le (Nat.le_refl _)] at h1; have := HN2016.out; omega)
   clear he hL5 hf5 HC HT HSr es5
   go_wp2_with fail
   go_loopw [18] (fun u wr => ∃ j : Nat, j <= m /\ u = .int .i64 (j : Int) /\ Hid (Still w5 wr)) (fun u _ => m - (intOf u).toNat)
   case atStart => exact ⟨0, by omega, rfl, hid (Fr.refl _ _)⟩
   case round =>
    obtain ⟨j, hj, rfl, HJ⟩ := hrel
    by_cases hjm : j < m
    ·have hltj : (j : Int) < (m : Int) := by omega
     by_cases hjd : j < d
     ·have hjd' : (j : Int) < (d : Int) := by omega
      have HM := hid (cm_missed s5 _ p vs (j : Int) wr (HL5.out.still HJ.out))
      rw [misA_in (by rw [HE5.out.1]; exact hltj), HE5.out.2.2 j, if_pos hjd] at HM
      obtain ⟨X, eX⟩ : ∃ X, misL (d : Int) s.S = X := ⟨_, rfl⟩
      have HX := hid eX
      rw [eX] at HM
      clear hjd eX
      go_wp2_with fail
      refine HM.out.mono ?_
      rintro e w6 ⟨v6, he, ho6, hs6⟩
      rw [he]
      obtain ⟨ao6, cap6, ev6, _⟩ := ho6.slice
      subst ev6
      have HS6 := hid (HJ.out.trans hs6)
      have hB6 := HT5.out.still HS6.out
      have cj := hB6.cell (j := j) hjm
      have cd := hB6.cell (j := d) (by omega)
      have hod := hB6.r d (by omega)
      rw [HX.out] at hod
      obtain ⟨td, etd⟩ : ∃ t, T.getD d KV9.d = t := ⟨_, rfl⟩
      obtain ⟨tj, etj⟩ : ∃ t, T.getD j KV9.d = t := ⟨_, rfl⟩
      rw [etd] at cd hod
      rw [etj] at cj
      obtain ⟨ao8, cap8, e8, _⟩ := hod.slice
      obtain ⟨t1, t2, t3⟩ := td
      simp only [sl9] at e8
      injection e8 with e81 e9 e83
      subst e81 e83
      have hX1 : X.length <= 100000 := by rw [<- HX.out]; exact HN2.out d
      have hrd := owC_rd ho6 hX1
      have hrd2 := owC_rd (show OwG KC cmT w6 _ (.slice t1 t2 t3) X from hod) hX1
      have HSm := hid (rsamec19_t X ao6 t1 X.length cap6 t3 w6 hrd hrd2)
      rw [<- e9] at HSm ⊢
      clear he ho6 hs6 HM hrd hrd2 hod etd etj e9 hB6 hX1 HX
      simp only [sl9] at cd cj
      go_wp2_with fail
      refine HSm.out.mono ?_
      rintro e w7 ⟨he, hs7⟩
      rw [he]
      have HJ2 := hid (HS6.out.trans hs7)
      clear he hs7 HSm cj cd
      go_wp2_with fail
      go_roundw
      case rel => exact ⟨j + 1, by omega, by go_num, HJ2⟩
      case measure => simp [intOf]; omega
     ·have hjd' : ¬ (j : Int) < (d : Int) := by omega
      have HM := hid (cm_missed s5 _ p vs (j : Int) wr (HL5.out.still HJ.out))
      rw [misA_in (by rw [HE5.out.1]; exact hltj), HE5.out.2.2 j, if_neg hjd] at HM
      obtain ⟨X, eX⟩ : ∃ X, misL (j : Int) s.S = X := ⟨_, rfl⟩
      have HX := hid eX
      rw [eX] at HM
      clear hjd eX
      go_wp2_with fail
      refine HM.out.mono ?_
      rintro e w6 ⟨v6, he, ho6, hs6⟩
      rw [he]
      obtain ⟨ao6, cap6, ev6, _⟩ := ho6.slice
      subst ev6
      have HS6 := hid (HJ.out.trans hs6)
      have hB6 := HT5.out.still HS6.out
      have cd := hB6.cell (j := j) (by omega)
      have hod := hB6.r j (by omega)
      rw [HX.out] at hod
      obtain ⟨td, etd⟩ : ∃ t, T.getD j KV9.d = t := ⟨_, rfl⟩
      rw [etd] at cd hod
      obtain ⟨ao8, cap8, e8, _⟩ := hod.slice
      obtain ⟨t1, t2, t3⟩ := td
      simp only [sl9] at e8
      injection e8 with e81 e9 e83
      subst e81 e83
      have hX1 : X.length <= 100000 := by rw [<- HX.out]; exact HN2.out j
      have hrd := owC_rd ho6 hX1
      have hrd2 := owC_rd (show OwG KC cmT w6 _ (.slice t1 t2 t3) X from hod) hX1
      have HSm := hid (rsamec19_t X ao6 t1 X.length cap6 t3 w6 hrd hrd2)
      rw [<- e9] at HSm ⊢
      clear he ho6 hs6 HM hrd hrd2 hod etd e9 hB6 hX1 HX
      simp only [sl9] at cd
      go_wp2_with fail
      refine HSm.out.mono ?_
      rintro e w7 ⟨he, hs7⟩
      rw [he]
      have HJ2 := hid (HS6.out.trans hs7)
      clear he hs7 HSm cd
      go_wp2_with fail
      go_roundw
      case rel => exact ⟨j + 1, by omega, by go_num, HJ2⟩
      case measure => simp [intOf]; omega
    ·have hgej : ¬ (j : Int) < (m : Int) := by omega
     have HLe := hid (cm_len s5 _ p vs wr (HL5.out.still HJ.out))
     rw [HE5.out.2.1] at HLe
     have HF := hid (HS5.out.trans HJ.out)
     have hNN : ((N : Int) == (N : Int)) = true := beq_self_eq_true _
     clear HJ
     go_wp2_with fail
     refine HLe.out.mono ?_
     rintro e w7 ⟨he, hs7⟩
     rw [he]
     have HF2 := hid (HF.out.trans hs7)
     clear he hs7 HLe
     go_wp2_with fail
     go_ret
     exact ⟨by simp, HF2.out⟩
end Go.Proofs.Ytdmgalaajgebkaa
namespace Go.Proofs.Ytdmgalaajgebkaa
open Go.RowKit
set_option maxRecDepth 100000
abbrev prT : TypeId := 62
structure Pd9 where
 r : Nat
 p : Nat
 vs : Nat -> Value
 yb : Nat
 ao : Option Addr
 cap : Nat
 s : Lgs
def Wt9 (P : Pd9) (k : Nat) : Prop := k = P.p \/ Rw P.vs k \/ k = P.yb
def Rb9 (P : Pd9) (k : Nat) : Prop := ∃ a, P.ao = some a /\ 0 < P.s.S.length /\ a.block = k
abbrev pv9 (P : Pd9) : Array Value := #[.pointer (some ⟨P.p, 0, none⟩), .pointer (some ⟨P.yb, 0, none⟩)]
structure Pr9 (B : Nat) (w : World) (P : Pd9) : Prop where
 l : Lm w B P.p P.s P.vs
 y : Ym w P.yb P.ao P.cap P.s
 b : w.heap[P.r]? = some (.cells (pv9 P) prT (0, 0))
 yl : B <= P.yb
 rl : B <= P.r
 sp : ∀ k, Rb9 P k -> ¬ Rw P.vs k
theorem ty_ne9 {w : World} {a b : Nat} {x y : Array Value} {s t : TypeId} (ha : w.heap[a]? = some (.cells x s (0, 0))) (hb : w.heap[b]? = some (.cells y t (0, 0))) (h : s ≠ t) : a ≠ b := fun e => by
 subst e
 rw [ha] at hb
 injection hb with hb
 injection hb with _ h2 _
 exact h h2
section
variable {B : Nat} {w w' : World} {P : Pd9}
theorem Lm.rwt {p : Nat} {s : Lgs} {vs : Nat -> Value} (h : Lm w B p s vs) {k : Nat} (hk : Rw vs k) : ∃ cur, w.heap[k]? = some (.cells cur enT (0, 0)) := by
 obtain ⟨i, hi, e⟩ := hk
 exact ow_ty19 (h.ow i hi) e
theorem Sr.ne9 {ao : Option Addr} {cap : Nat} {S : List En} (h : Sr w ao cap S) {k : Nat} {cs : Array Value} {t : TypeId} (hb : w.heap[k]? = some (.cells cs t (0, 0))) (hc : ∀ i, 7 <= i -> ∀ z, cs[i]? ≠ some (.int .i64 z)) : ∀ a, ao = some a -> 0 < S.length -> a.block ≠ k := by
 rintro a ha h0 rfl
 obtain ⟨G, o, e⟩ := h.rd.at h0
 have hrd := h.rd
 rw [e] at hrd
 rw [ha] at e
 cases e
 have c7 := hrd.get h0 7 _ rfl
 rw [cell_of_row _ _ _ _ _ _ hb] at c7
 exact hc _ (by omega) _ c7
theorem Pr9.rbp (h : Pr9 B w P) : ∀ k, Rb9 P k -> k ≠ P.p := by
 rintro k ⟨a, ha, h0, rfl⟩
 refine h.y.sr.ne9 h.l.bk (fun i hi z e => ?_) a ha h0
 rcases Nat.lt_or_ge i 115 with h1 | h1
 ·obtain ⟨j, rfl⟩ : ∃ j, i = 3 + j := ⟨i - 3, by omega⟩
  rw [lcs_at _ _ (by omega)] at e
  obtain ⟨ao, cap, e2, _⟩ := (h.l.ow j (by omega)).slice
  rw [e2] at e
  cases e
 ·rw [Array.getElem?_eq_none (by rw [lcs_size]; omega)] at e
  cases e
theorem Pr9.rby (h : Pr9 B w P) : ∀ k, Rb9 P k -> k ≠ P.yb := by
 rintro k ⟨a, ha, h0, rfl⟩
 exact h.y.ane a ha h0
theorem Pr9.wlt (h : Pr9 B w P) : ∀ k, Wt9 P k -> B <= k /\ k < w.heap.size := by
 rintro k (rfl | hk | rfl)
 ·exact ⟨h.l.lo, h.l.lt⟩
 ·exact h.l.rlt k hk
 ·exact ⟨h.yl, h.y.lt⟩
theorem Pr9.rlt (h : Pr9 B w P) : ∀ k, Rb9 P k -> k < w.heap.size := by
 rintro k ⟨a, ha, h0, rfl⟩
 exact h.y.sr.lt a ha h0
theorem Pr9.wtr (h : Pr9 B w P) : ∀ k, Wt9 P k -> k ≠ P.r := by
 rintro k (rfl | hk | rfl)
 ·exact ty_ne9 h.l.bk h.b (by decide)
 ·obtain ⟨cur, hc⟩ := h.l.rwt hk
  exact ty_ne9 hc h.b (by decide)
 ·exact ty_ne9 h.y.bk h.b (by decide)
theorem Pr9.rw_ne (h : Pr9 B w P) : ∀ k, Rb9 P k -> ¬ Wt9 P k := by
 rintro k hk (e | e | e)
 ·exact h.rbp k hk e
 ·exact h.sp k hk e
 ·exact h.rby k hk e
theorem Pr9.keep {F : Nat -> Prop} (h : Pr9 B w P) (hf : Fr F w w') (hF : ∀ k, F k -> ¬ Wt9 P k /\ ¬ Rb9 P k /\ k ≠ P.r) : Pr9 B w' P :=
 ⟨h.l.keep hf (fun e => (hF _ e).1 (.inl rfl)) (fun k hk e => (hF k hk).1 (.inr (.inl e))), h.y.keep hf (fun e => (hF _ e).1 (.inr (.inr rfl))) (fun a ha h0 e => (hF _ e).2.1 ⟨a, ha, h0, rfl⟩), hf.kept h.b (fun e => (hF _ e).2.2 rfl), h.yl, h.rl, h.sp⟩
theorem Pr9.still (h : Pr9 B w P) (hs : Still w w') : Pr9 B w' P := h.keep hs (fun _ e => e.elim)
structure Ef9 (B : Nat) (w w' : World) (P P' : Pd9) : Prop where
 ok : Pr9 B w' P'
 fr : Fr (Wt9 P) w w'
 wt : ∀ k, Wt9 P' k -> Wt9 P k \/ w.heap.size <= k
 rb : ∀ k, Rb9 P' k -> Rb9 P k \/ w.heap.size <= k
 er : P'.r = P.r
 ep : P'.p = P.p
 ey : P'.yb = P.yb
theorem Ef9.same (h : Pr9 B w P) (hs : Still w w') : Ef9 B w w' P P := ⟨h.still hs, hs.mono (fun _ _ e => e.elim), fun _ hk => .inl hk, fun _ hk => .inl hk, rfl, rfl, rfl⟩
theorem Ef9.then {w2 : World} {P' : Pd9} {F : Nat -> Prop} (h : Ef9 B w w' P P') (hf : Fr F w' w2) (hF : ∀ k, F k -> w.heap.size <= k) (hn : ∀ k, F k -> ¬ Wt9 P' k /\ ¬ Rb9 P' k /\ k ≠ P'.r) : Ef9 B w w2 P P' :=
 ⟨h.ok.keep hf hn, Fr.trans h.fr hf (fun k hk e => by have := hF k e; omega), h.wt, h.rb, h.er, h.ep, h.ey⟩
theorem Ef9.after {w1 : World} {P' : Pd9} (hs : Still w w1) (h : Ef9 B w1 w' P P') : Ef9 B w w' P P' :=
 ⟨h.ok, Fr.trans (hs.mono (fun _ _ e => e.elim)) h.fr (fun _ _ e => e), fun k hk => (h.wt k hk).imp_right (fun e => Nat.le_trans hs.size e), fun k hk => (h.rb k hk).imp_right (fun e => Nat.le_trans hs.size e), h.er, h.ep, h.ey⟩
theorem Pr9.ym1 {w1 : World} (h : Pr9 B w P) (hf : Fr (fun k => k = P.p \/ Rw P.vs k) w w1) : Ym w1 P.yb P.ao P.cap P.s :=
 h.y.keep hf (fun e => by
  rcases e with e | e
  ·exact ty_ne9 h.y.bk h.l.bk (by decide) e
  ·obtain ⟨cur, hc⟩ := h.l.rwt e
   exact ty_ne9 hc h.y.bk (by decide) rfl) (fun a ha h0 e => by
  have hk : Rb9 P a.block := ⟨a, ha, h0, rfl⟩
  rcases e with e | e
  ·exact h.rbp _ hk e
  ·exact h.sp _ hk e)
theorem Pr9.both {w1 w2 : World} (h : Pr9 B w P) {s1 : Lgs} {vs1 : Nat -> Value} (hf : Fr (fun k => k = P.p \/ Rw P.vs k) w w1) (hl : Lm w1 B P.p s1 vs1) (hv : ∀ k, Rw vs1 k -> Rw P.vs k \/ w.heap.size <= k) (hy : Yf w1 w2 P.yb P.ao P.s s1) : ∃ P', Ef9 B w w2 P P' := by
 obtain ⟨⟨ao', cap', hY, hx⟩, hf2⟩ := hy
 have hy1 := h.ym1 hf
 have hl2 : Lm w2 B P.p s1 vs1 := hl.keep hf2 (fun e => ty_ne9 hl.bk hy1.bk (by decide) e) (fun k hk e => by
  subst hk
  obtain ⟨cur, hc⟩ := hl.rwt e
  exact ty_ne9 hc hy1.bk (by decide) rfl)
 have hb2 : w2.heap[P.r]? = some (.cells (pv9 P) prT (0, 0)) := hf2.kept (hf.kept h.b (fun e => by
  rcases e with e | e
  ·exact h.wtr _ (.inl rfl) e.symm
  ·exact h.wtr _ (.inr (.inl e)) rfl)) (fun e => h.wtr _ (.inr (.inr rfl)) e.symm)
 refine ⟨⟨P.r, P.p, vs1, P.yb, ao', cap', s1⟩, ⟨hl2, hY, hb2, h.yl, h.rl, ?_⟩, ?_, ?_, ?_, rfl, rfl, rfl⟩
 ·rintro k ⟨a, ha, h0, rfl⟩ e
  have l2 := (hl.rlt _ e).2
  rcases hx a ha h0 with ⟨a0, ha0, h00, e0⟩ | h3
  ·have hk : Rb9 P a.block := ⟨a0, ha0, h00, e0⟩
   rcases hv _ e with h4 | h4
   ·exact h.sp _ hk h4
   ·have := h.rlt _ hk; omega
  ·omega
 ·refine Fr.trans (hf.mono (fun k _ e => ?_)) hf2 (fun k _ e => .inr (.inr e))
  rcases e with e | e
  ·exact .inl e
  ·exact .inr (.inl e)
 ·rintro k (e | e | e)
  ·exact .inl (.inl e)
  ·rcases hv _ e with h3 | h3
   ·exact .inl (.inr (.inl h3))
   ·exact .inr h3
  ·exact .inl (.inr (.inr e))
 ·rintro k ⟨a, ha, h0, rfl⟩
  rcases hx a ha h0 with ⟨a0, ha0, h00, e0⟩ | h3
  ·exact .inl ⟨a0, ha0, h00, e0⟩
  ·have := hf.size
   exact .inr (by omega)
theorem Pr9.spoil {w1 w2 : World} {v : Value} (h : Pr9 B w P) (hs : Still w w1) (hv : ∀ k, v.ownBlock = some k -> w.heap.size <= k) (hf : Fr (fun k => v.ownBlock = some k) w1 w2) : Ef9 B w w2 P P :=
 (Ef9.same h hs).then hf hv (fun k hk => by
  have := hv k hk
  refine ⟨fun e => ?_, fun e => ?_, fun e => ?_⟩
  ·have := (h.wlt k e).2; omega
  ·have := h.rlt k e; omega
  ·have := block_lt h.b; omega)
end
structure Bx9 (w : World) (r g : Nat) (P : Pd9) (o : Ok9) : Prop where
 h2 : w.heap[r]? = some (.cells (pv9 P) prT (0, 0))
 h3 : Ob9 w g o
theorem Bx9.keep {w w' : World} {r g : Nat} {P : Pd9} {o : Ok9} {F : Nat -> Prop} (h : Bx9 w r g P o) (hf : Fr F w w') (h2 : ¬ F r) (h3 : ¬ F g) : Bx9 w' r g P o := ⟨hf.kept h.h2 h2, hf.kept h.h3 h3⟩
theorem Bx9.still {w w' : World} {r g : Nat} {P : Pd9} {o : Ok9} (h : Bx9 w r g P o) (hf : Still w w') : Bx9 w' r g P o := h.keep hf (fun e => e) (fun e => e)
theorem Bx9.cells {w : World} {r g : Nat} {P : Pd9} {o : Ok9} (h : Bx9 w r g P o) : w.cell? ⟨r, 0, none⟩ = some (.pointer (some ⟨P.p, 0, none⟩)) /\ w.cell? ⟨r, 1, none⟩ = some (.pointer (some ⟨P.yb, 0, none⟩)) := by
 refine ⟨?_, ?_⟩ <;> (rw [cell_of_row _ _ _ _ _ _ h.h2]; rfl)
theorem Bx9.turn {B : Nat} {w w' : World} {r g : Nat} {P : Pd9} {o : Ok9} (h : Bx9 w r g P o) (hp : Pr9 B w P) (hf : Fr (fun k => k = P.p \/ Rw P.vs k) w w') : Bx9 w' r g P o :=
 h.keep hf (fun e => by
  rcases e with e | e
  ·exact ty_ne9 h.h2 hp.l.bk (by decide) e
  ·obtain ⟨cur, hc⟩ := hp.l.rwt e
   exact ty_ne9 hc h.h2 (by decide) rfl) (fun e => by
  rcases e with e | e
  ·exact ty_ne9 h.h3 hp.l.bk (by decide) e
  ·obtain ⟨cur, hc⟩ := hp.l.rwt e
   exact ty_ne9 hc h.h3 (by decide) rfl)
end Go.Proofs.Ytdmgalaajgebkaa
namespace Go.Proofs.Ytdmgalaajgebkaa
open Go.RowKit
set_option maxRecDepth 100000
def BdF (o : Ok9) : Prop := -9223372036854775808 <= o.x.fr /\ o.x.fr <= 9223372036854775807
set_option maxHeartbeats 8000000 in
theorem does9_0 (o : Ok9) (P : Pd9) (B : Nat) (hk : pk o.k 9 = 0) (hbd : Bd9 o) (hfr : BdF o) (w : World) (hB : B <= w.heap.size) (hp : Pr9 B w P) : Calls Try.prog 9 #[.pointer (some ⟨P.r, 0, none⟩), .agg (ok9 o)] w fun e w' => e = .returned (.bool true) /\ ∃ P', Ef9 B w w' P P' := by
 have A0 := Still.alloc w (.cells (ok9 o) opT)
 have HP0 := hid (hp.still A0)
 have HPw := hid hp
 have HS0 := hid A0
 have HX0 : Hid (Bx9 (w.alloc (.cells (ok9 o) opT)) P.r w.heap.size P o) := hid ⟨(hp.still A0).b, heap_alloc_new w _⟩
 have HF := hid hfr
 have HLo := hid hp.l.ok
 have HLn := hid (len_2016 hp.l.ok)
 have HPk := hid (fun w => pick_any o.k 9 hbd.1 (by omega) (by omega) w)
 rw [hk] at HPk
 obtain ⟨W, eW⟩ : ∃ W, w.alloc (.cells (ok9 o) opT) = W := ⟨_, rfl⟩
 obtain ⟨g, eg⟩ : ∃ g, w.heap.size = g := ⟨_, rfl⟩
 rw [eW] at HP0 HS0 HX0
 rw [eg] at HX0
 have HB : Hid (B <= W.heap.size) := hid (Nat.le_trans hB HS0.out.size)
 obtain ⟨o0, o1, o2, o3, o4, o5, o6, o7, o8, o9⟩ := HX0.out.h3.cells
 have HG := hid eg
 simp only [ok9] at eW
 clear A0 hp hk hbd hfr hB
 go_enter Try.func9, Try.ntmps9
 go_wp2_with fail
 clear eW eg
 refine (HPk.out _).mono ?_
 rintro e w' ⟨he, hw⟩
 rw [he, hw]
 clear he hw w' HPk o0 o1 o2 o3 o4 o5 o6 o7 o8 o9
 go_upto_region 3 with fail
 obtain ⟨p0, p1⟩ := HX0.out.cells
 obtain ⟨o0, o1, o2, o3, o4, o5, o6, o7, o8, o9⟩ := HX0.out.h3.cells
 have a0 := Cl.cell p0
 have a1 := Cl.cell p1
 have k2 := Cl.cell o2
 have k3 := Cl.cell o3
 have k4 := Cl.cell o4
 have k5 := Cl.cell o5
 have k6 := Cl.cell o6
 have k7 := Cl.cell o7
 have k8 := Cl.cell o8
 have k9 := Cl.cell o9
 have hne := Aft.here W
 clear p0 p1 o0 o1 o2 o3 o4 o5 o6 o7 o8 o9
 refine region_rest 8 (by kernel_rfl) (by kernel_rfl) ?_
 simp only [List.take_succ_cons, List.take_zero, List.drop_succ_cons, List.drop_zero]
 repeat (go_big_quiet_step (rfl))
 refine wpQuiet_nil ?_
 intro w1 h1
 clear hne a0 a1 k2 k3 k4 k5 k6 k7 k8 k9
 have HP1 := hid (HP0.out.still h1)
 have HS1 := hid (HS0.out.trans h1)
 have HX1 := hid (HX0.out.still h1)
 have HB1 := hid (Nat.le_trans HB.out h1.size)
 have HC := hid (cm_put P.s B P.p P.vs o.x o.x.ms w1 HB1.out HP1.out.l)
 clear h1 HP0 HS0 HX0 HB
 go_wp2_with fail
 refine HC.out.mono ?_
 rintro e w2 ⟨he, ⟨⟨vs2, hl2, hv2⟩, hf2⟩⟩
 rw [he]
 have HF2 : Hid (Fr (fun k => k = P.p \/ Rw P.vs k) w1 w2) := hid (hf2.mono (fun _ _ e => .inl e))
 have HL2 := hid hl2
 have HV := hid hv2
 have HX2 := hid (HX1.out.turn HP1.out HF2.out)
 clear HC hl2 hv2 hf2 HX1 he
 go_upto_region 4 with fail
 obtain ⟨p0, p1⟩ := HX2.out.cells
 obtain ⟨o0, o1, o2, o3, o4, o5, o6, o7, o8, o9⟩ := HX2.out.h3.cells
 have a0 := Cl.cell p0
 have a1 := Cl.cell p1
 have k2 := Cl.cell o2
 have k3 := Cl.cell o3
 have k4 := Cl.cell o4
 have k5 := Cl.cell o5
 have k6 := Cl.cell o6
 have k7 := Cl.cell o7
 have k8 := Cl.cell o8
 have k9 := Cl.cell o9
 have hne := Aft.here w2
 clear p0 p1 o0 o1 o2 o3 o4 o5 o6 o7 o8 o9
 refine region_rest 8 (by kernel_rfl) (by kernel_rfl) ?_
 simp only [List.take_succ_cons, List.take_zero, List.drop_succ_cons, List.drop_zero]
 repeat (go_big_quiet_step (rfl))
 refine wpQuiet_nil ?_
 intro w3 h3
 clear hne a0 a1 k2 k3 k4 k5 k6 k7 k8 k9
 have HF3 : Hid (Fr (fun k => k = P.p \/ Rw P.vs k) w1 w3) := hid (Fr.trans HF2.out h3 (fun _ _ e => e.elim))
 have HL3 := hid (HL2.out.still h3)
 have HD := hid (rPut19 P.s P.yb P.cap P.ao o.x o.x.ms HLo.out HF.out w3 (HP1.out.ym1 HF3.out))
 clear h3 HF2 HL2 HX2
 go_wp2_with fail
 refine HD.out.mono ?_
 rintro e w4 ⟨he, hy⟩
 rw [he]
 have HEf : Hid (∃ P', Ef9 B w w4 P P') := hid (by
  obtain ⟨P', h5⟩ := HP1.out.both HF3.out HL3.out HV.out hy
  exact ⟨P', h5.after HS1.out⟩)
 clear he hy HD
 go_wp2_with fail
 go_ret
 exact ⟨by simp, HEf.out⟩
set_option maxHeartbeats 8000000 in
theorem does9_4 (o : Ok9) (P : Pd9) (B : Nat) (hk : pk o.k 9 = 4) (hbd : Bd9 o) (hfr : BdF o) (w : World) (hB : B <= w.heap.size) (hp : Pr9 B w P) : Calls Try.prog 9 #[.pointer (some ⟨P.r, 0, none⟩), .agg (ok9 o)] w fun e w' => e = .returned (.bool true) /\ ∃ P', Ef9 B w w' P P' := by
 have A0 := Still.alloc w (.cells (ok9 o) opT)
 have HP0 := hid (hp.still A0)
 have HPw := hid hp
 have HS0 := hid A0
 have HX0 : Hid (Bx9 (w.alloc (.cells (ok9 o) opT)) P.r w.heap.size P o) := hid ⟨(hp.still A0).b, heap_alloc_new w _⟩
 have HF := hid hfr
 have HLo := hid hp.l.ok
 have HLn := hid (len_2016 hp.l.ok)
 have HPk := hid (fun w => pick_any o.k 9 hbd.1 (by omega) (by omega) w)
 rw [hk] at HPk
 obtain ⟨W, eW⟩ : ∃ W, w.alloc (.cells (ok9 o) opT) = W := ⟨_, rfl⟩
 obtain ⟨g, eg⟩ : ∃ g, w.heap.size = g := ⟨_, rfl⟩
 rw [eW] at HP0 HS0 HX0
 rw [eg] at HX0
 have HB : Hid (B <= W.heap.size) := hid (Nat.le_trans hB HS0.out.size)
 obtain ⟨o0, o1, o2, o3, o4, o5, o6, o7, o8, o9⟩ := HX0.out.h3.cells
 have HG := hid eg
 simp only [ok9] at eW
 clear A0 hp hk hbd hfr hB
 go_enter Try.func9, Try.ntmps9
 go_wp2_with fail
 clear eW eg
 refine (HPk.out _).mono ?_
 rintro e w' ⟨he, hw⟩
 rw [he, hw]
 clear he hw w' HPk o0 o1 o2 o3 o4 o5 o6 o7 o8 o9
 go_upto_region 19 with fail
 obtain ⟨p0, p1⟩ := HX0.out.cells
 obtain ⟨o0, o1, o2, o3, o4, o5, o6, o7, o8, o9⟩ := HX0.out.h3.cells
 have a0 := Cl.cell p0
 have a1 := Cl.cell p1
 have k2 := Cl.cell o2
 have k3 := Cl.cell o3
 have k4 := Cl.cell o4
 have k5 := Cl.cell o5
 have k6 := Cl.cell o6
 have k7 := Cl.cell o7
 have k8 := Cl.cell o8
 have k9 := Cl.cell o9
 have hne := Aft.here W
 clear p0 p1 o0 o1 o2 o3 o4 o5 o6 o7 o8 o9
 refine region_rest 6 (by kernel_rfl) (by kernel_rfl) ?_
 simp only [List.take_succ_cons, List.take_zero, List.drop_succ_cons, List.drop_zero]
 repeat (go_big_quiet_step (rfl))
 refine wpQuiet_nil ?_
 intro w1 h1
 clear hne a0 a1 k2 k3 k4 k5 k6 k7 k8 k9
 have HP1 := hid (HP0.out.still h1)
 have HS1 := hid (HS0.out.trans h1)
 have HX1 := hid (HX0.out.still h1)
 have HB1 := hid (Nat.le_trans HB.out h1.size)
 have HC := hid (cm_heal P.s B P.p P.vs o.x.ms w1 HP1.out.l)
 clear h1 HP0 HS0 HX0 HB
 go_wp2_with fail
 refine HC.out.mono ?_
 rintro e w2 ⟨he, hl2, hf2⟩
 rw [he]
 have HF2 : Hid (Fr (fun k => k = P.p \/ Rw P.vs k) w1 w2) := hid (hf2.mono (fun _ _ e => .inr e))
 have HL2 := hid hl2
 have HV : Hid (∀ k, Rw P.vs k -> Rw P.vs k \/ w1.heap.size <= k) := hid (fun _ h => .inl h)
 have HX2 := hid (HX1.out.turn HP1.out HF2.out)
 clear HC hl2 hf2 HX1 he
 go_upto_region 20 with fail
 obtain ⟨p0, p1⟩ := HX2.out.cells
 obtain ⟨o0, o1, o2, o3, o4, o5, o6, o7, o8, o9⟩ := HX2.out.h3.cells
 have a0 := Cl.cell p0
 have a1 := Cl.cell p1
 have k2 := Cl.cell o2
 have k3 := Cl.cell o3
 have k4 := Cl.cell o4
 have k5 := Cl.cell o5
 have k6 := Cl.cell o6
 have k7 := Cl.cell o7
 have k8 := Cl.cell o8
 have k9 := Cl.cell o9
 have hne := Aft.here w2
 clear p0 p1 o0 o1 o2 o3 o4 o5 o6 o7 o8 o9
 refine region_rest 6 (by kernel_rfl) (by kernel_rfl) ?_
 simp only [List.take_succ_cons, List.take_zero, List.drop_succ_cons, List.drop_zero]
 repeat (go_big_quiet_step (rfl))
 refine wpQuiet_nil ?_
 intro w3 h3
 clear hne a0 a1 k2 k3 k4 k5 k6 k7 k8 k9
 have HF3 : Hid (Fr (fun k => k = P.p \/ Rw P.vs k) w1 w3) := hid (Fr.trans HF2.out h3 (fun _ _ e => e.elim))
 have HL3 := hid (HL2.out.still h3)
 have HD := hid (rHeal19 P.s P.yb P.cap P.ao o.x.ms HLn.out w3 (HP1.out.ym1 HF3.out))
 clear h3 HF2 HL2 HX2
 go_wp2_with fail
 refine HD.out.mono ?_
 rintro e w4 ⟨he, hy⟩
 rw [he]
 have HEf : Hid (∃ P', Ef9 B w w4 P P') := hid (by
  obtain ⟨P', h5⟩ := HP1.out.both HF3.out HL3.out HV.out hy
  exact ⟨P', h5.after HS1.out⟩)
 clear he hy HD
 go_wp2_with fail
 go_ret
 exact ⟨rfl, HEf.out⟩
set_option maxHeartbeats 8000000 in
theorem does9_5 (o : Ok9) (P : Pd9) (B : Nat) (hk : pk o.k 9 = 5) (hbd : Bd9 o) (hfr : BdF o) (w : World) (hB : B <= w.heap.size) (hp : Pr9 B w P) : Calls Try.prog 9 #[.pointer (some ⟨P.r, 0, none⟩), .agg (ok9 o)] w fun e w' => e = .returned (.bool true) /\ ∃ P', Ef9 B w w' P P' := by
 have A0 := Still.alloc w (.cells (ok9 o) opT)
 have HP0 := hid (hp.still A0)
 have HPw := hid hp
 have HS0 := hid A0
 have HX0 : Hid (Bx9 (w.alloc (.cells (ok9 o) opT)) P.r w.heap.size P o) := hid ⟨(hp.still A0).b, heap_alloc_new w _⟩
 have HF := hid hfr
 have HLo := hid hp.l.ok
 have HLn := hid (len_2016 hp.l.ok)
 have HPk := hid (fun w => pick_any o.k 9 hbd.1 (by omega) (by omega) w)
 rw [hk] at HPk
 obtain ⟨W, eW⟩ : ∃ W, w.alloc (.cells (ok9 o) opT) = W := ⟨_, rfl⟩
 obtain ⟨g, eg⟩ : ∃ g, w.heap.size = g := ⟨_, rfl⟩
 rw [eW] at HP0 HS0 HX0
 rw [eg] at HX0
 have HB : Hid (B <= W.heap.size) := hid (Nat.le_trans hB HS0.out.size)
 obtain ⟨o0, o1, o2, o3, o4, o5, o6, o7, o8, o9⟩ := HX0.out.h3.cells
 have HG := hid eg
 simp only [ok9] at eW
 clear A0 hp hk hbd hfr hB
 go_enter Try.func9, Try.ntmps9
 go_wp2_with fail
 clear eW eg
 refine (HPk.out _).mono ?_
 rintro e w' ⟨he, hw⟩
 rw [he, hw]
 clear he hw w' HPk o0 o1 o2 o3 o4 o5 o6 o7 o8 o9
 go_upto_region 23 with fail
 obtain ⟨p0, p1⟩ := HX0.out.cells
 obtain ⟨o0, o1, o2, o3, o4, o5, o6, o7, o8, o9⟩ := HX0.out.h3.cells
 have a0 := Cl.cell p0
 have a1 := Cl.cell p1
 have k2 := Cl.cell o2
 have k3 := Cl.cell o3
 have k4 := Cl.cell o4
 have k5 := Cl.cell o5
 have k6 := Cl.cell o6
 have k7 := Cl.cell o7
 have k8 := Cl.cell o8
 have k9 := Cl.cell o9
 have hne := Aft.here W
 clear p0 p1 o0 o1 o2 o3 o4 o5 o6 o7 o8 o9
 refine region_rest 7 (by kernel_rfl) (by kernel_rfl) ?_
 simp only [List.take_succ_cons, List.take_zero, List.drop_succ_cons, List.drop_zero]
 repeat (go_big_quiet_step (rfl))
 refine wpQuiet_nil ?_
 intro w1 h1
 clear hne a0 a1 k2 k3 k4 k5 k6 k7 k8 k9
 have HP1 := hid (HP0.out.still h1)
 have HS1 := hid (HS0.out.trans h1)
 have HX1 := hid (HX0.out.still h1)
 have HB1 := hid (Nat.le_trans HB.out h1.size)
 have HC := hid (cm_purge P.s B P.p P.vs o.x.fr w1 HP1.out.l)
 clear h1 HP0 HS0 HX0 HB
 go_wp2_with fail
 refine HC.out.mono ?_
 rintro e w2 ⟨he, ⟨vs2, hl2, hv2⟩, hf2⟩
 rw [he]
 have HF2 : Hid (Fr (fun k => k = P.p \/ Rw P.vs k) w1 w2) := hid (hf2.mono (fun _ _ e => .inl e))
 have HL2 := hid hl2
 have HV : Hid (∀ k, Rw vs2 k -> Rw P.vs k \/ w1.heap.size <= k) := hid (fun k h => .inl (hv2 k h))
 have HX2 := hid (HX1.out.turn HP1.out HF2.out)
 clear HC hl2 hv2 hf2 HX1 he
 go_upto_region 24 with fail
 obtain ⟨p0, p1⟩ := HX2.out.cells
 obtain ⟨o0, o1, o2, o3, o4, o5, o6, o7, o8, o9⟩ := HX2.out.h3.cells
 have a0 := Cl.cell p0
 have a1 := Cl.cell p1
 have k2 := Cl.cell o2
 have k3 := Cl.cell o3
 have k4 := Cl.cell o4
 have k5 := Cl.cell o5
 have k6 := Cl.cell o6
 have k7 := Cl.cell o7
 have k8 := Cl.cell o8
 have k9 := Cl.cell o9
 have hne := Aft.here w2
 clear p0 p1 o0 o1 o2 o3 o4 o5 o6 o7 o8 o9
 refine region_rest 7 (by kernel_rfl) (by kernel_rfl) ?_
 simp only [List.take_succ_cons, List.take_zero, List.drop_succ_cons, List.drop_zero]
 repeat (go_big_quiet_step (rfl))
 refine wpQuiet_nil ?_
 intro w3 h3
 clear hne a0 a1 k2 k3 k4 k5 k6 k7 k8 k9
 have HF3 : Hid (Fr (fun k => k = P.p \/ Rw P.vs k) w1 w3) := hid (Fr.trans HF2.out h3 (fun _ _ e => e.elim))
 have HL3 := hid (HL2.out.still h3)
 have HD := hid (rPurge19 P.s P.yb P.cap P.ao o.x.fr HLn.out w3 (HP1.out.ym1 HF3.out))
 clear h3 HF2 HL2 HX2
 go_wp2_with fail
 refine HD.out.mono ?_
 rintro e w4 ⟨he, hy⟩
 rw [he]
 have HEf : Hid (∃ P', Ef9 B w w4 P P') := hid (by
  obtain ⟨P', h5⟩ := HP1.out.both HF3.out HL3.out HV.out hy
  exact ⟨P', h5.after HS1.out⟩)
 clear he hy HD
 go_wp2_with fail
 go_ret
 exact ⟨by simp, HEf.out⟩
set_option maxHeartbeats 8000000 in
theorem does9_1 (o : Ok9) (P : Pd9) (B : Nat) (hk : pk o.k 9 = 1) (hbd : Bd9 o) (hfr : BdF o) (w : World) (hB : B <= w.heap.size) (hp : Pr9 B w P) : Calls Try.prog 9 #[.pointer (some ⟨P.r, 0, none⟩), .agg (ok9 o)] w fun e w' => e = .returned (.bool true) /\ ∃ P', Ef9 B w w' P P' := by
 have A0 := Still.alloc w (.cells (ok9 o) opT)
 have HP0 := hid (hp.still A0)
 have HPw := hid hp
 have HS0 := hid A0
 have HX0 : Hid (Bx9 (w.alloc (.cells (ok9 o) opT)) P.r w.heap.size P o) := hid ⟨(hp.still A0).b, heap_alloc_new w _⟩
 have HF := hid hfr
 have HLo := hid hp.l.ok
 have HLn := hid (len_2016 hp.l.ok)
 have HPk := hid (fun w => pick_any o.k 9 hbd.1 (by omega) (by omega) w)
 rw [hk] at HPk
 obtain ⟨W, eW⟩ : ∃ W, w.alloc (.cells (ok9 o) opT) = W := ⟨_, rfl⟩
 obtain ⟨g, eg⟩ : ∃ g, w.heap.size = g := ⟨_, rfl⟩
 rw [eW] at HP0 HS0 HX0
 rw [eg] at HX0
 have HB : Hid (B <= W.heap.size) := hid (Nat.le_trans hB HS0.out.size)
 obtain ⟨o0, o1, o2, o3, o4, o5, o6, o7, o8, o9⟩ := HX0.out.h3.cells
 have HG := hid eg
 simp only [ok9] at eW
 clear A0 hp hk hbd hfr hB
 go_enter Try.func9, Try.ntmps9
 go_wp2_with fail
 clear eW eg
 refine (HPk.out _).mono ?_
 rintro e w' ⟨he, hw⟩
 rw [he, hw]
 clear he hw w' HPk o0 o1 o2 o3 o4 o5 o6 o7 o8 o9
 go_upto_region 7 with fail
 obtain ⟨p0, p1⟩ := HX0.out.cells
 obtain ⟨o0, o1, o2, o3, o4, o5, o6, o7, o8, o9⟩ := HX0.out.h3.cells
 have a0 := Cl.cell p0
 have a1 := Cl.cell p1
 have k2 := Cl.cell o2
 have k3 := Cl.cell o3
 have k4 := Cl.cell o4
 have k5 := Cl.cell o5
 have k6 := Cl.cell o6
 have k7 := Cl.cell o7
 have k8 := Cl.cell o8
 have k9 := Cl.cell o9
 have hne := Aft.here W
 clear p0 p1 o0 o1 o2 o3 o4 o5 o6 o7 o8 o9
 refine region_rest 10 (by kernel_rfl) (by kernel_rfl) ?_
 simp only [List.take_succ_cons, List.take_zero, List.drop_succ_cons, List.drop_zero]
 repeat (go_big_quiet_step (rfl))
 refine wpQuiet_nil ?_
 intro w1 h1
 clear hne a0 a1 k2 k3 k4 k5 k6 k7 k8 k9
 have HP1 := hid (HP0.out.still h1)
 have HS1 := hid (HS0.out.trans h1)
 have HX1 := hid (HX0.out.still h1)
 have HC := hid (cm_count P.s B P.p P.vs o.x.fr o.x.pe w1 HP1.out.l)
 clear h1 HP0 HS0 HX0
 go_wp2_with fail
 refine HC.out.mono ?_
 rintro e w2 ⟨he, h2⟩
 rw [he]
 have HP2 := hid (HP1.out.still h2)
 have HS2 := hid (HS1.out.trans h2)
 have HX2 := hid (HX1.out.still h2)
 clear he h2 HC HP1 HS1 HX1
 go_upto_region 8 with fail
 obtain ⟨p0, p1⟩ := HX2.out.cells
 obtain ⟨o0, o1, o2, o3, o4, o5, o6, o7, o8, o9⟩ := HX2.out.h3.cells
 have a0 := Cl.cell p0
 have a1 := Cl.cell p1
 have k2 := Cl.cell o2
 have k3 := Cl.cell o3
 have k4 := Cl.cell o4
 have k5 := Cl.cell o5
 have k6 := Cl.cell o6
 have k7 := Cl.cell o7
 have k8 := Cl.cell o8
 have k9 := Cl.cell o9
 have hne := Aft.here w2
 clear p0 p1 o0 o1 o2 o3 o4 o5 o6 o7 o8 o9
 refine region_rest 10 (by kernel_rfl) (by kernel_rfl) ?_
 simp only [List.take_succ_cons, List.take_zero, List.drop_succ_cons, List.drop_zero]
 repeat (go_big_quiet_step (rfl))
 refine wpQuiet_nil ?_
 intro w3 h3
 clear hne a0 a1 k2 k3 k4 k5 k6 k7 k8 k9
 have HS3 := hid (HS2.out.trans h3)
 have HC := hid (rcount19 P.s P.yb P.cap P.ao o.x.fr o.x.pe HLn.out w3 (HP2.out.still h3).y)
 clear h3 HX2 HS2
 go_wp2_with fail
 refine HC.out.mono ?_
 rintro e w4 ⟨he, hw⟩
 rw [he, hw]
 clear he hw w4 HC
 go_wp2_with fail
 go_ret
 exact ⟨by simp, P, Ef9.same HPw.out HS3.out⟩
set_option maxHeartbeats 8000000 in
theorem does9_2 (o : Ok9) (P : Pd9) (B : Nat) (hk : pk o.k 9 = 2) (hbd : Bd9 o) (hfr : BdF o) (w : World) (hB : B <= w.heap.size) (hp : Pr9 B w P) : Calls Try.prog 9 #[.pointer (some ⟨P.r, 0, none⟩), .agg (ok9 o)] w fun e w' => e = .returned (.bool true) /\ ∃ P', Ef9 B w w' P P' := by
 have A0 := Still.alloc w (.cells (ok9 o) opT)
 have HP0 := hid (hp.still A0)
 have HPw := hid hp
 have HS0 := hid A0
 have HX0 : Hid (Bx9 (w.alloc (.cells (ok9 o) opT)) P.r w.heap.size P o) := hid ⟨(hp.still A0).b, heap_alloc_new w _⟩
 have HF := hid hfr
 have HLo := hid hp.l.ok
 have HLn := hid (len_2016 hp.l.ok)
 have HPk := hid (fun w => pick_any o.k 9 hbd.1 (by omega) (by omega) w)
 rw [hk] at HPk
 obtain ⟨W, eW⟩ : ∃ W, w.alloc (.cells (ok9 o) opT) = W := ⟨_, rfl⟩
 obtain ⟨g, eg⟩ : ∃ g, w.heap.size = g := ⟨_, rfl⟩
 rw [eW] at HP0 HS0 HX0
 rw [eg] at HX0
 have HB : Hid (B <= W.heap.size) := hid (Nat.le_trans hB HS0.out.size)
 obtain ⟨o0, o1, o2, o3, o4, o5, o6, o7, o8, o9⟩ := HX0.out.h3.cells
 have HG := hid eg
 simp only [ok9] at eW
 clear A0 hp hk hbd hfr hB
 go_enter Try.func9, Try.ntmps9
 go_wp2_with fail
 clear eW eg
 refine (HPk.out _).mono ?_
 rintro e w' ⟨he, hw⟩
 rw [he, hw]
 clear he hw w' HPk o0 o1 o2 o3 o4 o5 o6 o7 o8 o9
 go_upto_region 11 with fail
 obtain ⟨p0, p1⟩ := HX0.out.cells
 obtain ⟨o0, o1, o2, o3, o4, o5, o6, o7, o8, o9⟩ := HX0.out.h3.cells
 have a0 := Cl.cell p0
 have a1 := Cl.cell p1
 have k2 := Cl.cell o2
 have k3 := Cl.cell o3
 have k4 := Cl.cell o4
 have k5 := Cl.cell o5
 have k6 := Cl.cell o6
 have k7 := Cl.cell o7
 have k8 := Cl.cell o8
 have k9 := Cl.cell o9
 have hne := Aft.here W
 clear p0 p1 o0 o1 o2 o3 o4 o5 o6 o7 o8 o9
 refine region_rest 7 (by kernel_rfl) (by kernel_rfl) ?_
 simp only [List.take_succ_cons, List.take_zero, List.drop_succ_cons, List.drop_zero]
 repeat (go_big_quiet_step (rfl))
 refine wpQuiet_nil ?_
 intro w1 h1
 clear hne a0 a1 k2 k3 k4 k5 k6 k7 k8 k9
 have HP1 := hid (HP0.out.still h1)
 have HS1 := hid (HS0.out.trans h1)
 have HX1 := hid (HX0.out.still h1)
 have HC := hid (cm_At P.s B P.p P.vs o.x.fr w1 HP1.out.l)
 have HLL : Hid ((onF o.x.fr P.s.S).length <= 3000) := hid (by have := on_len HLo.out o.x.fr; omega)
 obtain ⟨M, eM⟩ : ∃ M, onF o.x.fr P.s.S = M := ⟨_, rfl⟩
 rw [eM] at HC HLL
 have HM := hid eM
 clear h1 HP0 HS0 HX0 eM
 go_wp2_with fail
 refine HC.out.mono ?_
 rintro e w2 ⟨va, he, ho, h2⟩
 rw [he]
 obtain ⟨co, cp, ev, _⟩ := ho.slice
 subst ev
 have HO2 := hid ho
 have HP2 := hid (HP1.out.still h2)
 have HS2 := hid (HS1.out.trans h2)
 have HX2 := hid (HX1.out.still h2)
 have HW13 := hid h2.size
 obtain ⟨n, en⟩ : ∃ n, M.length = n := ⟨_, rfl⟩
 have HN := hid en
 rw [en] at HO2 ⊢
 clear he ho h2 HC HP1 HX1 en
 go_upto_region 12 with fail
 obtain ⟨p0, p1⟩ := HX2.out.cells
 obtain ⟨o0, o1, o2, o3, o4, o5, o6, o7, o8, o9⟩ := HX2.out.h3.cells
 have a0 := Cl.cell p0
 have a1 := Cl.cell p1
 have k2 := Cl.cell o2
 have k3 := Cl.cell o3
 have k4 := Cl.cell o4
 have k5 := Cl.cell o5
 have k6 := Cl.cell o6
 have k7 := Cl.cell o7
 have k8 := Cl.cell o8
 have k9 := Cl.cell o9
 have hne := Aft.here w2
 clear p0 p1 o0 o1 o2 o3 o4 o5 o6 o7 o8 o9
 refine region_rest 7 (by kernel_rfl) (by kernel_rfl) ?_
 simp only [List.take_succ_cons, List.take_zero, List.drop_succ_cons, List.drop_zero]
 repeat (go_big_quiet_step (rfl))
 refine wpQuiet_nil ?_
 intro w3 h3
 clear hne a0 a1 k2 k3 k4 k5 k6 k7 k8 k9
 have HS3 := hid (HS2.out.trans h3)
 have HO3 := hid (HO2.out.still h3)
 have HC := hid (rAt19 P.s P.yb P.cap P.ao o.x.fr HLn.out w3 (HP2.out.still h3).y)
 rw [HM.out] at HC
 have HW14 : Hid (∀ u : World, w3.heap.size <= u.heap.size -> w1.heap.size <= u.heap.size) := hid (fun u hu => Nat.le_trans HW13.out (Nat.le_trans h3.size hu))
 clear h3 HX2 HS2 HO2
 go_wp2_with fail
 refine HC.out.mono ?_
 rintro e w4 ⟨vb, he, hob, h4⟩
 rw [he]
 obtain ⟨bo, bc, ev, _⟩ := hob.slice
 subst ev
 have HS4 := hid (HS3.out.trans h4)
 have HO4 : Hid (OwG KE enT w4 w1.heap.size (.slice co n cp) M) := hid (HO3.out.still h4)
 have HZ4 : Hid (w1.heap.size <= w4.heap.size) := hid (HW14.out w4 h4.size)
 have HD := hid (lent19 (.slice co n cp) bo bc M w1.heap.size HLL.out w4 HO4.out HZ4.out (OwG.rd (M := []) (by rw [List.append_nil]; exact hob) (by have := HLL.out; omega)))
 rw [HN.out] at HD ⊢
 clear he hob h4 HC HO3
 go_wp2_with fail
 refine HD.out.mono ?_
 rintro e w5 ⟨he, hf5⟩
 rw [he]
 have HEf : Hid (Ef9 B w w5 P P) := hid (HPw.out.spoil HS4.out (fun k hk => Nat.le_trans HS1.out.size (HO4.out.block hk).1) hf5)
 clear he hf5 HD
 go_wp2_with fail
 go_ret
 exact ⟨rfl, P, HEf.out⟩
set_option maxHeartbeats 8000000 in
theorem does9_3 (o : Ok9) (P : Pd9) (B : Nat) (hk : pk o.k 9 = 3) (hbd : Bd9 o) (hfr : BdF o) (w : World) (hB : B <= w.heap.size) (hp : Pr9 B w P) : Calls Try.prog 9 #[.pointer (some ⟨P.r, 0, none⟩), .agg (ok9 o)] w fun e w' => e = .returned (.bool true) /\ ∃ P', Ef9 B w w' P P' := by
 have A0 := Still.alloc w (.cells (ok9 o) opT)
 have HP0 := hid (hp.still A0)
 have HPw := hid hp
 have HS0 := hid A0
 have HX0 : Hid (Bx9 (w.alloc (.cells (ok9 o) opT)) P.r w.heap.size P o) := hid ⟨(hp.still A0).b, heap_alloc_new w _⟩
 have HF := hid hfr
 have HLo := hid hp.l.ok
 have HLn := hid (len_2016 hp.l.ok)
 have HPk := hid (fun w => pick_any o.k 9 hbd.1 (by omega) (by omega) w)
 rw [hk] at HPk
 obtain ⟨W, eW⟩ : ∃ W, w.alloc (.cells (ok9 o) opT) = W := ⟨_, rfl⟩
 obtain ⟨g, eg⟩ : ∃ g, w.heap.size = g := ⟨_, rfl⟩
 rw [eW] at HP0 HS0 HX0
 rw [eg] at HX0
 have HB : Hid (B <= W.heap.size) := hid (Nat.le_trans hB HS0.out.size)
 obtain ⟨o0, o1, o2, o3, o4, o5, o6, o7, o8, o9⟩ := HX0.out.h3.cells
 have HG := hid eg
 simp only [ok9] at eW
 clear A0 hp hk hbd hfr hB
 go_enter Try.func9, Try.ntmps9
 go_wp2_with fail
 clear eW eg
 refine (HPk.out _).mono ?_
 rintro e w' ⟨he, hw⟩
 rw [he, hw]
 clear he hw w' HPk o0 o1 o2 o3 o4 o5 o6 o7 o8 o9
 go_upto_region 15 with fail
 obtain ⟨p0, p1⟩ := HX0.out.cells
 obtain ⟨o0, o1, o2, o3, o4, o5, o6, o7, o8, o9⟩ := HX0.out.h3.cells
 have a0 := Cl.cell p0
 have a1 := Cl.cell p1
 have k2 := Cl.cell o2
 have k3 := Cl.cell o3
 have k4 := Cl.cell o4
 have k5 := Cl.cell o5
 have k6 := Cl.cell o6
 have k7 := Cl.cell o7
 have k8 := Cl.cell o8
 have k9 := Cl.cell o9
 have hne := Aft.here W
 clear p0 p1 o0 o1 o2 o3 o4 o5 o6 o7 o8 o9
 refine region_rest 6 (by kernel_rfl) (by kernel_rfl) ?_
 simp only [List.take_succ_cons, List.take_zero, List.drop_succ_cons, List.drop_zero]
 repeat (go_big_quiet_step (rfl))
 refine wpQuiet_nil ?_
 intro w1 h1
 clear hne a0 a1 k2 k3 k4 k5 k6 k7 k8 k9
 have HP1 := hid (HP0.out.still h1)
 have HS1 := hid (HS0.out.trans h1)
 have HX1 := hid (HX0.out.still h1)
 have HC := hid (cm_missed P.s B P.p P.vs o.x.ms w1 HP1.out.l)
 have HLL : Hid ((misA P.s o.x.ms).length <= 3000) := hid (by have := HLn.out; unfold misA; split; (have h9 := misL_len o.x.ms P.s.S P.s.S.length; rw [List.take_of_length_le (Nat.le_refl _)] at h9; omega); simp)
 obtain ⟨M, eM⟩ : ∃ M, misA P.s o.x.ms = M := ⟨_, rfl⟩
 rw [eM] at HC HLL
 have HM := hid eM
 clear h1 HP0 HS0 HX0 eM
 go_wp2_with fail
 refine HC.out.mono ?_
 rintro e w2 ⟨va, he, ho, h2⟩
 rw [he]
 obtain ⟨co, cp, ev, _⟩ := ho.slice
 subst ev
 have HO2 := hid ho
 have HP2 := hid (HP1.out.still h2)
 have HS2 := hid (HS1.out.trans h2)
 have HX2 := hid (HX1.out.still h2)
 have HW13 := hid h2.size
 obtain ⟨n, en⟩ : ∃ n, M.length = n := ⟨_, rfl⟩
 have HN := hid en
 rw [en] at HO2 ⊢
 clear he ho h2 HC HP1 HX1 en
 go_upto_region 16 with fail
 obtain ⟨p0, p1⟩ := HX2.out.cells
 obtain ⟨o0, o1, o2, o3, o4, o5, o6, o7, o8, o9⟩ := HX2.out.h3.cells
 have a0 := Cl.cell p0
 have a1 := Cl.cell p1
 have k2 := Cl.cell o2
 have k3 := Cl.cell o3
 have k4 := Cl.cell o4
 have k5 := Cl.cell o5
 have k6 := Cl.cell o6
 have k7 := Cl.cell o7
 have k8 := Cl.cell o8
 have k9 := Cl.cell o9
 have hne := Aft.here w2
 clear p0 p1 o0 o1 o2 o3 o4 o5 o6 o7 o8 o9
 refine region_rest 6 (by kernel_rfl) (by kernel_rfl) ?_
 simp only [List.take_succ_cons, List.take_zero, List.drop_succ_cons, List.drop_zero]
 repeat (go_big_quiet_step (rfl))
 refine wpQuiet_nil ?_
 intro w3 h3
 clear hne a0 a1 k2 k3 k4 k5 k6 k7 k8 k9
 have HS3 := hid (HS2.out.trans h3)
 have HO3 := hid (HO2.out.still h3)
 have HC := hid (rMissed19 P.s P.yb P.cap P.ao o.x.ms HLn.out w3 (HP2.out.still h3).y)
 rw [HM.out] at HC
 have HW14 : Hid (∀ u : World, w3.heap.size <= u.heap.size -> w1.heap.size <= u.heap.size) := hid (fun u hu => Nat.le_trans HW13.out (Nat.le_trans h3.size hu))
 clear h3 HX2 HS2 HO2
 go_wp2_with fail
 refine HC.out.mono ?_
 rintro e w4 ⟨vb, he, hob, h4⟩
 rw [he]
 obtain ⟨bo, bc, ev, _⟩ := hob.slice
 subst ev
 have HS4 := hid (HS3.out.trans h4)
 have HO4 : Hid (OwG KC cmT w4 w1.heap.size (.slice co n cp) M) := hid (HO3.out.still h4)
 have HZ4 : Hid (w1.heap.size <= w4.heap.size) := hid (HW14.out w4 h4.size)
 have HD := hid (lcom19 (.slice co n cp) bo bc M w1.heap.size HLL.out w4 HO4.out HZ4.out (OwG.rd (M := []) (by rw [List.append_nil]; exact hob) (by have := HLL.out; omega)))
 rw [HN.out] at HD ⊢
 clear he hob h4 HC HO3
 go_wp2_with fail
 refine HD.out.mono ?_
 rintro e w5 ⟨he, hf5⟩
 rw [he]
 have HEf : Hid (Ef9 B w w5 P P) := hid (HPw.out.spoil HS4.out (fun k hk => Nat.le_trans HS1.out.size (HO4.out.block hk).1) hf5)
 clear he hf5 HD
 go_wp2_with fail
 go_ret
 exact ⟨rfl, P, HEf.out⟩
set_option maxHeartbeats 8000000 in
theorem does9_7 (o : Ok9) (P : Pd9) (B : Nat) (hk : pk o.k 9 = 7) (hbd : Bd9 o) (hfr : BdF o) (w : World) (hB : B <= w.heap.size) (hp : Pr9 B w P) : Calls Try.prog 9 #[.pointer (some ⟨P.r, 0, none⟩), .agg (ok9 o)] w fun e w' => e = .returned (.bool true) /\ ∃ P', Ef9 B w w' P P' := by
 have A0 := Still.alloc w (.cells (ok9 o) opT)
 have HP0 := hid (hp.still A0)
 have HPw := hid hp
 have HS0 := hid A0
 have HX0 : Hid (Bx9 (w.alloc (.cells (ok9 o) opT)) P.r w.heap.size P o) := hid ⟨(hp.still A0).b, heap_alloc_new w _⟩
 have HF := hid hfr
 have HLo := hid hp.l.ok
 have HLn := hid (len_2016 hp.l.ok)
 have HPk := hid (fun w => pick_any o.k 9 hbd.1 (by omega) (by omega) w)
 rw [hk] at HPk
 obtain ⟨W, eW⟩ : ∃ W, w.alloc (.cells (ok9 o) opT) = W := ⟨_, rfl⟩
 obtain ⟨g, eg⟩ : ∃ g, w.heap.size = g := ⟨_, rfl⟩
 rw [eW] at HP0 HS0 HX0
 rw [eg] at HX0
 have HB : Hid (B <= W.heap.size) := hid (Nat.le_trans hB HS0.out.size)
 obtain ⟨o0, o1, o2, o3, o4, o5, o6, o7, o8, o9⟩ := HX0.out.h3.cells
 have HG := hid eg
 simp only [ok9] at eW
 clear A0 hp hk hbd hfr hB
 go_enter Try.func9, Try.ntmps9
 go_wp2_with fail
 clear eW eg
 refine (HPk.out _).mono ?_
 rintro e w' ⟨he, hw⟩
 rw [he, hw]
 clear he hw w' HPk o0 o1 o2 o3 o4 o5 o6 o7 o8 o9
 obtain ⟨p0, p1⟩ := HX0.out.cells
 have HC := hid (cm_all P.s B P.p P.vs W HP0.out.l)
 go_wp2_with fail
 refine HC.out.mono ?_
 rintro e w2 ⟨va, he, ho, h2⟩
 rw [he]
 obtain ⟨co, cp, ev, _⟩ := ho.slice
 subst ev
 have HO2 := hid ho
 have HP2 := hid (HP0.out.still h2)
 have HS2 := hid (HS0.out.trans h2)
 obtain ⟨q0, q1⟩ := (HX0.out.still h2).cells
 obtain ⟨_, _, _, y3, _⟩ := (HP0.out.still h2).y.cell
 have HD := hid (lent19 (.slice co P.s.S.length cp) P.ao P.cap P.s.S W.heap.size (by have := HLn.out; omega) w2 HO2.out h2.size HP2.out.y.sr.rd)
 obtain ⟨n, en⟩ : ∃ n, P.s.S.length = n := ⟨_, rfl⟩
 rw [en] at HD HO2 y3 ⊢
 clear he ho h2 HC HP0 p0 p1 en
 go_wp2_with fail
 refine HD.out.mono ?_
 rintro e w5 ⟨he, hf5⟩
 rw [he]
 have HEf : Hid (Ef9 B w w5 P P) := hid (HPw.out.spoil HS2.out (fun k hk => Nat.le_trans HS0.out.size (HO2.out.block hk).1) hf5)
 clear he hf5 HD q0 q1 y3
 go_wp2_with fail
 go_ret
 exact ⟨rfl, P, HEf.out⟩
set_option maxHeartbeats 8000000 in
theorem does9_6 (o : Ok9) (P : Pd9) (B : Nat) (hk : pk o.k 9 = 6) (hbd : Bd9 o) (hfr : BdF o) (w : World) (hB : B <= w.heap.size) (hp : Pr9 B w P) : Calls Try.prog 9 #[.pointer (some ⟨P.r, 0, none⟩), .agg (ok9 o)] w fun e w' => e = .returned (.bool true) /\ ∃ P', Ef9 B w w' P P' := by
 have A0 := Still.alloc w (.cells (ok9 o) opT)
 have HP0 := hid (hp.still A0)
 have HPw := hid hp
 have HS0 := hid A0
 have HX0 : Hid (Bx9 (w.alloc (.cells (ok9 o) opT)) P.r w.heap.size P o) := hid ⟨(hp.still A0).b, heap_alloc_new w _⟩
 have HF := hid hfr
 have HLo := hid hp.l.ok
 have HLn := hid (len_2016 hp.l.ok)
 have HPk := hid (fun w => pick_any o.k 9 hbd.1 (by omega) (by omega) w)
 rw [hk] at HPk
 obtain ⟨W, eW⟩ : ∃ W, w.alloc (.cells (ok9 o) opT) = W := ⟨_, rfl⟩
 obtain ⟨g, eg⟩ : ∃ g, w.heap.size = g := ⟨_, rfl⟩
 rw [eW] at HP0 HS0 HX0
 rw [eg] at HX0
 have HB : Hid (B <= W.heap.size) := hid (Nat.le_trans hB HS0.out.size)
 obtain ⟨o0, o1, o2, o3, o4, o5, o6, o7, o8, o9⟩ := HX0.out.h3.cells
 have HG := hid eg
 simp only [ok9] at eW
 clear A0 hp hk hbd hfr hB
 go_enter Try.func9, Try.ntmps9
 go_wp2_with fail
 clear eW eg
 refine (HPk.out _).mono ?_
 rintro e w' ⟨he, hw⟩
 rw [he, hw]
 clear he hw w' HPk o0 o1 o2 o3 o4 o5 o6 o7 o8 o9
 obtain ⟨p0, p1⟩ := HX0.out.cells
 have HC := hid (cm_base P.s B P.p P.vs W HP0.out.l)
 have HD := hid (cm_len P.s B P.p P.vs W HP0.out.l)
 obtain ⟨n, en⟩ : ∃ n, P.s.S.length = n := ⟨_, rfl⟩
 obtain ⟨b, eb⟩ : ∃ n, P.s.ba = n := ⟨_, rfl⟩
 have HN := hid (And.intro en eb)
 rw [en] at HD
 rw [eb] at HC
 clear en eb
 go_wp2_with fail
 refine HC.out.mono ?_
 rintro e w' ⟨he, hw⟩
 rw [he, hw]
 clear he hw w' HC
 go_wp2_with fail
 refine HD.out.mono ?_
 rintro e w2 ⟨he, h2⟩
 rw [he]
 have HS2 := hid (HS0.out.trans h2)
 obtain ⟨q0, q1⟩ := (HX0.out.still h2).cells
 obtain ⟨_, _, y2, y3, _⟩ := (HP0.out.still h2).y.cell
 rw [HN.out.1] at y3
 rw [HN.out.2] at y2
 have t1 : (b == b) = true := beq_self_eq_true _
 have t2 : ((n : Int) == (n : Int)) = true := beq_self_eq_true _
 clear he h2 HD HP0 p0 p1
 go_wp2_with fail
 go_ret
 exact ⟨by simp, P, Ef9.same HPw.out HS2.out⟩
set_option maxHeartbeats 8000000 in
theorem does9_8 (o : Ok9) (P : Pd9) (B : Nat) (hk : pk o.k 9 = 8) (hbd : Bd9 o) (hfr : BdF o) (w : World) (hB : B <= w.heap.size) (hp : Pr9 B w P) : Calls Try.prog 9 #[.pointer (some ⟨P.r, 0, none⟩), .agg (ok9 o)] w fun e w' => e = .returned (.bool true) /\ ∃ P', Ef9 B w w' P P' := by
 have A0 := Still.alloc w (.cells (ok9 o) opT)
 have HP0 := hid (hp.still A0)
 have HPw := hid hp
 have HS0 := hid A0
 have HX0 : Hid (Bx9 (w.alloc (.cells (ok9 o) opT)) P.r w.heap.size P o) := hid ⟨(hp.still A0).b, heap_alloc_new w _⟩
 have HF := hid hfr
 have HLo := hid hp.l.ok
 have HLn := hid (len_2016 hp.l.ok)
 have HPk := hid (fun w => pick_any o.k 9 hbd.1 (by omega) (by omega) w)
 rw [hk] at HPk
 obtain ⟨W, eW⟩ : ∃ W, w.alloc (.cells (ok9 o) opT) = W := ⟨_, rfl⟩
 obtain ⟨g, eg⟩ : ∃ g, w.heap.size = g := ⟨_, rfl⟩
 rw [eW] at HP0 HS0 HX0
 rw [eg] at HX0
 have HB : Hid (B <= W.heap.size) := hid (Nat.le_trans hB HS0.out.size)
 obtain ⟨o0, o1, o2, o3, o4, o5, o6, o7, o8, o9⟩ := HX0.out.h3.cells
 have HG := hid eg
 simp only [ok9] at eW
 clear A0 hp hk hbd hfr hB
 go_enter Try.func9, Try.ntmps9
 go_wp2_with fail
 clear eW eg
 refine (HPk.out _).mono ?_
 rintro e w' ⟨he, hw⟩
 rw [he, hw]
 clear he hw w' HPk o0 o1 o2 o3 o4 o5 o6 o7 o8 o9
 obtain ⟨p0, p1⟩ := HX0.out.cells
 have HC := hid (cm_base P.s B P.p P.vs W HP0.out.l)
 have HD := hid (cm_len P.s B P.p P.vs W HP0.out.l)
 obtain ⟨n, en⟩ : ∃ n, P.s.S.length = n := ⟨_, rfl⟩
 obtain ⟨b, eb⟩ : ∃ n, P.s.ba = n := ⟨_, rfl⟩
 have HN := hid (And.intro en eb)
 rw [en] at HD
 rw [eb] at HC
 clear en eb
 go_wp2_with fail
 refine HC.out.mono ?_
 rintro e w' ⟨he, hw⟩
 rw [he, hw]
 clear he hw w' HC
 go_wp2_with fail
 refine HD.out.mono ?_
 rintro e w2 ⟨he, h2⟩
 rw [he]
 have HS2 := hid (HS0.out.trans h2)
 obtain ⟨q0, q1⟩ := (HX0.out.still h2).cells
 obtain ⟨_, _, y2, y3, _⟩ := (HP0.out.still h2).y.cell
 rw [HN.out.1] at y3
 rw [HN.out.2] at y2
 have t1 : (b == b) = true := beq_self_eq_true _
 have t2 : ((n : Int) == (n : Int)) = true := beq_self_eq_true _
 clear he h2 HD HP0 p0 p1
 go_wp2_with fail
 go_ret
 exact ⟨by simp, P, Ef9.same HPw.out HS2.out⟩
theorem does9_any (o : Ok9) (P : Pd9) (B : Nat) (hbd : Bd9 o) (hfr : BdF o) (w : World) (hB : B <= w.heap.size) (hp : Pr9 B w P) : Calls Try.prog 9 #[.pointer (some ⟨P.r, 0, none⟩), .agg (ok9 o)] w fun e w' => e = .returned (.bool true) /\ ∃ P', Ef9 B w w' P P' := by
 have h9 := pk_in o.k 9 (by omega)
 have hc : pk o.k 9 = 0 \/ pk o.k 9 = 1 \/ pk o.k 9 = 2 \/ pk o.k 9 = 3 \/ pk o.k 9 = 4 \/ pk o.k 9 = 5 \/ pk o.k 9 = 6 \/ pk o.k 9 = 7 \/ pk o.k 9 = 8 := by omega
 rcases hc with h | h | h | h | h | h | h | h | h
 ·exact does9_0 o P B h hbd hfr w hB hp
 ·exact does9_1 o P B h hbd hfr w hB hp
 ·exact does9_2 o P B h hbd hfr w hB hp
 ·exact does9_3 o P B h hbd hfr w hB hp
 ·exact does9_4 o P B h hbd hfr w hB hp
 ·exact does9_5 o P B h hbd hfr w hB hp
 ·exact does9_6 o P B h hbd hfr w hB hp
 ·exact does9_7 o P B h hbd hfr w hB hp
 ·exact does9_8 o P B h hbd hfr w hB hp
end Go.Proofs.Ytdmgalaajgebkaa
namespace Go.Proofs.Ytdmgalaajgebkaa
open Go.RowKit
set_option maxRecDepth 100000
theorem app_blockZ {P : Program} {α : Type} {K : Kd α} {e : TypeId} {w : World} {B : Nat} {v : Value} {L : List α} (ho : OwG K e w B v L) {t ty : TypeId} (hu : P.underlying t = some (.slice e)) (bytes : Nat) (z : Value) (hinfo : ∃ i, P.info? e = some i /\ i.zero = some z /\ i.size = K.k /\ i.bytes = bytes) (p : α) {g : Nat} (hr : w.heap[g]? = some (.cells (K.f p).toArray e (0, 0))) (h47 : (L.length + 1) * bytes <= 140737488355328) (h63 : L.length <= 281474976710656) {v' : Value} {w' : World}
  (hrun : (Builtin.append_ #[t, t] ty #[v, .slice (some ⟨g, 0, none⟩) 1 1]).run P w = .ok v' w') : ∀ k, v'.ownBlock = some k -> v.ownBlock = some k \/ w.heap.size <= k := by
 obtain ⟨i, hi, hz, h1, h2⟩ := hinfo
 subst h2
 have hl : (K.f p).length = 1 * i.size := by rw [K.len, h1, Nat.one_mul]
 have hnews : ∀ j u, (K.f p)[j]? = some u -> w.cell? ((⟨g, 0, none⟩ : Addr).add j) = some u := by
  intro j u hj
  rw [add_plain, Nat.zero_add, cell_of_row _ _ _ _ _ _ hr]
  simpa using hj
 rcases ho.2 with ⟨rfl, hn⟩ | ⟨g', cap, cur, rfl, hbg, hg, hnc, hcm, hcs, htake⟩
 ·have := run_append_nil (P := P) w t ty e i _ hu hi hz ⟨g, 0, none⟩ 1 1 (K.f p) hl hnews (by omega) (by omega) (by rw [hn] at h47; simp only [Nat.zero_add] at h47; omega)
  rw [this] at hrun
  injection hrun with hv _
  intro k hk
  rw [<- hv] at hk
  simp [Value.ownBlock] at hk
  right; omega
 ·by_cases hroom : L.length + 1 <= cap
  ·have := run_append_room (P := P) w t ty e i hu hi g' L.length cap cur hg ⟨g, 0, none⟩ 1 1 (K.f p) hl hnews (K.one p) hroom (by rw [hl, hcs, <- h1, <- Nat.add_mul]; exact Nat.mul_le_mul_right _ hroom)
   rw [this] at hrun
   injection hrun with hv _
   intro k hk
   rw [<- hv] at hk
   left
   simpa [Value.ownBlock] using hk
  ·have holds := World.ownsRow.cells ho (g := g') rfl
   have := run_append_grow (P := P) w t ty e i _ hu hi hz ⟨g', 0, none⟩ L.length cap (K.row L) (by rw [K.row_len, h1]) holds ⟨g, 0, none⟩ 1 1 (K.f p) hl hnews (by omega) (by omega) (growslice_fits (by omega) h47)
   rw [this] at hrun
   injection hrun with hv _
   intro k hk
   rw [<- hv] at hk
   simp [Value.ownBlock] at hk
   right; omega
theorem wpList_appZ {P : Program} {α : Type} {e : TypeId} (K : Kd α) (w : World) {ops : Array Oper} {rest : List Oper} {o : Oper} {a : Act} {Q : Exit -> Act -> World -> Prop} (hgd : o.guard = none) (s x : Operand) (t : TypeId)
  (hop : o.op = .call { callee := .builtin .append, args := #[s, x], argTypes := #[t, t] })
  (hu : P.underlying t = some (.slice e)) (bytes : Nat) (z : Value) (hzc : z.cells.size = K.k) (hinfo : ∃ i, P.info? e = some i /\ i.zero = some z /\ i.size = K.k /\ i.bytes = bytes)
  (B g : Nat) (v : Value) (L : List α) (p : α) (hs : a.eval s = v) (hx : a.eval x = .slice (some ⟨g, 0, none⟩) 1 1) (ho : OwG K e w B v L) (hr : w.heap[g]? = some (.cells (K.f p).toArray e (0, 0))) (h47 : (L.length + 1) * bytes <= 140737488355328) (h63 : L.length <= 281474976710656) (hB : B <= w.heap.size)
  (h : ∀ v' w', OwG K e w' B v' (L ++ [p]) -> Fr (fun k => v.ownBlock = some k) w w' -> (∀ k, v'.ownBlock = some k -> v.ownBlock = some k \/ w.heap.size <= k) -> wpList P ops Q rest (a.put o.dst v') w') : wpList P ops Q (o :: rest) a w := by
 obtain ⟨i, hi, hz, h1, h2⟩ := hinfo
 have hnews : ∀ j u, (K.f p)[j]? = some u -> w.cell? ((⟨g, 0, none⟩ : Addr).add j) = some u := by
  intro j u hj
  rw [add_plain, Nat.zero_add, cell_of_row _ _ _ _ _ _ hr]
  simpa using hj
 obtain ⟨v', w', hrun, h2', h3, _⟩ := run_append_own (P := P) w B t o.type e i z K.k bytes hu hi hz h1 h2 hzc K.pos v L.length (K.row L) ho ⟨g, 0, none⟩ 1 1 (K.f p) (by rw [K.len, Nat.one_mul]) hnews (K.one p) (by unfold maxLen; omega) h47 hB
 refine wpList_plain hgd fun Kc hK => ?_
 unfold Oper.wp execOp
 simp only [hop, resolve, invoke, builtin, Sem.run_bind, Sem.run_pure, Result.andThen_ok, List.map_toArray, List.map_cons, List.map_nil, hs, hx, hrun]
 refine hK _ _ (h v' w' ?_ ⟨h3.os, h3.tape, h3.output, h3.size, fun k hk hn => h3.block k hk (fun e => hn e.symm)⟩ (app_blockZ ho hu bytes z ⟨i, hi, hz, h1, h2⟩ p hr h47 h63 hrun))
 unfold OwG
 rw [K.row_app, List.length_append, show K.row [p] = K.f p by simp [Kd.row]]
 exact h2'
abbrev ppT : TypeId := 23
def KP9 : Kd Nat := ⟨fun r => [.pointer (some ⟨r, 0, none⟩)], 1, 0, fun _ => rfl, fun m u hu => by
 simp at hu
 subst hu
 rfl, by decide⟩
theorem infoP9 : ∃ i, Try.prog.info? ppT = some i /\ i.zero = some (.pointer none) /\ i.size = KP9.k /\ i.bytes = 8 := ⟨_, rfl, rfl, rfl, rfl⟩
def zPd9 : Pd9 := ⟨0, 0, zV, 0, none, 0, ⟨0, 0, 0, []⟩⟩
def pg9 (Ps : List Pd9) (i : Nat) : Pd9 := Ps.getD i zPd9
theorem pg9_set (Ps : List Pd9) (i j : Nat) (P : Pd9) (hi : i < Ps.length) : pg9 (Ps.set i P) j = if j = i then P else pg9 Ps j := by
 unfold pg9
 rw [List.getD_eq_getElem?_getD, List.getElem?_set]
 by_cases h : i = j
 ·subst h; simp [hi]
 ·rw [if_neg h, if_neg (fun e => h e.symm), List.getD_eq_getElem?_getD]
theorem pg9_app (Ps : List Pd9) (P : Pd9) (j : Nat) : pg9 (Ps ++ [P]) j = if j < Ps.length then pg9 Ps j else if j = Ps.length then P else zPd9 := by
 unfold pg9
 rw [List.getD_eq_getElem?_getD, List.getElem?_append]
 by_cases h : j < Ps.length
 ·rw [if_pos h, if_pos h, List.getD_eq_getElem?_getD]
 ·rw [if_neg h, if_neg h]
  by_cases h2 : j = Ps.length
  ·rw [if_pos h2, h2]; simp
  ·rw [if_neg h2, List.getElem?_eq_none (by simp; omega)]; rfl
theorem map_r_set (Ps : List Pd9) (i : Nat) (P : Pd9) (hi : i < Ps.length) (hr : P.r = (pg9 Ps i).r) : (Ps.set i P).map Pd9.r = Ps.map Pd9.r := by
 rw [List.map_set]
 have e2 : P.r = (Ps.map Pd9.r)[i]'(by simpa using hi) := by
  have : pg9 Ps i = Ps[i] := by unfold pg9; rw [List.getD_eq_getElem?_getD, List.getElem?_eq_getElem hi]; rfl
  rw [List.getElem_map, <- this, hr]
 rw [e2, List.set_getElem_self]
def Sp9 (x y : Pd9) : Prop := ∀ k, (Wt9 x k -> ¬ Wt9 y k /\ ¬ Rb9 y k /\ k ≠ y.r) /\ (Wt9 y k -> ¬ Rb9 x k /\ k ≠ x.r)
structure St9 (w wr : World) (Ps : List Pd9) (lv : Value) : Prop where
 ok : ∀ i, i < Ps.length -> Pr9 w.heap.size wr (pg9 Ps i)
 sp : ∀ i j, i < Ps.length -> j < Ps.length -> i ≠ j -> Sp9 (pg9 Ps i) (pg9 Ps j)
 l : OwG KP9 ppT wr w.heap.size lv (Ps.map Pd9.r)
 lr : ∀ i, i < Ps.length -> ∀ k, Rb9 (pg9 Ps i) k -> lv.ownBlock ≠ some k
 s : Still w wr
theorem Pr9.lne {B B2 : Nat} {w : World} {P : Pd9} {u : Value} {L : List Nat} (h : Pr9 B w P) (ho : OwG KP9 ppT w B2 u L) : ∀ k, Wt9 P k -> u.ownBlock ≠ some k := by
 rintro k hk e
 obtain ⟨cur, hc⟩ := ow_ty19 ho e
 rcases hk with rfl | hk | rfl
 ·exact ty_ne9 hc h.l.bk (by decide) rfl
 ·obtain ⟨cur2, hc2⟩ := h.l.rwt hk
  exact ty_ne9 hc hc2 (by decide) rfl
 ·exact ty_ne9 hc h.y.bk (by decide) rfl
theorem Pr9.lnr {B B2 : Nat} {w : World} {P : Pd9} {u : Value} {L : List Nat} (h : Pr9 B w P) (ho : OwG KP9 ppT w B2 u L) : u.ownBlock ≠ some P.r := fun e => by
 obtain ⟨cur, hc⟩ := ow_ty19 ho e
 exact ty_ne9 hc h.b (by decide) rfl
theorem St9.still {w wr w' : World} {Ps : List Pd9} {lv : Value} (h : St9 w wr Ps lv) (hs : Still wr w') : St9 w w' Ps lv := ⟨fun i hi => (h.ok i hi).still hs, h.sp, h.l.still hs, h.lr, h.s.trans hs⟩
theorem Sp9.symm {x y : Pd9} (h : Sp9 x y) : Sp9 y x := fun k => ⟨fun hk => ⟨fun e => ((h k).1 e).1 hk, ((h k).2 hk).1, ((h k).2 hk).2⟩, fun hk => ⟨((h k).1 hk).2.1, ((h k).1 hk).2.2⟩⟩
theorem St9.step {w wr w' : World} {Ps : List Pd9} {lv : Value} (h : St9 w wr Ps lv) {i : Nat} (hi : i < Ps.length) {P' : Pd9} (he : Ef9 w.heap.size wr w' (pg9 Ps i) P') : St9 w w' (Ps.set i P') lv := by
 have fresh : ∀ j, j < Ps.length -> ∀ k, wr.heap.size <= k -> ¬ Wt9 (pg9 Ps j) k /\ ¬ Rb9 (pg9 Ps j) k /\ k ≠ (pg9 Ps j).r := fun j hj k hk => ⟨fun e => by have := ((h.ok j hj).wlt k e).2; omega, fun e => by have := (h.ok j hj).rlt k e; omega, fun e => by have := block_lt (h.ok j hj).b; omega⟩
 have one : ∀ j, j < Ps.length -> j ≠ i -> Sp9 P' (pg9 Ps j) := fun j hj hne k => by
  have hs := h.sp i j hi hj (fun e => hne e.symm)
  refine ⟨fun hk => ?_, fun hk => ⟨fun e => ?_, ?_⟩⟩
  ·rcases he.wt k hk with h1 | h1
   ·exact (hs k).1 h1
   ·exact fresh j hj k h1
  ·rcases he.rb k e with h1 | h1
   ·exact ((hs k).2 hk).1 h1
   ·exact (fresh j hj k h1).1 hk
  ·rw [he.er]
   exact ((hs k).2 hk).2
 refine ⟨fun j hj => ?_, fun a b ha hb hab => ?_, ?_, fun j hj k hk e => ?_, ?_⟩
 ·rw [List.length_set] at hj
  rw [pg9_set Ps i j P' hi]
  by_cases e : j = i
  ·rw [if_pos e]; exact he.ok
  ·rw [if_neg e]
   exact (h.ok j hj).keep he.fr (fun k hk => ((h.sp i j hi hj (fun e' => e e'.symm)) k).1 hk)
 ·rw [List.length_set] at ha hb
  rw [pg9_set Ps i a P' hi, pg9_set Ps i b P' hi]
  by_cases e1 : a = i
  ·rw [if_pos e1, if_neg (fun e => hab (e1.trans e.symm))]
   exact one b hb (fun e => hab (e1.trans e.symm))
  ·rw [if_neg e1]
   by_cases e2 : b = i
   ·rw [if_pos e2]
    exact (one a ha e1).symm
   ·rw [if_neg e2]
    exact h.sp a b ha hb hab
 ·have hl := h.l.keep he.fr (fun k hk => (h.ok i hi).lne h.l k hk)
  rw [map_r_set Ps i P' hi he.er]
  exact hl
 ·rw [List.length_set] at hj
  rw [pg9_set Ps i j P' hi] at hk
  by_cases e1 : j = i
  ·rw [if_pos e1] at hk
   rcases he.rb k hk with h1 | h1
   ·exact h.lr i hi k h1 e
   ·have := (h.l.block e).2; omega
  ·rw [if_neg e1] at hk
   exact h.lr j hj k hk e
 ·exact Fr.trans h.s he.fr (fun k hk e => by have := ((h.ok i hi).wlt k e).1; omega)
theorem St9.more {w wr w1 w2 : World} {Ps : List Pd9} {lv lv' : Value} {P : Pd9} (h : St9 w wr Ps lv) (hs : Still wr w1) (hP : Pr9 w.heap.size w1 P) (hw : ∀ k, Wt9 P k -> wr.heap.size <= k) (hr : ∀ k, ¬ Rb9 P k) (hq : wr.heap.size <= P.r) (ho : OwG KP9 ppT w2 w.heap.size lv' (Ps.map Pd9.r ++ [P.r])) (hf : Fr (fun k => lv.ownBlock = some k) w1 w2) (hb : ∀ k, lv'.ownBlock = some k -> lv.ownBlock = some k \/ w1.heap.size <= k) : St9 w w2 (Ps ++ [P]) lv' := by
 have h1 := h.still hs
 have hlb : ∀ k, lv.ownBlock = some k -> k < wr.heap.size := fun k hk => (h.l.block hk).2
 have okP : Pr9 w.heap.size w2 P := hP.keep hf (fun k hk => ⟨fun e => by have := hw k e; have := hlb k hk; omega, hr k, fun e => by have := hlb k hk; omega⟩)
 have okO : ∀ i, i < Ps.length -> Pr9 w.heap.size w2 (pg9 Ps i) := fun i hi => (h1.ok i hi).keep hf (fun k hk => ⟨fun e => (h1.ok i hi).lne h1.l k e hk, fun e => h.lr i hi k e hk, fun e => (h1.ok i hi).lnr h1.l (by rw [<- e]; exact hk)⟩)
 have one : ∀ j, j < Ps.length -> Sp9 P (pg9 Ps j) := fun j hj k => by
  refine ⟨fun hk => ⟨fun e => ?_, fun e => ?_, fun e => ?_⟩, fun hk => ⟨hr k, fun e => ?_⟩⟩
  ·have := hw k hk; have := ((h.ok j hj).wlt k e).2; omega
  ·have := hw k hk; have := (h.ok j hj).rlt k e; omega
  ·have := hw k hk; have := block_lt (h.ok j hj).b; omega
  ·have := ((h.ok j hj).wlt k hk).2; omega
 refine ⟨fun i hi => ?_, fun a b ha hb' hab => ?_, by rw [List.map_append]; exact ho, fun j hj k hk e => ?_, ?_⟩
 ·rw [List.length_append] at hi
  rw [pg9_app]
  by_cases e : i < Ps.length
  ·rw [if_pos e]; exact okO i e
  ·rw [if_neg e, if_pos (by simp at hi; omega)]; exact okP
 ·rw [List.length_append] at ha hb'
  simp at ha hb'
  rw [pg9_app, pg9_app]
  by_cases e1 : a < Ps.length
  ·rw [if_pos e1]
   by_cases e2 : b < Ps.length
   ·rw [if_pos e2]; exact h.sp a b e1 e2 hab
   ·rw [if_neg e2, if_pos (by omega)]; exact (one a e1).symm
  ·rw [if_neg e1, if_pos (by omega)]
   rw [if_pos (show b < Ps.length by omega)]
   exact one b (by omega)
 ·rw [List.length_append] at hj
  simp at hj
  rw [pg9_app] at hk
  by_cases e1 : j < Ps.length
  ·rw [if_pos e1] at hk
   rcases hb k e with h2 | h2
   ·exact h.lr j e1 k hk h2
   ·have := (h.ok j e1).rlt k hk; have := hs.size; omega
  ·rw [if_neg e1, if_pos (by omega)] at hk
   exact hr k hk
 ·exact Fr.trans (h.s.trans hs) hf (fun k hk e => by have := (h.l.block e).1; omega)
theorem St9.cell {w wr : World} {Ps : List Pd9} {g n cap : Nat} (h : St9 w wr Ps (.slice (some ⟨g, 0, none⟩) n cap)) {i : Nat} (hi : i < Ps.length) : wr.cell? ⟨g, i, none⟩ = some (.pointer (some ⟨(pg9 Ps i).r, 0, none⟩)) := by
 have := h.l.get (i := i) (by simpa using hi) 0 _ rfl
 have e : (Ps.map Pd9.r).getD i KP9.d = (pg9 Ps i).r := by
  unfold pg9
  rw [List.getD_eq_getElem?_getD, List.getElem?_map, List.getD_eq_getElem?_getD, List.getElem?_eq_getElem hi]
  rfl
 rw [e] at this
 simpa [KP9] using this
set_option maxHeartbeats 4000000 in
theorem lmade9_yes {a b : Int} (h : 2 <= a /\ a <= 6 /\ 2 <= b /\ b <= 5) (w : World) : Calls Try.prog 7 #[.int .i64 a, .int .i64 b] w fun e w' => ∃ P : Pd9, e = .returned (.tuple #[.pointer (some ⟨P.r, 0, none⟩), .bool true]) /\ Pr9 w.heap.size w' P /\ (∀ k, ¬ Rb9 P k) /\ Still w w' := by
 have HN := hid (fun w => cm_new_yes h w)
 have HM := hid (fun w => rn19_yes h w)
 clear h
 go_enter Try.func7, Try.ntmps7
 go_wp2_with fail
 refine (HN.out _).mono ?_
 rintro e w1 ⟨he, hl1, hs1⟩
 rw [he]
 have HL1 := hid hl1
 have HS1 := hid hs1
 obtain ⟨p, ep⟩ : ∃ p, w.heap.size = p := ⟨_, rfl⟩
 rw [ep] at HL1 ⊢
 have HEp := hid ep
 clear he hl1 hs1 HN ep
 go_wp2_with fail
 refine (HM.out _).mono ?_
 rintro e w2 ⟨he, hy2, hs2⟩
 rw [he]
 have HZ := hid HS1.out.size
 have HL2 := hid (HL1.out.still hs2)
 have HY2 := hid hy2
 have HS2 := hid (HS1.out.trans hs2)
 obtain ⟨yb, ey⟩ : ∃ p, w1.heap.size = p := ⟨_, rfl⟩
 rw [ey] at HY2 HZ ⊢
 have A3 := Still.alloc w2 (.cells #[.pointer (some ⟨p, 0, none⟩), .pointer (some ⟨yb, 0, none⟩)] prT)
 have HF : Hid (Pr9 w.heap.size (w2.alloc (.cells #[.pointer (some ⟨p, 0, none⟩), .pointer (some ⟨yb, 0, none⟩)] prT)) ⟨w2.heap.size, p, zV, yb, none, 0, ⟨a, b, 0, []⟩⟩ /\ (∀ k, ¬ Rb9 ⟨w2.heap.size, p, zV, yb, none, 0, ⟨a, b, 0, []⟩⟩ k) /\ Still w (w2.alloc (.cells #[.pointer (some ⟨p, 0, none⟩), .pointer (some ⟨yb, 0, none⟩)] prT))) := hid ⟨⟨(HL2.out.less (Nat.le_of_eq HEp.out)).still A3, HY2.out.still A3, heap_alloc_new w2 _, HZ.out, HS2.out.size, fun k ⟨x, hx, _⟩ => by cases hx⟩, fun k ⟨x, hx, _⟩ => (by cases hx), HS2.out.trans A3⟩
 clear he hy2 hs2 HM ey A3
 go_wp2_with fail
 go_ret2
 exact ⟨⟨w2.heap.size, p, zV, yb, none, 0, ⟨a, b, 0, []⟩⟩, rfl, HF.out⟩
theorem lmade9_no {a b : Int} (h : ¬ (2 <= a /\ a <= 6 /\ 2 <= b /\ b <= 5)) (w : World) : Calls Try.prog 7 #[.int .i64 a, .int .i64 b] w fun e w' => e = .returned (.tuple #[.pointer none, .bool true]) /\ w' = w := by
 have HN : Hid (∀ w, Calls Try.prog 21 #[.int .i64 a, .int .i64 b] w fun e w' => e = .returned (.tuple #[.pointer none, .int .i64 1]) /\ w' = w) := hid (fun w => (cm_new a b w).mono (by
  rintro e w' (⟨ht, _⟩ | ⟨_, he, hw⟩)
  ·exact absurd (of_decide_eq_true ht) h
  ·exact ⟨he, hw⟩))
 have HM := hid (fun w => rn19_no h w)
 clear h
 go_enter Try.func7, Try.ntmps7
 go_wp2_with fail
 refine (HN.out _).mono ?_
 rintro e w' ⟨he, hw⟩
 rw [he, hw]
 clear he hw w' HN
 go_wp2_with fail
 refine (HM.out _).mono ?_
 rintro e w' ⟨he, hw⟩
 rw [he, hw]
 clear he hw w' HM
 go_wp2_with fail
 go_ret2
 exact ⟨rfl, rfl⟩
end Go.Proofs.Ytdmgalaajgebkaa
namespace Go.Proofs.Ytdmgalaajgebkaa
open Go.RowKit
set_option maxRecDepth 100000
theorem KP9.one (w : World) (B r : Nat) (hb : B <= w.heap.size) : OwG KP9 ppT (w.alloc (.cells #[.pointer (some ⟨r, 0, none⟩)] ppT)) B (.slice (some ⟨w.heap.size, 0, none⟩) 1 1) [r] := by
 have := World.ownsRow_lit (base := B) (e := ppT) (size := KP9.k) w #[.pointer (some ⟨r, 0, none⟩)] 1 hb (by unfold maxLen; omega) (by simp [KP9])
 exact this
set_option maxHeartbeats 8000000 in
theorem does19_law (so : Option Addr) (n c : Nat) (L : List Ok9) (hb : 80 * n <= 140737488351232) (hp : ∀ i, i < n -> Bd9 (L.getD i KO9.d) /\ BdF (L.getD i KO9.d)) (w : World) (hr : RdG KO9 w so n L) : Calls Try.prog 3 #[.slice so n c] w fun e w' => e = .returned (.bool true) /\ Still w w' := by
 have HR := hid hr
 have HP := hid hp
 have HM := hid (fun w => lmade9_yes (a := 3) (b := 3) (by omega) w)
 have hnn : n <= 1759218604390 := by omega
 clear hr hp hb
 go_enter Try.func3, Try.ntmps3
 go_wp2_with fail
 refine (HM.out _).mono ?_
 rintro e w1 ⟨P, he, hP, hRb, hs1⟩
 rw [he]
 have A2 := Still.alloc w1 (.cells #[.pointer (some ⟨P.r, 0, none⟩)] ppT)
 have HT0 : Hid (St9 w (w1.alloc (.cells #[.pointer (some ⟨P.r, 0, none⟩)] ppT)) [P] (.slice (some ⟨w1.heap.size, 0, none⟩) 1 1)) := hid (by
  refine ⟨fun i hi => ?_, fun i j hi hj hij => ?_, KP9.one w1 w.heap.size P.r hs1.size, fun i hi k hk => ?_, hs1.trans A2⟩
  ·obtain rfl : i = 0 := by simp at hi; omega
   exact hP.still A2
  ·simp at hi hj; omega
  ·obtain rfl : i = 0 := by simp at hi; omega
   exact absurd hk (hRb k))
 have HT1 : Hid (∃ Ps, St9 w (w1.alloc (.cells #[.pointer (some ⟨P.r, 0, none⟩)] ppT)) Ps (.slice (some ⟨w1.heap.size, 0, none⟩) 1 1) /\ Ps.length = 1) := hid ⟨_, HT0.out, rfl⟩
 clear he hP hRb hs1 HM A2 HT0
 go_wp2_with fail
 go_loopw [6, 5] (fun u v wr => ∃ i : Nat, i <= n /\ u = .int .i64 (i : Int) /\ ∃ gl m cl, v = .slice (some ⟨gl, 0, none⟩) m cl /\ 1 <= m /\ m <= i + 1 /\ Hid (∃ Ps, St9 w wr Ps (.slice (some ⟨gl, 0, none⟩) m cl) /\ Ps.length = m)) (fun u _ _ => n - (intOf u).toNat)
 case atStart => exact ⟨0, by omega, rfl, _, _, _, rfl, by omega, by omega, HT1⟩
 case round =>
  obtain ⟨i, hi, rfl, gl, m, cl, rfl, hm1, hm2, HT⟩ := hrel
  clear HT1
  by_cases hin : i < n
  ·have hlt : (i : Int) < (n : Int) := by omega
   obtain ⟨Ps, hSt, hPl⟩ := HT.out
   obtain ⟨G, o, rfl⟩ := HR.out.at (by omega)
   have HBd := hid (HP.out i hin)
   obtain ⟨q, eq⟩ : ∃ q, L.getD i KO9.d = q := ⟨_, rfl⟩
   obtain ⟨c0, c1, c2, c3, c4, c5, c6, c7, c8, c9⟩ := rdO9 (HR.out.still hSt.s) hin eq
   rw [eq] at HBd
   have A3 := Still.alloc wr (.cells (ok9 q) opT)
   have HSt := hid (hSt.still A3)
   have HOb : Hid (Ob9 (wr.alloc (.cells (ok9 q) opT)) wr.heap.size q) := hid (heap_alloc_new wr _)
   obtain ⟨W, eW⟩ : ∃ W, wr.alloc (.cells (ok9 q) opT) = W := ⟨_, rfl⟩
   obtain ⟨g, eg⟩ : ∃ g, wr.heap.size = g := ⟨_, rfl⟩
   rw [eW] at HSt HOb
   rw [eg] at HOb
   obtain ⟨d0, d1, d2, d3, d4, d5, d6, d7, d8, d9⟩ := HOb.out.cells
   have HPk := hid (fun w => pick_any q.k 9 HBd.out.1.1 (by omega) (by omega) w)
   have HPn := hid (fun w => pick_any q.n (m : Int) HBd.out.1.2 (by omega) (by omega) w)
   have HPl := hid hPl
   obtain ⟨z, ez⟩ : ∃ z, pk q.k 9 = z := ⟨_, rfl⟩
   rw [ez] at HPk
   simp only [ok9] at eW
   clear hSt A3 eq hPl ez HT
   by_cases h8 : z = 8
   ·have t8 : (z == 8) = true := beq_iff_eq.2 h8
    clear h8 HPn
    go_wp2_with fail
    clear eW eg
    refine (HPk.out _).mono ?_
    rintro e w' ⟨he, hw⟩
    rw [he, hw]
    clear he hw w' HPk c0 c1 c2 c3 c4 c5 c6 c7 c8 c9
    by_cases hmay : 2 <= q.x.pe /\ q.x.pe <= 6 /\ 2 <= q.x.ms /\ q.x.ms <= 5
    ·have HM := hid (lmade9_yes hmay W)
     clear hmay
     go_wp2_with fail
     refine HM.out.mono ?_
     rintro e w3 ⟨P3, he, hP3, hRb3, hs3⟩
     rw [he]
     have A4 := Still.alloc w3 (.cells #[.pointer (some ⟨P3.r, 0, none⟩)] ppT)
     have HSt4 := hid ((HSt.out.still hs3).still A4)
     have HX4 : Hid ((w3.alloc (.cells #[.pointer (some ⟨P3.r, 0, none⟩)] ppT)).heap[w3.heap.size]? = some (.cells (KP9.f P3.r).toArray ppT (0, 0))) := hid (heap_alloc_new w3 _)
     have HS4 := hid (hs3.trans A4)
     have hlew : w.heap.size <= W.heap.size := HSt.out.s.size
     have HP4 : Hid (Pr9 w.heap.size (w3.alloc (.cells #[.pointer (some ⟨P3.r, 0, none⟩)] ppT)) P3 /\ (∀ k, Wt9 P3 k -> W.heap.size <= k) /\ (∀ k, ¬ Rb9 P3 k) /\ W.heap.size <= P3.r) := hid (by
      have h5 := hP3.still A4
      exact ⟨⟨h5.l.less hlew, h5.y, h5.b, Nat.le_trans hlew h5.yl, Nat.le_trans hlew h5.rl, h5.sp⟩, fun k hk => (h5.wlt k hk).1, hRb3, h5.rl⟩)
     have HB4 : Hid (w.heap.size <= (w3.alloc (.cells #[.pointer (some ⟨P3.r, 0, none⟩)] ppT)).heap.size) := hid (Nat.le_trans hlew HS4.out.size)
     have HL4 : Hid (((Ps.map Pd9.r).length + 1) * 8 <= 140737488355328 /\ (Ps.map Pd9.r).length <= 281474976710656) := hid (by rw [List.length_map, HPl.out]; omega)
     clear he hP3 hRb3 hs3 A4 HM d0 d1 d2 d3 d4 d5 d6 d7 d8 d9
     go_wp2_with (
      at_builtin
      refine wpList_appZ KP9 _ rfl _ _ _ rfl rfl 8 (.pointer none) rfl infoP9 w.heap.size w3.heap.size (.slice (some ⟨gl, 0, none⟩) m cl) (Ps.map Pd9.r) P3.r rfl rfl HSt4.out.l HX4.out HL4.out.1 HL4.out.2 HB4.out ?_
      intro v' w' ho' hf' hb'
      have HK5 : Hid (∃ Ps, St9 w w' Ps v' /\ Ps.length = m + 1) := hid ⟨Ps ++ [P3], HSt.out.more HS4.out HP4.out.1 HP4.out.2.1 HP4.out.2.2.1 HP4.out.2.2.2 ho' hf' hb', by rw [List.length_append, HPl.out]; rfl⟩
      obtain ⟨g5, c5, e5, _, _⟩ := ho'.head (by simp)
      subst e5
      have em5 : (Ps.map Pd9.r ++ [P3.r]).length = m + 1 := by rw [List.length_append, List.length_map, HPl.out]; rfl
      rw [em5] at HK5 ⊢
      clear ho' hf' hb' em5)
     go_roundw
     case rel => exact ⟨i + 1, by omega, by go_num, _, _, _, rfl, by omega, by omega, HK5⟩
     case measure => simp [intOf]; omega
    ·have HM := hid (lmade9_no hmay W)
     have HK5 : Hid (∃ Ps, St9 w W Ps (.slice (some ⟨gl, 0, none⟩) m cl) /\ Ps.length = m) := hid ⟨Ps, HSt.out, HPl.out⟩
     clear hmay
     go_wp2_with fail
     refine HM.out.mono ?_
     rintro e w' ⟨he, hw⟩
     rw [he, hw]
     clear he hw w' HM d0 d1 d2 d3 d4 d5 d6 d7 d8 d9
     go_wp2_with fail
     go_roundw
     case rel => exact ⟨i + 1, by omega, by go_num, _, _, _, rfl, by omega, by omega, HK5⟩
     case measure => simp [intOf]; omega
   ·have t8 : (z == 8) = false := beq_eq_false_iff_ne.2 h8
    have hpn := pk_in q.n (m : Int) (by omega)
    obtain ⟨y', ey'⟩ : ∃ y, pk q.n (m : Int) = y := ⟨_, rfl⟩
    rw [ey'] at HPn hpn
    obtain ⟨y, rfl⟩ : ∃ y : Nat, y' = (y : Int) := ⟨y'.toNat, by omega⟩
    have hym : y < m := by omega
    have hyi : (y : Int) < (m : Int) := by omega
    have hy0 : (0 : Int) <= (y : Int) := by omega
    have cp := HSt.out.cell (i := y) (by have := HPl.out; omega)
    have HPr := hid (HSt.out.ok y (by have := HPl.out; omega))
    have HDo : Hid (∀ u, Still W u -> Calls Try.prog 9 #[.pointer (some ⟨(pg9 Ps y).r, 0, none⟩), .agg (ok9 q)] u fun e w' => e = .returned (.bool true) /\ ∃ P', Ef9 w.heap.size u w' (pg9 Ps y) P') := hid (fun u hu => does9_any q (pg9 Ps y) w.heap.size HBd.out.1 HBd.out.2 u (Nat.le_trans HSt.out.s.size hu.size) (HPr.out.still hu))
    obtain ⟨rr, err⟩ : ∃ r, (pg9 Ps y).r = r := ⟨_, rfl⟩
    rw [err] at cp HDo
    have HRr := hid err
    clear h8 ey' hpn err
    go_upto_region 9 with fail
    clear eW eg
    go_wp2_with fail
    refine (HPk.out _).mono ?_
    rintro e w' ⟨he, hw⟩
    rw [he, hw]
    clear he hw w' HPk c0 c1 c2 c3 c4 c5 c6 c7 c8 c9
    go_upto_region 15 with fail
    have k0 := Cl.cell d0
    have k1 := Cl.cell d1
    have k2 := Cl.cell d2
    have k3 := Cl.cell d3
    have k4 := Cl.cell d4
    have k5 := Cl.cell d5
    have k6 := Cl.cell d6
    have k7 := Cl.cell d7
    have k8 := Cl.cell d8
    have k9 := Cl.cell d9
    have l0 := Cl.cell cp
    have hne := Aft.here W
    clear d0 d1 d2 d3 d4 d5 d6 d7 d8 d9 cp
    refine region_rest 9 (by kernel_rfl) (by kernel_rfl) ?_
    simp only [List.take_succ_cons, List.take_zero, List.drop_succ_cons, List.drop_zero]
    repeat (go_big_quiet_step ((first | (go_at_call 8; with_reducible exact Calls.cl_same (HPn.out _)) | rfl)))
    refine wpQuiet_nil ?_
    intro w3 h3
    have HD3 := hid (HDo.out w3 h3)
    have HSt3 := hid (HSt.out.still h3)
    clear h3 hne k0 k1 k2 k3 k4 k5 k6 k7 k8 k9 l0 HDo
    go_wp2_with fail
    refine HD3.out.mono ?_
    rintro e w4 ⟨he, P', hE⟩
    rw [he]
    have HK5 : Hid (∃ Ps, St9 w w4 Ps (.slice (some ⟨gl, 0, none⟩) m cl) /\ Ps.length = m) := hid ⟨_, HSt3.out.step (by have := HPl.out; omega) hE, by rw [List.length_set]; exact HPl.out⟩
    clear he hE HD3
    go_wp2_with fail
    go_roundw
    case rel => exact ⟨i + 1, by omega, by go_num, _, _, _, rfl, by omega, by omega, HK5⟩
    case measure => simp [intOf]; omega
  ·have hge : ¬ (i : Int) < (n : Int) := by omega
   have hm3 : m <= 1759218604392 := by omega
   clear hin hm2
   go_wp2_with fail
   go_loopw [11] (fun u wr => ∃ j : Nat, j <= m /\ u = .int .i64 (j : Int) /\ Hid (∃ Ps, St9 w wr Ps (.slice (some ⟨gl, 0, none⟩) m cl) /\ Ps.length = m)) (fun u _ => m - (intOf u).toNat)
   case atStart => exact ⟨0, by omega, rfl, HT⟩
   case round =>
    obtain ⟨j, hj, rfl, HJ⟩ := hrel
    by_cases hjm : j < m
    ·have hltj : (j : Int) < (m : Int) := by omega
     obtain ⟨Ps, hSt, hPl⟩ := HJ.out
     have HSt := hid hSt
     have HPl := hid hPl
     have cp := hSt.cell (i := j) (by omega)
     have HD1 := hid (does9_any ⟨7, 0, zE⟩ (pg9 Ps j) w.heap.size ⟨by decide, by decide⟩ (by unfold BdF; decide) wr hSt.s.size (hSt.ok j (by omega)))
     obtain ⟨rr, err⟩ : ∃ r, (pg9 Ps j).r = r := ⟨_, rfl⟩
     rw [err] at cp HD1
     have HRr := hid err
     simp only [ok9, zE] at HD1
     clear hSt hPl err HJ
     go_wp2_with fail
     refine HD1.out.mono ?_
     rintro e w4 ⟨he, P', hE⟩
     rw [he]
     have hSt4 := HSt.out.step (i := j) (by have := HPl.out; omega) hE
     have hl4 : (Ps.set j P').length = m := by rw [List.length_set]; exact HPl.out
     have HSt4 := hid hSt4
     have HPl4 := hid hl4
     have cp4 := hSt4.cell (i := j) (by omega)
     have HD2 := hid (does9_any ⟨6, 0, zE⟩ (pg9 (Ps.set j P') j) w.heap.size ⟨by decide, by decide⟩ (by unfold BdF; decide) w4 hSt4.s.size (hSt4.ok j (by omega)))
     obtain ⟨r4, er4⟩ : ∃ r, (pg9 (Ps.set j P') j).r = r := ⟨_, rfl⟩
     rw [er4] at cp4 HD2
     simp only [ok9, zE] at HD2
     clear he hE HD1 cp hSt4 hl4 er4
     go_wp2_with fail
     refine HD2.out.mono ?_
     rintro e w5 ⟨he, P5, hE⟩
     rw [he]
     have HK5 : Hid (∃ Ps, St9 w w5 Ps (.slice (some ⟨gl, 0, none⟩) m cl) /\ Ps.length = m) := hid ⟨_, HSt4.out.step (by have := HPl4.out; omega) hE, by rw [List.length_set]; exact HPl4.out⟩
     clear he hE HD2 cp4
     go_wp2_with fail
     go_roundw
     case rel => exact ⟨j + 1, by omega, by go_num, HK5⟩
     case measure => simp [intOf]; omega
    ·have hgej : ¬ (j : Int) < (m : Int) := by omega
     obtain ⟨Ps, hSt, hPl⟩ := HJ.out
     have HF := hid hSt.s
     clear hSt hPl HJ
     go_wp2_with fail
     go_ret
     exact ⟨rfl, HF.out⟩
end Go.Proofs.Ytdmgalaajgebkaa
