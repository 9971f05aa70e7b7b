/- The program's Bodies. -/
import Derived.Test.YtpohikhiekmfgaaYgd
namespace Go.Proofs.Ytpohikhiekmfgaa
open Go Go.RowKit
open Pu Gp Ap Vp Np Za Ka Ja Ygp
set_option maxRecDepth 100000
attribute [local go_sem] Oper.semAt_some

theorem kpp_b {n₀ B : Nat} (hB : n₀ ≤ B) (W : World) (l : Nat) (o o' : Obj) (hl : B ≤ l) (h : W.heap[l]? = some o) (hc : o.isCells = false) : Kpp n₀ W (W.putObj l o') := by
  have hg := grownBy_putObj' W l o'
  refine ⟨⟨hg.os, hg.tape, hg.output, hg.size, fun k hk => hg.block k (by have := (Array.getElem?_eq_some_iff.1 h).1; omega) (fun e => by cases e; omega)⟩, fun b cs t m hb _ _ => ?_⟩
  refine (hg.block b (Array.getElem?_eq_some_iff.1 hb).1 (fun e => ?_)).trans hb
  cases e
  rw [h] at hb
  cases hb
  cases hc
theorem Still.kpp {n₀ : Nat} {w w' : World} (h : Still w w') (hn : n₀ ≤ w.heap.size) : Kpp n₀ w w' := ⟨h.below.mono hn, fun _ _ _ _ hb _ _ => h.kept_still hb⟩
/-- a round that appends: what it keeps -/
theorem app_step {n₀ Bm : Nat} {U U4 U5 : World} {v v' : Value} {l l' : List (Int × Int)} (hs : Still U U4) (hn : n₀ ≤ U.heap.size) (hm : n₀ ≤ Bm) (kv : Boxed U4 Bm 25 v) (ho : OwG KT 47 U4 n₀ v l)
    (hf : Fr (fun k => v.ownBlock = some k) U4 U5) (ho5 : OwG KT 47 U5 n₀ v' l') :
    KeepsOthers U (U5.setCell ⟨Bm, 0, none⟩ v') ∧ Kpp n₀ U (U5.setCell ⟨Bm, 0, none⟩ v') ∧ Boxed (U5.setCell ⟨Bm, 0, none⟩ v') Bm 25 v' ∧ OwG KT 47 (U5.setCell ⟨Bm, 0, none⟩ v') n₀ v' l' := by
  have hne : ∀ k cs t m, U4.heap[k]? = some (.cells cs t m) → t ≠ 47 → ¬ v.ownBlock = some k := fun k cs t m hk ht e => by
    rcases ho.2 with ⟨rfl, _⟩ | ⟨g, cap, cur, rfl, _, hgb, _⟩
    · cases e
    · simp only [Value.ownBlock, Option.some.injEq] at e
      subst e
      rw [hgb] at hk
      cases hk
      exact ht rfl
  have k5 : Boxed U5 Bm 25 v := hf.kept kv (hne _ _ _ _ kv (by decide))
  have hg := grownBy_setCell' U5 Bm v'
  refine ⟨⟨Nat.le_trans hs.size (Nat.le_trans hf.size hg.size), fun k o hk hc => ?_⟩, ⟨(hs.below.mono hn).trans ?_, fun b cs t m hb h1 h2 => ?_⟩, k5.set _, ?_⟩
  · have h4 := hs.kept_still hk
    have h5 := hf.kept h4 (fun e => by
      rcases ho.2 with ⟨rfl, _⟩ | ⟨g, cap, cur, rfl, _, hgb, _⟩
      · cases e
      · simp only [Value.ownBlock, Option.some.injEq] at e
        subst e
        rw [hgb] at h4
        cases h4
        cases hc)
    refine (hg.block k (Array.getElem?_eq_some_iff.1 h5).1 (fun e => ?_)).trans h5
    cases e
    rw [show U5.heap[Bm]? = _ from k5] at h5
    cases h5
    cases hc
  · refine (Fr.below hf (fun k e => (ho.block e).1) (Nat.le_trans hn hs.size)).trans ?_
    exact (Below.refl n₀ U5).setCell (p := ⟨Bm, 0, none⟩) hm _
  · have h4 := hs.kept_still hb
    have h5 := hf.kept h4 (hne _ _ _ _ h4 h2)
    refine (hg.block b (Array.getElem?_eq_some_iff.1 h5).1 (fun e => ?_)).trans h5
    cases e
    rw [show U5.heap[Bm]? = _ from k5] at h5
    cases h5
    exact absurd rfl h1
  · exact World.ownsRow.kept ho5 hg (.inr fun e => k5.not_row (by decide) ho5 e.symm)
theorem app_box {n₀ Bm : Nat} {U4 U5 : World} {v : Value} {l : List (Int × Int)} (kv : Boxed U4 Bm 25 v) (ho : OwG KT 47 U4 n₀ v l) (hf : Fr (fun k => v.ownBlock = some k) U4 U5) : Boxed U5 Bm 25 v :=
  hf.kept kv (fun e => kv.not_row (by decide) ho e.symm)
set_option maxHeartbeats 4000000 in
theorem hbodies_ok (L : List Mv) (ao : Option Addr) (n cap : Nat) (w : World) (hr : RdG KM w ao n L) (ht : togB L = true) : CallsIn Fence.wide 0 Try.prog 10 #[.slice ao n cap] w fun e w' => ∃ v, e = .returned (.tuple #[v, .int .i64 0]) ∧ OwG KT 47 w' w.heap.size v (allB L L.length) ∧ Still w w' := by
  have HL := hid hr.1
  have HR := hid (rdN_of hr)
  have hn6 : n ≤ 6 := by have := (togB_iff.1 ht).1; have := hr.1; omega
  have A0 := Still.alloc w (.cells #[.slice ao n cap] 22)
  have H := hid (htog_any L ao n cap _ (hr.still A0))
  have HA0 := hid A0
  have b00 := Boxed.new w 22 (.slice ao n cap)
  have c00 := b00.cell
  rw [ht] at H
  clear hr ht A0
  refine callsIn_of_wp_marks Try.func10 rfl trivial ?_ rfl
  simp only [Try.ntmps10, List.size_toArray, List.length_cons, List.length_nil, Nat.reduceAdd, Nat.reduceSub, Array.replicate_succ, Array.replicate_zero, List.push_toArray, List.append_toArray, List.nil_append, List.cons_append]
  gi_wp2_with fail
  refine ⟨trivial, rfl, (callsIn_wide.2 H.out).mono ?_⟩
  rintro e w1 ⟨rfl, h1⟩
  have HS1 := hid (HA0.out.trans h1)
  have b0 := boxed_still b00 h1
  have c0 := b0.cell
  have c01 := (b0.alloc (.cells #[.slice none 0 0] 25)).cell
  clear h1 H HA0 b00 c00
  gi_wp2_with fail
  refine ⟨trivial, rfl, (callsIn_wide.2 (hpairs_any ao n cap _)).mono ?_⟩
  rintro e w' ⟨rfl, rfl⟩
  gi_wp2_with fail
  have bM := (Boxed.new w1 25 (.slice none 0 0)).alloc (.cells #[.slice ao n cap] 22)
  have bP := Boxed.new (w1.alloc (.cells #[.slice none 0 0] 25)) 22 (.slice ao n cap)
  have bL := (b0.alloc (.cells #[.slice none 0 0] 25)).alloc (.cells #[.slice ao n cap] 22)
  simp only [World.size_alloc] at bP
  have hS0 : Still w ((w1.alloc (.cells #[.slice none 0 0] 25)).alloc (.cells #[.slice ao n cap] 22)) := Fr.alloc (Fr.alloc HS1.out _) _
  have hsz : ((w1.alloc (.cells #[.slice none 0 0] 25)).alloc (.cells #[.slice ao n cap] 22)).heap.size = w1.heap.size + 2 := by simp
  have hz1 : w.heap.size ≤ w1.heap.size := HS1.out.size
  obtain ⟨V, eV⟩ : ∃ V, (w1.alloc (.cells #[.slice none 0 0] 25)).alloc (.cells #[.slice ao n cap] 22) = V := ⟨_, rfl⟩
  rw [eV] at bM bP bL hS0 hsz ⊢
  clear eV b0 c0 c01 HS1
  have hB0 : Below w.heap.size w V := hS0.below
  refine range_all rfl (enters_of Try.func47 (by kernel_rfl) rfl) (hpairs_seq L ao n cap (w1.heap.size + 1) w.heap.size V (by omega) bP (HR.out.below hB0)) kpp_t (kpp_b (by omega)) (Below.refl _ _) (fun _ => rfl)
    (fun pre U => ((∃ v, Boxed U w1.heap.size 25 v ∧ U.ownsRow w.heap.size 47 KT.k v (met L pre).length (KT.row (met L pre)) ∧ True) ∧ Boxed U w.heap.size 22 (.slice ao n cap)) ∧ Below w.heap.size w U)
    (OwnFrom.and (OwnFrom.and (Own.from (holdsRow_own w.heap.size w1.heap.size 25 47 KT.k (fun pre => (met L pre).length) (fun pre => KT.row (met L pre)) (fun _ _ => True)) _) (Own.from (boxed_own _ _ _) _)) (ownFrom_below (Nat.le_refl _) (by omega)))
    ⟨⟨⟨_, bM, OwG.nil (K := KT) (e := 47) _ _, trivial⟩, bL⟩, hB0⟩
    (fun x => { tmps := #[.slice ao n cap, .pointer (some ⟨w.heap.size, 0, none⟩), .slice none 0 0, .int .i64 0, .pointer (some ⟨w1.heap.size, 0, none⟩), .int .i64 (x.1.1 : Int), .int .i64 (x.2.1 : Int), .slice ao n cap, .bool true, .bool false, .slice ao n cap, .func (.func 47) #[] #[.pointer (some ⟨w1.heap.size + 1, 0, none⟩)], .int .i64 (x.1.1 : Int), .int .i64 (x.2.1 : Int), undef, undef, undef, undef, undef, undef, undef, undef, undef, undef, undef, undef, undef, undef, undef, undef, undef, undef], defers := [] }) ?assign ?body ?done
  case assign =>
    intro l x U K hK
    gi_wp2_with fail
    exact hK
  case body =>
    rintro l pre x U ⟨⟨⟨v, kv, ho, _⟩, k0⟩, hB⟩ hlen
    have hxn : x.1.1 < n := by have := HL.out; have := x.1.2; omega
    have hyn : x.2.1 < n := by have := HL.out; have := x.2.2; omega
    have hx1 : (x.1.1 : Int) < (n : Int) := by omega
    have hy1 : (x.2.1 : Int) < (n : Int) := by omega
    have HMet := hid (met_snoc L pre x.1 x.2)
    have HLn : Hid ((met L pre).length ≤ 100000) := hid (by
      have h1 := met_len L pre
      have h2 := ipl_len (L := L) L.length
      have h3 : (ipl L L.length).length * (ipl L L.length).length ≤ 6 * 6 := Nat.mul_le_mul (by have := HL.out; omega) (by have := HL.out; omega)
      omega)
    have HRr := hid (HR.out.below hB).here
    obtain ⟨B, o, rfl⟩ := HRr.out.at (by omega)
    obtain ⟨c0, c1, c2, c3, c4, c5, c6, c7, c8, c9, c10, c11, c12⟩ := rdM HRr.out hxn
    obtain ⟨d0, d1, d2, d3, d4, d5, d6, d7, d8, d9, d10, d11, d12⟩ := rdM HRr.out hyn
    have HB1 := hid (fun w => hbody_any (mm L x.1.1) w)
    have HB2 := hid (fun w => hbody_any (mm L x.2.1) w)
    obtain ⟨X, eX⟩ : ∃ z, mm L x.1.1 = z := ⟨_, rfl⟩
    obtain ⟨Y, eY⟩ : ∃ z, mm L x.2.1 = z := ⟨_, rfl⟩
    rw [eX] at c0 c1 c2 c3 c4 c5 c6 c7 c8 c9 c10 c11 c12 HB1 HMet
    rw [eY] at d0 d1 d2 d3 d4 d5 d6 d7 d8 d9 d10 d11 d12 HB2 HMet
    clear eX eY
    have HV := hid (fun w => overlap_any (subf X.ax 1280) (subf X.ay 1280) (addf X.ax 1280) (addf X.ay 1280) (subf Y.ax 1280) (subf Y.ay 1280) (addf Y.ax 1280) (addf Y.ay 1280) w)
    obtain ⟨b3, eb3⟩ : ∃ b, ov X Y.ax Y.ay 1280 = b := ⟨_, rfl⟩
    unfold ov at eb3
    rw [show ov X Y.ax Y.ay 1280 = b3 from eb3] at HMet
    rw [eb3] at HV
    clear eb3
    obtain ⟨x1, e1⟩ : ∃ z, subf X.ax 1280 = z := ⟨_, rfl⟩
    obtain ⟨x2, e2⟩ : ∃ z, subf X.ay 1280 = z := ⟨_, rfl⟩
    obtain ⟨x3, e3⟩ : ∃ z, addf X.ax 1280 = z := ⟨_, rfl⟩
    obtain ⟨x4, e4⟩ : ∃ z, addf X.ay 1280 = z := ⟨_, rfl⟩
    rw [e1, e2, e3, e4] at HB1 HV
    clear e1 e2 e3 e4
    obtain ⟨y1, e1⟩ : ∃ z, subf Y.ax 1280 = z := ⟨_, rfl⟩
    obtain ⟨y2, e2⟩ : ∃ z, subf Y.ay 1280 = z := ⟨_, rfl⟩
    obtain ⟨y3, e3⟩ : ∃ z, addf Y.ax 1280 = z := ⟨_, rfl⟩
    obtain ⟨y4, e4⟩ : ∃ z, addf Y.ay 1280 = z := ⟨_, rfl⟩
    rw [e1, e2, e3, e4] at HB2 HV
    clear e1 e2 e3 e4
    have g0 := Cl.cell c0
    have g1 := Cl.cell c1
    have g2 := Cl.cell c2
    have g3 := Cl.cell c3
    have g4 := Cl.cell c4
    have g5 := Cl.cell c5
    have g6 := Cl.cell c6
    have g7 := Cl.cell c7
    have g8 := Cl.cell c8
    have g9 := Cl.cell c9
    have g10 := Cl.cell c10
    have g11 := Cl.cell c11
    have g12 := Cl.cell c12
    have j0 := Cl.cell d0
    have j1 := Cl.cell d1
    have j2 := Cl.cell d2
    have j3 := Cl.cell d3
    have j4 := Cl.cell d4
    have j5 := Cl.cell d5
    have j6 := Cl.cell d6
    have j7 := Cl.cell d7
    have j8 := Cl.cell d8
    have j9 := Cl.cell d9
    have j10 := Cl.cell d10
    have j11 := Cl.cell d11
    have j12 := Cl.cell d12
    have gz := Cl.cell k0.cell
    have hne := Aft.here U
    have HU := hid hB
    have HO := hid (show OwG KT 47 U w.heap.size v (met L pre) from ho)
    have HKV := hid kv
    have HK0 := hid k0
    clear c0 c1 c2 c3 c4 c5 c6 c7 c8 c9 c10 c11 c12 d0 d1 d2 d3 d4 d5 d6 d7 d8 d9 d10 d11 d12 HRr hB ho kv k0
    gi_wp2_with fail
    refine round_all (fun ⟨_, _, h⟩ => (by cases h.1)) (by kernel_rfl) (by kernel_rfl) (by kernel_rfl) ?_
    repeat (go_big_quiet_step ((first | (go_at_call 27; with_reducible exact Calls.cl (HB1.out _)) | (go_at_call 27; with_reducible exact Calls.cl (HB2.out _)) | (go_at_call 26; with_reducible exact Calls.cl (HV.out _)))))
    refine wpQuiet_nil ?_
    intro U3 h3
    have hz : w.heap.size ≤ U.heap.size := HU.out.size
    have HS3 := hid h3
    have kv3 := boxed_still HKV.out h3
    have HK03 := hid (boxed_still HK0.out h3)
    have HO3 := hid (HO.out.still h3)
    have HB3 := hid (HU.out.trans (h3.below.mono hz))
    obtain ⟨ao2, cap2, rfl, _⟩ := HO.out.slice
    have c3 := kv3.cell
    have f3 := kv3.frozen
    clear h3 hne gz g0 g1 g2 g3 g4 g5 g6 g7 g8 g9 g10 g11 g12 j0 j1 j2 j3 j4 j5 j6 j7 j8 j9 j10 j11 j12 HB1 HB2 HV HKV HO
    obtain ⟨m2, em2⟩ : ∃ m, (met L pre).length = m := ⟨_, rfl⟩
    rw [em2] at kv3 c3 HO3
    clear em2
    cases b3 with
    | false =>
      have HK : Hid (met L (pre ++ [x]) = met L pre) := hid (by rw [show x = (x.1, x.2) from rfl, HMet.out]; simp)
      have HKV3 := hid kv3
      clear HMet HLn kv3
      gi_wp2_with fail
      exact ⟨HS3.out.others.from _, HS3.out.kpp hz, ⟨⟨_, HKV3.out, by rw [HK.out]; exact HO3.out⟩, HK03.out⟩, HB3.out⟩
    | true =>
      have HK : Hid (met L (pre ++ [x]) = met L pre ++ [((x.1.1 : Int), (x.2.1 : Int))]) := hid (by rw [show x = (x.1, x.2) from rfl, HMet.out]; simp)
      have A4 := Still.alloc U3 (.cells #[.int .i64 (x.1.1 : Int), .int .i64 (x.2.1 : Int)] 47)
      have HS4 := hid (HS3.out.trans A4)
      have HO4 := hid (HO3.out.still A4)
      have HX4 : Hid ((U3.alloc (.cells #[.int .i64 (x.1.1 : Int), .int .i64 (x.2.1 : Int)] 47)).heap[U3.heap.size]? = some (.cells #[.int .i64 (x.1.1 : Int), .int .i64 (x.2.1 : Int)] 47 (0, 0))) := hid (heap_alloc_new U3 _)
      have HB4 := hid (show w.heap.size ≤ (U3.alloc (.cells #[.int .i64 (x.1.1 : Int), .int .i64 (x.2.1 : Int)] 47)).heap.size by rw [size_alloc]; have := HS3.out.size; omega)
      have HKV4 := hid (boxed_still kv3 A4)
      have HK04 := hid (boxed_still HK03.out A4)
      have HW4 := hid (HB3.out.trans (A4.below.mono (by have := HS3.out.size; omega)))
      clear HMet A4 kv3 HK03 HB3 HS3
      gi_wp2_with (gi_at_builtin; refine list_in ?hq l 0 _ _ _ ?hd ?hl)
      case hq =>
        rintro ⟨_, _, h⟩
        cases h.1
      case hd =>
        intro o ho c hc
        simp at ho
        rcases ho with rfl | rfl <;> cases hc
      at_builtin
      refine wpList_appT _ rfl _ _ rfl w.heap.size U3.heap.size _ (met L pre) (x.1.1 : Int) (x.2.1 : Int) rfl rfl HO4.out HX4.out HLn.out HB4.out ?_
      intro v' w' ho' hf'
      have k5 : Boxed w' w1.heap.size 25 (.slice ao2 m2 cap2) := app_box HKV4.out HO4.out hf'
      have HST := hid (app_step HS4.out hz (by omega) HKV4.out HO4.out hf' ho')
      obtain ⟨g', cap', rfl, _, _⟩ := ho'.head (by simp)
      have c5 := k5.cell
      have f5 := k5.frozen
      clear hf' ho' k5 HO4 HX4 HB4
      have HLE : Hid ((met L pre ++ [((x.1.1 : Int), (x.2.1 : Int))]).length = (met L pre).length + 1) := hid (by simp)
      go_wp2_with fail
      rw [HLE.out] at HST
      obtain ⟨q1, q2, q3, q4⟩ := HST.out
      exact ⟨q1.from _, q2, ⟨⟨_, q3, by rw [HK.out]; exact q4⟩, kpp_box q2 HK0.out (by decide) (by decide)⟩, HU.out.trans q2.1⟩
  case done =>
    rintro D U hD ⟨⟨⟨v, kv, ho, _⟩, k0⟩, hB⟩ hK
    have ho1 : OwG KT 47 U w.heap.size v (met L (prs (ipl L L.length) (ipl L L.length))) := ho
    rw [met_all L L.length (Nat.le_refl _)] at ho1
    obtain ⟨ao2, cap2, rfl, _⟩ := ho1.slice
    have HO := hid ho1
    have HB := hid hB
    have c := kv.cell
    clear ho ho1 hB kv k0
    gi_wp2_with fail
    refine ⟨by simp, .inl ⟨_, _, rfl, run_takeDeferred hK, ?_⟩⟩
    exact ⟨_, results_tmp2 rfl _ _ _, _, rfl, ownsRow_putObj HO.out _ hK rfl, still_of_below (HB.out.trans (belowK_b (w := w) (Nat.le_refl _) U D _ _ (by omega) hK rfl rfl))⟩
theorem hbodies_any (L : List Mv) (ao : Option Addr) (n cap : Nat) (w : World) (hr : RdG KM w ao n L) : Calls Try.prog 10 #[.slice ao n cap] w fun e w' => ∃ v, e = .returned (.tuple #[v, .int .i64 (err11 (togB L))]) ∧ OwG KT 47 w' w.heap.size v (bod L) ∧ Still w w' := by
  cases ht : togB L with
  | true =>
    have e : bod L = allB L L.length := by unfold bod; rw [ht]; rfl
    rw [e]
    exact callsIn_wide.1 (hbodies_ok L ao n cap w hr ht)
  | false =>
    have HE : Hid (bod L = []) := hid (by unfold bod; rw [ht]; rfl)
    have A0 := Still.alloc w (.cells #[.slice ao n cap] 22)
    have H := hid (htog_any L ao n cap _ (hr.still A0))
    have HA0 := hid A0
    have c00 := (Boxed.new w 22 (.slice ao n cap)).cell
    rw [ht] at H
    clear ht hr A0
    go_enter Try.func10, Try.ntmps10
    go_wp2_with fail
    refine H.out.mono ?_
    rintro e w1 ⟨rfl, h1⟩
    have HS1 := hid (HA0.out.trans h1)
    clear h1 H
    go_wp2_with fail
    go_ret2
    exact ⟨_, rfl, by rw [HE.out]; exact OwG.nil _ _, HS1.out⟩
end Go.Proofs.Ytpohikhiekmfgaa
