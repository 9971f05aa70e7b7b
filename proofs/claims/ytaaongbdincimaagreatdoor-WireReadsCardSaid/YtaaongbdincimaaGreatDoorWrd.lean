/- The program's reader of a datagram: commands. -/
import Derived.Test.YtaaongbdincimaaGreatDoorWrc
namespace Go.Proofs.YtaaongbdincimaaGreatDoor
open Go.RowKit
open Wp Vp
set_option maxRecDepth 100000
set_option linter.unusedVariables false
set_option linter.unusedSimpArgs false

/-- 'append(s, x)', s its owner's, as one operation of a statement that draws its order -/
theorem op_appG {α : Type} {e : TypeId} {P : Program} (K : Kd α) (w : World) {o : Oper} {a : Act} {Kn : Act → World → Prop} {Q : Exit → Act → World → Prop} (s x : Operand) (t : TypeId)
    (hop : o.op = .call { callee := .builtin .append, args := #[s, x], argTypes := #[t, t] })
    (hu : P.underlying t = some (.slice e)) (bytes : Nat) (hinfo : ∃ i, P.info? e = some i ∧ i.zero = some (.agg (K.f K.d).toArray) ∧ i.size = K.k ∧ i.bytes = bytes) (hb : bytes ≤ 1000000)
    (B g : Nat) (v : Value) (L : List α) (p : α) (hs : a.eval s = v) (hx : a.eval x = .slice (some ⟨g, 0, none⟩) 1 1) (ho : OwG K e w B v L) (hr : w.heap[g]? = some (.cells (K.f p).toArray e (0, 0))) (h47 : L.length ≤ 100000) (hB : B ≤ w.heap.size)
    (h : ∀ v' w', OwG K e w' B v' (L ++ [p]) → Fr (fun k => v.ownBlock = some k) w w' → Kn (a.put o.dst v') w') : o.wp P a w Kn Q := by
  obtain ⟨i, hi, hz, h1, h2⟩ := hinfo
  refine wp_append_own (P := P) w s x t hop B e i (.agg (K.f K.d).toArray) K.k bytes hu hi hz h1 h2 (by simp [Value.cells, K.len]) K.pos v L.length (K.row L) hs ho ⟨g, 0, none⟩ 1 1 (K.f p) hx (by rw [K.len, Nat.one_mul]) ?_ (K.one p) (by unfold maxLen; omega) ?_ hB ?_
  · intro j u hj
    rw [add_plain, Nat.zero_add, cell_of_row _ _ _ _ _ _ hr]
    simpa using hj
  · have : (L.length + 1) * bytes ≤ 100001 * 1000000 := Nat.mul_le_mul (by omega) hb
    omega
  · intro v' w' hown hgr _
    refine h v' w' ?_ ⟨hgr.os, hgr.tape, hgr.output, hgr.size, fun k hk hn => hgr.block k hk (fun e => hn e.symm)⟩
    unfold OwG
    rw [K.row_app, List.length_append, show K.row [p] = K.f p by simp [Kd.row]]
    exact hown
theorem own_typ {w : World} {B k : Nat} {v : Value} {l : List Cc} (h : OwG KCc 42 w B v l) (hk : v.ownBlock = some k) : ∃ cs, w.heap[k]? = some (.cells cs 42 (0, 0)) := by
  rcases h.2 with ⟨rfl, _⟩ | ⟨g, cap, cur, rfl, hb, hg, hr⟩
  · cases hk
  · cases hk
    exact ⟨cur, hg⟩
theorem Tz.grow {w w1 w2 : World} {q p : Nat} {ef : Addr} {s : Rs} {F : Nat → Prop} (h : Tz w w1 q p ef s) (h1 : ∀ k, F k → w.heap.size ≤ k) (hq : q < w.heap.size ∧ p < w.heap.size) (hu : ∀ k, F k → ∃ cs, w1.heap[k]? = some (.cells cs 42 (0, 0))) (he : ¬ F 0) (hf : Fr F w1 w2) : Tz w w2 q p ef s := by
  obtain ⟨ao, n, cap, k1, k2⟩ := h.r.rd
  have nq : ¬ F q := fun e => by have := h1 _ e; omega
  have np : ¬ F p := fun e => by have := h1 _ e; omega
  have na : ∀ a, ao = some a → ¬ F a.block := fun a ha e => by
    obtain ⟨cs, hc⟩ := hu _ e
    exact k2.ne hc (by decide) a ha rfl
  exact ⟨⟨hf.kept h.r.box nq, ⟨ao, n, cap, k1.kept hf np (fun a ha _ => na a ha), k2.kept hf na⟩, (hf.cell (World.block_lt_of_cell? w1 _ h.r.er) he).trans h.r.er, h.r.nq, h.r.n1, h.r.n2⟩, h.f.trans hf (fun k hk e => by have := h1 _ e; omega)⟩
theorem csM_len (mk f fi : Int) : ∀ (k i : Nat) (s : Rs), (csM mk f fi k i s).1.length = k
  | 0, _, _ => rfl
  | k + 1, i, s => by
    show ((cmM mk f (fi + i) s).1 :: (csM mk f fi k (i + 1) (cmM mk f (fi + i) s).2).1).length = _
    rw [List.length_cons, csM_len mk f fi k (i + 1)]
set_option maxHeartbeats 4000000 in
theorem ycmds_any (q p : Nat) (ef : Addr) (s : Rs) (d : Dg) (co : Option Addr) (cn cp : Nat) (hfi : 0 ≤ d.fi ∧ d.fi ≤ 1099511627776) (w : World) (h : Rz w q p ef s) :
    Calls Tryz.prog 71 #[.pointer (some ⟨q, 0, none⟩), dgv d co cn cp] w fun r w' => ∃ v, r = .returned v ∧ OwG KCc 42 w' w.heap.size v (csM d.mrk d.fr d.fi (upM 336 s).1 0 (upM 336 s).2).1 ∧ Tz w w' q p ef (csM d.mrk d.fr d.fi (upM 336 s).1 0 (upM 336 s).2).2 := by
  have A0 := Still.alloc w (.cells (dgc d co cn cp) 25)
  have B0 := Obz.new h (dgc d co cn cp) 25
  have h0 := h.still A0
  obtain ⟨W, eW⟩ : ∃ W, w.alloc (.cells (dgc d co cn cp) 25) = W := ⟨_, rfl⟩
  obtain ⟨g, eg⟩ : ∃ g, w.heap.size = g := ⟨_, rfl⟩
  rw [eW] at A0 B0 h0
  rw [eg] at B0 ⊢
  have HA := hid A0
  have HG := hid B0
  have HWs : Hid (W.heap.size = g + 1) := hid (by rw [← eW, size_alloc, eg])
  have HC := hid (upto_any q p ef s 336 (by omega) W h0)
  have hN := upM_le 336 s
  obtain ⟨N, S, eN⟩ : ∃ N S, upM 336 s = (N, S) := ⟨_, _, rfl⟩
  rw [eN] at HC hN ⊢
  dsimp only at HC hN ⊢
  have HEr := hid h0.er
  have HRt : Hid (q < W.heap.size ∧ p < W.heap.size) := hid h0.lt
  clear A0 B0 h h0 eN
  go_enter Tryz.func71, Tryz.ntmps71
  go_wp2_with fail
  refine HC.out.mono ?_
  rintro e w1 ⟨he, h1⟩
  rw [he]
  have HT1 := hid h1
  have HG1 := hid (HG.out.on h1)
  clear he h1 HC HG
  go_wp2_with fail
  go_loopw [5, 6, 9] (fun u5 u6 u9 wr => ∃ (i : Nat) (l : List Cc) (v : Value) (s1 : Rs), i ≤ N ∧ u5 = v ∧ u9 = .int .i64 (i : Int) ∧ Hid (Tz W wr q p ef s1 ∧ l.length = i ∧ csM d.mrk d.fr d.fi N 0 S = (l ++ (csM d.mrk d.fr d.fi (N - i) i s1).1, (csM d.mrk d.fr d.fi (N - i) i s1).2)) ∧ Hid (OwG KCc 42 wr W.heap.size v l ∧ Obz wr q p g (.cells (dgc d co cn cp) 25 (0, 0)))) (fun _ _ u9 _ => N - (intOf u9).toNat)
  case atStart => exact ⟨0, [], .slice none 0 0, S, by omega, rfl, rfl, hid ⟨HT1.out, rfl, rfl⟩, hid ⟨OwG.nil _ _, HG1.out⟩⟩
  case round =>
    obtain ⟨i, l, v, s1, hi, rfl, rfl, HLr, HBr⟩ := hrel
    by_cases hin : i < N
    · have hlt : (i : Int) < (N : Int) := by omega
      have HF : Hid (csM d.mrk d.fr d.fi N 0 S = ((l ++ [(cmM d.mrk d.fr (d.fi + i) s1).1]) ++ (csM d.mrk d.fr d.fi (N - (i + 1)) (i + 1) (cmM d.mrk d.fr (d.fi + i) s1).2).1, (csM d.mrk d.fr d.fi (N - (i + 1)) (i + 1) (cmM d.mrk d.fr (d.fi + i) s1).2).2)) := hid (by
        rw [HLr.out.2.2, show N - i = (N - (i + 1)) + 1 by omega, List.append_assoc]
        rfl)
      have HX : Hid (cmM d.mrk d.fr (d.fi + i) s1 = (⟨IntKind.i64.wrap (d.mrk + (diM s1).1), d.fr, d.fi + i, (orM (diM s1).2).1.1, (orM (diM s1).2).1.2.1, (orM (diM s1).2).1.2.2.1, (orM (diM s1).2).1.2.2.2⟩, (orM (diM s1).2).2)) := hid rfl
      have hwr : IntKind.i64.wrap (d.fi + (i : Int)) = d.fi + (i : Int) := wr64 (by omega) (by omega)
      have HD := hid (dist_any q p ef s1 wr.drew (HLr.out.1.r.still ((Fr.refl _ wr).drew)))
      obtain ⟨far, S1, e1⟩ : ∃ a b, diM s1 = (a, b) := ⟨_, _, rfl⟩
      rw [e1] at HX HD
      dsimp only at HX HD
      obtain ⟨⟨ov, oa, ob, oc⟩, S2, e2⟩ : ∃ a b, orM S1 = (a, b) := ⟨_, _, rfl⟩
      have HOr : Hid (∀ u, Rz u q p ef S1 → Calls Tryz.prog 85 #[.pointer (some ⟨q, 0, none⟩)] u fun r w' => r = .returned (od ov oa ob oc) ∧ Tz u w' q p ef S2) := hid (fun u hu => by
        have := yorder_any q p ef S1 u hu
        rw [e2] at this
        exact this)
      rw [e2] at HX
      dsimp only at HX
      rw [HX.out] at HF
      dsimp only at HF
      have g4 := HBr.out.2.cell 4
      have g2 := HBr.out.2.cell 2
      have g5 := HBr.out.2.cell 5
      simp only [List.getElem?_cons_zero, List.getElem?_cons_succ] at g4 g2 g5
      have HI0 : Hid (wr.drew.cell? ⟨g, 4, none⟩ = some (.int .i64 d.mrk) ∧ wr.drew.cell? ⟨g, 2, none⟩ = some (.int .i64 d.fr) ∧ wr.drew.cell? ⟨g, 5, none⟩ = some (.int .i64 d.fi)) := hid ⟨g4, g2, g5⟩
      clear e1 e2 g4 g2 g5 HX
      go_wp2_with fail
      refine region_I (fun u => u.cell? ⟨g, 4, none⟩ = some (.int .i64 d.mrk) ∧ u.cell? ⟨g, 2, none⟩ = some (.int .i64 d.fr) ∧ u.cell? ⟨g, 5, none⟩ = some (.int .i64 d.fi)) (by kernel_rfl) ?_
      refine wpAnyI_take (i := 0) (v := ?tv0) rfl rfl (by kernel_rfl) (by kernel_rfl) (by kernel_rfl) (fun _ _ _ h => h) (fun u hu => ?ty0) ?tk0
      case ty0 => (go_simp; try rfl)
      refine wpAnyI_take (i := 1) (v := ?tv1) rfl rfl (by kernel_rfl) (by kernel_rfl) (by kernel_rfl) (fun _ _ _ h => h) (fun u hu => ?ty1) ?tk1
      case ty1 => (go_simp; try rfl)
      refine wpAnyI_take (i := 2) (v := ?tv2) rfl rfl (by kernel_rfl) (by kernel_rfl) (by kernel_rfl) (fun _ _ _ h => h) (fun u hu => ?ty2) ?tk2
      case ty2 => (go_simp; try rfl)
      refine wpAnyI_take (i := 3) (v := ?tv3) rfl rfl (by kernel_rfl) (by kernel_rfl) (by kernel_rfl) (fun _ _ _ h => h) (fun u hu => ?ty3) ?tk3
      case ty3 => (go_simp; try rfl)
      refine wpAnyI_take (i := 6) (v := ?tv6) rfl rfl (by kernel_rfl) (by kernel_rfl) (by kernel_rfl) (fun _ _ _ h => h) (fun u hu => ?ty6) ?tk6
      case ty6 => (go_simp; try rfl)
      refine wpAnyI_take (i := 7) (v := ?tv7) rfl rfl (by kernel_rfl) (by kernel_rfl) (by kernel_rfl) (fun _ _ _ h => h) (fun u hu => ?ty7) ?tk7
      case ty7 => (go_simp; try rfl)
      refine wpAnyI_take (i := 8) (v := ?tv8) rfl rfl (by kernel_rfl) (by kernel_rfl) (by kernel_rfl) (fun _ _ _ h => h) (fun u hu => ?ty8) ?tk8
      case ty8 => (go_simp; try rfl)
      refine wpAnyI_take (i := 9) (v := ?tv9) rfl rfl (by kernel_rfl) (by kernel_rfl) (by kernel_rfl) (fun _ _ _ h => h) (fun u hu => ?ty9) ?tk9
      case ty9 => (go_simp; try rfl)
      refine wpAnyI_take (i := 10) (v := ?tv10) rfl rfl (by kernel_rfl) (by kernel_rfl) (by kernel_rfl) (fun _ _ _ h => h) (fun u hu => ?ty10) ?tk10
      case ty10 => (go_simp; try rfl)
      refine wpAnyI_take (i := 11) (v := ?tv11) rfl rfl (by kernel_rfl) (by kernel_rfl) (by kernel_rfl) (fun _ _ _ h => h) (fun u hu => ?ty11) ?tk11
      case ty11 => (go_simp; try rfl)
      refine wpAnyI_take (i := 12) (v := ?tv12) rfl rfl (by kernel_rfl) (by kernel_rfl) (by kernel_rfl) (fun _ _ _ h => h) (fun u hu => ?ty12) ?tk12
      case ty12 => (go_simp; try rfl)
      refine wpAnyI_ready HI0.out (rs := [4]) (by kernel_rfl) (by simp) ?_
      refine AllI.cons rfl rfl (fun K hK => ?_) AllI.nil
      go_simp
      refine HD.out.mono ?_
      rintro e w2 ⟨he, h2⟩
      rw [he]
      have b2 := (HBr.out.2.still ((Fr.refl _ wr).drew)).on h2
      have HI1 : Hid (w2.cell? ⟨g, 4, none⟩ = some (.int .i64 d.mrk) ∧ w2.cell? ⟨g, 2, none⟩ = some (.int .i64 d.fr) ∧ w2.cell? ⟨g, 5, none⟩ = some (.int .i64 d.fi)) := hid ⟨b2.cell 4, b2.cell 2, b2.cell 5⟩
      have HO2 : Hid (OwG KCc 42 w2 W.heap.size u5 l) := hid ((HBr.out.1.still ((Fr.refl _ wr).drew)).keep h2.f (fun k hk e => by
        have h3 := HLr.out.1.r.lt
        have h4 := (HBr.out.1.block e).1
        have h5 := HRt.out
        rcases hk with hk | hk <;> omega))
      have HT2 := hid ((HLr.out.1.still ((Fr.refl _ wr).drew)).trans h2)
      have HB2 := hid b2
      have HC2 := hid (HOr.out w2 h2.r)
      clear he h2 b2 HD HOr HI0
      refine hK _ _ ?_
      clear hK K
      refine wpAnyI_take (i := 5) (v := ?tv5) rfl rfl (by kernel_rfl) (by kernel_rfl) (by kernel_rfl) (fun _ _ _ h => h) (fun u hu => ?ty5) ?tk5
      case ty5 => (go_simp; try rfl)
      refine wpAnyI_ready HI1.out (rs := [13]) (by kernel_rfl) (by simp) ?_
      refine AllI.cons rfl rfl (fun K hK => ?_) AllI.nil
      go_simp
      refine HC2.out.mono ?_
      rintro e w3 ⟨he, h3⟩
      rw [he]
      have b3 := HB2.out.on h3
      have HI2 : Hid (∀ u, Still w3 u → u.cell? ⟨g, 4, none⟩ = some (.int .i64 d.mrk) ∧ u.cell? ⟨g, 2, none⟩ = some (.int .i64 d.fr) ∧ u.cell? ⟨g, 5, none⟩ = some (.int .i64 d.fi)) := hid (fun u hu => ⟨(b3.still hu).cell 4, (b3.still hu).cell 2, (b3.still hu).cell 5⟩)
      have HO3 : Hid (OwG KCc 42 w3 W.heap.size u5 l) := hid (HO2.out.keep h3.f (fun k hk e => by
        have h4 := (HO2.out.block e).1
        have h5 := HRt.out
        rcases hk with hk | hk <;> omega))
      have HT3 := hid (HT2.out.trans h3)
      have HB3 := hid b3
      clear he h3 b3 HC2 HI1 HO2 HT2 HB2
      refine hK _ _ ?_
      clear hK K
      refine wpAnyI_take (i := 14) (v := ?tv14) rfl rfl (by kernel_rfl) (by kernel_rfl) (by kernel_rfl) (fun _ _ _ h => h) (fun u hu => ?ty14) ?tk14
      case ty14 => (go_simp; try rfl)
      refine wpAnyI_ready (HI2.out _ (Fr.refl _ _)) (rs := [15]) (by kernel_rfl) (by simp) ?_
      refine AllI.cons rfl rfl (fun K hK => ?_) AllI.nil
      go_simp
      refine hK _ _ ?_
      clear hK K
      have A4 := Still.alloc w3 (.cells (kmc ⟨IntKind.i64.wrap (d.mrk + far), d.fr, d.fi + i, ov, oa, ob, oc⟩) 42)
      refine wpAnyI_ready (HI2.out _ A4) (rs := [16]) (by kernel_rfl) (by simp) ?_
      refine AllI.cons rfl rfl (fun K hK => ?_) AllI.nil
      refine op_appG KCc _ _ _ 23 rfl Tryz.underlying23 56 infoCc (by omega) W.heap.size w3.heap.size u5 l ⟨IntKind.i64.wrap (d.mrk + far), d.fr, d.fi + i, ov, oa, ob, oc⟩ rfl rfl (HO3.out.still A4) (heap_alloc_new w3 _) (by have := HLr.out.2.1; omega) (by have h6 := HT3.out.f.size; simp; omega) ?_
      intro v' w4 ho4 hf4
      have HL4 : Hid (Tz W w4 q p ef S2 ∧ (l ++ [(⟨IntKind.i64.wrap (d.mrk + far), d.fr, d.fi + i, ov, oa, ob, oc⟩ : Cc)]).length = i + 1 ∧ csM d.mrk d.fr d.fi N 0 S = ((l ++ [⟨IntKind.i64.wrap (d.mrk + far), d.fr, d.fi + i, ov, oa, ob, oc⟩]) ++ (csM d.mrk d.fr d.fi (N - (i + 1)) (i + 1) S2).1, (csM d.mrk d.fr d.fi (N - (i + 1)) (i + 1) S2).2)) := hid ⟨(HT3.out.still A4).grow (fun k hk => ((HO3.out.still A4).block hk).1) HRt.out (fun k hk => own_typ (HO3.out.still A4) hk) (fun e => by
        have h7 := ((HO3.out.still A4).block e).1
        have h8 := World.block_lt_of_cell? W _ HEr.out
        have h8 : 0 < W.heap.size := h8
        omega) hf4, by simp [HLr.out.2.1], HF.out⟩
      have HB4 : Hid (OwG KCc 42 w4 W.heap.size v' (l ++ [⟨IntKind.i64.wrap (d.mrk + far), d.fr, d.fi + i, ov, oa, ob, oc⟩]) ∧ Obz w4 q p g (.cells (dgc d co cn cp) 25 (0, 0))) := hid ⟨ho4, ⟨hf4.kept ((HB3.out.still A4).b) (fun e => by
        have h7 := ((HO3.out.still A4).block e).1
        have h8 := HWs.out
        omega), HB3.out.n⟩⟩
      have HI4 : Hid (w4.cell? ⟨g, 4, none⟩ = some (.int .i64 d.mrk) ∧ w4.cell? ⟨g, 2, none⟩ = some (.int .i64 d.fr) ∧ w4.cell? ⟨g, 5, none⟩ = some (.int .i64 d.fi)) := hid ⟨HB4.out.2.cell 4, HB4.out.2.cell 2, HB4.out.2.cell 5⟩
      clear A4 ho4 hf4 HF HLr HBr HI2 HO3 HT3 HB3
      refine hK _ _ ?_
      clear hK K
      refine wpAnyI_take (i := 17) (v := ?tv17) rfl rfl (by kernel_rfl) (by kernel_rfl) (by kernel_rfl) (fun _ _ _ h => h) (fun u hu => ?ty17) ?tk17
      case ty17 => (go_simp; try rfl)
      refine wpAnyI_done HI4.out (by kernel_rfl) ?_ _
      go_wp2_with fail
      go_roundw
      case rel => exact ⟨i + 1, _, v', S2, by omega, rfl, by go_num, HL4, HB4⟩
      case measure => simp [intOf]; omega
    · obtain rfl : i = N := by omega
      have HE : Hid (csM d.mrk d.fr d.fi i 0 S = (l, s1)) := hid (by
        have h1 := HLr.out.2.2
        rw [Nat.sub_self] at h1
        rw [h1]
        show (l ++ [], s1) = (l, s1)
        rw [List.append_nil])
      have HL4 : Hid (OwG KCc 42 wr g u5 l ∧ Tz w wr q p ef s1) := hid ⟨HBr.out.1.less (by have := HWs.out; omega), Tz.from HA.out HLr.out.1⟩
      clear HLr HBr
      go_wp2_with fail
      go_ret
      rw [HE.out]
      exact ⟨u5, rfl, HL4.out⟩
end Go.Proofs.YtaaongbdincimaaGreatDoor
