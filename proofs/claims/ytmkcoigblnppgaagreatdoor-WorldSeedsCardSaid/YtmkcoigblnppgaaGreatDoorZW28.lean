/- Parts of the proof, laid end to end. -/
import Derived.Test.YtmkcoigblnppgaaGreatDoorZW21
import Derived.Test.YtmkcoigblnppgaaGreatDoorZW24
import Derived.Test.YtmkcoigblnppgaaGreatDoorZW17
import Derived.Test.YtmkcoigblnppgaaGreatDoorZW19
import Derived.Test.YtmkcoigblnppgaaGreatDoorZW10
import Derived.Test.YtmkcoigblnppgaaGreatDoorZW25
import Derived.Test.YtmkcoigblnppgaaGreatDoorZW27
import Derived.Test.YtmkcoigblnppgaaGreatDoorZW01
import Derived.Test.YtmkcoigblnppgaaGreatDoorZW06
namespace Go.Proofs.YtmkcoigblnppgaaGreatDoor
open Go.RowKit
open Pu Gp Ap Vp Np Za Ka Ja Ea Ha Hg Hi
set_option maxRecDepth 100000
theorem chkV_ex (C R : Int) (s : ByteArray) (w : World) : ∃ v, ChkV C R s v := by
 obtain ⟨e, w', fr, ⟨v, _, hv, _⟩, _⟩ := mapcheck_any C R s w []
 exact ⟨v, hv⟩
theorem q13_of (F : Cf) (v : Int) (hv : ChkV F.C F.R F.s v) (x : World) : Q13 x F v (stV F.C F.s v) (spV F.C F.s v) where
 chk u _ := (mapcheck_any F.C F.R F.s u).mono fun e w' ⟨v', he, hv', hs⟩ => by
  rw [chkV_one hv' hv] at he
  exact ⟨he, hs⟩
 sts u _ := (starts_any F.C F.R F.s u).mono fun e w' ⟨a, v', he, hv', ho, hs⟩ => by
  rw [chkV_one hv' hv] at ho
  exact ⟨a, he, ho, hs⟩
 sps u _ := (spots_any F.C F.R F.s u).mono fun e w' ⟨a, v', he, hv', ho, hs⟩ => by
  rw [chkV_one hv' hv] at ho
  exact ⟨a, he, ho, hs⟩
theorem p13_of (F : Cf) (hz : F.s.size <= 281474976710656) (st sp : List (Int × Int)) (x : World) (ht : Tab x) (hd : DTab x) : P13 x F ⟨solB F.C F.R F.s, st, sp, F.q⟩ where
 act m v a b c u hu := act_any m v a b c u (ht.still hu)
 fire m ow pw no u hu := fire_any m ow pw no u (ht.still hu)
 gli m u := glide8_any m F.C F.R F.s hz u
 bod L ao n cap u h := hbodies_any L ao n cap u h
 apt a b u := hapart_any a b u
 fly s u := fly_any s F.C F.R F.s hz u
 sho L S ao n cap so r scap u h1 h2 := hshots_any L S ao n cap so r scap u h1 h2
 hur m h u := hurt8_any m h u
 dmg p u := dmgs_any p u
 hit a b n out u := shit_any a b n out u
 pic L Q T ao n cap po r pcap xo t tcap u h1 h2 h3 h4 := hpic_any L Q T ao n cap po r pcap xo t tcap u h1 h2 h3 h4
 tak m k u := ptake_any m k u
 gai s n u := sgain_any s n u
 spw f s no L ao n cap u hu h1 h2 := pspawn_any F.q f s no L ao n cap u (hd.still hu) h1 h2
 res m x y u := rest8_any m x y u
theorem spP_spo (C : Nat) (s : ByteArray) : ∀ n, (spP C s n).length = spoN s n
 | 0 => rfl
 | n + 1 => by
  rw [spP, List.length_append, spP_spo C s n, spoN]
  split <;> simp_all
theorem spV_few {C R : Int} {s : ByteArray} {v : Int} (h : ChkV C R s v) : (spV C s v).length <= 16 := by
 unfold spV
 split
 ·rename_i e
  subst e
  have hf : forB C R s = true := by
   rcases h with ⟨_, h2⟩ | ⟨h1, _⟩ | ⟨h1, _⟩
   ·cases h2
   ·exact h1
   ·exact h1
  unfold forB at hf
  simp only [Bool.and_eq_true, decide_eq_true_eq] at hf
  rw [spP_spo]
  exact hf.2.2
 ·simp
end Go.Proofs.YtmkcoigblnppgaaGreatDoor
namespace Go.Proofs.YtmkcoigblnppgaaGreatDoor
open Go.RowKit
open Pu Gp Ap Vp Np Za Ka Ja Ea Ha Hg Hi
set_option maxRecDepth 100000
abbrev E0 : Env := ⟨solB 8 6 std3, [(6144, 6144), (26624, 6144), (6144, 18432), (26624, 18432)], [(14336, 10240), (18432, 10240)], 7⟩
abbrev y0 : Cm := ⟨1, 1, 1, 7, 9, 0, 0⟩
theorem w0_st : stV 8 std3 0 = [(6144, 6144), (26624, 6144), (6144, 18432), (26624, 18432)] := by kernel_rfl
theorem w0_sp : spV 8 std3 0 = [(14336, 10240), (18432, 10240)] := by kernel_rfl
theorem w0_m1 : mm (nwM E0.st 2) 1 = ⟨26624, 6144, 0, 0, 0, 0, 4, 100, 50, false, 0, 0, 0⟩ := by kernel_rfl
theorem w0_ns : (frame E0 (nw0 E0 2) [y0]).ns = [⟨8, 1, 9⟩] := by kernel_rfl
theorem w0_sd : (mm (frame E0 (nw0 E0 2) [y0]).w.ms 1).sd = 9 := by kernel_rfl
theorem w0_len : (frame E0 (nw0 E0 2) [y0]).w.ms.length = 2 := by kernel_rfl
theorem w0_fr : (frame E0 (nw0 E0 2) [y0]).w.fr = 1 := by kernel_rfl
theorem w0_cfg : CfgP 2 0 4 [0, 2] := by
 refine ⟨by decide, by decide, rfl, by decide, by decide, by decide, rfl, fun i h1 h2 => ?_⟩
 obtain rfl : i = 1 := by simp at h2; omega
 exact ⟨by decide, by decide⟩
theorem w0_rgt : Rgt 2 y0 := ⟨by decide, by decide, by decide, by kernel_rfl⟩
theorem w0_ord : Ordr 2 1 [y0] := fun i hi => by
 obtain rfl : i = 0 := by simp at hi; omega
 exact ⟨⟨w0_rgt, rfl⟩, fun h => absurd h (by omega)⟩
theorem w0_good : Ha.Good 2 E0 (nw0 E0 2) := good_nw0 (by decide)
theorem w0_fits : Fits 2 E0 (nw0 E0 2) := ⟨w0_good, by decide, by decide⟩
theorem w0_fits1 : Fits 2 E0 (frame E0 (nw0 E0 2) [y0]).w := by
 have h := good_frame (n := 2) (by omega) w0_good (l := [y0]) (fun x hx => by simp at hx; subst hx; exact w0_rgt)
 refine ⟨h.1, ?_⟩
 rw [w0_fr]
 decide
theorem cfb_put {w : World} {g : Nat} {F : Cf} (h0 : Cfb w g F) (p q C R : Int) (s : ByteArray) (lo : Option Addr) (n c : Nat) : Cfb ((((((w.setCell ⟨g, 0, none⟩ (.int .i64 p)).setCell ⟨g, 1, none⟩ (.int .u64 q)).setCell ⟨g, 2, none⟩ (.int .i64 C)).setCell ⟨g, 3, none⟩ (.int .i64 R)).setCell ⟨g, 4, none⟩ (.string s)).setCell ⟨g, 5, none⟩ (.slice lo n c)) g ⟨p, q, C, R, s, .slice lo n c⟩ := by
 unfold Cfb at h0 ⊢
 have h1 := heap_setCell_same _ g 0 _ _ (.int .i64 p) h0
 have h2 := heap_setCell_same _ g 1 _ _ (.int .u64 q) h1
 have h3 := heap_setCell_same _ g 2 _ _ (.int .i64 C) h2
 have h4 := heap_setCell_same _ g 3 _ _ (.int .i64 R) h3
 have h5 := heap_setCell_same _ g 4 _ _ (.string s) h4
 have h6 := heap_setCell_same _ g 5 _ _ (.slice lo n c) h5
 exact h6.trans (by kernel_rfl)
theorem fr_put6 {a w : World} {g : Nat} (h : Fr (fun k => k = g) a w) (v0 v1 v2 v3 v4 v5 : Value) : Fr (fun k => k = g) a ((((((w.setCell ⟨g, 0, none⟩ v0).setCell ⟨g, 1, none⟩ v1).setCell ⟨g, 2, none⟩ v2).setCell ⟨g, 3, none⟩ v3).setCell ⟨g, 4, none⟩ v4).setCell ⟨g, 5, none⟩ v5) :=
 (((((h.setCell _ _ (.inl rfl)).setCell _ _ (.inl rfl)).setCell _ _ (.inl rfl)).setCell _ _ (.inl rfl)).setCell _ _ (.inl rfl)).setCell _ _ (.inl rfl)
theorem cfb_load {w : World} {g : Nat} {p q C R : Int} {s : ByteArray} {lo : Option Addr} {n c : Nat} (h : Cfb w g ⟨p, q, C, R, s, .slice lo n c⟩) : (loadVar 27 ⟨g, 0, none⟩).run Tryz.prog w = .ok (.agg #[.int .i64 p, .int .u64 q, .int .i64 C, .int .i64 R, .string s, .slice lo n c]) w := by
 obtain ⟨c0, c1, c2, c3, c4, c5, cf⟩ := h.cells
 dsimp only at c0 c1 c2 c3 c4 c5
 clear h
 go_simp
theorem cfb_res {fn : Func} {r : Tmp} {w : World} {g : Nat} {p q C R : Int} {s : ByteArray} {lo : Option Addr} {n c : Nat} (hb : Cfb w g ⟨p, q, C, R, s, .slice lo n c⟩) (h : fn.results = #[.cell r 27]) (tmps : Array Value) (hp : tmps.getD r undef = .pointer (some ⟨g, 0, none⟩)) :
  (results fn tmps).run Tryz.prog w = .ok (.agg #[.int .i64 p, .int .u64 q, .int .i64 C, .int .i64 R, .string s, .slice lo n c]) w := by
 have hp' : tmps[r]?.getD undef = .pointer (some ⟨g, 0, none⟩) := by simpa using hp
 simp [results, h, hp', asAddr, cfb_load hb]
set_option maxHeartbeats 1000000 in
theorem lses_any (w : World) : Calls Tryz.prog 22 #[] w fun e w' => ∃ gl, e = .returned (.agg #[.int .i64 2, .int .u64 7, .int .i64 8, .int .i64 6, .string std3, .slice (some ⟨gl, 0, none⟩) 2 2]) /\ RdI w' (some ⟨gl, 0, none⟩) 2 2 [0, 2] /\ Still w w' := by
 have HSd := hid rstd_3
 obtain ⟨S, eS⟩ : ∃ S, std3 = S := ⟨_, rfl⟩
 rw [eS] at HSd ⊢
 clear eS
 have A0 := Still.alloc w (.cells #[.int .i64 0, .int .u64 0, .int .i64 0, .int .i64 0, .string ByteArray.empty, .slice none 0 0] 27)
 have p0 : Cfb _ w.heap.size ⟨0, 0, 0, 0, ByteArray.empty, .slice none 0 0⟩ := newCf_cb w ⟨0, 0, 0, 0, ByteArray.empty, .slice none 0 0⟩
 have HS0 := hid A0
 have HP0 := hid p0
 clear A0 p0
 go_enter Tryz.func22, Tryz.ntmps22
 go_wp2_with fail
 refine (HSd.out _).mono ?_
 rintro e w1 ⟨rfl, h1⟩
 have A2 := Still.alloc w1 (.cells #[.int .i64 8, .int .i64 6, .string S] 24)
 have A3 := Still.alloc (w1.alloc (.cells #[.int .i64 8, .int .i64 6, .string S] 24)) (.cells #[.int .i64 0, .int .i64 2] 3)
 have a2 := newA_ab w1 8 6 S
 have hp := ((HP0.out.still h1).still A2).still A3
 have HP3 := hid hp
 have HS3 := hid (((HS0.out.trans h1).trans A2).trans A3)
 have HL3 := hid (rdI_two (w1.alloc (.cells #[.int .i64 8, .int .i64 6, .string S] 24)) 0 2)
 have HLT := hid (show w.heap.size < w1.heap.size from block_lt (HP0.out.still h1))
 obtain ⟨i0, i1, i2, jf⟩ := a2.cells
 clear A2 A3 a2 h1
 obtain ⟨c0, c1, c2, c3, c4, c5, cf⟩ := hp.cells
 clear hp
 go_wp2_with fail
 refine bodyPost_ret (cfb_res (cfb_put HP3.out 2 7 8 6 S _ 2 2) rfl _ rfl) rfl ⟨w1.heap.size + 1, rfl, ?_, still_set6 HS3.out (Nat.le_refl _) _ _ _ _ _ _⟩
 have h := HL3.out
 rw [size_alloc] at h
 refine h.kept (fr_put6 (Fr.refl _ _) _ _ _ _ _ _) (fun a ha _ e => ?_)
 cases ha
 have e : w1.heap.size + 1 = w.heap.size := e
 have := HLT.out
 omega
end Go.Proofs.YtmkcoigblnppgaaGreatDoor
namespace Go.Proofs.YtmkcoigblnppgaaGreatDoor
open Go.RowKit
open Pu Gp Ap Vp Np Za Ka Ja Ea Ha Hg Hi
set_option maxRecDepth 100000
abbrev nv (x : Nn) : Value := .agg (ncs x)
def eqNn (x y : Nn) : Bool := (x.k == y.k) && ((x.a == y.a) && (x.b == y.b))
theorem eqNn_refl (x : Nn) : eqNn x x = true := by unfold eqNn; simp
theorem npart_in (x : Nn) (w : World) : (part 3 (ncs x) 0).run Tryz.prog w = .ok (.int .i64 x.k) w /\ (part 3 (ncs x) 1).run Tryz.prog w = .ok (.int .i64 x.a) w /\ (part 3 (ncs x) 2).run Tryz.prog w = .ok (.int .i64 x.b) w := by
 refine ⟨?_, ?_, ?_⟩ <;> go_simp
theorem equal_nv (x y : Nn) (w : World) : (Op.equalIn 10000 52 (nv x) (nv y)).run Tryz.prog w = .ok (eqNn x y) w := by
 have c0 := fun w => (npart_in x w).1
 have d0 := fun w => (npart_in y w).1
 have r0 := fun w => equal_int 9998 x.k y.k w
 have c1 := fun w => (npart_in x w).2.1
 have d1 := fun w => (npart_in y w).2.1
 have r1 := fun w => equal_int 9998 x.a y.a w
 have c2 := fun w => (npart_in x w).2.2
 have d2 := fun w => (npart_in y w).2.2
 have r2 := fun w => equal_int 9998 x.b y.b w
 rw [run_equalIn_struct w 9999 _ _ _ (by kernel_rfl) (by kernel_rfl)]
 have e : (Tryz.prog.fieldsOf 52) = #[⟨ "Kind", 3, 0, false, "", "", 0⟩, ⟨ "A", 3, 1, false, "", "", 8⟩, ⟨ "B", 3, 2, false, "", "", 16⟩] := by kernel_rfl
 rw [e]
 simp only [Op.eqFields, ne_eq, String.reduceEq, not_false_eq_true, if_true, Sem.run_bind, c0, c1, c2, d0, d1, d2, Result.andThen_ok, r0, r1, r2, Sem.run_ite, Sem.run_pure]
 unfold eqNn
 exact st (st (st1 _))
theorem eql_nv (x y : Nn) (w : World) : (binOp .eql 52 (nv x) (nv y)).run Tryz.prog w = .ok (.bool (eqNn x y)) w := by
 rw [run_eql_struct, equal_nv]; rfl
theorem eql_nv_t (x : Nn) (w : World) : (binOp .eql 52 (nv x) (nv x)).run Tryz.prog w = .ok (.bool true) w := by
 rw [eql_nv, eqNn_refl]
theorem guard_nv (op : BinOp) (a b : Operand) (xs ys : Array Value) (w : World) : (eqGuard op 52 a b (.agg xs) (.agg ys)).run Tryz.prog w = .ok () w := run_eqGuard_agg w op _ a b xs ys (by kernel_rfl)
theorem w0_cs : (frame E0 (nw0 E0 2) [y0]).w.cs.length = 2 := by kernel_rfl
theorem w0_hs : (frame E0 (nw0 E0 2) [y0]).w.hs.length = 0 := by kernel_rfl
theorem w0_ks : (frame E0 (nw0 E0 2) [y0]).w.ks.length = 0 := by kernel_rfl
theorem w0_nx : (frame E0 (nw0 E0 2) [y0]).w.nx = 1 := by kernel_rfl
theorem owN {e : TypeId} {w : World} {B g n cap : Nat} {L : List Nn} (h : OwG KN e w B (.slice (some ⟨g, 0, none⟩) n cap) L) {i : Nat} (hi : i < L.length) : w.cell? ⟨g, i * 3, none⟩ = some (.int .i64 (L.getD i zNn).k) /\ w.cell? ⟨g, i * 3 + 1, none⟩ = some (.int .i64 (L.getD i zNn).a) /\ w.cell? ⟨g, i * 3 + 2, none⟩ = some (.int .i64 (L.getD i zNn).b) /\ ∀ o, w.frozen? ⟨g, o, none⟩ = false :=
 ⟨h.get hi 0 _ rfl, h.get hi 1 _ rfl, h.get hi 2 _ rfl, h.frozen⟩
theorem rdX_one (w : World) (y : Cm) : RdG KX (w.alloc (.cells (xcs y) 68)) (some ⟨w.heap.size, 0, none⟩) 1 [y] := by
 refine ⟨rfl, by omega, .inr ⟨w.heap.size, 0, rfl, fun i hi j u hj => ?_⟩⟩
 obtain rfl : i = 0 := by omega
 have hb := heap_alloc_new w (.cells (xcs y) 68)
 rw [cell_of_row _ _ _ _ _ _ hb]
 have hj' : (xcs y).toList[j]? = some u := hj
 rw [Array.getElem?_toList] at hj'
 simpa using hj'
theorem aw_q (gl : Nat) (u : World) : Q13 u ⟨2, 7, 8, 6, std3, .slice (some ⟨gl, 0, none⟩) 2 2⟩ 0 E0.st E0.sp := by
 have h := q13_of ⟨2, 7, 8, 6, std3, .slice (some ⟨gl, 0, none⟩) 2 2⟩ 0 std3_ok u
 dsimp only at h
 rw [w0_st, w0_sp] at h
 exact h
theorem aw_p (gl : Nat) (u : World) (ht : Tab u) (hd : DTab u) : P13 u ⟨2, 7, 8, 6, std3, .slice (some ⟨gl, 0, none⟩) 2 2⟩ E0 := p13_of ⟨2, 7, 8, 6, std3, .slice (some ⟨gl, 0, none⟩) 2 2⟩ (show std3.size <= 281474976710656 by decide +kernel) _ _ u ht hd
theorem aw_new (gl : Nat) (u : World) (hl : RdI u (some ⟨gl, 0, none⟩) 2 2 [0, 2]) : Calls Tryz.prog 10 #[.agg #[.int .i64 2, .int .u64 7, .int .i64 8, .int .i64 6, .string std3, .slice (some ⟨gl, 0, none⟩) 2 2]] u fun e w' => ∃ v, e = .returned (.tuple #[v, .int .i64 0]) /\ OwW w' u.heap.size v (nw0 E0 2) /\ Still u w' :=
 wnew_yes 2 7 8 6 std3 (some ⟨gl, 0, none⟩) 2 2 E0 [0, 2] u 0 (aw_q gl u) hl w0_cfg
theorem aw_cfg (gl : Nat) (u : World) (hl : RdI u (some ⟨gl, 0, none⟩) 2 2 [0, 2]) : Calls Tryz.prog 14 #[.agg #[.int .i64 2, .int .u64 7, .int .i64 8, .int .i64 6, .string std3, .slice (some ⟨gl, 0, none⟩) 2 2]] u fun e w' => e = .returned (.int .i64 0) /\ Still u w' :=
 wcfg_yes 2 7 8 6 std3 (some ⟨gl, 0, none⟩) 2 2 E0 [0, 2] u 0 (aw_q gl u) hl w0_cfg
theorem aw_chk (gl : Nat) (u : World) (hl : RdI u (some ⟨gl, 0, none⟩) 2 2 [0, 2]) (v : Value) (hv : RdW u v (frame E0 (nw0 E0 2) [y0]).w) : Calls Tryz.prog 17 #[.agg #[.int .i64 2, .int .u64 7, .int .i64 8, .int .i64 6, .string std3, .slice (some ⟨gl, 0, none⟩) 2 2], v] u fun e w' => e = .returned (.int .i64 0) /\ Still u w' := by
 have h := wchk_yes 2 7 8 6 std3 (some ⟨gl, 0, none⟩) 2 2 E0 [0, 2] u 0 (aw_q gl u) hl w0_cfg _ v hv
 rw [show chkW ((2 : Nat) : Int) E0 (frame E0 (nw0 E0 2) [y0]).w = 0 from chkW_yes w0_fits1] at h
 exact h
theorem stE_zero {p v0 : Int} {E : Env} {l : List Int} {W : Wd} {cs : List Cm} (hc : CfgP p v0 E.st.length l) (hF : Fits p E W) (hm : W.fr ≠ 1099511627776) (hO : Ordr p (W.fr + 1) cs) : stE p v0 E l W cs = 0 := by
 unfold stE
 rw [if_neg (not_not_intro hc), if_neg (not_not_intro hF), if_neg hm, if_neg (not_not_intro hO)]
theorem aw_step (gl gx : Nat) (u : World) (ht : Tab u) (hd : DTab u) (hl : RdI u (some ⟨gl, 0, none⟩) 2 2 [0, 2]) (v : Value) (hv : RdW u v (nw0 E0 2)) (hx : RdG KX u (some ⟨gx, 0, none⟩) 1 [y0]) : Calls Tryz.prog 21 #[.agg #[.int .i64 2, .int .u64 7, .int .i64 8, .int .i64 6, .string std3, .slice (some ⟨gl, 0, none⟩) 2 2], v, .slice (some ⟨gx, 0, none⟩) 1 1] u fun e w' => StYes u w' E0 (nw0 E0 2) [y0] e :=
 (wStep_any 2 7 8 6 std3 (some ⟨gl, 0, none⟩) 2 2 E0 [0, 2] u 0 (aw_q gl u) (aw_p gl u ht hd) hl w0_cfg (by decide) (nw0 E0 2) v hv (some ⟨gx, 0, none⟩) 1 1 [y0] hx (by omega)).mono fun e w' h => h.1 (stE_zero w0_cfg w0_fits (by decide) w0_ord)
theorem aw_ref (gl gx : Nat) (u : World) (ht : Tab u) (hd : DTab u) (hl : RdI u (some ⟨gl, 0, none⟩) 2 2 [0, 2]) (hx : RdG KX u (some ⟨gx, 0, none⟩) 1 [y0]) : Calls Tryz.prog 23 #[.agg #[.int .i64 2, .int .u64 7, .int .i64 8, .int .i64 6, .string std3, .slice (some ⟨gl, 0, none⟩) 2 2], .int .i64 1, .slice (some ⟨gx, 0, none⟩) 1 1] u fun e w' => ∃ v, e = .returned (.tuple #[v, .int .i64 0]) /\ OwW w' u.heap.size v (frame E0 (nw0 E0 2) [y0]).w /\ Still u w' :=
 wref_one 2 7 8 6 std3 (some ⟨gl, 0, none⟩) 2 2 E0 [0, 2] u 0 (aw_q gl u) (aw_p gl u ht hd) hl w0_cfg (by decide) 1 1 7 9 0 0 w0_rgt gx 1 hx
set_option maxHeartbeats 8000000 in
theorem awake13_any (w : World) (ht : Tab w) (hd : DTab w) : Calls Tryz.prog 9 #[] w fun e w' => e = .returned (.bool true) /\ Still w w' := by
 have HSes := hid lses_any
 have HNew := hid aw_new
 have HCfg := hid aw_cfg
 have HChk := hid aw_chk
 have HStp := hid aw_step
 have HRef := hid aw_ref
 obtain ⟨S, eS⟩ : ∃ S, std3 = S := ⟨_, rfl⟩
 rw [eS] at HSes
 simp only [eS] at HNew HCfg HChk HStp HRef
 clear eS
 have HT := hid ht
 have HDt := hid hd
 clear ht hd
 have G1 := guard_pt
 have G2 := fun w => neq_pt_f (x := 26624) (y := 6144) (z := 26624) (u := 6144) ⟨rfl, rfl⟩ w
 have G3 := guard_nv
 have G4 := fun w => eql_nv_t ⟨8, 1, 9⟩ w
 go_enter Tryz.func9, Tryz.ntmps9
 go_wp2_with fail
 refine (HSes.out _).mono ?_
 rintro e w1 ⟨gl, rfl, hl, h1⟩
 have A1 := Still.alloc w1 (.cells #[.int .i64 2, .int .u64 7, .int .i64 8, .int .i64 6, .string S, .slice (some ⟨gl, 0, none⟩) 2 2] 27)
 have HP1 : Hid (Cfb (w1.alloc (.cells #[.int .i64 2, .int .u64 7, .int .i64 8, .int .i64 6, .string S, .slice (some ⟨gl, 0, none⟩) 2 2] 27)) w1.heap.size ⟨2, 7, 8, 6, S, .slice (some ⟨gl, 0, none⟩) 2 2⟩) := hid (newCf_cb w1 ⟨2, 7, 8, 6, S, .slice (some ⟨gl, 0, none⟩) 2 2⟩)
 have HL1 := hid (hl.still A1)
 have HS1 : Hid (Still w (w1.alloc (.cells #[.int .i64 2, .int .u64 7, .int .i64 8, .int .i64 6, .string S, .slice (some ⟨gl, 0, none⟩) 2 2] 27))) := hid (h1.trans A1)
 clear hl h1 A1
 obtain ⟨W1, eW1⟩ : ∃ X, w1.alloc (.cells #[.int .i64 2, .int .u64 7, .int .i64 8, .int .i64 6, .string S, .slice (some ⟨gl, 0, none⟩) 2 2] 27) = X := ⟨_, rfl⟩
 rw [eW1] at HP1 HL1 HS1
 obtain ⟨b1, eb1⟩ : ∃ k, w1.heap.size = k := ⟨_, rfl⟩
 rw [eb1] at HP1
 obtain ⟨c0, c1, c2, c3, c4, c5, cf⟩ := HP1.out.cells
 dsimp only at c0 c1 c2 c3 c4 c5
 go_wp2_with fail
 refine (HNew.out gl W1 HL1.out).mono ?_
 rintro e w2 ⟨u, rfl, hW, h2⟩
 have hV := OwW.rd hW (by decide) (by decide) (by decide) (by decide)
 obtain ⟨a, b, c, d, rfl, q1, q2, q3, q4⟩ := hW
 obtain ⟨gm, cm1, rfl, _, _⟩ := q1.head (by decide)
 obtain ⟨xb, yb, rfl, _⟩ := q2.slice
 obtain ⟨xc, yc, rfl, _⟩ := q3.slice
 obtain ⟨xd, yd, rfl, _⟩ := q4.slice
 simp only [show (nw0 E0 2).fr = 0 from rfl, show (nw0 E0 2).nx = 1 from rfl, show (nw0 E0 2).ms.length = 2 from rfl, show (nw0 E0 2).cs.length = 2 from rfl, show (nw0 E0 2).hs.length = 0 from rfl, show (nw0 E0 2).ks.length = 0 from rfl] at q1 hV ⊢
 have A2 := Still.alloc w2 (.cells (wdcs 0 1 (.slice (some ⟨gm, 0, none⟩) 2 cm1) (.slice xb 2 yb) (.slice xc 0 yc) (.slice xd 0 yd)) 34)
 have hs2 := h2.trans A2
 have HP2 := hid (HP1.out.still hs2)
 have HL2 := hid (HL1.out.still hs2)
 have HS2 := hid (HS1.out.trans hs2)
 have HV2 := hid (hV.still A2)
 have HM2 := hid (q1.still A2)
 have hN2 : Wdb (w2.alloc (.cells (wdcs 0 1 (.slice (some ⟨gm, 0, none⟩) 2 cm1) (.slice xb 2 yb) (.slice xc 0 yc) (.slice xd 0 yd)) 34)) w2.heap.size 0 1 (.slice (some ⟨gm, 0, none⟩) 2 cm1) (.slice xb 2 yb) (.slice xc 0 yc) (.slice xd 0 yd) := newWd_wb w2 0 1 _ _ _ _
 have HN2 := hid hN2
 clear hV q1 q2 q3 q4 A2 h2 hs2 hN2 c0 c1 c2 c3 c4 c5 cf eW1 eb1 HP1 HL1 HS1
 obtain ⟨W2, eW2⟩ : ∃ X, w2.alloc (.cells (wdcs 0 1 (.slice (some ⟨gm, 0, none⟩) 2 cm1) (.slice xb 2 yb) (.slice xc 0 yc) (.slice xd 0 yd)) 34) = X := ⟨_, rfl⟩
 rw [eW2] at HP2 HL2 HS2 HV2 HM2 HN2
 obtain ⟨b2, eb2⟩ : ∃ k, w2.heap.size = k := ⟨_, rfl⟩
 rw [eb2] at HN2
 obtain ⟨c0, c1, c2, c3, c4, c5, cf⟩ := HP2.out.cells
 dsimp only at c0 c1 c2 c3 c4 c5
 obtain ⟨d0, d1, d2, d3, d4, d5, df⟩ := HN2.out.cells
 obtain ⟨m0, m1, m2, m3, m4, m5, m6, m7, m8, m9, m10, m11, m12, mf⟩ := owM HM2.out (i := 1) (by decide)
 rw [show mm (nw0 E0 2).ms 1 = ⟨26624, 6144, 0, 0, 0, 0, 4, 100, 50, false, 0, 0, 0⟩ from w0_m1] at m0 m1 m2 m3 m4 m5 m6 m7 m8 m9 m10 m11 m12
 simp only [Nat.one_mul, Nat.reduceAdd] at m0 m1 m2 m3 m4 m5 m6 m7 m8 m9 m10 m11 m12
 have A3 := Still.alloc W2 (.cells (xcs y0) 68)
 have HP3 := hid (HP2.out.still A3)
 have HL3 := hid (HL2.out.still A3)
 have HS3 := hid (HS2.out.trans A3)
 have HV3 := hid (HV2.out.still A3)
 have HX3 := hid (rdX_one W2 y0)
 clear A3
 go_wp2_with fail
 refine (HStp.out gl _ _ (HT.out.still HS3.out) (HDt.out.still HS3.out) HL3.out _ HV3.out HX3.out).mono ?_
 rintro e w4 ⟨⟨u4, nv4, rfl, hW4, hn4⟩, h4⟩
 have hns := w0_ns
 have hsd := w0_sd
 have hml := w0_len
 have hfr := w0_fr
 have hcs := w0_cs
 have hhs := w0_hs
 have hks := w0_ks
 have hnx := w0_nx
 obtain ⟨G, eG⟩ : ∃ G, frame E0 (nw0 E0 2) [y0] = G := ⟨_, rfl⟩
 rw [eG] at hns hsd hml hfr hcs hhs hks hnx hW4 hn4
 simp only [eG] at HChk HRef
 clear eG
 have hV4 := OwW.rd hW4 (by omega) (by omega) (by omega) (by omega)
 obtain ⟨a, b, c, d, rfl, q1, q2, q3, q4⟩ := hW4
 obtain ⟨gm4, cm4, rfl, _, _⟩ := q1.head (by omega)
 obtain ⟨xb4, yb4, rfl, _⟩ := q2.slice
 obtain ⟨xc4, yc4, rfl, _⟩ := q3.slice
 obtain ⟨xd4, yd4, rfl, _⟩ := q4.slice
 rw [hns] at hn4
 obtain ⟨gn, cn, rfl, _, _⟩ := hn4.head (by decide)
 simp only [hfr, hnx, hml, hcs, hhs, hks, List.length_cons, List.length_nil, Nat.zero_add] at q1 hV4 hn4 ⊢
 have A4 := Still.alloc w4 (.cells (wdcs 1 1 (.slice (some ⟨gm4, 0, none⟩) 2 cm4) (.slice xb4 2 yb4) (.slice xc4 0 yc4) (.slice xd4 0 yd4)) 34)
 have hs4 := h4.trans A4
 have HP4 := hid (HP3.out.still hs4)
 have HL4 := hid (HL3.out.still hs4)
 have HS4 := hid (HS3.out.trans hs4)
 have HV4 := hid (hV4.still A4)
 have HM4 := hid (q1.still A4)
 have HNn4 := hid (hn4.still A4)
 have hN4 : Wdb (w4.alloc (.cells (wdcs 1 1 (.slice (some ⟨gm4, 0, none⟩) 2 cm4) (.slice xb4 2 yb4) (.slice xc4 0 yc4) (.slice xd4 0 yd4)) 34)) w4.heap.size 1 1 (.slice (some ⟨gm4, 0, none⟩) 2 cm4) (.slice xb4 2 yb4) (.slice xc4 0 yc4) (.slice xd4 0 yd4) := newWd_wb w4 1 1 _ _ _ _
 have HN4 := hid hN4
 have HSd := hid hsd
 have HMl := hid hml
 have HLs := hid (And.intro hcs (And.intro hhs (And.intro hks (And.intro hfr hnx))))
 clear hV4 q1 q2 q3 q4 hn4 A4 h4 hs4 hN4 c0 c1 c2 c3 c4 c5 cf d0 d1 d2 d3 d4 d5 df m0 m1 m2 m3 m4 m5 m6 m7 m8 m9 m10 m11 m12 mf eW2 eb2 HP3 HL3 HS3 HV3 HX3 HP2 HL2 HS2 HV2 HM2 HN2 hns hsd hml hfr hcs hhs hks hnx
 obtain ⟨W4, eW4⟩ : ∃ X, w4.alloc (.cells (wdcs 1 1 (.slice (some ⟨gm4, 0, none⟩) 2 cm4) (.slice xb4 2 yb4) (.slice xc4 0 yc4) (.slice xd4 0 yd4)) 34) = X := ⟨_, rfl⟩
 rw [eW4] at HP4 HL4 HS4 HV4 HM4 HNn4 HN4
 obtain ⟨b4, eb4⟩ : ∃ k, w4.heap.size = k := ⟨_, rfl⟩
 rw [eb4] at HN4
 obtain ⟨c0, c1, c2, c3, c4, c5, cf⟩ := HP4.out.cells
 dsimp only at c0 c1 c2 c3 c4 c5
 obtain ⟨d0, d1, d2, d3, d4, d5, df⟩ := HN4.out.cells
 obtain ⟨m0, m1, m2, m3, m4, m5, m6, m7, m8, m9, m10, m11, m12, mf⟩ := owM HM4.out (i := 1) (by rw [HMl.out]; omega)
 simp only [Nat.one_mul, Nat.reduceAdd, HSd.out] at m0 m1 m2 m3 m4 m5 m6 m7 m8 m9 m10 m11 m12
 have A5 := Still.alloc W4 (.cells (xcs y0) 68)
 have HP5 := hid (HP4.out.still A5)
 have HL5 := hid (HL4.out.still A5)
 have HS5 := hid (HS4.out.trans A5)
 have HV5 := hid (HV4.out.still A5)
 have HX5 := hid (rdX_one W4 y0)
 have HN5 := hid (HN4.out.still A5)
 have HM5 := hid (HNn4.out.still A5)
 clear A5
 go_wp2_with fail
 refine (HRef.out gl _ _ (HT.out.still HS5.out) (HDt.out.still HS5.out) HL5.out HX5.out).mono ?_
 rintro e w6 ⟨u6, rfl, hW6, h6⟩
 have hV6 := OwW.rd hW6 (by rw [HMl.out]; omega) (by rw [HLs.out.1]; omega) (by rw [HLs.out.2.1]; omega) (by rw [HLs.out.2.2.1]; omega)
 obtain ⟨a, b, c, d, rfl, q1, q2, q3, q4⟩ := hW6
 obtain ⟨gm6, cm6, rfl, _, _⟩ := q1.head (by rw [HMl.out]; omega)
 obtain ⟨xb6, yb6, rfl, _⟩ := q2.slice
 obtain ⟨xc6, yc6, rfl, _⟩ := q3.slice
 obtain ⟨xd6, yd6, rfl, _⟩ := q4.slice
 simp only [HMl.out, HLs.out.1, HLs.out.2.1, HLs.out.2.2.1, HLs.out.2.2.2.1, HLs.out.2.2.2.2] at hV6 ⊢
 have A6 := Still.alloc w6 (.cells (wdcs 1 1 (.slice (some ⟨gm6, 0, none⟩) 2 cm6) (.slice xb6 2 yb6) (.slice xc6 0 yc6) (.slice xd6 0 yd6)) 34)
 have hs6 := h6.trans A6
 have HP6 := hid (HP5.out.still hs6)
 have HL6 := hid (HL5.out.still hs6)
 have HS6 := hid (HS5.out.trans hs6)
 have HVa := hid (HV5.out.still hs6)
 have HVb := hid (hV6.still A6)
 have HN6 := hid (HN5.out.still hs6)
 have HM6 := hid (HM5.out.still hs6)
 have hN6 : Wdb (w6.alloc (.cells (wdcs 1 1 (.slice (some ⟨gm6, 0, none⟩) 2 cm6) (.slice xb6 2 yb6) (.slice xc6 0 yc6) (.slice xd6 0 yd6)) 34)) w6.heap.size 1 1 (.slice (some ⟨gm6, 0, none⟩) 2 cm6) (.slice xb6 2 yb6) (.slice xc6 0 yc6) (.slice xd6 0 yd6) := newWd_wb w6 1 1 _ _ _ _
 have HK6 := hid hN6
 clear hV6 q1 q2 q3 q4 A6 h6 hs6 hN6 c0 c1 c2 c3 c4 c5 cf d0 d1 d2 d3 d4 d5 df m0 m1 m2 m3 m4 m5 m6 m7 m8 m9 m10 m11 m12 mf eW4 eb4 HP5 HL5 HS5 HV5 HX5 HN5 HM5 HP4 HL4 HS4 HV4 HM4 HNn4 HN4
 obtain ⟨W6, eW6⟩ : ∃ X, w6.alloc (.cells (wdcs 1 1 (.slice (some ⟨gm6, 0, none⟩) 2 cm6) (.slice xb6 2 yb6) (.slice xc6 0 yc6) (.slice xd6 0 yd6)) 34) = X := ⟨_, rfl⟩
 rw [eW6] at HP6 HL6 HS6 HVa HVb HN6 HM6 HK6
 obtain ⟨b6, eb6⟩ : ∃ k, w6.heap.size = k := ⟨_, rfl⟩
 rw [eb6] at HK6
 obtain ⟨d0, d1, d2, d3, d4, d5, df⟩ := HN6.out.cells
 obtain ⟨f0, f1, f2, f3, f4, f5, ff⟩ := HK6.out.cells
 go_wp2_with fail
 refine (rsame_any G.w _ _ W6 HVa.out HVb.out).mono ?_
 rintro e w7 ⟨rfl, h7⟩
 have HP7 := hid (HP6.out.still h7)
 have HL7 := hid (HL6.out.still h7)
 have HS7 := hid (HS6.out.trans h7)
 have HV7 := hid (HVa.out.still h7)
 have HN7 := hid (HN6.out.still h7)
 have HM7 := hid (HM6.out.still h7)
 clear h7 d0 d1 d2 d3 d4 d5 df f0 f1 f2 f3 f4 f5 ff eW6 eb6 HP6 HL6 HS6 HVa HVb HN6 HM6 HK6
 obtain ⟨c0, c1, c2, c3, c4, c5, cf⟩ := HP7.out.cells
 dsimp only at c0 c1 c2 c3 c4 c5
 go_wp2_with fail
 refine (HCfg.out gl w7 HL7.out).mono ?_
 rintro e w8 ⟨rfl, h8⟩
 have HP8 := hid (HP7.out.still h8)
 have HL8 := hid (HL7.out.still h8)
 have HS8 := hid (HS7.out.trans h8)
 have HV8 := hid (HV7.out.still h8)
 have HN8 := hid (HN7.out.still h8)
 have HM8 := hid (HM7.out.still h8)
 clear h8 c0 c1 c2 c3 c4 c5 cf HP7 HL7 HS7 HV7 HN7 HM7
 obtain ⟨c0, c1, c2, c3, c4, c5, cf⟩ := HP8.out.cells
 dsimp only at c0 c1 c2 c3 c4 c5
 obtain ⟨d0, d1, d2, d3, d4, d5, df⟩ := HN8.out.cells
 go_wp2_with fail
 refine (HChk.out gl w8 HL8.out _ HV8.out).mono ?_
 rintro e w9 ⟨rfl, h9⟩
 have HS9 := hid (HS8.out.trans h9)
 obtain ⟨n0, n1, n2, nf⟩ := owN (HM8.out.still h9) (i := 0) (by decide)
 simp only [Nat.zero_mul, Nat.zero_add, List.getD_cons_zero] at n0 n1 n2
 clear h9 c0 c1 c2 c3 c4 c5 cf d0 d1 d2 d3 d4 d5 df HP8 HL8 HS8 HV8 HN8 HM8
 go_wp2_with fail
 go_ret
 exact ⟨rfl, HS9.out⟩
end Go.Proofs.YtmkcoigblnppgaaGreatDoor
namespace Go.Proofs.YtmkcoigblnppgaaGreatDoor
open Go.RowKit
open Pu Gp Ap Vp Np Za Ka Ja Ea Ha Hg Hi
set_option maxRecDepth 100000
abbrev envM (q C R : Int) (s : ByteArray) (v0 : Int) : Env := ⟨solB C R s, stV C s v0, spV C s v0, q⟩
theorem cfg_nat {p v0 : Int} {k : Nat} {l : List Int} (h : CfgP p v0 k l) : ∃ N : Nat, p = (N : Int) /\ 2 <= N /\ N <= 6 /\ N <= k := ⟨p.toNat, by have := h.1; omega, by have := h.1; omega, by have := h.2.1; omega, by have := h.2.2.2.1; have := h.1; omega⟩
end Go.Proofs.YtmkcoigblnppgaaGreatDoor
namespace Go.Proofs.YtmkcoigblnppgaaGreatDoor
open Go.RowKit
open Pu Gp Ap Vp Np Za Ka Ja Ea Ha Hg Hi
set_option maxRecDepth 100000
def WdO (w : World) (B g : Nat) (W : Wd) : Prop := ∃ a b c d, Wdb w g W.fr W.nx a b c d /\ OwG KM 56 w B a W.ms /\ OwG KC 58 w B b W.cs /\ OwG KS 60 w B c W.hs /\ OwG KQ 62 w B d W.ks
theorem WdO.still {w w' : World} {B g : Nat} {W : Wd} (h : WdO w B g W) (hs : Still w w') : WdO w' B g W := by
 obtain ⟨a, b, c, d, h0, h1, h2, h3, h4⟩ := h
 exact ⟨a, b, c, d, h0.still hs, h1.still hs, h2.still hs, h3.still hs, h4.still hs⟩
theorem WdO.oth {w : World} {B g k : Nat} {W : Wd} (h : WdO w B g W) (hk : Tyk w k 34) (hn : g ≠ k) (v0 v1 v2 v3 v4 v5 : Value) : WdO ((((((w.setCell ⟨k, 0, none⟩ v0).setCell ⟨k, 1, none⟩ v1).setCell ⟨k, 2, none⟩ v2).setCell ⟨k, 3, none⟩ v3).setCell ⟨k, 4, none⟩ v4).setCell ⟨k, 5, none⟩ v5) B g W := by
 obtain ⟨a, b, c, d, h0, h1, h2, h3, h4⟩ := h
 exact ⟨a, b, c, d, (((((h0.other hn).other hn).other hn).other hn).other hn).other hn, h1.set6 hk (by decide) _ _ _ _ _ _, h2.set6 hk (by decide) _ _ _ _ _ _, h3.set6 hk (by decide) _ _ _ _ _ _, h4.set6 hk (by decide) _ _ _ _ _ _⟩
theorem WdO.mk6 {w : World} {B g : Nat} {W : Wd} {f0 x0 : Int} {a0 b0 c0 d0 : Value} (hz : Wdb w g f0 x0 a0 b0 c0 d0) {fr nx : Int} (hf : W.fr = fr) (hn : W.nx = nx) {a b c d : Value} (h1 : OwG KM 56 w B a W.ms) (h2 : OwG KC 58 w B b W.cs) (h3 : OwG KS 60 w B c W.hs) (h4 : OwG KQ 62 w B d W.ks) : WdO ((((((w.setCell ⟨g, 0, none⟩ (.int .i64 fr)).setCell ⟨g, 1, none⟩ a).setCell ⟨g, 2, none⟩ b).setCell ⟨g, 3, none⟩ c).setCell ⟨g, 4, none⟩ d).setCell ⟨g, 5, none⟩ (.int .i64 nx)) B g W := by
 subst hf hn
 exact ⟨a, b, c, d, hz.put _ _ _ _ _ _, h1.set6 hz.ty (by decide) _ _ _ _ _ _, h2.set6 hz.ty (by decide) _ _ _ _ _ _, h3.set6 hz.ty (by decide) _ _ _ _ _ _, h4.set6 hz.ty (by decide) _ _ _ _ _ _⟩
theorem cfb_oth {w : World} {g k : Nat} {F : Cf} (h : Cfb w g F) (hn : g ≠ k) (v0 v1 v2 v3 v4 v5 : Value) : Cfb ((((((w.setCell ⟨k, 0, none⟩ v0).setCell ⟨k, 1, none⟩ v1).setCell ⟨k, 2, none⟩ v2).setCell ⟨k, 3, none⟩ v3).setCell ⟨k, 4, none⟩ v4).setCell ⟨k, 5, none⟩ v5) g F := by
 unfold Cfb at h ⊢
 rw [heap_setCell_other _ _ _ _ hn, heap_setCell_other _ _ _ _ hn, heap_setCell_other _ _ _ _ hn, heap_setCell_other _ _ _ _ hn, heap_setCell_other _ _ _ _ hn, heap_setCell_other _ _ _ _ hn]
 exact h
theorem good_len {N : Nat} {E : Env} {W : Wd} (h : Ha.Good N E W) (hN : N <= 6) : W.ms.length <= 281474976710656 /\ W.cs.length <= 281474976710656 /\ W.hs.length <= 281474976710656 /\ W.ks.length <= 281474976710656 :=
 ⟨by have := h.1.1; omega, by have := h.1.2.2.1; omega, by have := (flo_pw.1 h.2.1).1; omega, by have := (mayK_pw.1 h.2.2.2.1).2.1; omega⟩
def zWd : Wd := ⟨0, [], [], [], [], 0⟩
theorem rd_zWd (w : World) : RdW w (.agg (wdcs 0 0 (.slice none 0 0) (.slice none 0 0) (.slice none 0 0) (.slice none 0 0))) zWd := ⟨_, _, _, _, rfl, ⟨none, 0, rfl, by simp [zWd], fun _ => rfl, RdG.nil w none⟩, ⟨none, 0, rfl, by simp [zWd], fun _ => rfl, RdG.nil w none⟩, ⟨none, 0, rfl, by simp [zWd], fun _ => rfl, RdG.nil w none⟩, ⟨none, 0, rfl, by simp [zWd], fun _ => rfl, RdG.nil w none⟩⟩
set_option maxHeartbeats 4000000 in
theorem seeds_no (p q C R : Int) (s : ByteArray) (lo : Option Addr) (ln lc : Nat) (l : List Int) (sd : Int) (v0 : Int) (hv0 : ChkV C R s v0) (hc : ¬ CfgP p v0 (stV C s v0).length l) (xo : Option Addr) (n xcp : Nat) (w : World) (ht : Tab w) (hd : DTab w) (hr : RdI w lo ln lc l) :
  Calls Tryz.prog 7 #[.agg #[.int .i64 p, .int .u64 q, .int .i64 C, .int .i64 R, .string s, .slice lo ln lc], .int .u64 sd, .slice xo n xcp] w fun e w' => e = .returned (.bool true) /\ Still w w' := by
 have HN1 := hid (fun u (hu : Still w u) => wnew_no p q C R s lo ln lc (envM q C R s v0) l u v0 (q13_of ⟨p, q, C, R, s, .slice lo ln lc⟩ v0 hv0 u) (hr.still hu) hc)
 have HN2 := hid (fun u (hu : Still w u) => wnew_no p sd C R s lo ln lc (envM sd C R s v0) l u v0 (q13_of ⟨p, sd, C, R, s, .slice lo ln lc⟩ v0 hv0 u) (hr.still hu) hc)
 have A0 := Still.alloc w (.cells #[.int .i64 p, .int .u64 q, .int .i64 C, .int .i64 R, .string s, .slice lo ln lc] 27)
 have HS0 : Hid (Still w (w.alloc (.cells #[.int .i64 p, .int .u64 q, .int .i64 C, .int .i64 R, .string s, .slice lo ln lc] 27))) := hid A0
 have HP0 : Hid (Cfb (w.alloc (.cells #[.int .i64 p, .int .u64 q, .int .i64 C, .int .i64 R, .string s, .slice lo ln lc] 27)) w.heap.size ⟨p, q, C, R, s, .slice lo ln lc⟩) := hid (newCf_cb w ⟨p, q, C, R, s, .slice lo ln lc⟩)
 have HT := hid ht
 have HDt := hid hd
 clear A0 hr hc hv0 ht hd
 go_enter Tryz.func7, Tryz.ntmps7
 go_wp2_with fail
 refine (awake13_any _ (HT.out.still HS0.out) (HDt.out.still HS0.out)).mono ?_
 rintro e w1 ⟨rfl, h1⟩
 have HS1 := hid (HS0.out.trans h1)
 have HP1 := hid (HP0.out.still h1)
 clear h1 HS0 HP0
 obtain ⟨c0, c1, c2, c3, c4, c5, cf⟩ := HP1.out.cells
 dsimp only at c0 c1 c2 c3 c4 c5
 go_wp2_with fail
 refine (HN1.out w1 HS1.out).mono ?_
 rintro e w2 ⟨rfl, h2⟩
 have A2 := Still.alloc w2 (.cells (wdcs 0 0 (.slice none 0 0) (.slice none 0 0) (.slice none 0 0) (.slice none 0 0)) 34)
 have hs2 := h2.trans A2
 have HS2 := hid (HS1.out.trans hs2)
 have hP2 := HP1.out.still hs2
 clear c0 c1 c2 c3 c4 c5 cf h2 A2 hs2 HS1 HP1
 obtain ⟨c0, c1, c2, c3, c4, c5, cf⟩ := hP2.cells
 dsimp only at c0 c1 c2 c3 c4 c5
 go_wp2_with fail
 refine (HN2.out _ (HS2.out.trans (Still.alloc _ _))).mono ?_
 rintro e w4 ⟨rfl, h4⟩
 have HS4 := hid ((HS2.out.trans (Still.alloc _ _)).trans h4)
 clear c0 c1 c2 c3 c4 c5 cf h4 hP2 HS2
 go_wp2_with fail
 go_ret
 exact ⟨rfl, HS4.out.trans (Still.alloc _ _)⟩
def SdI (w wr : World) (b3 b8 b10 b11 : Nat) (N : Nat) (E : Env) (F F' : Cf) (i : Nat) : Prop := ∃ W : Wd, W.fr = (i : Int) /\ Ha.Good N E W /\ WdO wr w.heap.size b8 W /\ WdO wr w.heap.size b11 W /\ Cfb wr b3 F /\ Cfb wr b10 F' /\ Still w wr
set_option maxHeartbeats 16000000 in
theorem seeds_yes (N : Nat) (q C R : Int) (s : ByteArray) (lo : Option Addr) (ln lc : Nat) (l : List Int) (sd : Int) (v0 : Int) (hv0 : ChkV C R s v0) (hc : CfgP (N : Int) v0 (stV C s v0).length l) (hz : s.size <= 281474976710656) (xo : Option Addr) (n xcp : Nat) (L : List Cm) (g47 : 56 * n <= 140737488351232) (w : World) (ht : Tab w) (hd : DTab w) (hr : RdI w lo ln lc l) (hx : RdG KX w xo n L) :
  Calls Tryz.prog 7 #[.agg #[.int .i64 (N : Int), .int .u64 q, .int .i64 C, .int .i64 R, .string s, .slice lo ln lc], .int .u64 sd, .slice xo n xcp] w fun e w' => e = .returned (.bool true) /\ Still w w' := by
 have h16 := spV_few hv0
 have hN6 : N <= 6 := by have := hc.2.1; omega
 have HN1 := hid (fun u (hu : Still w u) => wnew_yes N q C R s lo ln lc (envM q C R s v0) l u v0 (q13_of ⟨(N : Int), q, C, R, s, .slice lo ln lc⟩ v0 hv0 u) (hr.still hu) hc)
 have HN2 := hid (fun u (hu : Still w u) => wnew_yes N sd C R s lo ln lc (envM sd C R s v0) l u v0 (q13_of ⟨(N : Int), sd, C, R, s, .slice lo ln lc⟩ v0 hv0 u) (hr.still hu) hc)
 have HT1 := hid (fun u (hu : Still w u) W v (hv : RdW u v W) xo n xcp cs (hx : RdG KX u xo n cs) (h47 : (n + 300) * 24 <= 140737488355328) => wStep_any N q C R s lo ln lc (envM q C R s v0) l u v0 (q13_of ⟨(N : Int), q, C, R, s, .slice lo ln lc⟩ v0 hv0 u) (p13_of ⟨(N : Int), q, C, R, s, .slice lo ln lc⟩ hz _ _ u (ht.still hu) (hd.still hu)) (hr.still hu) hc h16 W v hv xo n xcp cs hx h47)
 have HT2 := hid (fun u (hu : Still w u) W v (hv : RdW u v W) xo n xcp cs (hx : RdG KX u xo n cs) (h47 : (n + 300) * 24 <= 140737488355328) => wStep_any N sd C R s lo ln lc (envM sd C R s v0) l u v0 (q13_of ⟨(N : Int), sd, C, R, s, .slice lo ln lc⟩ v0 hv0 u) (p13_of ⟨(N : Int), sd, C, R, s, .slice lo ln lc⟩ hz _ _ u (ht.still hu) (hd.still hu)) (hr.still hu) hc h16 W v hv xo n xcp cs hx h47)
 have HSe : Hid (∀ W cs, stE (N : Int) v0 (envM sd C R s v0) l W cs = stE (N : Int) v0 (envM q C R s v0) l W cs) := hid (fun _ _ => rfl)
 have HFe : Hid (∀ (W : Wd) cs, (W.fr + 1) % 16 ≠ 0 -> frame (envM sd C R s v0) W cs = frame (envM q C R s v0) W cs) := hid (fun W cs h => frame_seed h)
 have HGd : Hid (∀ W cs, stE (N : Int) v0 (envM q C R s v0) l W cs = 0 -> ∀ y ∈ cs, Rgt N y) := hid (fun W cs h => by
  unfold stE at h
  rw [if_neg (not_not_intro hc)] at h
  split at h
  ·cases h
  split at h
  ·cases h
  split at h
  ·cases h
  rename_i hO
  exact ordr_rgt (Classical.not_not.1 hO))
 have HG0 : Hid (Ha.Good N (envM q C R s v0) (nw0 (envM q C R s v0) N)) := hid (good_nw0 h16)
 have HNw : Hid (nw0 (envM sd C R s v0) N = nw0 (envM q C R s v0) N) := hid rfl
 obtain ⟨E, eE⟩ : ∃ E, envM q C R s v0 = E := ⟨_, rfl⟩
 obtain ⟨E', eE'⟩ : ∃ E, envM sd C R s v0 = E := ⟨_, rfl⟩
 rw [eE] at HN1 HT1 HSe HFe HGd HG0 HNw
 rw [eE'] at HN2 HT2 HSe HFe HNw
 rw [HNw.out] at HN2
 clear eE eE'
 have HT := hid ht
 have HDt := hid hd
 have HX := hid hx
 have HR := hid hr
 clear hv0 hc hz h16 hr ht hd hx
 have A0 := Still.alloc w (.cells #[.int .i64 (N : Int), .int .u64 q, .int .i64 C, .int .i64 R, .string s, .slice lo ln lc] 27)
 have HS0 : Hid (Still w (w.alloc (.cells #[.int .i64 (N : Int), .int .u64 q, .int .i64 C, .int .i64 R, .string s, .slice lo ln lc] 27))) := hid A0
 have HP0 : Hid (Cfb (w.alloc (.cells #[.int .i64 (N : Int), .int .u64 q, .int .i64 C, .int .i64 R, .string s, .slice lo ln lc] 27)) w.heap.size ⟨(N : Int), q, C, R, s, .slice lo ln lc⟩) := hid (newCf_cb w ⟨(N : Int), q, C, R, s, .slice lo ln lc⟩)
 clear A0
 go_enter Tryz.func7, Tryz.ntmps7
 go_wp2_with fail
 refine (awake13_any _ (HT.out.still HS0.out) (HDt.out.still HS0.out)).mono ?_
 rintro e w1 ⟨rfl, h1⟩
 have HS1 := hid (HS0.out.trans h1)
 have HP1 := hid (HP0.out.still h1)
 clear h1 HS0 HP0
 obtain ⟨c0, c1, c2, c3, c4, c5, cf⟩ := HP1.out.cells
 dsimp only at c0 c1 c2 c3 c4 c5
 go_wp2_with fail
 refine (HN1.out w1 HS1.out).mono ?_
 rintro e w2 ⟨u, rfl, hW, h2⟩
 obtain ⟨Wn, eWn⟩ : ∃ W, nw0 E N = W := ⟨_, rfl⟩
 have HWn : Hid (Wn.fr = ((0 : Nat) : Int)) := hid (by rw [<- eWn]; rfl)
 rw [eWn] at hW HN2 HG0
 clear eWn
 obtain ⟨a, b, c, d, rfl, q1, q2, q3, q4⟩ := hW
 obtain ⟨z2a, c2a, rfl, _⟩ := q1.slice
 obtain ⟨z2b, c2b, rfl, _⟩ := q2.slice
 obtain ⟨z2c, c2c, rfl, _⟩ := q3.slice
 obtain ⟨z2d, c2d, rfl, _⟩ := q4.slice
 obtain ⟨k1, e1⟩ : ∃ k, Wn.ms.length = k := ⟨_, rfl⟩
 obtain ⟨k2, e2⟩ : ∃ k, Wn.cs.length = k := ⟨_, rfl⟩
 obtain ⟨k3, e3⟩ : ∃ k, Wn.hs.length = k := ⟨_, rfl⟩
 obtain ⟨k4, e4⟩ : ∃ k, Wn.ks.length = k := ⟨_, rfl⟩
 obtain ⟨fr, e5⟩ : ∃ k, Wn.fr = k := ⟨_, rfl⟩
 obtain ⟨nx, e6⟩ : ∃ k, Wn.nx = k := ⟨_, rfl⟩
 have HE := hid (And.intro e1 (And.intro e2 (And.intro e3 (And.intro e4 (And.intro e5 e6)))))
 rw [e1, e2, e3, e4, e5, e6]
 rw [e1] at q1
 rw [e2] at q2
 rw [e3] at q3
 rw [e4] at q4
 clear e1 e2 e3 e4 e5 e6
 have A2 := Still.alloc w2 (.cells (wdcs fr nx (.slice z2a k1 c2a) (.slice z2b k2 c2b) (.slice z2c k3 c2c) (.slice z2d k4 c2d)) 34)
 have A3 := Still.alloc (w2.alloc (.cells (wdcs fr nx (.slice z2a k1 c2a) (.slice z2b k2 c2b) (.slice z2c k3 c2c) (.slice z2d k4 c2d)) 34)) (.cells #[.int .i64 (N : Int), .int .u64 sd, .int .i64 C, .int .i64 R, .string s, .slice lo ln lc] 27)
 have hs3 := (h2.trans A2).trans A3
 have HS3 := hid (HS1.out.trans hs3)
 have HP3 := hid (HP1.out.still hs3)
 have HP10 : Hid (Cfb ((w2.alloc (.cells (wdcs fr nx (.slice z2a k1 c2a) (.slice z2b k2 c2b) (.slice z2c k3 c2c) (.slice z2d k4 c2d)) 34)).alloc (.cells #[.int .i64 (N : Int), .int .u64 sd, .int .i64 C, .int .i64 R, .string s, .slice lo ln lc] 27)) (w2.heap.size + 1) ⟨(N : Int), sd, C, R, s, .slice lo ln lc⟩) := hid (by
  have := newCf_cb (w2.alloc (.cells (wdcs fr nx (.slice z2a k1 c2a) (.slice z2b k2 c2b) (.slice z2c k3 c2c) (.slice z2d k4 c2d)) 34)) ⟨(N : Int), sd, C, R, s, .slice lo ln lc⟩
  rw [size_alloc] at this
  exact this)
 have HB1 := hid HS1.out.size
 have HW8 : Hid (WdO ((w2.alloc (.cells (wdcs fr nx (.slice z2a k1 c2a) (.slice z2b k2 c2b) (.slice z2c k3 c2c) (.slice z2d k4 c2d)) 34)).alloc (.cells #[.int .i64 (N : Int), .int .u64 sd, .int .i64 C, .int .i64 R, .string s, .slice lo ln lc] 27)) w.heap.size w2.heap.size Wn) := hid (WdO.still (by
  refine ⟨_, _, _, _, ?_, (q1.still A2).less HB1.out, (q2.still A2).less HB1.out, (q3.still A2).less HB1.out, (q4.still A2).less HB1.out⟩
  rw [HE.out.2.2.2.2.1, HE.out.2.2.2.2.2]
  exact newWd_wb w2 fr nx _ _ _ _) A3)
 have HL3 := hid (show w.heap.size < w2.heap.size from Nat.lt_of_lt_of_le (block_lt HP1.out) h2.size)
 have hP2 := HP1.out.still (h2.trans A2)
 clear q1 q2 q3 q4 A2 A3 hs3 h2 c0 c1 c2 c3 c4 c5 cf HS1 HP1
 obtain ⟨c0, c1, c2, c3, c4, c5, cf⟩ := hP2.cells
 dsimp only at c0 c1 c2 c3 c4 c5
 clear hP2
 go_wp2_with fail
 refine (HN2.out _ HS3.out).mono ?_
 rintro e w4 ⟨u, rfl, hW, h4⟩
 obtain ⟨a, b, c, d, rfl, q1, q2, q3, q4⟩ := hW
 obtain ⟨z4a, c4a, rfl, _⟩ := q1.slice
 obtain ⟨z4b, c4b, rfl, _⟩ := q2.slice
 obtain ⟨z4c, c4c, rfl, _⟩ := q3.slice
 obtain ⟨z4d, c4d, rfl, _⟩ := q4.slice
 rw [HE.out.1] at q1 ⊢
 rw [HE.out.2.1] at q2 ⊢
 rw [HE.out.2.2.1] at q3 ⊢
 rw [HE.out.2.2.2.1] at q4 ⊢
 rw [HE.out.2.2.2.2.1, HE.out.2.2.2.2.2]
 have A5 := Still.alloc w4 (.cells (wdcs fr nx (.slice z4a k1 c4a) (.slice z4b k2 c4b) (.slice z4c k3 c4c) (.slice z4d k4 c4d)) 34)
 have hs5 := h4.trans A5
 have HB3 := hid HS3.out.size
 have HS5 := hid (HS3.out.trans hs5)
 have HP5 := hid (HP3.out.still hs5)
 have HP6 := hid (HP10.out.still hs5)
 have HW5 := hid (HW8.out.still hs5)
 have HW6 : Hid (WdO (w4.alloc (.cells (wdcs fr nx (.slice z4a k1 c4a) (.slice z4b k2 c4b) (.slice z4c k3 c4c) (.slice z4d k4 c4d)) 34)) w.heap.size w4.heap.size Wn) := hid (by
  refine ⟨_, _, _, _, ?_, (q1.still A5).less HB3.out, (q2.still A5).less HB3.out, (q3.still A5).less HB3.out, (q4.still A5).less HB3.out⟩
  rw [HE.out.2.2.2.2.1, HE.out.2.2.2.2.2]
  exact newWd_wb w4 fr nx _ _ _ _)
 have HL5 := hid (show w2.heap.size + 1 < w4.heap.size from Nat.lt_of_lt_of_le (block_lt HP10.out) h4.size)
 obtain ⟨W5, eW5⟩ : ∃ X, w4.alloc (.cells (wdcs fr nx (.slice z4a k1 c4a) (.slice z4b k2 c4b) (.slice z4c k3 c4c) (.slice z4d k4 c4d)) 34) = X := ⟨_, rfl⟩
 rw [eW5] at HS5 HP5 HP6 HW5 HW6
 clear q1 q2 q3 q4 A5 hs5 h4 c0 c1 c2 c3 c4 c5 cf HS3 HP3 HP10 HW8
 obtain ⟨b3, eb3⟩ : ∃ k, w.heap.size = k := ⟨_, rfl⟩
 obtain ⟨b8, eb8⟩ : ∃ k, w2.heap.size = k := ⟨_, rfl⟩
 obtain ⟨b10, eb10⟩ : ∃ k, b8 + 1 = k := ⟨_, rfl⟩
 obtain ⟨b11, eb11⟩ : ∃ k, w4.heap.size = k := ⟨_, rfl⟩
 rw [eb8] at HP6 HW5 HL3 HL5
 rw [eb10] at HP6 HL5
 rw [eb11] at HW6 HL5
 rw [eb3] at HP5
 have HBs := hid (show b3 < b8 /\ b8 < b10 /\ b10 < b11 /\ w.heap.size = b3 by have := HL3.out; have := HL5.out; omega)
 go_wp2_with fail
 clear eW5 eb3 eb8 eb10 eb11
 go_loopw [13] (fun x13 wr => ∃ i : Nat, i <= 15 /\ x13 = .int .i64 (i : Int) /\ SdI w wr b3 b8 b10 b11 N E ⟨(N : Int), q, C, R, s, .slice lo ln lc⟩ ⟨(N : Int), sd, C, R, s, .slice lo ln lc⟩ i) (fun x13 _ => 15 - (intOf x13).toNat)
 case atStart => exact ⟨0, by omega, rfl, Wn, HWn.out, HG0.out, HW5.out, HW6.out, HP5.out, HP6.out, HS5.out⟩
 case round =>
  obtain ⟨i, hi, rfl, W, hfr, hG, ho8, ho11, hp3, hp10, hs⟩ := hrel
  have HS := hid hs
  by_cases hin : i < 15
  rotate_left
  ·have hge : ¬ (i : Int) < 15 := by omega
   clear hs ho8 ho11 hp3 hp10 hG hfr
   go_wp2_with fail
   go_ret
   exact ⟨rfl, HS.out⟩
  have hlt : (i : Int) < 15 := by omega
  obtain ⟨b8a, b8b, b8c, b8d, hb8, p1, p2, p3, p4⟩ := ho8
  obtain ⟨b9a, b9b, b9c, b9d, hb11, r1, r2, r3, r4⟩ := ho11
  obtain ⟨gl1, gl2, gl3, gl4⟩ := good_len hG hN6
  have hv8 := OwW.rd (show OwW wr w.heap.size _ W from ⟨b8a, b8b, b8c, b8d, rfl, p1, p2, p3, p4⟩) gl1 gl2 gl3 gl4
  have hv11 := OwW.rd (show OwW wr w.heap.size _ W from ⟨b9a, b9b, b9c, b9d, rfl, r1, r2, r3, r4⟩) gl1 gl2 gl3 gl4
  obtain ⟨x1a, x1b, rfl, _⟩ := p1.slice
  obtain ⟨x2a, x2b, rfl, _⟩ := p2.slice
  obtain ⟨x3a, x3b, rfl, _⟩ := p3.slice
  obtain ⟨x4a, x4b, rfl, _⟩ := p4.slice
  obtain ⟨y1a, y1b, rfl, _⟩ := r1.slice
  obtain ⟨y2a, y2b, rfl, _⟩ := r2.slice
  obtain ⟨y3a, y3b, rfl, _⟩ := r3.slice
  obtain ⟨y4a, y4b, rfl, _⟩ := r4.slice
  obtain ⟨m1, em1⟩ : ∃ k, W.ms.length = k := ⟨_, rfl⟩
  obtain ⟨m2, em2⟩ : ∃ k, W.cs.length = k := ⟨_, rfl⟩
  obtain ⟨m3, em3⟩ : ∃ k, W.hs.length = k := ⟨_, rfl⟩
  obtain ⟨m4, em4⟩ : ∃ k, W.ks.length = k := ⟨_, rfl⟩
  obtain ⟨nxw, enx⟩ : ∃ k, W.nx = k := ⟨_, rfl⟩
  rw [em1, em2, em3, em4, enx, hfr] at hv8 hv11 hb8 hb11
  have hcl : (ofC L ((i : Int) + 1)).length <= n := by
   rw [(ofC_perm L _).length_eq, <- HX.out.1]
   exact List.length_filter_le _ _
  have HSQ : Hid (∃ se, stE (N : Int) v0 E l W (ofC L ((i : Int) + 1)) = se) := hid ⟨_, rfl⟩
  obtain ⟨cs, ecs⟩ : ∃ k, ofC L ((i : Int) + 1) = k := ⟨_, rfl⟩
  obtain ⟨se, ese⟩ : ∃ k, stE (N : Int) v0 E l W cs = k := ⟨_, rfl⟩
  have ese' := (HSe.out W cs).trans ese
  have HOf := hid (rof_any L ((i : Int) + 1) xo n xcp (by omega) wr (HX.out.still hs))
  rw [ecs] at HOf hcl
  obtain ⟨m5, em5⟩ : ∃ k, cs.length = k := ⟨_, rfl⟩
  rw [em5] at hcl
  have HT1' := hid (fun u (hu : Still w u) v (hv : RdW u v W) xo xcp (hx : RdG KX u xo m5 cs) => HT1.out u hu W v hv xo m5 xcp cs hx (by omega))
  have HT2' := hid (fun u (hu : Still w u) v (hv : RdW u v W) xo xcp (hx : RdG KX u xo m5 cs) => HT2.out u hu W v hv xo m5 xcp cs hx (by omega))
  rw [ese] at HT1'
  rw [ese'] at HT2'
  have HM5 := hid em5
  have H48 : Hid (cs.length <= 281474976710656) := hid (by omega)
  have HV8 := hid hv8
  have HV11 := hid hv11
  have HB8 := hid hb8
  have HB11 := hid hb11
  have HP3 := hid hp3
  have HP10 := hid hp10
  have HGd' := hid (HGd.out W cs)
  rw [ese] at HGd'
  have HG := hid hG
  have HFr := hid hfr
  have HFe' := hid (HFe.out W cs (by rw [hfr]; omega))
  clear hv8 hv11 hb8 hb11 hp3 hp10 p1 p2 p3 p4 r1 r2 r3 r4 em1 em2 em3 em4 em5 enx ecs ese ese' hs hG hfr gl1 gl2 gl3 gl4 HSQ
  obtain ⟨d0, d1, d2, d3, d4, d5, df⟩ := HB8.out.cells
  go_wp2_with fail
  refine HOf.out.mono ?_
  rintro e w5 ⟨v5, rfl, ox, h5⟩
  obtain ⟨xo5, xc5, hv5, _⟩ := ox.slice
  rw [HM5.out] at hv5
  subst hv5
  have HX5 := hid (show RdG KX w5 xo5 m5 cs by have h := owG_rd ox H48.out; rw [HM5.out] at h; exact h)
  have HS5 := hid (HS.out.trans h5)
  have HV8' := hid (HV8.out.still h5)
  have HV11' := hid (HV11.out.still h5)
  have HB8' := hid (HB8.out.still h5)
  have HB11' := hid (HB11.out.still h5)
  have HP3' := hid (HP3.out.still h5)
  have HP10' := hid (HP10.out.still h5)
  clear ox h5 d0 d1 d2 d3 d4 d5 df HS HV8 HV11 HB8 HB11 HP3 HP10 HOf
  obtain ⟨d0, d1, d2, d3, d4, d5, df⟩ := HB8'.out.cells
  obtain ⟨c0, c1, c2, c3, c4, c5, cf⟩ := HP3'.out.cells
  dsimp only at c0 c1 c2 c3 c4 c5
  go_wp2_with fail
  refine (HT1'.out w5 HS5.out _ HV8'.out xo5 xc5 HX5.out).mono ?_
  rintro e w6 hq1
  by_cases hse : se = 0
  rotate_left
  ·have hne : (se != 0) = true := by simpa using hse
   have heq : (se != se) = false := by simp
   obtain ⟨rfl, h6⟩ := hq1.2 hse
   have A7 := Still.alloc w6 (.cells (wdcs 0 0 (.slice none 0 0) (.slice none 0 0) (.slice none 0 0) (.slice none 0 0)) 34)
   have h7 := h6.trans A7
   have HS7 := hid (HS5.out.trans h7)
   have HX7 := hid (HX5.out.still h7)
   have HV7 := hid (HV11'.out.still h7)
   have HB7 := hid (HB11'.out.still h7)
   have HP7 := hid (HP10'.out.still h7)
   have HZ7 := hid (newWd_wb w6 0 0 (.slice none 0 0) (.slice none 0 0) (.slice none 0 0) (.slice none 0 0))
   clear hq1 h6 A7 h7 d0 d1 d2 d3 d4 d5 df c0 c1 c2 c3 c4 c5 cf
   obtain ⟨d0, d1, d2, d3, d4, d5, df⟩ := HB7.out.cells
   obtain ⟨c0, c1, c2, c3, c4, c5, cf⟩ := HP7.out.cells
   dsimp only at c0 c1 c2 c3 c4 c5
   go_wp2_with fail
   refine (HT2'.out _ HS7.out _ HV7.out xo5 xc5 HX7.out).mono ?_
   rintro e w8 hq2
   obtain ⟨rfl, h8⟩ := hq2.2 hse
   have A9 := Still.alloc w8 (.cells (wdcs 0 0 (.slice none 0 0) (.slice none 0 0) (.slice none 0 0) (.slice none 0 0)) 34)
   have HS9 := hid ((HS7.out.trans h8).trans A9)
   have hz1 := (HZ7.out.still h8).still A9
   have hz2 := newWd_wb w8 0 0 (.slice none 0 0) (.slice none 0 0) (.slice none 0 0) (.slice none 0 0)
   clear hq2 h8 A9 d0 d1 d2 d3 d4 d5 df c0 c1 c2 c3 c4 c5 cf hse
   obtain ⟨d0, d1, d2, d3, d4, d5, df⟩ := hz1.cells
   obtain ⟨f0, f1, f2, f3, f4, f5, ff⟩ := hz2.cells
   clear hz1 hz2
   go_wp2_with fail
   refine (rsame_any zWd _ _ _ (rd_zWd _) (rd_zWd _)).mono ?_
   rintro e w10 ⟨rfl, h10⟩
   have HS10 := hid (HS9.out.trans h10)
   clear h10 d0 d1 d2 d3 d4 d5 df f0 f1 f2 f3 f4 f5 ff
   go_wp2_with fail
   go_ret
   exact ⟨rfl, HS10.out⟩
  subst hse
  obtain ⟨⟨u6, nv6, rfl, hW6, hn6⟩, h6⟩ := hq1.1 rfl
  have hgf := good_frame hN6 HG.out (HGd'.out rfl)
  obtain ⟨G, eG⟩ : ∃ G, frame E W cs = G := ⟨_, rfl⟩
  rw [eG] at hgf hW6
  have HFq := HFe'.out.trans eG
  obtain ⟨hg1, hg2⟩ := hgf
  have HGg := hid hg1
  have HGf : Hid (G.w.fr = ((i + 1 : Nat) : Int)) := hid (by rw [hg2, HFr.out]; omega)
  obtain ⟨gl1, gl2, gl3, gl4⟩ := good_len hg1 hN6
  have hv6 := OwW.rd hW6 gl1 gl2 gl3 gl4
  have HGl := hid (And.intro gl1 (And.intro gl2 (And.intro gl3 gl4)))
  obtain ⟨a, b, c, d, rfl, q1, q2, q3, q4⟩ := hW6
  obtain ⟨z6a, c6a, rfl, _⟩ := q1.slice
  obtain ⟨z6b, c6b, rfl, _⟩ := q2.slice
  obtain ⟨z6c, c6c, rfl, _⟩ := q3.slice
  obtain ⟨z6d, c6d, rfl, _⟩ := q4.slice
  obtain ⟨zn, cn, rfl, _⟩ := hn6.slice
  obtain ⟨j1, ej1⟩ : ∃ k, G.w.ms.length = k := ⟨_, rfl⟩
  obtain ⟨j2, ej2⟩ : ∃ k, G.w.cs.length = k := ⟨_, rfl⟩
  obtain ⟨j3, ej3⟩ : ∃ k, G.w.hs.length = k := ⟨_, rfl⟩
  obtain ⟨j4, ej4⟩ : ∃ k, G.w.ks.length = k := ⟨_, rfl⟩
  obtain ⟨fr', ej5⟩ : ∃ k, G.w.fr = k := ⟨_, rfl⟩
  obtain ⟨nx', ej6⟩ : ∃ k, G.w.nx = k := ⟨_, rfl⟩
  have HJ := hid (And.intro ej1 (And.intro ej2 (And.intro ej3 (And.intro ej4 (And.intro ej5 ej6)))))
  rw [ej1, ej2, ej3, ej4, ej5, ej6] at hv6 ⊢
  rw [ej1] at q1
  rw [ej2] at q2
  rw [ej3] at q3
  rw [ej4] at q4
  have A7 := Still.alloc w6 (.cells (wdcs fr' nx' (.slice z6a j1 c6a) (.slice z6b j2 c6b) (.slice z6c j3 c6c) (.slice z6d j4 c6d)) 34)
  have h7 := h6.trans A7
  have HBs6 := hid HS5.out.size
  have HS7 := hid (HS5.out.trans h7)
  have HX7 := hid (HX5.out.still h7)
  have HV7 := hid (HV11'.out.still h7)
  have HB7 := hid (HB11'.out.still h7)
  have HB8b := hid (HB8'.out.still h7)
  have HP7 := hid (HP10'.out.still h7)
  have HP3b := hid (HP3'.out.still h7)
  have HY7 := hid (hv6.still A7)
  have K1 := hid ((q1.still A7).less HBs6.out)
  have K2 := hid ((q2.still A7).less HBs6.out)
  have K3 := hid ((q3.still A7).less HBs6.out)
  have K4 := hid ((q4.still A7).less HBs6.out)
  have HZ7 : Hid (Wdb (w6.alloc (.cells (wdcs fr' nx' (.slice z6a j1 c6a) (.slice z6b j2 c6b) (.slice z6c j3 c6c) (.slice z6d j4 c6d)) 34)) w6.heap.size fr' nx' (.slice z6a j1 c6a) (.slice z6b j2 c6b) (.slice z6c j3 c6c) (.slice z6d j4 c6d)) := hid (newWd_wb w6 fr' nx' _ _ _ _)
  have HNe1 := hid (show b11 < w6.heap.size from Nat.lt_of_lt_of_le (block_lt HB11'.out) h6.size)
  obtain ⟨W7, eW7⟩ : ∃ X, w6.alloc (.cells (wdcs fr' nx' (.slice z6a j1 c6a) (.slice z6b j2 c6b) (.slice z6c j3 c6c) (.slice z6d j4 c6d)) 34) = X := ⟨_, rfl⟩
  rw [eW7] at HS7 HX7 HV7 HB7 HB8b HP7 HP3b HY7 K1 K2 K3 K4 HZ7
  obtain ⟨b15, eb15⟩ : ∃ k, w6.heap.size = k := ⟨_, rfl⟩
  rw [eb15] at HZ7 HNe1
  clear hq1 h6 A7 h7 d0 d1 d2 d3 d4 d5 df c0 c1 c2 c3 c4 c5 cf q1 q2 q3 q4 hn6 hv6 hg1 hg2 ej1 ej2 ej3 ej4 ej5 ej6 gl1 gl2 gl3 gl4 HS5 HX5 HV8' HV11' HB8' HB11' HP3' HP10'
  obtain ⟨d0, d1, d2, d3, d4, d5, df⟩ := HB7.out.cells
  obtain ⟨c0, c1, c2, c3, c4, c5, cf⟩ := HP7.out.cells
  dsimp only at c0 c1 c2 c3 c4 c5
  go_wp2_with fail
  refine (HT2'.out _ HS7.out _ HV7.out xo5 xc5 HX7.out).mono ?_
  rintro e w8 hq2
  obtain ⟨⟨u8, nv8, rfl, hW8, hn8⟩, h8⟩ := hq2.1 rfl
  rw [HFq] at hW8 hn8
  have hv8 := OwW.rd hW8 HGl.out.1 HGl.out.2.1 HGl.out.2.2.1 HGl.out.2.2.2
  obtain ⟨a, b, c, d, rfl, q1, q2, q3, q4⟩ := hW8
  obtain ⟨z8a, c8a, rfl, _⟩ := q1.slice
  obtain ⟨z8b, c8b, rfl, _⟩ := q2.slice
  obtain ⟨z8c, c8c, rfl, _⟩ := q3.slice
  obtain ⟨z8d, c8d, rfl, _⟩ := q4.slice
  obtain ⟨zm, cm, rfl, _⟩ := hn8.slice
  rw [HJ.out.1, HJ.out.2.1, HJ.out.2.2.1, HJ.out.2.2.2.1, HJ.out.2.2.2.2.1, HJ.out.2.2.2.2.2] at hv8 ⊢
  rw [HJ.out.1] at q1
  rw [HJ.out.2.1] at q2
  rw [HJ.out.2.2.1] at q3
  rw [HJ.out.2.2.2.1] at q4
  have A9 := Still.alloc w8 (.cells (wdcs fr' nx' (.slice z8a j1 c8a) (.slice z8b j2 c8b) (.slice z8c j3 c8c) (.slice z8d j4 c8d)) 34)
  have h9 := h8.trans A9
  have HBs8 := hid HS7.out.size
  have HS9 := hid (HS7.out.trans h9)
  have HB9 := hid (HB7.out.still h9)
  have HB8c := hid (HB8b.out.still h9)
  have HP9 := hid (HP7.out.still h9)
  have HP3c := hid (HP3b.out.still h9)
  have HY9 := hid (HY7.out.still h9)
  have HZ9 := hid (HZ7.out.still h9)
  have M1 := hid (K1.out.still h9)
  have M2 := hid (K2.out.still h9)
  have M3 := hid (K3.out.still h9)
  have M4 := hid (K4.out.still h9)
  have N1 := hid ((q1.still A9).less HBs8.out)
  have N2 := hid ((q2.still A9).less HBs8.out)
  have N3 := hid ((q3.still A9).less HBs8.out)
  have N4 := hid ((q4.still A9).less HBs8.out)
  have HU9 := hid (hv8.still A9)
  have HK9 : Hid (Wdb (w8.alloc (.cells (wdcs fr' nx' (.slice z8a j1 c8a) (.slice z8b j2 c8b) (.slice z8c j3 c8c) (.slice z8d j4 c8d)) 34)) w8.heap.size fr' nx' (.slice z8a j1 c8a) (.slice z8b j2 c8b) (.slice z8c j3 c8c) (.slice z8d j4 c8d)) := hid (newWd_wb w8 fr' nx' _ _ _ _)
  have HNe2 := hid (show b15 < w8.heap.size from Nat.lt_of_lt_of_le (block_lt HZ7.out) h8.size)
  obtain ⟨W9, eW9⟩ : ∃ X, w8.alloc (.cells (wdcs fr' nx' (.slice z8a j1 c8a) (.slice z8b j2 c8b) (.slice z8c j3 c8c) (.slice z8d j4 c8d)) 34) = X := ⟨_, rfl⟩
  rw [eW9] at HS9 HB9 HB8c HP9 HP3c HY9 HZ9 M1 M2 M3 M4 N1 N2 N3 N4 HU9 HK9
  obtain ⟨b18, eb18⟩ : ∃ k, w8.heap.size = k := ⟨_, rfl⟩
  rw [eb18] at HK9 HNe2
  clear hq2 h8 A9 h9 d0 d1 d2 d3 d4 d5 df c0 c1 c2 c3 c4 c5 cf q1 q2 q3 q4 hn8 hv8 K1 K2 K3 K4 HS7 HX7 HV7 HB7 HB8b HP7 HP3b HY7 HZ7 eW7 eb15
  obtain ⟨d0, d1, d2, d3, d4, d5, df⟩ := HZ9.out.cells
  obtain ⟨f0, f1, f2, f3, f4, f5, ff⟩ := HK9.out.cells
  go_wp2_with fail
  refine (rsame_any G.w _ _ W9 HY9.out HU9.out).mono ?_
  rintro e w10 ⟨rfl, h10⟩
  have HSa := hid (HS9.out.trans h10)
  have HBa := hid (HB9.out.still h10)
  have HBb := hid (HB8c.out.still h10)
  have HPa := hid (HP9.out.still h10)
  have HPb := hid (HP3c.out.still h10)
  have HZa := hid (HZ9.out.still h10)
  have HKa := hid (HK9.out.still h10)
  have O1 := hid (M1.out.still h10)
  have O2 := hid (M2.out.still h10)
  have O3 := hid (M3.out.still h10)
  have O4 := hid (M4.out.still h10)
  have P1 := hid (N1.out.still h10)
  have P2 := hid (N2.out.still h10)
  have P3 := hid (N3.out.still h10)
  have P4 := hid (N4.out.still h10)
  clear h10 d0 d1 d2 d3 d4 d5 df f0 f1 f2 f3 f4 f5 ff eW9 eb18 HS9 HB9 HB8c HP9 HP3c HY9 HZ9 M1 M2 M3 M4 N1 N2 N3 N4 HU9 HK9
  have hn1 : b8 ≠ b15 := by have := HBs.out; have := HNe1.out; omega
  have hn2 : b8 ≠ b18 := by have := HBs.out; have := HNe1.out; have := HNe2.out; omega
  have hn3 : b11 ≠ b8 := by have := HBs.out; omega
  have hn4 : b3 ≠ b8 := by have := HBs.out; omega
  have hn5 : b10 ≠ b8 := by have := HBs.out; omega
  have hn6 : b3 ≠ b11 := by have := HBs.out; omega
  have hn7 : b10 ≠ b11 := by have := HBs.out; omega
  have hn8 : b8 ≠ b11 := fun e => hn3 e.symm
  have hn9 : b18 ≠ b8 := fun e => hn2 e.symm
  have e5 := HJ.out.2.2.2.2.1
  have e6 := HJ.out.2.2.2.2.2
  have HQ8 := hid (WdO.mk6 (W := G.w) HBb.out e5 e6 O1.out O2.out O3.out O4.out)
  have HQ11 := hid (((((((HBa.out.other (k := b8) (o := 0) (v := .int .i64 fr') hn3).other (k := b8) (o := 1) (v := .slice z6a j1 c6a) hn3).other (k := b8) (o := 2) (v := .slice z6b j2 c6b) hn3).other (k := b8) (o := 3) (v := .slice z6c j3 c6c) hn3).other (k := b8) (o := 4) (v := .slice z6d j4 c6d) hn3).other (k := b8) (o := 5) (v := .int .i64 nx') hn3))
  have HK18 := hid (((((((HKa.out.other (k := b8) (o := 0) (v := .int .i64 fr') hn9).other (k := b8) (o := 1) (v := .slice z6a j1 c6a) hn9).other (k := b8) (o := 2) (v := .slice z6b j2 c6b) hn9).other (k := b8) (o := 3) (v := .slice z6c j3 c6c) hn9).other (k := b8) (o := 4) (v := .slice z6d j4 c6d) hn9).other (k := b8) (o := 5) (v := .int .i64 nx') hn9))
  have ty8 := HBb.out.ty
  have R1 := hid (P1.out.set6 ty8 (by decide) (.int .i64 fr') (.slice z6a j1 c6a) (.slice z6b j2 c6b) (.slice z6c j3 c6c) (.slice z6d j4 c6d) (.int .i64 nx'))
  have R2 := hid (P2.out.set6 ty8 (by decide) (.int .i64 fr') (.slice z6a j1 c6a) (.slice z6b j2 c6b) (.slice z6c j3 c6c) (.slice z6d j4 c6d) (.int .i64 nx'))
  have R3 := hid (P3.out.set6 ty8 (by decide) (.int .i64 fr') (.slice z6a j1 c6a) (.slice z6b j2 c6b) (.slice z6c j3 c6c) (.slice z6d j4 c6d) (.int .i64 nx'))
  have R4 := hid (P4.out.set6 ty8 (by decide) (.int .i64 fr') (.slice z6a j1 c6a) (.slice z6b j2 c6b) (.slice z6c j3 c6c) (.slice z6d j4 c6d) (.int .i64 nx'))
  have HPc := hid (cfb_oth HPb.out hn4 (.int .i64 fr') (.slice z6a j1 c6a) (.slice z6b j2 c6b) (.slice z6c j3 c6c) (.slice z6d j4 c6d) (.int .i64 nx'))
  have HPd := hid (cfb_oth HPa.out hn5 (.int .i64 fr') (.slice z6a j1 c6a) (.slice z6b j2 c6b) (.slice z6c j3 c6c) (.slice z6d j4 c6d) (.int .i64 nx'))
  have HSb := hid (still_set6 HSa.out (g := b8) (by have := HBs.out; omega) (.int .i64 fr') (.slice z6a j1 c6a) (.slice z6b j2 c6b) (.slice z6c j3 c6c) (.slice z6d j4 c6d) (.int .i64 nx'))
  obtain ⟨g0, g1, g2, g3, g4, g5, gf⟩ := HBb.out.cells
  obtain ⟨d0, d1, d2, d3, d4, d5, df⟩ := HZa.out.cells
  obtain ⟨W10, eW10⟩ : ∃ X, ((((((w10.setCell ⟨b8, 0, none⟩ (.int .i64 fr')).setCell ⟨b8, 1, none⟩ (.slice z6a j1 c6a)).setCell ⟨b8, 2, none⟩ (.slice z6b j2 c6b)).setCell ⟨b8, 3, none⟩ (.slice z6c j3 c6c)).setCell ⟨b8, 4, none⟩ (.slice z6d j4 c6d)).setCell ⟨b8, 5, none⟩ (.int .i64 nx')) = X := ⟨_, rfl⟩
  rw [eW10] at HQ8 HQ11 HK18 R1 R2 R3 R4 HPc HPd HSb
  have ty11 := HQ11.out.ty
  have HQ8b := hid (HQ8.out.oth ty11 hn8 (.int .i64 fr') (.slice z8a j1 c8a) (.slice z8b j2 c8b) (.slice z8c j3 c8c) (.slice z8d j4 c8d) (.int .i64 nx'))
  have HQ11b := hid (WdO.mk6 (W := G.w) HQ11.out e5 e6 R1.out R2.out R3.out R4.out)
  have HPe := hid (cfb_oth HPc.out hn6 (.int .i64 fr') (.slice z8a j1 c8a) (.slice z8b j2 c8b) (.slice z8c j3 c8c) (.slice z8d j4 c8d) (.int .i64 nx'))
  have HPf := hid (cfb_oth HPd.out hn7 (.int .i64 fr') (.slice z8a j1 c8a) (.slice z8b j2 c8b) (.slice z8c j3 c8c) (.slice z8d j4 c8d) (.int .i64 nx'))
  have HSc := hid (still_set6 HSb.out (g := b11) (by have := HBs.out; omega) (.int .i64 fr') (.slice z8a j1 c8a) (.slice z8b j2 c8b) (.slice z8c j3 c8c) (.slice z8d j4 c8d) (.int .i64 nx'))
  obtain ⟨n0, n1, n2, n3, n4, n5, nf⟩ := HK18.out.cells
  obtain ⟨o0, o1, o2, o3, o4, o5, of⟩ := HQ11.out.cells
  clear e5 e6 ty8 ty11
  go_wp2_with fail
  go_roundw
  case rel => exact ⟨i + 1, by omega, by go_num, G.w, HGf.out, HGg.out, HQ8b.out, HQ11b.out, HPe.out, HPf.out, HSc.out⟩
  case measure => first | (simp [intOf]; done) | (simp [intOf]; omega)
theorem seeds_law (p q C R : Int) (s : ByteArray) (lo : Option Addr) (ln lc : Nat) (l : List Int) (hz : s.size <= 281474976710656) (sd : Int) (xo : Option Addr) (n xcp : Nat) (L : List Cm) (g47 : 56 * n <= 140737488351232) (w : World) (ht : Tab w) (hd : DTab w) (hr : RdI w lo ln lc l) (hx : RdG KX w xo n L) :
  Calls Tryz.prog 7 #[.agg #[.int .i64 p, .int .u64 q, .int .i64 C, .int .i64 R, .string s, .slice lo ln lc], .int .u64 sd, .slice xo n xcp] w fun e w' => e = .returned (.bool true) /\ Still w w' := by
 obtain ⟨v0, hv0⟩ := chkV_ex C R s w
 by_cases hc : CfgP p v0 (stV C s v0).length l
 ·obtain ⟨N, rfl, _⟩ := cfg_nat hc
  exact seeds_yes N q C R s lo ln lc l sd v0 hv0 hc hz xo n xcp L g47 w ht hd hr hx
 ·exact seeds_no p q C R s lo ln lc l sd v0 hv0 hc xo n xcp w ht hd hr
end Go.Proofs.YtmkcoigblnppgaaGreatDoor
