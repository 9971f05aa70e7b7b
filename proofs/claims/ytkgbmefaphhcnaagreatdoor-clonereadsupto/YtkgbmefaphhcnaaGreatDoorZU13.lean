/- Parts of the proof, laid end to end. -/
import Derived.Test.YtkgbmefaphhcnaaGreatDoorZU10
import Derived.Test.YtkgbmefaphhcnaaGreatDoorZU03
import Derived.Test.YtkgbmefaphhcnaaGreatDoorZU05
import Derived.Test.YtkgbmefaphhcnaaGreatDoorZU09
import Derived.Test.YtkgbmefaphhcnaaGreatDoorZU12
import Derived.Test.YtkgbmefaphhcnaaGreatDoorZU06
namespace Go.Proofs.YtkgbmefaphhcnaaGreatDoor
open Go.RowKit
open Np Za Ka Ja Ea Ha Wp
set_option maxRecDepth 100000
set_option linter.unusedVariables false
set_option linter.unusedSimpArgs false
def RF (q p : Nat) (k : Nat) : Prop := k = p \/ k = q
def Ub (w : World) (ao : Option Addr) : Prop := ∀ a, ao = some a -> ∃ cur, w.heap[a.block]? = some (.cells cur 5 (0, 0))
theorem Ub.ne {w : World} {ao : Option Addr} {g : Nat} {cs : Array Value} {t : TypeId} {z : Nat × Nat} (h : Ub w ao) (hg : w.heap[g]? = some (.cells cs t z)) (ht : t ≠ 5) : ∀ a, ao = some a -> a.block ≠ g := fun a ha e => by
 obtain ⟨cur, hc⟩ := h a ha
 rw [e, hg] at hc
 cases hc
 exact ht rfl
theorem Ub.kept {F : Nat -> Prop} {w w' : World} {ao : Option Addr} (h : Ub w ao) (hf : Fr F w w') (hn : ∀ a, ao = some a -> ¬ F a.block) : Ub w' ao := fun a ha => by
 obtain ⟨cur, hc⟩ := h a ha
 exact ⟨cur, hf.kept hc (hn a ha)⟩
structure Rc (w : World) (q p : Nat) (s : Rs) : Prop where
 box : w.heap[q]? = some (.cells #[.pointer (some ⟨p, 0, none⟩), .bool s.y] 118 (0, 0))
 rd : ∃ ao n cap, Rr w p ao n cap s.bs s.e /\ Ub w ao
 nq : q ≠ p
theorem Rc.still {w w' : World} {q p : Nat} {s : Rs} (h : Rc w q p s) (hs : Still w w') : Rc w' q p s := by
 obtain ⟨ao, n, cap, h1, h2⟩ := h.rd
 exact ⟨hs.kept_still h.box, ⟨ao, n, cap, h1.still hs, h2.kept hs (fun _ _ e => e)⟩, h.nq⟩
theorem Rc.ptr {w : World} {q p : Nat} {s : Rs} (h : Rc w q p s) : w.cell? ⟨q, 0, none⟩ = some (.pointer (some ⟨p, 0, none⟩)) := by rw [cell_of_row _ _ _ _ _ _ h.box]; rfl
theorem Rc.spo {w : World} {q p : Nat} {s : Rs} (h : Rc w q p s) : w.cell? ⟨q, 1, none⟩ = some (.bool s.y) := by rw [cell_of_row _ _ _ _ _ _ h.box]; rfl
theorem Rc.fro {w : World} {q p : Nat} {s : Rs} (h : Rc w q p s) : w.frozen? ⟨q, 1, none⟩ = false := frozen_of_row w q 1 _ _ h.box
theorem Rc.lt {w : World} {q p : Nat} {s : Rs} (h : Rc w q p s) : q < w.heap.size /\ p < w.heap.size := by
 obtain ⟨ao, n, cap, h1, _⟩ := h.rd
 exact ⟨block_lt h.box, block_lt h1.blk⟩
theorem Rc.put {w V : World} {q p g : Nat} {s : Rs} {cs : Array Value} {t : TypeId} {z : Nat × Nat} (h : Rc w q p s) (hn : ¬ RF q p g) (hg : w.heap[g]? = some (.cells cs t z)) (ht : t ≠ 5) (hf : Fr (fun k => k = g) w V) : Rc V q p s := by
 obtain ⟨ao, n, cap, h1, h2⟩ := h.rd
 exact ⟨hf.kept h.box (fun e => hn (.inr e.symm)), ⟨ao, n, cap, h1.kept hf (fun e => hn (.inl e.symm)) (fun a ha _ => h2.ne hg ht a ha), h2.kept hf (h2.ne hg ht)⟩, h.nq⟩
structure Tc (w w' : World) (q p : Nat) (s : Rs) : Prop where
 r : Rc w' q p s
 f : Fr (RF q p) w w'
theorem Tc.trans {w w1 w2 : World} {q p : Nat} {s s2 : Rs} (h : Tc w w1 q p s) (k : Tc w1 w2 q p s2) : Tc w w2 q p s2 := ⟨k.r, h.f.trans k.f (fun _ _ h => h)⟩
theorem Tc.still {w w1 w2 : World} {q p : Nat} {s : Rs} (h : Tc w w1 q p s) (k : Still w1 w2) : Tc w w2 q p s := ⟨h.r.still k, h.f.trans k (fun _ _ e => e.elim)⟩
theorem Tc.same {w w' : World} {q p : Nat} {s : Rs} (h : Rc w q p s) (hs : Still w w') : Tc w w' q p s := ⟨h.still hs, Still.to hs⟩
theorem Tc.of {w w' : World} {q p : Nat} {s : Rs} {ao : Option Addr} {bs : List UInt8} {e : Int} (h : Rc w q p s) (ha : Ub w ao) (hp : ∃ cs, w.heap[p]? = some (.cells cs 163 (0, 0))) (k : Took w w' p ao bs e) : Tc w w' q p ⟨bs, e, s.y⟩ := by
 obtain ⟨ao', n', cap', h1, h2, h3⟩ := k
 refine ⟨⟨h2.kept h.box h.nq, ⟨ao', n', cap', h1, fun a hb => ?_⟩, h.nq⟩, h2.mono fun k _ e => .inl e⟩
 obtain ⟨b, hb1, hb2⟩ := h3 a hb
 obtain ⟨cs, hp⟩ := hp
 obtain ⟨cur, hc⟩ := ha.kept h2 (ha.ne hp (by decide)) b hb1
 exact ⟨cur, by rw [<- hb2]; exact hc⟩
theorem Tc.fin {w W u V : World} {q p g : Nat} {s : Rs} {cs : Array Value} {t : TypeId} {z : Nat × Nat} (hA : Still w W) (hT : Tc W u q p s) (hg : u.heap[g]? = some (.cells cs t z)) (ht : t ≠ 5) (hn : ¬ RF q p g) (hge : w.heap.size <= g) (hf : Fr (fun k => k = g) u V) : Tc w V q p s :=
 ⟨hT.r.put hn hg ht hf, ((Still.to hA).trans hT.f (fun _ _ h => h)).trans hf (fun k hk e => by omega)⟩
theorem zbyte_any (q p : Nat) (s : Rs) (w : World) (h : Rc w q p s) : Calls Tryz.prog 153 #[.pointer (some ⟨p, 0, none⟩)] w fun r w' => r = .returned (.int .u8 (nm (byM s).1)) /\ Tc w w' q p (byM s).2 := by
 obtain ⟨ao, n, cap, h1, h2⟩ := h.rd
 refine (byte_any p ao n cap s.bs s.e w h1).mono ?_
 rintro r w' ⟨rfl, ht⟩
 exact ⟨rfl, Tc.of h h2 ⟨_, h1.blk⟩ ht⟩
theorem zuint_any (q p : Nat) (s : Rs) (w : World) (h : Rc w q p s) : Calls Tryz.prog 160 #[.pointer (some ⟨p, 0, none⟩)] w fun r w' => r = .returned (.int .u64 ((unM s).1 : Int)) /\ Tc w w' q p (unM s).2 := by
 obtain ⟨ao, n, cap, h1, h2⟩ := h.rd
 refine (uint_any p ao n cap s.bs s.e w h1).mono ?_
 rintro r w' ⟨rfl, ht⟩
 exact ⟨rfl, Tc.of h h2 ⟨_, h1.blk⟩ ht⟩
theorem zint_any (q p : Nat) (s : Rs) (w : World) (h : Rc w q p s) : Calls Tryz.prog 121 #[.pointer (some ⟨p, 0, none⟩)] w fun r w' => r = .returned (.int .i64 (inM s).1) /\ Tc w w' q p (inM s).2 := by
 obtain ⟨ao, n, cap, h1, h2⟩ := h.rd
 refine (int_any p ao n cap s.bs s.e w h1).mono ?_
 rintro r w' ⟨rfl, ht⟩
 exact ⟨rfl, Tc.of h h2 ⟨_, h1.blk⟩ ht⟩
theorem zdone_any (q p : Nat) (s : Rs) (w : World) (h : Rc w q p s) : Calls Tryz.prog 76 #[.pointer (some ⟨p, 0, none⟩)] w fun r w' => r = .returned (.int .i64 (if s.e = 0 /\ 0 < s.bs.length then 23 else s.e)) /\ w' = w := by
 obtain ⟨ao, n, cap, h1, h2⟩ := h.rd
 exact rdone_any p ao n cap s.bs s.e w h1
theorem zleft_any (q p : Nat) (s : Rs) (w : World) (h : Rc w q p s) : Calls Tryz.prog 161 #[.pointer (some ⟨p, 0, none⟩)] w fun r w' => r = .returned (.int .i64 (s.bs.length : Int)) /\ w' = w := by
 obtain ⟨ao, n, cap, h1, h2⟩ := h.rd
 exact left_any p ao n cap s.bs s.e w h1
theorem zlen (q p : Nat) (s : Rs) (w : World) (h : Rc w q p s) : s.bs.length <= 9223372036854775807 := by
 obtain ⟨ao, n, cap, h1, h2⟩ := h.rd
 have := h1.rd.small
 have := h1.rd.len
 unfold maxLen at *
 omega
theorem unM_lt14 (s : Rs) : (unM s).1 < 18446744073709551616 := by
 show (Cp.uintS s.bs s.e).1 < 18446744073709551616
 unfold Cp.uintS
 split
 ·exact (by omega : (0 : Nat) < 18446744073709551616)
 ·split
  ·exact (by omega : (0 : Nat) < 18446744073709551616)
  ·rcases Cp.num_err s.bs with h | h
   ·exact h.2.1
   ·rw [h.1]; decide
theorem Rc.spoil {w : World} {q p : Nat} {s : Rs} (h : Rc w q p s) : Tc w (w.setCell ⟨q, 1, none⟩ (.bool true)) q p ⟨s.bs, s.e, true⟩ := by
 obtain ⟨ao, n, cap, h1, h2⟩ := h.rd
 have hf : Fr (fun k => k = q) w (w.setCell ⟨q, 1, none⟩ (.bool true)) := (Fr.refl _ w).setCell ⟨q, 1, none⟩ _ (.inl rfl)
 exact ⟨⟨set1 h.box, ⟨ao, n, cap, h1.kept hf (fun e => h.nq e.symm) (fun a ha _ => h2.ne h.box (by decide) a ha), h2.kept hf (h2.ne h.box (by decide))⟩, h.nq⟩, hf.mono fun k _ e => .inr e⟩
theorem Kb.res {fn : Func} {p : Tmp} {w : World} {g : Nat} {x : Pk} (hb : Kb w g x) (h : fn.results = #[.cell p 61]) (tmps : Array Value) (hp : tmps.getD p undef = .pointer (some ⟨g, 0, none⟩)) :
  (results fn tmps).run Tryz.prog w = .ok (kv x) w := by
 have hp' : tmps[p]?.getD undef = .pointer (some ⟨g, 0, none⟩) := by simpa using hp
 simp [results, h, hp', asAddr, hb.load]
theorem Cb.res {fn : Func} {p : Tmp} {w : World} {g : Nat} {x : Scr} (hb : Cb w g x) (h : fn.results = #[.cell p 57]) (tmps : Array Value) (hp : tmps.getD p undef = .pointer (some ⟨g, 0, none⟩)) :
  (results fn tmps).run Tryz.prog w = .ok (cv x) w := by
 have hp' : tmps[p]?.getD undef = .pointer (some ⟨g, 0, none⟩) := by simpa using hp
 simp [results, h, hp', asAddr, hb.load]
/-! the reader's own methods -/
theorem znum_any (q p : Nat) (s : Rs) (w : World) (h : Rc w q p s) : Calls Tryz.prog 131 #[.pointer (some ⟨q, 0, none⟩)] w fun r w' => r = .returned (.int .i64 (inM s).1) /\ Tc w w' q p (inM s).2 := by
 have c0 := h.ptr
 have HC := hid (zint_any q p s w h)
 clear h
 go_enter Tryz.func131, Tryz.ntmps131
 go_wp2_with fail
 refine HC.out.mono ?_
 rintro e w1 ⟨he, h1⟩
 rw [he]
 have HT := hid h1
 clear he h1 HC
 go_wp2_with fail
 go_ret
 exact ⟨rfl, HT.out⟩
theorem by_is (c k : UInt8) : (nm c == nm k) = (c == k) := by
 rw [Bool.eq_iff_iff]
 simp only [beq_iff_eq]
 unfold nm
 constructor
 ·intro h
  apply UInt8.toNat_inj.1
  omega
 ·rintro rfl
  rfl
set_option maxHeartbeats 2000000 in
theorem zhead_any (q p : Nat) (s : Rs) (w : World) (h : Rc w q p s) : Calls Tryz.prog 120 #[.pointer (some ⟨q, 0, none⟩)] w fun r w' => r = .returned (.tuple #[]) /\ Tc w w' q p (mG ((byM s).1 == 87) (byM s).2).2 := by
 have c0 := h.ptr
 have HC := hid (zbyte_any q p s w h)
 obtain ⟨c, S, ec⟩ : ∃ c S, byM s = (c, S) := ⟨_, _, rfl⟩
 rw [ec] at HC ⊢
 dsimp only at HC ⊢
 have hq : (nm c == 87) = (c == 87) := by_is c 87
 obtain ⟨x, ex⟩ : ∃ x, nm c = x := ⟨_, rfl⟩
 rw [ex] at HC hq
 clear h ec
 cases hb : (c == 87) with
 | true =>
  rw [hb] at hq
  have hne : (x != 87) = false := by simp [bne, hq]
  go_enter Tryz.func120, Tryz.ntmps120
  go_wp2_with fail
  refine HC.out.mono ?_
  rintro e w1 ⟨he, h1⟩
  rw [he]
  have HT := hid h1
  clear he h1 HC c0
  go_wp2_with fail
  go_end0
  exact ⟨rfl, by simpa [mG] using HT.out⟩
 | false =>
  rw [hb] at hq
  have hne : (x != 87) = true := by simp [bne, hq]
  go_enter Tryz.func120, Tryz.ntmps120
  go_wp2_with fail
  refine HC.out.mono ?_
  rintro e w1 ⟨he, h1⟩
  rw [he]
  have HT := hid (h1.trans h1.r.spoil)
  have g1 := h1.r.fro
  have g2 := h1.r.spo
  clear he h1 HC c0
  go_wp2_with fail
  go_end0
  exact ⟨rfl, by simpa [mG] using HT.out⟩
set_option maxHeartbeats 2000000 in
theorem zflag_any (q p : Nat) (s : Rs) (w : World) (h : Rc w q p s) : Calls Tryz.prog 159 #[.pointer (some ⟨q, 0, none⟩)] w fun r w' => r = .returned (.bool (flM s).1) /\ Tc w w' q p (flM s).2 := by
 have c0 := h.ptr
 have HC := hid (zbyte_any q p s w h)
 have HE : Hid (flM s = ((byM s).1 == 1, (mG ((byM s).1 == 1 || (byM s).1 == 0) (byM s).2).2)) := hid rfl
 obtain ⟨c, S, ec⟩ : ∃ c S, byM s = (c, S) := ⟨_, _, rfl⟩
 rw [ec] at HC HE
 dsimp only at HC HE
 have hq : (nm c == 1) = (c == 1) := by_is c 1
 have hq0 : (nm c == 0) = (c == 0) := by_is c 0
 obtain ⟨x, ex⟩ : ∃ x, nm c = x := ⟨_, rfl⟩
 rw [ex] at HC hq hq0
 clear h ec
 cases hb : (c == 1) with
 | true =>
  rw [hb] at hq HE
  have hne : (x != 1) = false := by simp [bne, hq]
  have HE2 : Hid (flM s = (true, S)) := hid (by rw [HE.out]; simp [mG])
  clear HE hq0
  go_enter Tryz.func159, Tryz.ntmps159
  go_wp2_with fail
  refine HC.out.mono ?_
  rintro e w1 ⟨he, h1⟩
  rw [he]
  have HT := hid h1
  clear he h1 HC c0
  go_wp2_with fail
  go_ret
  exact ⟨by rw [HE2.out]; rfl, by rw [HE2.out]; exact HT.out⟩
 | false =>
  rw [hb] at hq HE
  have hne : (x != 1) = true := by simp [bne, hq]
  cases hb0 : (c == 0) with
  | true =>
   rw [hb0] at hq0 HE
   have hne0 : (x != 0) = false := by simp [bne, hq0]
   have HE2 : Hid (flM s = (false, S)) := hid (by rw [HE.out]; simp [mG])
   clear HE
   go_enter Tryz.func159, Tryz.ntmps159
   go_wp2_with fail
   refine HC.out.mono ?_
   rintro e w1 ⟨he, h1⟩
   rw [he]
   have HT := hid h1
   clear he h1 HC c0
   go_wp2_with fail
   go_ret
   exact ⟨by rw [HE2.out]; rfl, by rw [HE2.out]; exact HT.out⟩
  | false =>
   rw [hb0] at hq0 HE
   have hne0 : (x != 0) = true := by simp [bne, hq0]
   have HE2 : Hid (flM s = (false, ⟨S.bs, S.e, true⟩)) := hid (by rw [HE.out]; simp [mG])
   clear HE
   go_enter Tryz.func159, Tryz.ntmps159
   go_wp2_with fail
   refine HC.out.mono ?_
   rintro e w1 ⟨he, h1⟩
   rw [he]
   have HT := hid (h1.trans h1.r.spoil)
   have g1 := h1.r.fro
   have g2 := h1.r.spo
   clear he h1 HC c0
   go_wp2_with fail
   go_ret
   exact ⟨by rw [HE2.out]; rfl, by rw [HE2.out]; exact HT.out⟩
set_option maxHeartbeats 4000000 in
theorem zpoint_any (q p : Nat) (s : Rs) (w : World) (h : Rc w q p s) : Calls Tryz.prog 158 #[.pointer (some ⟨q, 0, none⟩)] w fun r w' => r = .returned (pt (ptM s).1.1 (ptM s).1.2) /\ Tc w w' q p (ptM s).2 := by
 have A0 := Still.alloc w (.cells #[.int .i64 0, .int .i64 0] 53)
 have B0 : Pb (w.alloc (.cells #[.int .i64 0, .int .i64 0] 53)) w.heap.size 0 0 := heap_alloc_new w _
 have h0 := h.still A0
 have hlt := h.lt
 obtain ⟨W, eW⟩ : ∃ W, w.alloc (.cells #[.int .i64 0, .int .i64 0] 53) = W := ⟨_, rfl⟩
 obtain ⟨g, eg⟩ : ∃ g, w.heap.size = g := ⟨_, rfl⟩
 rw [eW] at A0 B0 h0
 rw [eg] at B0 hlt
 have HA := hid A0
 have HG : Hid (¬ RF q p g /\ w.heap.size <= g) := hid ⟨by rintro (e | e) <;> omega, by omega⟩
 have HT0 : Hid (Tc W W q p s) := hid (Tc.same h0 (Fr.refl _ _))
 have HB0 := hid B0
 obtain ⟨x1, S1, e1⟩ : ∃ a b, inM s = (a, b) := ⟨_, _, rfl⟩
 obtain ⟨x2, S2, e2⟩ : ∃ a b, inM S1 = (a, b) := ⟨_, _, rfl⟩
 have HE : Hid (ptM s = ((x1, x2), S2)) := hid (by simp only [ptM, Wp.mB, Wp.mR, e1, e2])
 have HC1 : Hid (∀ u, Rc u q p s -> Calls Tryz.prog 131 #[.pointer (some ⟨q, 0, none⟩)] u fun r w' => r = .returned (.int .i64 x1) /\ Tc u w' q p S1) := hid (fun u hu => by
  have := znum_any q p s u hu
  rw [e1] at this
  exact this)
 have HC2 : Hid (∀ u, Rc u q p S1 -> Calls Tryz.prog 131 #[.pointer (some ⟨q, 0, none⟩)] u fun r w' => r = .returned (.int .i64 x2) /\ Tc u w' q p S2) := hid (fun u hu => by
  have := znum_any q p S1 u hu
  rw [e2] at this
  exact this)
 rw [HE.out]
 dsimp only
 clear h h0 A0 B0 hlt HE e1 e2
 go_enter Tryz.func158, Tryz.ntmps158
 go_wp2_with fail
 refine (HC1.out _ HT0.out.r).mono ?_
 rintro e w1 ⟨he, h1⟩
 rw [he]
 have HT1 := hid (HT0.out.trans h1)
 have HB1 : Hid (Pb w1 g 0 0) := hid (h1.f.kept HB0.out HG.out.1)
 clear he h1 HC1 HT0 HB0 eW
 go_wp2_with fail
 refine (HC2.out _ HT1.out.r).mono ?_
 rintro e w2 ⟨he, h2⟩
 rw [he]
 have HT2 := hid (HT1.out.trans h2)
 have HB2 : Hid (Pb w2 g 0 0) := hid (h2.f.kept HB1.out HG.out.1)
 clear he h2 HC2 HT1 HB1
 obtain ⟨c0, c1, cf⟩ := HB2.out.cells
 have f0 := cf 0
 have f1 := cf 1
 go_wp2_with fail
 refine bodyPost_ret ((HB2.out.set x1 x2).res rfl _ rfl) rfl ⟨rfl, ?_⟩
 exact Tc.fin HA.out HT2.out HB2.out (by decide) HG.out.1 HG.out.2 (Fr.setCell (Fr.setCell (Fr.refl (fun k => k = g) _) ⟨g, 0, none⟩ _ (.inl rfl)) ⟨g, 1, none⟩ _ (.inl rfl))
set_option maxHeartbeats 4000000 in
theorem zpickup_any (q p : Nat) (s : Rs) (w : World) (h : Rc w q p s) : Calls Tryz.prog 130 #[.pointer (some ⟨q, 0, none⟩)] w fun r w' => r = .returned (kv (pkM s).1) /\ Tc w w' q p (pkM s).2 := by
 have A0 := Still.alloc w (.cells (kcs ⟨0, 0, 0⟩) 61)
 have B0 : Kb (w.alloc (.cells (kcs ⟨0, 0, 0⟩) 61)) w.heap.size ⟨0, 0, 0⟩ := heap_alloc_new w _
 have h0 := h.still A0
 have hlt := h.lt
 obtain ⟨W, eW⟩ : ∃ W, w.alloc (.cells (kcs ⟨0, 0, 0⟩) 61) = W := ⟨_, rfl⟩
 obtain ⟨g, eg⟩ : ∃ g, w.heap.size = g := ⟨_, rfl⟩
 rw [eW] at A0 B0 h0
 rw [eg] at B0 hlt
 have HA := hid A0
 have HG : Hid (¬ RF q p g /\ w.heap.size <= g) := hid ⟨by rintro (e | e) <;> omega, by omega⟩
 have HT0 : Hid (Tc W W q p s) := hid (Tc.same h0 (Fr.refl _ _))
 have HB0 := hid B0
 obtain ⟨x1, S1, e1⟩ : ∃ a b, inM s = (a, b) := ⟨_, _, rfl⟩
 obtain ⟨x2, S2, e2⟩ : ∃ a b, inM S1 = (a, b) := ⟨_, _, rfl⟩
 obtain ⟨x3, S3, e3⟩ : ∃ a b, inM S2 = (a, b) := ⟨_, _, rfl⟩
 have HE : Hid (pkM s = (⟨x1, x2, x3⟩, S3)) := hid (by simp only [pkM, Wp.mB, Wp.mR, e1, e2, e3])
 have HC1 : Hid (∀ u, Rc u q p s -> Calls Tryz.prog 131 #[.pointer (some ⟨q, 0, none⟩)] u fun r w' => r = .returned (.int .i64 x1) /\ Tc u w' q p S1) := hid (fun u hu => by
  have := znum_any q p s u hu
  rw [e1] at this
  exact this)
 have HC2 : Hid (∀ u, Rc u q p S1 -> Calls Tryz.prog 131 #[.pointer (some ⟨q, 0, none⟩)] u fun r w' => r = .returned (.int .i64 x2) /\ Tc u w' q p S2) := hid (fun u hu => by
  have := znum_any q p S1 u hu
  rw [e2] at this
  exact this)
 have HC3 : Hid (∀ u, Rc u q p S2 -> Calls Tryz.prog 131 #[.pointer (some ⟨q, 0, none⟩)] u fun r w' => r = .returned (.int .i64 x3) /\ Tc u w' q p S3) := hid (fun u hu => by
  have := znum_any q p S2 u hu
  rw [e3] at this
  exact this)
 rw [HE.out]
 dsimp only
 clear h h0 A0 B0 hlt HE e1 e2 e3
 go_enter Tryz.func130, Tryz.ntmps130
 go_wp2_with fail
 refine (HC1.out _ HT0.out.r).mono ?_
 rintro e w1 ⟨he, h1⟩
 rw [he]
 have HT1 := hid (HT0.out.trans h1)
 have HB1 : Hid (Kb w1 g ⟨0, 0, 0⟩) := hid (h1.f.kept HB0.out HG.out.1)
 clear he h1 HC1 HT0 HB0 eW
 go_wp2_with fail
 refine (HC2.out _ HT1.out.r).mono ?_
 rintro e w2 ⟨he, h2⟩
 rw [he]
 have HT2 := hid (HT1.out.trans h2)
 have HB2 : Hid (Kb w2 g ⟨0, 0, 0⟩) := hid (h2.f.kept HB1.out HG.out.1)
 clear he h2 HC2 HT1 HB1
 go_wp2_with fail
 refine (HC3.out _ HT2.out.r).mono ?_
 rintro e w3 ⟨he, h3⟩
 rw [he]
 have HT3 := hid (HT2.out.trans h3)
 have HB3 : Hid (Kb w3 g ⟨0, 0, 0⟩) := hid (h3.f.kept HB2.out HG.out.1)
 clear he h3 HC3 HT2 HB2
 obtain ⟨c0, c1, c2, cf⟩ := HB3.out.cells
 have f0 := cf 0
 have f1 := cf 1
 have f2 := cf 2
 go_wp2_with fail
 refine bodyPost_ret ((HB3.out.put x1 x2 x3).res rfl _ rfl) rfl ⟨rfl, ?_⟩
 exact Tc.fin HA.out HT3.out HB3.out (by decide) HG.out.1 HG.out.2 (Fr.setCell (Fr.setCell (Fr.setCell (Fr.refl (fun k => k = g) _) ⟨g, 0, none⟩ _ (.inl rfl)) ⟨g, 1, none⟩ _ (.inl rfl)) ⟨g, 2, none⟩ _ (.inl rfl))
set_option maxHeartbeats 4000000 in
theorem zscore_any (q p : Nat) (s : Rs) (w : World) (h : Rc w q p s) : Calls Tryz.prog 125 #[.pointer (some ⟨q, 0, none⟩)] w fun r w' => r = .returned (cv (scM s).1) /\ Tc w w' q p (scM s).2 := by
 have A0 := Still.alloc w (.cells (ccs ⟨0, 0, 0, 0⟩) 57)
 have B0 : Cb (w.alloc (.cells (ccs ⟨0, 0, 0, 0⟩) 57)) w.heap.size ⟨0, 0, 0, 0⟩ := heap_alloc_new w _
 have h0 := h.still A0
 have hlt := h.lt
 obtain ⟨W, eW⟩ : ∃ W, w.alloc (.cells (ccs ⟨0, 0, 0, 0⟩) 57) = W := ⟨_, rfl⟩
 obtain ⟨g, eg⟩ : ∃ g, w.heap.size = g := ⟨_, rfl⟩
 rw [eW] at A0 B0 h0
 rw [eg] at B0 hlt
 have HA := hid A0
 have HG : Hid (¬ RF q p g /\ w.heap.size <= g) := hid ⟨by rintro (e | e) <;> omega, by omega⟩
 have HT0 : Hid (Tc W W q p s) := hid (Tc.same h0 (Fr.refl _ _))
 have HB0 := hid B0
 obtain ⟨x1, S1, e1⟩ : ∃ a b, inM s = (a, b) := ⟨_, _, rfl⟩
 obtain ⟨x2, S2, e2⟩ : ∃ a b, inM S1 = (a, b) := ⟨_, _, rfl⟩
 obtain ⟨x3, S3, e3⟩ : ∃ a b, inM S2 = (a, b) := ⟨_, _, rfl⟩
 obtain ⟨x4, S4, e4⟩ : ∃ a b, inM S3 = (a, b) := ⟨_, _, rfl⟩
 have HE : Hid (scM s = (⟨x1, x2, x3, x4⟩, S4)) := hid (by simp only [scM, Wp.mB, Wp.mR, e1, e2, e3, e4])
 have HC1 : Hid (∀ u, Rc u q p s -> Calls Tryz.prog 131 #[.pointer (some ⟨q, 0, none⟩)] u fun r w' => r = .returned (.int .i64 x1) /\ Tc u w' q p S1) := hid (fun u hu => by
  have := znum_any q p s u hu
  rw [e1] at this
  exact this)
 have HC2 : Hid (∀ u, Rc u q p S1 -> Calls Tryz.prog 131 #[.pointer (some ⟨q, 0, none⟩)] u fun r w' => r = .returned (.int .i64 x2) /\ Tc u w' q p S2) := hid (fun u hu => by
  have := znum_any q p S1 u hu
  rw [e2] at this
  exact this)
 have HC3 : Hid (∀ u, Rc u q p S2 -> Calls Tryz.prog 131 #[.pointer (some ⟨q, 0, none⟩)] u fun r w' => r = .returned (.int .i64 x3) /\ Tc u w' q p S3) := hid (fun u hu => by
  have := znum_any q p S2 u hu
  rw [e3] at this
  exact this)
 have HC4 : Hid (∀ u, Rc u q p S3 -> Calls Tryz.prog 131 #[.pointer (some ⟨q, 0, none⟩)] u fun r w' => r = .returned (.int .i64 x4) /\ Tc u w' q p S4) := hid (fun u hu => by
  have := znum_any q p S3 u hu
  rw [e4] at this
  exact this)
 rw [HE.out]
 dsimp only
 clear h h0 A0 B0 hlt HE e1 e2 e3 e4
 go_enter Tryz.func125, Tryz.ntmps125
 go_wp2_with fail
 refine (HC1.out _ HT0.out.r).mono ?_
 rintro e w1 ⟨he, h1⟩
 rw [he]
 have HT1 := hid (HT0.out.trans h1)
 have HB1 : Hid (Cb w1 g ⟨0, 0, 0, 0⟩) := hid (h1.f.kept HB0.out HG.out.1)
 clear he h1 HC1 HT0 HB0 eW
 go_wp2_with fail
 refine (HC2.out _ HT1.out.r).mono ?_
 rintro e w2 ⟨he, h2⟩
 rw [he]
 have HT2 := hid (HT1.out.trans h2)
 have HB2 : Hid (Cb w2 g ⟨0, 0, 0, 0⟩) := hid (h2.f.kept HB1.out HG.out.1)
 clear he h2 HC2 HT1 HB1
 go_wp2_with fail
 refine (HC3.out _ HT2.out.r).mono ?_
 rintro e w3 ⟨he, h3⟩
 rw [he]
 have HT3 := hid (HT2.out.trans h3)
 have HB3 : Hid (Cb w3 g ⟨0, 0, 0, 0⟩) := hid (h3.f.kept HB2.out HG.out.1)
 clear he h3 HC3 HT2 HB2
 go_wp2_with fail
 refine (HC4.out _ HT3.out.r).mono ?_
 rintro e w4 ⟨he, h4⟩
 rw [he]
 have HT4 := hid (HT3.out.trans h4)
 have HB4 : Hid (Cb w4 g ⟨0, 0, 0, 0⟩) := hid (h4.f.kept HB3.out HG.out.1)
 clear he h4 HC4 HT3 HB3
 obtain ⟨c0, c1, c2, c3, cf⟩ := HB4.out.cells
 have f0 := cf 0
 have f1 := cf 1
 have f2 := cf 2
 have f3 := cf 3
 go_wp2_with fail
 refine bodyPost_ret ((HB4.out.put x1 x2 x3 x4).res rfl _ rfl) rfl ⟨rfl, ?_⟩
 exact Tc.fin HA.out HT4.out HB4.out (by decide) HG.out.1 HG.out.2 (Fr.setCell (Fr.setCell (Fr.setCell (Fr.setCell (Fr.refl (fun k => k = g) _) ⟨g, 0, none⟩ _ (.inl rfl)) ⟨g, 1, none⟩ _ (.inl rfl)) ⟨g, 2, none⟩ _ (.inl rfl)) ⟨g, 3, none⟩ _ (.inl rfl))
set_option maxHeartbeats 4000000 in
theorem zshot_any (q p : Nat) (s : Rs) (w : World) (h : Rc w q p s) : Calls Tryz.prog 128 #[.pointer (some ⟨q, 0, none⟩)] w fun r w' => r = .returned (sv (shM s).1) /\ Tc w w' q p (shM s).2 := by
 have A0 := Still.alloc w (.cells (scs ⟨0, 0, 0, 0, 0, 0, 0, 0⟩) 59)
 have B0 : Sb (w.alloc (.cells (scs ⟨0, 0, 0, 0, 0, 0, 0, 0⟩) 59)) w.heap.size ⟨0, 0, 0, 0, 0, 0, 0, 0⟩ := heap_alloc_new w _
 have h0 := h.still A0
 have hlt := h.lt
 obtain ⟨W, eW⟩ : ∃ W, w.alloc (.cells (scs ⟨0, 0, 0, 0, 0, 0, 0, 0⟩) 59) = W := ⟨_, rfl⟩
 obtain ⟨g, eg⟩ : ∃ g, w.heap.size = g := ⟨_, rfl⟩
 rw [eW] at A0 B0 h0
 rw [eg] at B0 hlt
 have HA := hid A0
 have HG : Hid (¬ RF q p g /\ w.heap.size <= g) := hid ⟨by rintro (e | e) <;> omega, by omega⟩
 have HT0 : Hid (Tc W W q p s) := hid (Tc.same h0 (Fr.refl _ _))
 have HB0 := hid B0
 obtain ⟨x1, S1, e1⟩ : ∃ a b, inM s = (a, b) := ⟨_, _, rfl⟩
 obtain ⟨x2, S2, e2⟩ : ∃ a b, inM S1 = (a, b) := ⟨_, _, rfl⟩
 obtain ⟨x3, S3, e3⟩ : ∃ a b, inM S2 = (a, b) := ⟨_, _, rfl⟩
 obtain ⟨⟨x4, y4⟩, S4, e4⟩ : ∃ a b, ptM S3 = (a, b) := ⟨_, _, rfl⟩
 obtain ⟨⟨x5, y5⟩, S5, e5⟩ : ∃ a b, ptM S4 = (a, b) := ⟨_, _, rfl⟩
 obtain ⟨x6, S6, e6⟩ : ∃ a b, inM S5 = (a, b) := ⟨_, _, rfl⟩
 have HE : Hid (shM s = (⟨x1, x2, x3, x4, y4, x5, y5, x6⟩, S6)) := hid (by simp only [shM, Wp.mB, Wp.mR, e1, e2, e3, e4, e5, e6])
 have HC1 : Hid (∀ u, Rc u q p s -> Calls Tryz.prog 131 #[.pointer (some ⟨q, 0, none⟩)] u fun r w' => r = .returned (.int .i64 x1) /\ Tc u w' q p S1) := hid (fun u hu => by
  have := znum_any q p s u hu
  rw [e1] at this
  exact this)
 have HC2 : Hid (∀ u, Rc u q p S1 -> Calls Tryz.prog 131 #[.pointer (some ⟨q, 0, none⟩)] u fun r w' => r = .returned (.int .i64 x2) /\ Tc u w' q p S2) := hid (fun u hu => by
  have := znum_any q p S1 u hu
  rw [e2] at this
  exact this)
 have HC3 : Hid (∀ u, Rc u q p S2 -> Calls Tryz.prog 131 #[.pointer (some ⟨q, 0, none⟩)] u fun r w' => r = .returned (.int .i64 x3) /\ Tc u w' q p S3) := hid (fun u hu => by
  have := znum_any q p S2 u hu
  rw [e3] at this
  exact this)
 have HC4 : Hid (∀ u, Rc u q p S3 -> Calls Tryz.prog 158 #[.pointer (some ⟨q, 0, none⟩)] u fun r w' => r = .returned (pt x4 y4) /\ Tc u w' q p S4) := hid (fun u hu => by
  have := zpoint_any q p S3 u hu
  rw [e4] at this
  exact this)
 have HC5 : Hid (∀ u, Rc u q p S4 -> Calls Tryz.prog 158 #[.pointer (some ⟨q, 0, none⟩)] u fun r w' => r = .returned (pt x5 y5) /\ Tc u w' q p S5) := hid (fun u hu => by
  have := zpoint_any q p S4 u hu
  rw [e5] at this
  exact this)
 have HC6 : Hid (∀ u, Rc u q p S5 -> Calls Tryz.prog 131 #[.pointer (some ⟨q, 0, none⟩)] u fun r w' => r = .returned (.int .i64 x6) /\ Tc u w' q p S6) := hid (fun u hu => by
  have := znum_any q p S5 u hu
  rw [e6] at this
  exact this)
 rw [HE.out]
 dsimp only
 clear h h0 A0 B0 hlt HE e1 e2 e3 e4 e5 e6
 go_enter Tryz.func128, Tryz.ntmps128
 go_wp2_with fail
 refine (HC1.out _ HT0.out.r).mono ?_
 rintro e w1 ⟨he, h1⟩
 rw [he]
 have HT1 := hid (HT0.out.trans h1)
 have HB1 : Hid (Sb w1 g ⟨0, 0, 0, 0, 0, 0, 0, 0⟩) := hid (h1.f.kept HB0.out HG.out.1)
 clear he h1 HC1 HT0 HB0 eW
 go_wp2_with fail
 refine (HC2.out _ HT1.out.r).mono ?_
 rintro e w2 ⟨he, h2⟩
 rw [he]
 have HT2 := hid (HT1.out.trans h2)
 have HB2 : Hid (Sb w2 g ⟨0, 0, 0, 0, 0, 0, 0, 0⟩) := hid (h2.f.kept HB1.out HG.out.1)
 clear he h2 HC2 HT1 HB1
 go_wp2_with fail
 refine (HC3.out _ HT2.out.r).mono ?_
 rintro e w3 ⟨he, h3⟩
 rw [he]
 have HT3 := hid (HT2.out.trans h3)
 have HB3 : Hid (Sb w3 g ⟨0, 0, 0, 0, 0, 0, 0, 0⟩) := hid (h3.f.kept HB2.out HG.out.1)
 clear he h3 HC3 HT2 HB2
 go_wp2_with fail
 refine (HC4.out _ HT3.out.r).mono ?_
 rintro e w4 ⟨he, h4⟩
 rw [he]
 have HT4 := hid (HT3.out.trans h4)
 have HB4 : Hid (Sb w4 g ⟨0, 0, 0, 0, 0, 0, 0, 0⟩) := hid (h4.f.kept HB3.out HG.out.1)
 clear he h4 HC4 HT3 HB3
 go_wp2_with fail
 refine (HC5.out _ HT4.out.r).mono ?_
 rintro e w5 ⟨he, h5⟩
 rw [he]
 have HT5 := hid (HT4.out.trans h5)
 have HB5 : Hid (Sb w5 g ⟨0, 0, 0, 0, 0, 0, 0, 0⟩) := hid (h5.f.kept HB4.out HG.out.1)
 clear he h5 HC5 HT4 HB4
 go_wp2_with fail
 refine (HC6.out _ HT5.out.r).mono ?_
 rintro e w6 ⟨he, h6⟩
 rw [he]
 have HT6 := hid (HT5.out.trans h6)
 have HB6 : Hid (Sb w6 g ⟨0, 0, 0, 0, 0, 0, 0, 0⟩) := hid (h6.f.kept HB5.out HG.out.1)
 clear he h6 HC6 HT5 HB5
 obtain ⟨c0, c1, c2, c3, c4, c5, c6, c7, cf⟩ := HB6.out.cells
 have f0 := cf 0
 have f1 := cf 1
 have f2 := cf 2
 have f3 := cf 3
 have f4 := cf 4
 have f5 := cf 5
 have f6 := cf 6
 have f7 := cf 7
 go_wp2_with fail
 refine bodyPost_ret ((HB6.out.put x1 x2 x3 x4 y4 x5 y5 x6).res rfl _ rfl) rfl ⟨rfl, ?_⟩
 exact Tc.fin HA.out HT6.out HB6.out (by decide) HG.out.1 HG.out.2 (Fr.setCell (Fr.setCell (Fr.setCell (Fr.setCell (Fr.setCell (Fr.setCell (Fr.setCell (Fr.setCell (Fr.refl (fun k => k = g) _) ⟨g, 0, none⟩ _ (.inl rfl)) ⟨g, 1, none⟩ _ (.inl rfl)) ⟨g, 2, none⟩ _ (.inl rfl)) ⟨g, 3, none⟩ _ (.inl rfl)) ⟨g, 4, none⟩ _ (.inl rfl)) ⟨g, 5, none⟩ _ (.inl rfl)) ⟨g, 6, none⟩ _ (.inl rfl)) ⟨g, 7, none⟩ _ (.inl rfl))
set_option maxHeartbeats 4000000 in
theorem zmover_any (q p : Nat) (s : Rs) (w : World) (h : Rc w q p s) : Calls Tryz.prog 123 #[.pointer (some ⟨q, 0, none⟩)] w fun r w' => r = .returned (mv (mvM s).1) /\ Tc w w' q p (mvM s).2 := by
 have A0 := Still.alloc w (.cells (mcs ⟨0, 0, 0, 0, 0, 0, 0, 0, 0, false, 0, 0, 0⟩) 55)
 have B0 : Mb (w.alloc (.cells (mcs ⟨0, 0, 0, 0, 0, 0, 0, 0, 0, false, 0, 0, 0⟩) 55)) w.heap.size ⟨0, 0, 0, 0, 0, 0, 0, 0, 0, false, 0, 0, 0⟩ := heap_alloc_new w _
 have h0 := h.still A0
 have hlt := h.lt
 obtain ⟨W, eW⟩ : ∃ W, w.alloc (.cells (mcs ⟨0, 0, 0, 0, 0, 0, 0, 0, 0, false, 0, 0, 0⟩) 55) = W := ⟨_, rfl⟩
 obtain ⟨g, eg⟩ : ∃ g, w.heap.size = g := ⟨_, rfl⟩
 rw [eW] at A0 B0 h0
 rw [eg] at B0 hlt
 have HA := hid A0
 have HG : Hid (¬ RF q p g /\ w.heap.size <= g) := hid ⟨by rintro (e | e) <;> omega, by omega⟩
 have HT0 : Hid (Tc W W q p s) := hid (Tc.same h0 (Fr.refl _ _))
 have HB0 := hid B0
 obtain ⟨⟨x1, y1⟩, S1, e1⟩ : ∃ a b, ptM s = (a, b) := ⟨_, _, rfl⟩
 obtain ⟨⟨x2, y2⟩, S2, e2⟩ : ∃ a b, ptM S1 = (a, b) := ⟨_, _, rfl⟩
 obtain ⟨⟨x3, y3⟩, S3, e3⟩ : ∃ a b, ptM S2 = (a, b) := ⟨_, _, rfl⟩
 obtain ⟨x4, S4, e4⟩ : ∃ a b, inM S3 = (a, b) := ⟨_, _, rfl⟩
 obtain ⟨x5, S5, e5⟩ : ∃ a b, inM S4 = (a, b) := ⟨_, _, rfl⟩
 obtain ⟨x6, S6, e6⟩ : ∃ a b, inM S5 = (a, b) := ⟨_, _, rfl⟩
 obtain ⟨x7, S7, e7⟩ : ∃ a b, inM S6 = (a, b) := ⟨_, _, rfl⟩
 obtain ⟨x8, S8, e8⟩ : ∃ a b, inM S7 = (a, b) := ⟨_, _, rfl⟩
 obtain ⟨x9, S9, e9⟩ : ∃ a b, inM S8 = (a, b) := ⟨_, _, rfl⟩
 obtain ⟨x10, S10, e10⟩ : ∃ a b, flM S9 = (a, b) := ⟨_, _, rfl⟩
 have HE : Hid (mvM s = (⟨x1, y1, x2, y2, x3, y3, x4, x5, x6, x10, x7, x8, x9⟩, S10)) := hid (by simp only [mvM, Wp.mB, Wp.mR, e1, e2, e3, e4, e5, e6, e7, e8, e9, e10])
 have HC1 : Hid (∀ u, Rc u q p s -> Calls Tryz.prog 158 #[.pointer (some ⟨q, 0, none⟩)] u fun r w' => r = .returned (pt x1 y1) /\ Tc u w' q p S1) := hid (fun u hu => by
  have := zpoint_any q p s u hu
  rw [e1] at this
  exact this)
 have HC2 : Hid (∀ u, Rc u q p S1 -> Calls Tryz.prog 158 #[.pointer (some ⟨q, 0, none⟩)] u fun r w' => r = .returned (pt x2 y2) /\ Tc u w' q p S2) := hid (fun u hu => by
  have := zpoint_any q p S1 u hu
  rw [e2] at this
  exact this)
 have HC3 : Hid (∀ u, Rc u q p S2 -> Calls Tryz.prog 158 #[.pointer (some ⟨q, 0, none⟩)] u fun r w' => r = .returned (pt x3 y3) /\ Tc u w' q p S3) := hid (fun u hu => by
  have := zpoint_any q p S2 u hu
  rw [e3] at this
  exact this)
 have HC4 : Hid (∀ u, Rc u q p S3 -> Calls Tryz.prog 131 #[.pointer (some ⟨q, 0, none⟩)] u fun r w' => r = .returned (.int .i64 x4) /\ Tc u w' q p S4) := hid (fun u hu => by
  have := znum_any q p S3 u hu
  rw [e4] at this
  exact this)
 have HC5 : Hid (∀ u, Rc u q p S4 -> Calls Tryz.prog 131 #[.pointer (some ⟨q, 0, none⟩)] u fun r w' => r = .returned (.int .i64 x5) /\ Tc u w' q p S5) := hid (fun u hu => by
  have := znum_any q p S4 u hu
  rw [e5] at this
  exact this)
 have HC6 : Hid (∀ u, Rc u q p S5 -> Calls Tryz.prog 131 #[.pointer (some ⟨q, 0, none⟩)] u fun r w' => r = .returned (.int .i64 x6) /\ Tc u w' q p S6) := hid (fun u hu => by
  have := znum_any q p S5 u hu
  rw [e6] at this
  exact this)
 have HC7 : Hid (∀ u, Rc u q p S6 -> Calls Tryz.prog 131 #[.pointer (some ⟨q, 0, none⟩)] u fun r w' => r = .returned (.int .i64 x7) /\ Tc u w' q p S7) := hid (fun u hu => by
  have := znum_any q p S6 u hu
  rw [e7] at this
  exact this)
 have HC8 : Hid (∀ u, Rc u q p S7 -> Calls Tryz.prog 131 #[.pointer (some ⟨q, 0, none⟩)] u fun r w' => r = .returned (.int .i64 x8) /\ Tc u w' q p S8) := hid (fun u hu => by
  have := znum_any q p S7 u hu
  rw [e8] at this
  exact this)
 have HC9 : Hid (∀ u, Rc u q p S8 -> Calls Tryz.prog 131 #[.pointer (some ⟨q, 0, none⟩)] u fun r w' => r = .returned (.int .i64 x9) /\ Tc u w' q p S9) := hid (fun u hu => by
  have := znum_any q p S8 u hu
  rw [e9] at this
  exact this)
 have HC10 : Hid (∀ u, Rc u q p S9 -> Calls Tryz.prog 159 #[.pointer (some ⟨q, 0, none⟩)] u fun r w' => r = .returned (.bool x10) /\ Tc u w' q p S10) := hid (fun u hu => by
  have := zflag_any q p S9 u hu
  rw [e10] at this
  exact this)
 rw [HE.out]
 dsimp only
 clear h h0 A0 B0 hlt HE e1 e2 e3 e4 e5 e6 e7 e8 e9 e10
 go_enter Tryz.func123, Tryz.ntmps123
 go_wp2_with fail
 refine (HC1.out _ HT0.out.r).mono ?_
 rintro e w1 ⟨he, h1⟩
 rw [he]
 have HT1 := hid (HT0.out.trans h1)
 have HB1 : Hid (Mb w1 g ⟨0, 0, 0, 0, 0, 0, 0, 0, 0, false, 0, 0, 0⟩) := hid (h1.f.kept HB0.out HG.out.1)
 clear he h1 HC1 HT0 HB0 eW
 go_wp2_with fail
 refine (HC2.out _ HT1.out.r).mono ?_
 rintro e w2 ⟨he, h2⟩
 rw [he]
 have HT2 := hid (HT1.out.trans h2)
 have HB2 : Hid (Mb w2 g ⟨0, 0, 0, 0, 0, 0, 0, 0, 0, false, 0, 0, 0⟩) := hid (h2.f.kept HB1.out HG.out.1)
 clear he h2 HC2 HT1 HB1
 go_wp2_with fail
 refine (HC3.out _ HT2.out.r).mono ?_
 rintro e w3 ⟨he, h3⟩
 rw [he]
 have HT3 := hid (HT2.out.trans h3)
 have HB3 : Hid (Mb w3 g ⟨0, 0, 0, 0, 0, 0, 0, 0, 0, false, 0, 0, 0⟩) := hid (h3.f.kept HB2.out HG.out.1)
 clear he h3 HC3 HT2 HB2
 go_wp2_with fail
 refine (HC4.out _ HT3.out.r).mono ?_
 rintro e w4 ⟨he, h4⟩
 rw [he]
 have HT4 := hid (HT3.out.trans h4)
 have HB4 : Hid (Mb w4 g ⟨0, 0, 0, 0, 0, 0, 0, 0, 0, false, 0, 0, 0⟩) := hid (h4.f.kept HB3.out HG.out.1)
 clear he h4 HC4 HT3 HB3
 go_wp2_with fail
 refine (HC5.out _ HT4.out.r).mono ?_
 rintro e w5 ⟨he, h5⟩
 rw [he]
 have HT5 := hid (HT4.out.trans h5)
 have HB5 : Hid (Mb w5 g ⟨0, 0, 0, 0, 0, 0, 0, 0, 0, false, 0, 0, 0⟩) := hid (h5.f.kept HB4.out HG.out.1)
 clear he h5 HC5 HT4 HB4
 go_wp2_with fail
 refine (HC6.out _ HT5.out.r).mono ?_
 rintro e w6 ⟨he, h6⟩
 rw [he]
 have HT6 := hid (HT5.out.trans h6)
 have HB6 : Hid (Mb w6 g ⟨0, 0, 0, 0, 0, 0, 0, 0, 0, false, 0, 0, 0⟩) := hid (h6.f.kept HB5.out HG.out.1)
 clear he h6 HC6 HT5 HB5
 go_wp2_with fail
 refine (HC7.out _ HT6.out.r).mono ?_
 rintro e w7 ⟨he, h7⟩
 rw [he]
 have HT7 := hid (HT6.out.trans h7)
 have HB7 : Hid (Mb w7 g ⟨0, 0, 0, 0, 0, 0, 0, 0, 0, false, 0, 0, 0⟩) := hid (h7.f.kept HB6.out HG.out.1)
 clear he h7 HC7 HT6 HB6
 go_wp2_with fail
 refine (HC8.out _ HT7.out.r).mono ?_
 rintro e w8 ⟨he, h8⟩
 rw [he]
 have HT8 := hid (HT7.out.trans h8)
 have HB8 : Hid (Mb w8 g ⟨0, 0, 0, 0, 0, 0, 0, 0, 0, false, 0, 0, 0⟩) := hid (h8.f.kept HB7.out HG.out.1)
 clear he h8 HC8 HT7 HB7
 go_wp2_with fail
 refine (HC9.out _ HT8.out.r).mono ?_
 rintro e w9 ⟨he, h9⟩
 rw [he]
 have HT9 := hid (HT8.out.trans h9)
 have HB9 : Hid (Mb w9 g ⟨0, 0, 0, 0, 0, 0, 0, 0, 0, false, 0, 0, 0⟩) := hid (h9.f.kept HB8.out HG.out.1)
 clear he h9 HC9 HT8 HB8
 go_wp2_with fail
 refine (HC10.out _ HT9.out.r).mono ?_
 rintro e w10 ⟨he, h10⟩
 rw [he]
 have HT10 := hid (HT9.out.trans h10)
 have HB10 : Hid (Mb w10 g ⟨0, 0, 0, 0, 0, 0, 0, 0, 0, false, 0, 0, 0⟩) := hid (h10.f.kept HB9.out HG.out.1)
 clear he h10 HC10 HT9 HB9
 obtain ⟨c0, c1, c2, c3, c4, c5, c6, c7, c8, c9, c10, c11, c12, cf⟩ := HB10.out.cells
 have f0 := cf 0
 have f1 := cf 1
 have f2 := cf 2
 have f3 := cf 3
 have f4 := cf 4
 have f5 := cf 5
 have f6 := cf 6
 have f7 := cf 7
 have f8 := cf 8
 have f9 := cf 9
 have f10 := cf 10
 have f11 := cf 11
 have f12 := cf 12
 go_wp2_with fail
 refine bodyPost_ret ((HB10.out.put x1 y1 x2 y2 x3 y3 x4 x5 x6 x10 x7 x8 x9).res rfl _ rfl) rfl ⟨rfl, ?_⟩
 exact Tc.fin HA.out HT10.out HB10.out (by decide) HG.out.1 HG.out.2 (Fr.setCell (Fr.setCell (Fr.setCell (Fr.setCell (Fr.setCell (Fr.setCell (Fr.setCell (Fr.setCell (Fr.setCell (Fr.setCell (Fr.setCell (Fr.setCell (Fr.setCell (Fr.refl (fun k => k = g) _) ⟨g, 0, none⟩ _ (.inl rfl)) ⟨g, 1, none⟩ _ (.inl rfl)) ⟨g, 2, none⟩ _ (.inl rfl)) ⟨g, 3, none⟩ _ (.inl rfl)) ⟨g, 4, none⟩ _ (.inl rfl)) ⟨g, 5, none⟩ _ (.inl rfl)) ⟨g, 6, none⟩ _ (.inl rfl)) ⟨g, 7, none⟩ _ (.inl rfl)) ⟨g, 8, none⟩ _ (.inl rfl)) ⟨g, 9, none⟩ _ (.inl rfl)) ⟨g, 10, none⟩ _ (.inl rfl)) ⟨g, 11, none⟩ _ (.inl rfl)) ⟨g, 12, none⟩ _ (.inl rfl))
end Go.Proofs.YtkgbmefaphhcnaaGreatDoor
namespace Go.Proofs.YtkgbmefaphhcnaaGreatDoor
open Go.RowKit
set_option maxRecDepth 100000
theorem form10 {n : Int} (h : I64 n) : (Cp.form (Cp.fold n)).length <= 10 := Cp.form_ten (Cp.fold_lt h.1 h.2)
theorem nsB_le : ∀ {l : List Int}, (∀ n ∈ l, I64 n) -> (nsB l).length <= 10 * l.length
 | [], _ => by simp [nsB]
 | n :: l, h => by
  have h1 := nsB_le (l := l) (fun m hm => h m (List.mem_cons_of_mem _ hm))
  have h2 := form10 (h n (List.mem_cons_self ..))
  rw [show n :: l = [n] ++ l from rfl, nsB_app, nsB_one, List.length_append, List.length_append]
  simp
  omega
theorem layS_fitM {bs x : List UInt8} (h : bs.length + x.length <= 9223372036854775807) : layS 9223372036854775807 bs 0 x = (bs ++ x, 0) := by
 unfold layS
 rw [if_neg (by simp), if_neg (by omega)]
structure Wq (w : World) (p : Nat) (ao : Option Addr) (bs : List UInt8) : Prop where
 wr : ∃ cap, Wr w p ao bs.length cap 9223372036854775807 bs 0
theorem Wq.of {w : World} {p n cap : Nat} {ao : Option Addr} {bs : List UInt8} (h : Wr w p ao n cap 9223372036854775807 bs 0) : Wq w p ao bs := ⟨cap, by
 have := h.own.rd.len
 subst this
 exact h⟩
theorem Wq.wf_lt {w : World} {p : Nat} {ao : Option Addr} {bs : List UInt8} (h : Wq w p ao bs) : ∀ k, Wf p ao k -> k < w.heap.size := by
 obtain ⟨cap, h⟩ := h.wr
 exact h.wf_lt
theorem Wq.still {w w' : World} {p : Nat} {ao : Option Addr} {bs : List UInt8} (h : Wq w p ao bs) (hs : Still w w') : Wq w' p ao bs := by
 obtain ⟨cap, h⟩ := h.wr
 exact ⟨cap, h.still hs⟩
structure Lx (w w' : World) (p : Nat) (ao ao' : Option Addr) (bs x : List UInt8) : Prop where
 q : Wq w' p ao' (bs ++ x)
 f : Fr (Wf p ao) w w'
 l : Later w ao ao'
theorem Lx.nil {w w' : World} {p : Nat} {ao : Option Addr} {bs : List UInt8} (h : Wq w p ao bs) (hs : Still w w') : Lx w w' p ao ao bs [] := ⟨by rw [List.append_nil]; exact h.still hs, Still.to hs, Later.refl _ _⟩
theorem Lx.from {w w1 w' : World} {p : Nat} {ao ao' : Option Addr} {bs x : List UInt8} (hs : Still w w1) (h : Lx w1 w' p ao ao' bs x) : Lx w w' p ao ao' bs x := ⟨h.q, (Still.to hs).trans h.f (fun _ _ h => h), fun a ha => by
 rcases h.l a ha with h | h
 ·exact .inl h
 ·exact .inr (Nat.le_trans hs.size h)⟩
theorem Lx.wf {w w1 : World} {p : Nat} {ao ao1 : Option Addr} {bs x : List UInt8} (h : Lx w w1 p ao ao1 bs x) : ∀ k, Wf p ao1 k -> Wf p ao k \/ w.heap.size <= k := by
 rintro k (rfl | ⟨a, ha, rfl⟩)
 ·exact .inl (.inl rfl)
 ·rcases h.l a ha with ⟨b, hb, e⟩ | h
  ·exact .inl (.inr ⟨b, hb, e⟩)
  ·exact .inr h
theorem Lx.trans {w w1 w2 : World} {p : Nat} {ao ao1 ao2 : Option Addr} {bs x y : List UInt8} (h : Lx w w1 p ao ao1 bs x) (k : Lx w1 w2 p ao1 ao2 (bs ++ x) y) : Lx w w2 p ao ao2 bs (x ++ y) := by
 refine ⟨by rw [<- List.append_assoc]; exact k.q, h.f.trans k.f (fun j hj e => ?_), fun a ha => ?_⟩
 ·rcases h.wf j e with h1 | h1
  ·exact h1
  ·omega
 ·rcases k.l a ha with ⟨b, hb, e⟩ | h1
  ·rcases h.l b hb with ⟨c, hc, e2⟩ | h2
   ·exact .inl ⟨c, hc, e2.trans e⟩
   ·exact .inr (by rw [<- e]; exact h2)
  ·exact .inr (Nat.le_trans h.f.size h1)
theorem Lx.off {w w1 : World} {p : Nat} {ao ao1 : Option Addr} {bs x : List UInt8} (h : Lx w w1 p ao ao1 bs x) {k : Nat} (hk : k < w.heap.size) (hn : ¬ Wf p ao k) : ¬ Wf p ao1 k := fun e => by
 rcases h.wf k e with h1 | h1
 ·exact hn h1
 ·omega
theorem Lx.of {w w' : World} {p : Nat} {ao : Option Addr} {bs x : List UInt8} (h : Laid w w' p ao 9223372036854775807 bs 0 x) (hb : bs.length + x.length <= 9223372036854775807) : ∃ ao', Lx w w' p ao ao' bs x := by
 obtain ⟨ao', n, cap, h1, h2, h3⟩ := h
 rw [layS_fitM hb] at h1
 exact ⟨ao', Wq.of h1, h2, h3⟩
theorem xint_any (p : Nat) (ao : Option Addr) (bs : List UInt8) (m : Int) (hm : I64 m) (hb : bs.length <= 1000000) (w : World) (hw : Wq w p ao bs) :
  Calls Tryz.prog 98 #[.pointer (some ⟨p, 0, none⟩), .int .i64 m] w fun r w' => r = .returned (.tuple #[]) /\ ∃ ao', Lx w w' p ao ao' bs (Cp.form (Cp.fold m)) := by
 obtain ⟨cap, h⟩ := hw.wr
 refine (wint_any p ao _ cap _ bs 0 m hm.1 hm.2 w h (by omega) (by omega) (by omega)).mono ?_
 rintro r w' ⟨rfl, hl⟩
 exact ⟨rfl, Lx.of hl (by have := form10 hm; omega)⟩
theorem xuint_any (p : Nat) (ao : Option Addr) (bs : List UInt8) (m : Nat) (hm : m < 18446744073709551616) (hb : bs.length <= 1000000) (w : World) (hw : Wq w p ao bs) :
  Calls Tryz.prog 150 #[.pointer (some ⟨p, 0, none⟩), .int .u64 (m : Int)] w fun r w' => r = .returned (.tuple #[]) /\ ∃ ao', Lx w w' p ao ao' bs (Cp.form m) := by
 obtain ⟨cap, h⟩ := hw.wr
 refine (wuint_any p ao _ cap _ bs 0 m hm w h (by omega) (by omega) (by omega)).mono ?_
 rintro r w' ⟨rfl, hl⟩
 exact ⟨rfl, Lx.of hl (by have := Cp.form_ten hm; omega)⟩
theorem xbyte_any (p : Nat) (ao : Option Addr) (bs : List UInt8) (m : UInt8) (x : Int) (hm : x = (m.toNat : Int)) (hb : bs.length <= 1000000) (w : World) (hw : Wq w p ao bs) :
  Calls Tryz.prog 97 #[.pointer (some ⟨p, 0, none⟩), .int .u8 x] w fun r w' => r = .returned (.tuple #[]) /\ ∃ ao', Lx w w' p ao ao' bs [m] := by
 obtain ⟨cap, h⟩ := hw.wr
 refine (wbyte_any p ao _ cap _ bs 0 m x hm w h (by omega) (by omega) (by omega)).mono ?_
 rintro r w' ⟨rfl, hl⟩
 exact ⟨rfl, Lx.of hl (by simp; omega)⟩
abbrev wqv (p : Nat) : Value := .agg #[.pointer (some ⟨p, 0, none⟩)]
theorem wbox (w : World) (p : Nat) : (w.alloc (.cells #[.pointer (some ⟨p, 0, none⟩)] 100)).heap[w.heap.size]? = some (.cells #[.pointer (some ⟨p, 0, none⟩)] 100 (0, 0)) := heap_alloc_new w _
set_option maxHeartbeats 2000000 in
theorem xnum_any (p : Nat) (ao : Option Addr) (bs : List UInt8) (lo : Option Addr) (ln lc : Nat) (l : List Int) (hl : ∀ n ∈ l, I64 n) (hb : bs.length + 10 * l.length <= 1000000) (w : World) (hw : Wq w p ao bs) (hr : RdI w lo ln lc l) (hne : ∀ a, lo = some a -> 0 < ln -> ¬ Wf p ao a.block) :
  Calls Tryz.prog 108 #[wqv p, .slice lo ln lc] w fun r w' => r = .returned (.tuple #[]) /\ ∃ ao', Lx w w' p ao ao' bs (nsB l) := by
 have A0 := Still.alloc w (.cells #[.pointer (some ⟨p, 0, none⟩)] 100)
 have hx0 := wbox w p
 have hk0 : ¬ Wf p ao w.heap.size := fun e => by have := hw.wf_lt _ e; omega
 obtain ⟨W, eW⟩ : ∃ W, w.alloc (.cells #[.pointer (some ⟨p, 0, none⟩)] 100) = W := ⟨_, rfl⟩
 obtain ⟨g, eg⟩ : ∃ g, w.heap.size = g := ⟨_, rfl⟩
 rw [eW] at A0 hx0
 rw [eg] at hx0 hk0
 have hln := hr.len
 have hsm := hr.small
 have HW := hid (hw.still A0)
 have HR := hid (hr.still A0)
 have HX := hid hx0
 have HK := hid (And.intro hk0 (show g < W.heap.size from block_lt hx0))
 have HN := hid hne
 have HA := hid A0
 have HLl := hid hl
 have HRl : Hid (∀ a, lo = some a -> 0 < ln -> a.block < W.heap.size) := hid (fun a ha h0 => (hr.still A0).lt h0 a ha)
 clear A0 hx0 hk0 hw hr hne hl
 go_enter Tryz.func108, Tryz.ntmps108
 go_wp2_with fail
 go_loopw [8] (fun u8 wr => ∃ (i : Nat) (ao1 : Option Addr), i <= ln /\ u8 = .int .i64 (i : Int) /\ Hid (Lx W wr p ao ao1 bs (nsB (l.take i)))) (fun u8 _ => ln - (intOf u8).toNat)
 case atStart => exact ⟨0, ao, by omega, rfl, hid (Lx.nil HW.out (Fr.refl _ _))⟩
 case round =>
  obtain ⟨i, ao1, hi, rfl, HL⟩ := hrel
  by_cases hin : i < ln
  ·have hlt : (i : Int) < (ln : Int) := by omega
   have hil : i < l.length := by omega
   obtain ⟨b, o, rfl⟩ := HR.out.addr (by omega)
   have c1 := (HR.out.kept HL.out.f (fun a ha h0 => HN.out a ha h0)).byte hil
   have hx1 := HL.out.f.kept HX.out HK.out.1
   have c0 : wr.cell? ⟨g, 0, none⟩ = some (.pointer (some ⟨p, 0, none⟩)) := by rw [cell_of_row _ _ _ _ _ _ hx1]; rfl
   have hlen : (bs ++ nsB (l.take i)).length <= 1000000 := by
    have := nsB_le (l := l.take i) (fun n hn => HLl.out n (List.mem_of_mem_take hn))
    rw [List.length_append]
    simp at this
    omega
   have HC := hid (xint_any p ao1 (bs ++ nsB (l.take i)) l[i] (HLl.out _ (List.getElem_mem hil)) hlen wr HL.out.q)
   have HS : Hid (nsB (l.take (i + 1)) = nsB (l.take i) ++ Cp.form (Cp.fold l[i])) := hid (by rw [List.take_succ_eq_append_getElem hil, nsB_app, nsB_one])
   obtain ⟨x, ex⟩ : ∃ x, l[i] = x := ⟨_, rfl⟩
   rw [ex] at c1 HC HS
   clear ex hlen hx1
   go_wp2_with fail
   refine HC.out.mono ?_
   rintro e w2 ⟨he, ao2, h2⟩
   rw [he]
   have HL2 : Hid (Lx W w2 p ao ao2 bs (nsB (l.take (i + 1)))) := hid (by rw [HS.out]; exact HL.out.trans h2)
   clear he h2 HC c0 c1 HL HS
   go_wp2_with fail
   go_roundw
   case rel => exact ⟨i + 1, ao2, by omega, by go_num, HL2⟩
   case measure => simp [intOf]; omega
  ·obtain rfl : i = ln := by omega
   have HL2 : Hid (Lx w wr p ao ao1 bs (nsB l)) := hid (by
    have := HL.out.from HA.out
    rw [List.take_of_length_le (by omega)] at this
    exact this)
   go_wp2_with fail
   go_end0
   exact ⟨rfl, ao1, HL2.out⟩
end Go.Proofs.YtkgbmefaphhcnaaGreatDoor
namespace Go.Proofs.YtkgbmefaphhcnaaGreatDoor
open Go.RowKit
open Np Za Ka Ea
set_option maxRecDepth 100000
theorem RdI.lit (w : World) (l : List Int) (hl : l.length <= 1000000) : RdI (w.alloc (.cells (l.map (fun n => Value.int .i64 n)).toArray 3)) (some ⟨w.heap.size, 0, none⟩) l.length l.length l := by
 refine ⟨rfl, Nat.le_refl _, by unfold maxLen; omega, fun a ha _ => (by cases ha; rfl), fun h => (by cases h), ?_⟩
 rintro a ha j hj
 cases ha
 rw [cell_of_row _ _ _ _ _ _ (heap_alloc_new w _)]
 simp [hj]
theorem xlit_any (p : Nat) (ao : Option Addr) (bs : List UInt8) (l : List Int) (hl : ∀ n ∈ l, I64 n) (hb : bs.length + 10 * l.length <= 1000000) (w : World) (hw : Wq w p ao bs) :
  Calls Tryz.prog 108 #[wqv p, .slice (some ⟨w.heap.size, 0, none⟩) l.length l.length] (w.alloc (.cells (l.map (fun n => Value.int .i64 n)).toArray 3)) fun r w' => r = .returned (.tuple #[]) /\ ∃ ao', Lx w w' p ao ao' bs (nsB l) := by
 have A := Still.alloc w (.cells (l.map (fun n => Value.int .i64 n)).toArray 3)
 refine (xnum_any p ao bs _ _ _ l hl hb _ (hw.still A) (RdI.lit w l (by omega)) (fun a ha _ e => ?_)).mono ?_
 ·cases ha
  have := hw.wf_lt _ e
  simp at this
 ·rintro r w' ⟨rfl, ao', h⟩
  exact ⟨rfl, ao', h.from A⟩
structure Bq (w : World) (p : Nat) (ao : Option Addr) (g h : Nat) (o : Obj) : Prop where
 wb : w.heap[g]? = some (.cells #[.pointer (some ⟨p, 0, none⟩)] 100 (0, 0))
 sb : w.heap[h]? = some o
 n1 : ¬ Wf p ao g
 n2 : ¬ Wf p ao h
theorem Bq.on {w w1 : World} {p g h : Nat} {ao ao1 : Option Addr} {o : Obj} {bs x : List UInt8} (b : Bq w p ao g h o) (hl : Lx w w1 p ao ao1 bs x) : Bq w1 p ao1 g h o :=
 ⟨hl.f.kept b.wb b.n1, hl.f.kept b.sb b.n2, hl.off (block_lt b.wb) b.n1, hl.off (block_lt b.sb) b.n2⟩
theorem Bq.cell {w : World} {p g h : Nat} {ao : Option Addr} {o : Obj} (b : Bq w p ao g h o) : w.cell? ⟨g, 0, none⟩ = some (.pointer (some ⟨p, 0, none⟩)) := by rw [cell_of_row _ _ _ _ _ _ b.wb]; rfl
theorem Bq.new {w : World} {p : Nat} {ao : Option Addr} {bs : List UInt8} (hw : Wq w p ao bs) (cs : Array Value) (t : TypeId) : Bq ((w.alloc (.cells #[.pointer (some ⟨p, 0, none⟩)] 100)).alloc (.cells cs t)) p ao w.heap.size (w.heap.size + 1) (.cells cs t (0, 0)) := by
 refine ⟨(Still.alloc _ _).kept_still (wbox w p), ?_, fun e => by have := hw.wf_lt _ e; omega, fun e => by have := hw.wf_lt _ e; omega⟩
 have := heap_alloc_new (w.alloc (.cells #[.pointer (some ⟨p, 0, none⟩)] 100)) (.cells cs t)
 rw [size_alloc] at this
 exact this
set_option maxHeartbeats 2000000 in
theorem xpoint_any (p : Nat) (ao : Option Addr) (bs : List UInt8) (x y : Int) (hh : ∀ n ∈ [x, y], I64 n) (hb : bs.length + 20 <= 1000000) (w : World) (hw : Wq w p ao bs) :
  Calls Tryz.prog 148 #[wqv p, pt x y] w fun r w' => r = .returned (.tuple #[]) /\ ∃ ao', Lx w w' p ao ao' bs (nsB [x, y]) := by
 have B0 := Bq.new hw #[.int .i64 x, .int .i64 y] 53
 have A0 := (Still.alloc w (.cells #[.pointer (some ⟨p, 0, none⟩)] 100)).trans (Still.alloc _ (.cells #[.int .i64 x, .int .i64 y] 53))
 obtain ⟨W, eW⟩ : ∃ W, (w.alloc (.cells #[.pointer (some ⟨p, 0, none⟩)] 100)).alloc (.cells #[.int .i64 x, .int .i64 y] 53) = W := ⟨_, rfl⟩
 obtain ⟨g, eg⟩ : ∃ g, w.heap.size = g := ⟨_, rfl⟩
 rw [eW] at A0 B0
 rw [eg] at B0
 have HB := hid B0
 have k0 := B0.cell
 have d0 := (cell_of_row _ _ 0 _ _ _ B0.sb)
 have d1 := (cell_of_row _ _ 1 _ _ _ B0.sb)
 simp only [List.getElem?_toArray, List.getElem?_cons_zero, List.getElem?_cons_succ] at d0 d1
 have HA := hid A0
 have HW := hid (hw.still A0)
 clear A0 B0 hw
 go_enter Tryz.func148, Tryz.ntmps148
 have HC := hid (xlit_any p ao bs [x, y] hh (by simp only [List.length_cons, List.length_nil]; omega) W HW.out)
 go_wp2_with fail
 refine HC.out.mono ?_
 rintro e w1 ⟨he, ao1, h1⟩
 rw [he]
 have HL1 : Hid (Lx w w1 p ao ao1 bs (nsB [x, y])) := hid (h1.from HA.out)
 clear he h1 HC
 go_wp2_with fail
 go_end0
 exact ⟨rfl, ao1, HL1.out⟩
set_option maxHeartbeats 2000000 in
theorem xflag_t (p : Nat) (ao : Option Addr) (bs : List UInt8)  (hb : bs.length + 1 <= 1000000) (w : World) (hw : Wq w p ao bs) :
  Calls Tryz.prog 149 #[wqv p, .bool true] w fun r w' => r = .returned (.tuple #[]) /\ ∃ ao', Lx w w' p ao ao' bs ([1]) := by
 have hx0 := wbox w p
 have A0 := Still.alloc w (.cells #[.pointer (some ⟨p, 0, none⟩)] 100)
 obtain ⟨W, eW⟩ : ∃ W, w.alloc (.cells #[.pointer (some ⟨p, 0, none⟩)] 100) = W := ⟨_, rfl⟩
 obtain ⟨g, eg⟩ : ∃ g, w.heap.size = g := ⟨_, rfl⟩
 rw [eW] at A0 hx0
 rw [eg] at hx0
 have k0 : W.cell? ⟨g, 0, none⟩ = some (.pointer (some ⟨p, 0, none⟩)) := by rw [cell_of_row _ _ _ _ _ _ hx0]; rfl
 have HA := hid A0
 have HW := hid (hw.still A0)
 clear A0 hx0 hw
 go_enter Tryz.func149, Tryz.ntmps149
 have HC := hid (xbyte_any p ao bs 1 1 rfl (by omega) W HW.out)
 go_wp2_with fail
 refine HC.out.mono ?_
 rintro e w1 ⟨he, ao1, h1⟩
 rw [he]
 have HL1 : Hid (Lx w w1 p ao ao1 bs ([1])) := hid (h1.from HA.out)
 clear he h1 HC
 go_wp2_with fail
 go_end0
 exact ⟨rfl, ao1, HL1.out⟩
set_option maxHeartbeats 2000000 in
theorem xflag_f (p : Nat) (ao : Option Addr) (bs : List UInt8)  (hb : bs.length + 1 <= 1000000) (w : World) (hw : Wq w p ao bs) :
  Calls Tryz.prog 149 #[wqv p, .bool false] w fun r w' => r = .returned (.tuple #[]) /\ ∃ ao', Lx w w' p ao ao' bs ([0]) := by
 have hx0 := wbox w p
 have A0 := Still.alloc w (.cells #[.pointer (some ⟨p, 0, none⟩)] 100)
 obtain ⟨W, eW⟩ : ∃ W, w.alloc (.cells #[.pointer (some ⟨p, 0, none⟩)] 100) = W := ⟨_, rfl⟩
 obtain ⟨g, eg⟩ : ∃ g, w.heap.size = g := ⟨_, rfl⟩
 rw [eW] at A0 hx0
 rw [eg] at hx0
 have k0 : W.cell? ⟨g, 0, none⟩ = some (.pointer (some ⟨p, 0, none⟩)) := by rw [cell_of_row _ _ _ _ _ _ hx0]; rfl
 have HA := hid A0
 have HW := hid (hw.still A0)
 clear A0 hx0 hw
 go_enter Tryz.func149, Tryz.ntmps149
 have HC := hid (xbyte_any p ao bs 0 0 rfl (by omega) W HW.out)
 go_wp2_with fail
 refine HC.out.mono ?_
 rintro e w1 ⟨he, ao1, h1⟩
 rw [he]
 have HL1 : Hid (Lx w w1 p ao ao1 bs ([0])) := hid (h1.from HA.out)
 clear he h1 HC
 go_wp2_with fail
 go_end0
 exact ⟨rfl, ao1, HL1.out⟩
theorem xflag_any (p : Nat) (ao : Option Addr) (bs : List UInt8) (b : Bool) (_ : True) (hb : bs.length + 1 <= 1000000) (w : World) (hw : Wq w p ao bs) :
  Calls Tryz.prog 149 #[wqv p, .bool b] w fun r w' => r = .returned (.tuple #[]) /\ ∃ ao', Lx w w' p ao ao' bs (flB b) := by
 cases b
 ·exact xflag_f p ao bs hb w hw
 ·exact xflag_t p ao bs hb w hw
set_option maxHeartbeats 2000000 in
theorem xcount_any (p : Nat) (ao : Option Addr) (bs : List UInt8) (k : Nat) (hk : k <= 9223372036854775807) (hb : bs.length + 10 <= 1000000) (w : World) (hw : Wq w p ao bs) :
  Calls Tryz.prog 103 #[wqv p, .int .i64 (k : Int)] w fun r w' => r = .returned (.tuple #[]) /\ ∃ ao', Lx w w' p ao ao' bs (Cp.form k) := by
 have hx0 := wbox w p
 have A0 := Still.alloc w (.cells #[.pointer (some ⟨p, 0, none⟩)] 100)
 obtain ⟨W, eW⟩ : ∃ W, w.alloc (.cells #[.pointer (some ⟨p, 0, none⟩)] 100) = W := ⟨_, rfl⟩
 obtain ⟨g, eg⟩ : ∃ g, w.heap.size = g := ⟨_, rfl⟩
 rw [eW] at A0 hx0
 rw [eg] at hx0
 have k0 : W.cell? ⟨g, 0, none⟩ = some (.pointer (some ⟨p, 0, none⟩)) := by rw [cell_of_row _ _ _ _ _ _ hx0]; rfl
 have HA := hid A0
 have HW := hid (hw.still A0)
 clear A0 hx0 hw
 have hcv : IntKind.u64.wrap (k : Int) = (k : Int) := by rw [IntKind.wrap_u64]; omega
 go_enter Tryz.func103, Tryz.ntmps103
 have HC := hid (xuint_any p ao bs k (by omega) (by omega) W HW.out)
 go_wp2_with fail
 refine HC.out.mono ?_
 rintro e w1 ⟨he, ao1, h1⟩
 rw [he]
 have HL1 : Hid (Lx w w1 p ao ao1 bs (Cp.form k)) := hid (h1.from HA.out)
 clear he h1 HC
 go_wp2_with fail
 go_end0
 exact ⟨rfl, ao1, HL1.out⟩
set_option maxHeartbeats 2000000 in
theorem xscore_any (p : Nat) (ao : Option Addr) (bs : List UInt8) (s : Scr) (hh : ∀ n ∈ scN s, I64 n) (hb : bs.length + 40 <= 1000000) (w : World) (hw : Wq w p ao bs) :
  Calls Tryz.prog 102 #[wqv p, cv s] w fun r w' => r = .returned (.tuple #[]) /\ ∃ ao', Lx w w' p ao ao' bs (nsB (scN s)) := by
 have B0 := Bq.new hw (ccs s) 57
 have A0 := (Still.alloc w (.cells #[.pointer (some ⟨p, 0, none⟩)] 100)).trans (Still.alloc _ (.cells (ccs s) 57))
 obtain ⟨W, eW⟩ : ∃ W, (w.alloc (.cells #[.pointer (some ⟨p, 0, none⟩)] 100)).alloc (.cells (ccs s) 57) = W := ⟨_, rfl⟩
 obtain ⟨g, eg⟩ : ∃ g, w.heap.size = g := ⟨_, rfl⟩
 rw [eW] at A0 B0
 rw [eg] at B0
 have HB := hid B0
 have k0 := B0.cell
 have d0 := (cell_of_row _ _ 0 _ _ _ B0.sb)
 have d1 := (cell_of_row _ _ 1 _ _ _ B0.sb)
 have d2 := (cell_of_row _ _ 2 _ _ _ B0.sb)
 have d3 := (cell_of_row _ _ 3 _ _ _ B0.sb)
 simp only [List.getElem?_toArray, List.getElem?_cons_zero, List.getElem?_cons_succ] at d0 d1 d2 d3
 have HA := hid A0
 have HW := hid (hw.still A0)
 clear A0 B0 hw
 go_enter Tryz.func102, Tryz.ntmps102
 have HC := hid (xlit_any p ao bs [s.p, s.h, s.o, s.k] hh (by simp only [List.length_cons, List.length_nil]; omega) W HW.out)
 go_wp2_with fail
 refine HC.out.mono ?_
 rintro e w1 ⟨he, ao1, h1⟩
 rw [he]
 have HL1 : Hid (Lx w w1 p ao ao1 bs (nsB (scN s))) := hid (h1.from HA.out)
 clear he h1 HC
 go_wp2_with fail
 go_end0
 exact ⟨rfl, ao1, HL1.out⟩
set_option maxHeartbeats 2000000 in
theorem xpickup_any (p : Nat) (ao : Option Addr) (bs : List UInt8) (s : Pk) (hh : ∀ n ∈ pkN s, I64 n) (hb : bs.length + 30 <= 1000000) (w : World) (hw : Wq w p ao bs) :
  Calls Tryz.prog 107 #[wqv p, kv s] w fun r w' => r = .returned (.tuple #[]) /\ ∃ ao', Lx w w' p ao ao' bs (nsB (pkN s)) := by
 have B0 := Bq.new hw (kcs s) 61
 have A0 := (Still.alloc w (.cells #[.pointer (some ⟨p, 0, none⟩)] 100)).trans (Still.alloc _ (.cells (kcs s) 61))
 obtain ⟨W, eW⟩ : ∃ W, (w.alloc (.cells #[.pointer (some ⟨p, 0, none⟩)] 100)).alloc (.cells (kcs s) 61) = W := ⟨_, rfl⟩
 obtain ⟨g, eg⟩ : ∃ g, w.heap.size = g := ⟨_, rfl⟩
 rw [eW] at A0 B0
 rw [eg] at B0
 have HB := hid B0
 have k0 := B0.cell
 have d0 := (cell_of_row _ _ 0 _ _ _ B0.sb)
 have d1 := (cell_of_row _ _ 1 _ _ _ B0.sb)
 have d2 := (cell_of_row _ _ 2 _ _ _ B0.sb)
 simp only [List.getElem?_toArray, List.getElem?_cons_zero, List.getElem?_cons_succ] at d0 d1 d2
 have HA := hid A0
 have HW := hid (hw.still A0)
 clear A0 B0 hw
 go_enter Tryz.func107, Tryz.ntmps107
 have HC := hid (xlit_any p ao bs [s.no, s.sp, s.kd] hh (by simp only [List.length_cons, List.length_nil]; omega) W HW.out)
 go_wp2_with fail
 refine HC.out.mono ?_
 rintro e w1 ⟨he, ao1, h1⟩
 rw [he]
 have HL1 : Hid (Lx w w1 p ao ao1 bs (nsB (pkN s))) := hid (h1.from HA.out)
 clear he h1 HC
 go_wp2_with fail
 go_end0
 exact ⟨rfl, ao1, HL1.out⟩
set_option maxHeartbeats 2000000 in
theorem xshot_any (p : Nat) (ao : Option Addr) (bs : List UInt8) (s : Sh) (hh : ∀ n ∈ shN s, I64 n) (hb : bs.length + 80 <= 1000000) (w : World) (hw : Wq w p ao bs) :
  Calls Tryz.prog 105 #[wqv p, sv s] w fun r w' => r = .returned (.tuple #[]) /\ ∃ ao', Lx w w' p ao ao' bs (nsB [s.no, s.ow, s.pw] ++ nsB [s.ax, s.ay] ++ nsB [s.sx, s.sy] ++ nsB [s.lf]) := by
 have B0 := Bq.new hw (scs s) 59
 have A0 := (Still.alloc w (.cells #[.pointer (some ⟨p, 0, none⟩)] 100)).trans (Still.alloc _ (.cells (scs s) 59))
 obtain ⟨W, eW⟩ : ∃ W, (w.alloc (.cells #[.pointer (some ⟨p, 0, none⟩)] 100)).alloc (.cells (scs s) 59) = W := ⟨_, rfl⟩
 obtain ⟨g, eg⟩ : ∃ g, w.heap.size = g := ⟨_, rfl⟩
 rw [eW] at A0 B0
 rw [eg] at B0
 have HB := hid B0
 have k0 := B0.cell
 have d0 := (cell_of_row _ _ 0 _ _ _ B0.sb)
 have d1 := (cell_of_row _ _ 1 _ _ _ B0.sb)
 have d2 := (cell_of_row _ _ 2 _ _ _ B0.sb)
 have d3 := (cell_of_row _ _ 3 _ _ _ B0.sb)
 have d4 := (cell_of_row _ _ 4 _ _ _ B0.sb)
 have d5 := (cell_of_row _ _ 5 _ _ _ B0.sb)
 have d6 := (cell_of_row _ _ 6 _ _ _ B0.sb)
 have d7 := (cell_of_row _ _ 7 _ _ _ B0.sb)
 simp only [List.getElem?_toArray, List.getElem?_cons_zero, List.getElem?_cons_succ] at d0 d1 d2 d3 d4 d5 d6 d7
 have HA := hid A0
 have HW := hid (hw.still A0)
 clear A0 B0 hw
 go_enter Tryz.func105, Tryz.ntmps105
 have HC := hid (xlit_any p ao bs [s.no, s.ow, s.pw] (fun n hn => hh n (by simp only [List.mem_cons, List.not_mem_nil, or_false] at hn; rcases hn with rfl | rfl | rfl <;> simp [shN])) (by simp only [List.length_cons, List.length_nil]; omega) W HW.out)
 go_wp2_with fail
 refine HC.out.mono ?_
 rintro e w1 ⟨he, ao1, h1⟩
 rw [he]
 have HL1 : Hid (Lx w w1 p ao ao1 bs (nsB [s.no, s.ow, s.pw])) := hid (h1.from HA.out)
 have HB1 := hid (HB.out.on h1)
 have z1 : (bs ++ (nsB [s.no, s.ow, s.pw])).length <= bs.length + 30 := by
  have zz := nsB_le (l := [s.no, s.ow, s.pw]) (fun n hn => hh n (by simp only [List.mem_cons, List.not_mem_nil, or_false] at hn; rcases hn with rfl | rfl | rfl <;> simp [shN]))
  simp only [List.length_append, List.length_cons, List.length_nil] at zz ⊢
  omega
 clear he h1 HC k0 d0 d1 d2 d3 d4 d5 d6 d7
 have k0 := HB1.out.cell
 have d0 := (cell_of_row _ _ 0 _ _ _ HB1.out.sb)
 have d1 := (cell_of_row _ _ 1 _ _ _ HB1.out.sb)
 have d2 := (cell_of_row _ _ 2 _ _ _ HB1.out.sb)
 have d3 := (cell_of_row _ _ 3 _ _ _ HB1.out.sb)
 have d4 := (cell_of_row _ _ 4 _ _ _ HB1.out.sb)
 have d5 := (cell_of_row _ _ 5 _ _ _ HB1.out.sb)
 have d6 := (cell_of_row _ _ 6 _ _ _ HB1.out.sb)
 have d7 := (cell_of_row _ _ 7 _ _ _ HB1.out.sb)
 simp only [List.getElem?_toArray, List.getElem?_cons_zero, List.getElem?_cons_succ] at d0 d1 d2 d3 d4 d5 d6 d7
 have HC := hid (xpoint_any p ao1 (bs ++ (nsB [s.no, s.ow, s.pw])) s.ax s.ay (fun n hn => hh n (by simp only [List.mem_cons, List.not_mem_nil, or_false] at hn; rcases hn with rfl | rfl <;> simp [shN])) (by omega) w1 HL1.out.q)
 go_wp2_with fail
 refine HC.out.mono ?_
 rintro e w2 ⟨he, ao2, h2⟩
 rw [he]
 have HL2 : Hid (Lx w w2 p ao ao2 bs (nsB [s.no, s.ow, s.pw] ++ nsB [s.ax, s.ay])) := hid (HL1.out.trans h2)
 have HB2 := hid (HB1.out.on h2)
 have z2 : (bs ++ (nsB [s.no, s.ow, s.pw] ++ nsB [s.ax, s.ay])).length <= bs.length + 50 := by
  have zz := nsB_le (l := [s.ax, s.ay]) (fun n hn => hh n (by simp only [List.mem_cons, List.not_mem_nil, or_false] at hn; rcases hn with rfl | rfl <;> simp [shN]))
  simp only [List.length_append, List.length_cons, List.length_nil] at zz z1 ⊢
  omega
 clear he h2 HC k0 d0 d1 d2 d3 d4 d5 d6 d7
 have k0 := HB2.out.cell
 have d0 := (cell_of_row _ _ 0 _ _ _ HB2.out.sb)
 have d1 := (cell_of_row _ _ 1 _ _ _ HB2.out.sb)
 have d2 := (cell_of_row _ _ 2 _ _ _ HB2.out.sb)
 have d3 := (cell_of_row _ _ 3 _ _ _ HB2.out.sb)
 have d4 := (cell_of_row _ _ 4 _ _ _ HB2.out.sb)
 have d5 := (cell_of_row _ _ 5 _ _ _ HB2.out.sb)
 have d6 := (cell_of_row _ _ 6 _ _ _ HB2.out.sb)
 have d7 := (cell_of_row _ _ 7 _ _ _ HB2.out.sb)
 simp only [List.getElem?_toArray, List.getElem?_cons_zero, List.getElem?_cons_succ] at d0 d1 d2 d3 d4 d5 d6 d7
 have HC := hid (xpoint_any p ao2 (bs ++ (nsB [s.no, s.ow, s.pw] ++ nsB [s.ax, s.ay])) s.sx s.sy (fun n hn => hh n (by simp only [List.mem_cons, List.not_mem_nil, or_false] at hn; rcases hn with rfl | rfl <;> simp [shN])) (by omega) w2 HL2.out.q)
 go_wp2_with fail
 refine HC.out.mono ?_
 rintro e w3 ⟨he, ao3, h3⟩
 rw [he]
 have HL3 : Hid (Lx w w3 p ao ao3 bs (nsB [s.no, s.ow, s.pw] ++ nsB [s.ax, s.ay] ++ nsB [s.sx, s.sy])) := hid (HL2.out.trans h3)
 have HB3 := hid (HB2.out.on h3)
 have z3 : (bs ++ (nsB [s.no, s.ow, s.pw] ++ nsB [s.ax, s.ay] ++ nsB [s.sx, s.sy])).length <= bs.length + 70 := by
  have zz := nsB_le (l := [s.sx, s.sy]) (fun n hn => hh n (by simp only [List.mem_cons, List.not_mem_nil, or_false] at hn; rcases hn with rfl | rfl <;> simp [shN]))
  simp only [List.length_append, List.length_cons, List.length_nil] at zz z2 ⊢
  omega
 clear he h3 HC k0 d0 d1 d2 d3 d4 d5 d6 d7
 have k0 := HB3.out.cell
 have d0 := (cell_of_row _ _ 0 _ _ _ HB3.out.sb)
 have d1 := (cell_of_row _ _ 1 _ _ _ HB3.out.sb)
 have d2 := (cell_of_row _ _ 2 _ _ _ HB3.out.sb)
 have d3 := (cell_of_row _ _ 3 _ _ _ HB3.out.sb)
 have d4 := (cell_of_row _ _ 4 _ _ _ HB3.out.sb)
 have d5 := (cell_of_row _ _ 5 _ _ _ HB3.out.sb)
 have d6 := (cell_of_row _ _ 6 _ _ _ HB3.out.sb)
 have d7 := (cell_of_row _ _ 7 _ _ _ HB3.out.sb)
 simp only [List.getElem?_toArray, List.getElem?_cons_zero, List.getElem?_cons_succ] at d0 d1 d2 d3 d4 d5 d6 d7
 have HC := hid (xlit_any p ao3 (bs ++ (nsB [s.no, s.ow, s.pw] ++ nsB [s.ax, s.ay] ++ nsB [s.sx, s.sy])) [s.lf] (fun n hn => hh n (by simp only [List.mem_cons, List.not_mem_nil, or_false] at hn; subst hn; simp [shN])) (by simp only [List.length_cons, List.length_nil]; omega) w3 HL3.out.q)
 go_wp2_with fail
 refine HC.out.mono ?_
 rintro e w4 ⟨he, ao4, h4⟩
 rw [he]
 have HL4 : Hid (Lx w w4 p ao ao4 bs (nsB [s.no, s.ow, s.pw] ++ nsB [s.ax, s.ay] ++ nsB [s.sx, s.sy] ++ nsB [s.lf])) := hid (HL3.out.trans h4)
 clear he h4 HC
 go_wp2_with fail
 go_end0
 exact ⟨rfl, ao4, HL4.out⟩
set_option maxHeartbeats 2000000 in
theorem xmover_any (p : Nat) (ao : Option Addr) (bs : List UInt8) (m : Mv) (hh : ∀ n ∈ mvN m, I64 n) (hb : bs.length + 121 <= 1000000) (w : World) (hw : Wq w p ao bs) :
  Calls Tryz.prog 100 #[wqv p, mv m] w fun r w' => r = .returned (.tuple #[]) /\ ∃ ao', Lx w w' p ao ao' bs (nsB [m.ax, m.ay] ++ nsB [m.sx, m.sy] ++ nsB [m.px, m.py] ++ nsB [m.fc, m.hl, m.en, m.co, m.ou, m.sd] ++ flB m.sh) := by
 have B0 := Bq.new hw (mcs m) 55
 have A0 := (Still.alloc w (.cells #[.pointer (some ⟨p, 0, none⟩)] 100)).trans (Still.alloc _ (.cells (mcs m) 55))
 obtain ⟨W, eW⟩ : ∃ W, (w.alloc (.cells #[.pointer (some ⟨p, 0, none⟩)] 100)).alloc (.cells (mcs m) 55) = W := ⟨_, rfl⟩
 obtain ⟨g, eg⟩ : ∃ g, w.heap.size = g := ⟨_, rfl⟩
 rw [eW] at A0 B0
 rw [eg] at B0
 have HB := hid B0
 have k0 := B0.cell
 have d0 := (cell_of_row _ _ 0 _ _ _ B0.sb)
 have d1 := (cell_of_row _ _ 1 _ _ _ B0.sb)
 have d2 := (cell_of_row _ _ 2 _ _ _ B0.sb)
 have d3 := (cell_of_row _ _ 3 _ _ _ B0.sb)
 have d4 := (cell_of_row _ _ 4 _ _ _ B0.sb)
 have d5 := (cell_of_row _ _ 5 _ _ _ B0.sb)
 have d6 := (cell_of_row _ _ 6 _ _ _ B0.sb)
 have d7 := (cell_of_row _ _ 7 _ _ _ B0.sb)
 have d8 := (cell_of_row _ _ 8 _ _ _ B0.sb)
 have d9 := (cell_of_row _ _ 9 _ _ _ B0.sb)
 have d10 := (cell_of_row _ _ 10 _ _ _ B0.sb)
 have d11 := (cell_of_row _ _ 11 _ _ _ B0.sb)
 have d12 := (cell_of_row _ _ 12 _ _ _ B0.sb)
 simp only [List.getElem?_toArray, List.getElem?_cons_zero, List.getElem?_cons_succ] at d0 d1 d2 d3 d4 d5 d6 d7 d8 d9 d10 d11 d12
 have HA := hid A0
 have HW := hid (hw.still A0)
 clear A0 B0 hw
 go_enter Tryz.func100, Tryz.ntmps100
 have HC := hid (xpoint_any p ao bs m.ax m.ay (fun n hn => hh n (by simp only [List.mem_cons, List.not_mem_nil, or_false] at hn; rcases hn with rfl | rfl <;> simp [mvN])) (by omega) W HW.out)
 go_wp2_with fail
 refine HC.out.mono ?_
 rintro e w1 ⟨he, ao1, h1⟩
 rw [he]
 have HL1 : Hid (Lx w w1 p ao ao1 bs (nsB [m.ax, m.ay])) := hid (h1.from HA.out)
 have HB1 := hid (HB.out.on h1)
 have z1 : (bs ++ (nsB [m.ax, m.ay])).length <= bs.length + 20 := by
  have zz := nsB_le (l := [m.ax, m.ay]) (fun n hn => hh n (by simp only [List.mem_cons, List.not_mem_nil, or_false] at hn; rcases hn with rfl | rfl <;> simp [mvN]))
  simp only [List.length_append, List.length_cons, List.length_nil] at zz ⊢
  omega
 clear he h1 HC k0 d0 d1 d2 d3 d4 d5 d6 d7 d8 d9 d10 d11 d12
 have k0 := HB1.out.cell
 have d0 := (cell_of_row _ _ 0 _ _ _ HB1.out.sb)
 have d1 := (cell_of_row _ _ 1 _ _ _ HB1.out.sb)
 have d2 := (cell_of_row _ _ 2 _ _ _ HB1.out.sb)
 have d3 := (cell_of_row _ _ 3 _ _ _ HB1.out.sb)
 have d4 := (cell_of_row _ _ 4 _ _ _ HB1.out.sb)
 have d5 := (cell_of_row _ _ 5 _ _ _ HB1.out.sb)
 have d6 := (cell_of_row _ _ 6 _ _ _ HB1.out.sb)
 have d7 := (cell_of_row _ _ 7 _ _ _ HB1.out.sb)
 have d8 := (cell_of_row _ _ 8 _ _ _ HB1.out.sb)
 have d9 := (cell_of_row _ _ 9 _ _ _ HB1.out.sb)
 have d10 := (cell_of_row _ _ 10 _ _ _ HB1.out.sb)
 have d11 := (cell_of_row _ _ 11 _ _ _ HB1.out.sb)
 have d12 := (cell_of_row _ _ 12 _ _ _ HB1.out.sb)
 simp only [List.getElem?_toArray, List.getElem?_cons_zero, List.getElem?_cons_succ] at d0 d1 d2 d3 d4 d5 d6 d7 d8 d9 d10 d11 d12
 have HC := hid (xpoint_any p ao1 (bs ++ (nsB [m.ax, m.ay])) m.sx m.sy (fun n hn => hh n (by simp only [List.mem_cons, List.not_mem_nil, or_false] at hn; rcases hn with rfl | rfl <;> simp [mvN])) (by omega) w1 HL1.out.q)
 go_wp2_with fail
 refine HC.out.mono ?_
 rintro e w2 ⟨he, ao2, h2⟩
 rw [he]
 have HL2 : Hid (Lx w w2 p ao ao2 bs (nsB [m.ax, m.ay] ++ nsB [m.sx, m.sy])) := hid (HL1.out.trans h2)
 have HB2 := hid (HB1.out.on h2)
 have z2 : (bs ++ (nsB [m.ax, m.ay] ++ nsB [m.sx, m.sy])).length <= bs.length + 40 := by
  have zz := nsB_le (l := [m.sx, m.sy]) (fun n hn => hh n (by simp only [List.mem_cons, List.not_mem_nil, or_false] at hn; rcases hn with rfl | rfl <;> simp [mvN]))
  simp only [List.length_append, List.length_cons, List.length_nil] at zz z1 ⊢
  omega
 clear he h2 HC k0 d0 d1 d2 d3 d4 d5 d6 d7 d8 d9 d10 d11 d12
 have k0 := HB2.out.cell
 have d0 := (cell_of_row _ _ 0 _ _ _ HB2.out.sb)
 have d1 := (cell_of_row _ _ 1 _ _ _ HB2.out.sb)
 have d2 := (cell_of_row _ _ 2 _ _ _ HB2.out.sb)
 have d3 := (cell_of_row _ _ 3 _ _ _ HB2.out.sb)
 have d4 := (cell_of_row _ _ 4 _ _ _ HB2.out.sb)
 have d5 := (cell_of_row _ _ 5 _ _ _ HB2.out.sb)
 have d6 := (cell_of_row _ _ 6 _ _ _ HB2.out.sb)
 have d7 := (cell_of_row _ _ 7 _ _ _ HB2.out.sb)
 have d8 := (cell_of_row _ _ 8 _ _ _ HB2.out.sb)
 have d9 := (cell_of_row _ _ 9 _ _ _ HB2.out.sb)
 have d10 := (cell_of_row _ _ 10 _ _ _ HB2.out.sb)
 have d11 := (cell_of_row _ _ 11 _ _ _ HB2.out.sb)
 have d12 := (cell_of_row _ _ 12 _ _ _ HB2.out.sb)
 simp only [List.getElem?_toArray, List.getElem?_cons_zero, List.getElem?_cons_succ] at d0 d1 d2 d3 d4 d5 d6 d7 d8 d9 d10 d11 d12
 have HC := hid (xpoint_any p ao2 (bs ++ (nsB [m.ax, m.ay] ++ nsB [m.sx, m.sy])) m.px m.py (fun n hn => hh n (by simp only [List.mem_cons, List.not_mem_nil, or_false] at hn; rcases hn with rfl | rfl <;> simp [mvN])) (by omega) w2 HL2.out.q)
 go_wp2_with fail
 refine HC.out.mono ?_
 rintro e w3 ⟨he, ao3, h3⟩
 rw [he]
 have HL3 : Hid (Lx w w3 p ao ao3 bs (nsB [m.ax, m.ay] ++ nsB [m.sx, m.sy] ++ nsB [m.px, m.py])) := hid (HL2.out.trans h3)
 have HB3 := hid (HB2.out.on h3)
 have z3 : (bs ++ (nsB [m.ax, m.ay] ++ nsB [m.sx, m.sy] ++ nsB [m.px, m.py])).length <= bs.length + 60 := by
  have zz := nsB_le (l := [m.px, m.py]) (fun n hn => hh n (by simp only [List.mem_cons, List.not_mem_nil, or_false] at hn; rcases hn with rfl | rfl <;> simp [mvN]))
  simp only [List.length_append, List.length_cons, List.length_nil] at zz z2 ⊢
  omega
 clear he h3 HC k0 d0 d1 d2 d3 d4 d5 d6 d7 d8 d9 d10 d11 d12
 have k0 := HB3.out.cell
 have d0 := (cell_of_row _ _ 0 _ _ _ HB3.out.sb)
 have d1 := (cell_of_row _ _ 1 _ _ _ HB3.out.sb)
 have d2 := (cell_of_row _ _ 2 _ _ _ HB3.out.sb)
 have d3 := (cell_of_row _ _ 3 _ _ _ HB3.out.sb)
 have d4 := (cell_of_row _ _ 4 _ _ _ HB3.out.sb)
 have d5 := (cell_of_row _ _ 5 _ _ _ HB3.out.sb)
 have d6 := (cell_of_row _ _ 6 _ _ _ HB3.out.sb)
 have d7 := (cell_of_row _ _ 7 _ _ _ HB3.out.sb)
 have d8 := (cell_of_row _ _ 8 _ _ _ HB3.out.sb)
 have d9 := (cell_of_row _ _ 9 _ _ _ HB3.out.sb)
 have d10 := (cell_of_row _ _ 10 _ _ _ HB3.out.sb)
 have d11 := (cell_of_row _ _ 11 _ _ _ HB3.out.sb)
 have d12 := (cell_of_row _ _ 12 _ _ _ HB3.out.sb)
 simp only [List.getElem?_toArray, List.getElem?_cons_zero, List.getElem?_cons_succ] at d0 d1 d2 d3 d4 d5 d6 d7 d8 d9 d10 d11 d12
 have HC := hid (xlit_any p ao3 (bs ++ (nsB [m.ax, m.ay] ++ nsB [m.sx, m.sy] ++ nsB [m.px, m.py])) [m.fc, m.hl, m.en, m.co, m.ou, m.sd] (fun n hn => hh n (by simp only [List.mem_cons, List.not_mem_nil, or_false] at hn; rcases hn with rfl | rfl | rfl | rfl | rfl | rfl <;> simp [mvN])) (by simp only [List.length_cons, List.length_nil]; omega) w3 HL3.out.q)
 go_wp2_with fail
 refine HC.out.mono ?_
 rintro e w4 ⟨he, ao4, h4⟩
 rw [he]
 have HL4 : Hid (Lx w w4 p ao ao4 bs (nsB [m.ax, m.ay] ++ nsB [m.sx, m.sy] ++ nsB [m.px, m.py] ++ nsB [m.fc, m.hl, m.en, m.co, m.ou, m.sd])) := hid (HL3.out.trans h4)
 have HB4 := hid (HB3.out.on h4)
 have z4 : (bs ++ (nsB [m.ax, m.ay] ++ nsB [m.sx, m.sy] ++ nsB [m.px, m.py] ++ nsB [m.fc, m.hl, m.en, m.co, m.ou, m.sd])).length <= bs.length + 120 := by
  have zz := nsB_le (l := [m.fc, m.hl, m.en, m.co, m.ou, m.sd]) (fun n hn => hh n (by simp only [List.mem_cons, List.not_mem_nil, or_false] at hn; rcases hn with rfl | rfl | rfl | rfl | rfl | rfl <;> simp [mvN]))
  simp only [List.length_append, List.length_cons, List.length_nil] at zz z3 ⊢
  omega
 clear he h4 HC k0 d0 d1 d2 d3 d4 d5 d6 d7 d8 d9 d10 d11 d12
 have k0 := HB4.out.cell
 have d0 := (cell_of_row _ _ 0 _ _ _ HB4.out.sb)
 have d1 := (cell_of_row _ _ 1 _ _ _ HB4.out.sb)
 have d2 := (cell_of_row _ _ 2 _ _ _ HB4.out.sb)
 have d3 := (cell_of_row _ _ 3 _ _ _ HB4.out.sb)
 have d4 := (cell_of_row _ _ 4 _ _ _ HB4.out.sb)
 have d5 := (cell_of_row _ _ 5 _ _ _ HB4.out.sb)
 have d6 := (cell_of_row _ _ 6 _ _ _ HB4.out.sb)
 have d7 := (cell_of_row _ _ 7 _ _ _ HB4.out.sb)
 have d8 := (cell_of_row _ _ 8 _ _ _ HB4.out.sb)
 have d9 := (cell_of_row _ _ 9 _ _ _ HB4.out.sb)
 have d10 := (cell_of_row _ _ 10 _ _ _ HB4.out.sb)
 have d11 := (cell_of_row _ _ 11 _ _ _ HB4.out.sb)
 have d12 := (cell_of_row _ _ 12 _ _ _ HB4.out.sb)
 simp only [List.getElem?_toArray, List.getElem?_cons_zero, List.getElem?_cons_succ] at d0 d1 d2 d3 d4 d5 d6 d7 d8 d9 d10 d11 d12
 have HC := hid (xflag_any p ao4 (bs ++ (nsB [m.ax, m.ay] ++ nsB [m.sx, m.sy] ++ nsB [m.px, m.py] ++ nsB [m.fc, m.hl, m.en, m.co, m.ou, m.sd])) m.sh trivial (by omega) w4 HL4.out.q)
 go_wp2_with fail
 refine HC.out.mono ?_
 rintro e w5 ⟨he, ao5, h5⟩
 rw [he]
 have HL5 : Hid (Lx w w5 p ao ao5 bs (nsB [m.ax, m.ay] ++ nsB [m.sx, m.sy] ++ nsB [m.px, m.py] ++ nsB [m.fc, m.hl, m.en, m.co, m.ou, m.sd] ++ flB m.sh)) := hid (HL4.out.trans h5)
 clear he h5 HC
 go_wp2_with fail
 go_end0
 exact ⟨rfl, ao5, HL5.out⟩
end Go.Proofs.YtkgbmefaphhcnaaGreatDoor
