/- The program's from, copied, above, datagram, Turn, Ack. -/
import Derived.Test.YtcmgghfjakphmaaLkc
import Derived.BigQuiet
namespace Go.Proofs.Ytcmgghfjakphmaa
open Go.RowKit
open Wp Vp Lp
set_option maxRecDepth 100000
set_option linter.unusedVariables false
set_option linter.unusedSimpArgs false

theorem run_lhm (ao : Option Addr) (n cap i : Nat) (hi : i ≤ n) (hc : n ≤ cap) (w : World) : (Instr.slice 29 (.slice ao n cap) (some (.int .i64 (i : Int))) (some (.int .i64 (n : Int))) (some (.int .i64 (n : Int)))).run Try.prog w = .ok (.slice (cutG 7 ao n i) (n - i) (n - i)) w := by
  have hu := Try.underlying29
  have ht' : Try.prog.underlying 29 = some (.slice (Try.prog.elem 29)) := by simp [Program.elem, hu]
  have he : Try.prog.elem 29 = 47 := by simp [Program.elem, hu]
  rw [run_slice_lhm w 29 ao n cap ht' .i64 .i64 .i64 (i : Int) (n : Int) (n : Int) (by omega) (by omega) (by omega) (by omega), he]
  obtain ⟨inf, h1, _, h2, _⟩ := infoCc
  simp [sizeOf, typeInfo, h1, h2, Result.andThen, sliced, cutG, KCc]
theorem lfrom_any (ao : Option Addr) (n cap i : Nat) (hi : i ≤ n) (hc : n ≤ cap) (w : World) : Calls Try.prog 30 #[.slice ao n cap, .int .i64 (i : Int)] w fun e w' => e = .returned (.slice (cutG 7 ao n i) (n - i) (n - i)) ∧ w' = w := by
  have hrun := fun W => run_lhm ao n cap i hi hc W
  obtain ⟨v, ev⟩ : ∃ v, Value.slice (cutG 7 ao n i) (n - i) (n - i) = v := ⟨_, rfl⟩
  rw [ev] at hrun ⊢
  clear ev
  go_enter Try.func30, Try.ntmps30
  go_wp2_with fail
  go_ret
  exact ⟨rfl, rfl⟩
theorem lcop_any (ao : Option Addr) (n cap : Nat) (L : List Cc) (hn : L.length = n) (hl : n ≤ 100000) (w : World) (hr : SrG KCc w ao cap L) : Calls Try.prog 19 #[.slice ao n cap] w fun e w' => ∃ ao' cap', e = .returned (.slice ao' n cap') ∧ OwG KCc 47 w' w.heap.size (.slice ao' n cap') L ∧ Still w w' := by
  have HR := hid hr
  have HN := hid hn
  clear hr hn
  go_enter Try.func19, Try.ntmps19
  go_wp2_with (at_builtin; refine wpList_appMG KCc _ rfl _ _ _ rfl Try.underlying29 56 _ (by rfl) infoCc w.heap.size _ [] L ao n cap rfl rfl HN.out (OwG.nil _ _) HR.out (by simp [HN.out]; omega) (by simp [HN.out]; omega) (Nat.le_refl _) ?_; intro v' w' ho' hf')
  rw [List.nil_append] at ho'
  obtain ⟨ao', cap', e, _⟩ := ho'.slice
  subst e
  have HO := hid ho'
  have HS : Hid (Still w w') := hid (hf'.mono (fun k _ e => by cases e))
  clear ho' hf'
  go_ret
  refine ⟨ao', cap', ?_, ?_, HS.out⟩
  · rw [← HN.out]; rfl
  · have := HO.out; rw [HN.out] at this; exact this
/-- where the commands above a number begin -/
def abI (s : Ln) (k : Int) : Nat := (max (k - (s.ak : Int)) 0).toNat
set_option maxHeartbeats 1000000 in
theorem labove_any (p : Nat) (ko : Option Addr) (kc mb B : Nat) (s : Ln) (k : Int) (hk : 0 ≤ k ∧ k ≤ 1152921504606846976) (hi : abI s k ≤ s.O.length - s.ak) (ha : s.ak ≤ 1152921504606846976) (w : World) (h : Lkk w B p mb ko kc s) : Calls Try.prog 25 #[.pointer (some ⟨p, 0, none⟩), .int .i64 k] w fun e w' => e = .returned (.slice (cutG 7 ko (s.O.length - s.ak) (abI s k)) (s.O.length - s.ak - abI s k) (s.O.length - s.ak - abI s k)) ∧ Still w w' := by
  obtain ⟨c0, c1, c2, c3, c4, c5, c6, c7, c8, c9, cf⟩ := h.cells
  have q4 := Cl.cell c4
  have q8 := Cl.cell c8
  have hne := Aft.here w
  have hle : s.O.length - s.ak ≤ kc := by have := h.kp.sr.le; rw [List.length_drop] at this; exact this
  have HC := hid (fun W => lfrom_any ko (s.O.length - s.ak) kc (abI s k) hi hle W)
  have hw : IntKind.i64.wrap (k - (s.ak : Int)) = k - (s.ak : Int) := wr64 (by omega) (by omega)
  have hm : max (k - (s.ak : Int)) 0 = (abI s k : Int) := by unfold abI; omega
  obtain ⟨i, ei⟩ : ∃ i, abI s k = i := ⟨_, rfl⟩
  rw [ei] at HC hm ⊢
  clear ei hi h hle
  go_enter Try.func25, Try.ntmps25
  go_wp2_with fail
  refine region_all (by kernel_rfl) (by kernel_rfl) ?_
  repeat (go_big_quiet_step ((go_at_call 30; exact Calls.cl_same (HC.out _))))
  refine wpQuiet_nil ?_
  intro w3 h3
  go_wp2_with fail
  go_ret
  exact ⟨rfl, h3⟩
/-- a datagram with what both kinds have in common -/
def datD (s : Ln) (k : Int) : Dg := ⟨k, s.ss, s.se, s.ot, 0, 0, [], (s.G.length : Int)⟩
set_option maxHeartbeats 1000000 in
theorem ldat_any (p : Nat) (ko : Option Addr) (kc mb B : Nat) (s : Ln) (k : Int) (hg : s.G.length ≤ 1099511627776) (w : World) (h : Lkk w B p mb ko kc s) : Calls Try.prog 24 #[.pointer (some ⟨p, 0, none⟩), .int .i64 k] w fun e w' => e = .returned (dgv (datD s k) none 0 0) ∧ Still w w' := by
  have A0 := Still.alloc w (.cells (dgc zD none 0 0) 51)
  have p0 := newDg_b w zD none 0 0
  obtain ⟨c0, c1, c2, c3, c4, c5, c6, c7, c8, c9, cf⟩ := (h.still A0).cells
  obtain ⟨g, eg⟩ : ∃ g, w.heap.size = g := ⟨_, rfl⟩
  obtain ⟨W, eW⟩ : ∃ W, newDg w zD none 0 0 = W := ⟨_, rfl⟩
  have HS : Hid (Still w W) := hid (by rw [← eW]; exact A0)
  have HG : Hid (w.heap.size = g) := hid eg
  have HP : Hid (Dgb W g zD none 0 0) := hid (by rw [← eW, ← eg]; exact p0)
  have hpg : p ≠ g := by have := h.lt.1; omega
  have c0 : W.cell? ⟨p, 0, none⟩ = some (.int .u64 s.ss) := by rw [← eW]; exact c0
  have c1 : W.cell? ⟨p, 1, none⟩ = some (.int .i64 s.se) := by rw [← eW]; exact c1
  have c2 : W.cell? ⟨p, 2, none⟩ = some (.int .i64 s.ot) := by rw [← eW]; exact c2
  have c5 : W.cell? ⟨p, 5, none⟩ = some (.int .i64 ((s.G.length : Int) + 1)) := by rw [← eW]; exact c5
  have q0 := Cl.cell c0
  have q1 := Cl.cell c1
  have q2 := Cl.cell c2
  have q5 := Cl.cell c5
  have hne := Aft.here W
  have hw : IntKind.i64.wrap ((s.G.length : Int) + 1 - 1) = (s.G.length : Int) := by rw [show (s.G.length : Int) + 1 - 1 = (s.G.length : Int) by omega]; exact wr64 (by omega) (by omega)
  simp only [newDg, zD] at eW
  clear A0 p0 h c0 c1 c2 c3 c4 c5 c6 c7 c8 c9 cf
  go_enter Try.func24, Try.ntmps24
  go_wp2_with fail
  refine region_rest 20 (by kernel_rfl) (by kernel_rfl) ?_
  simp only [List.take_succ_cons, List.take_zero, List.drop_succ_cons, List.drop_zero]
  repeat (go_big_quiet_step (rfl))
  refine wpQuiet_nil ?_
  intro w3 h3
  have hp3 := HP.out.still h3
  have HP3 := hid (hp3.set (datD s k) none 0 0)
  have HF3 : Hid (Still w (setDg w3 g (datD s k) none 0 0)) := hid (setDg_fr (HS.out.trans h3) _ _ _ _ _ (.inr (by rw [HG.out]; exact Nat.le_refl _)))
  obtain ⟨d0, d1, d2, d3, d4, d5, d6, d7, df⟩ := hp3.cells
  clear h3 hp3 eW q0 q1 q2 q5 hne HP HS
  go_wp2_with fail
  refine bodyPost_ret (HP3.out.res rfl _ rfl) rfl ?_
  exact ⟨rfl, HF3.out⟩
end Go.Proofs.Ytcmgghfjakphmaa
