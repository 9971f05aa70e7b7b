/- The program's Lay. -/
import Derived.Test.YtcmgghfjakphmaaLkf
import Derived.Test.YtcmgghfjakphmaaIo
namespace Go.Proofs.Ytcmgghfjakphmaa
open Go.RowKit
open Wp Vp Lp
set_option maxRecDepth 100000
set_option linter.unusedVariables false
set_option linter.unusedSimpArgs false

theorem bs_cc {o : Oper} {ρ : Operand → Value} {x : Operand} {s : Cc} (ho : o.op = .buildSlice 29 1 #[(0, x)]) (hx : ρ x = kmv s) (u : World) : (execOp ρ o).run Try.prog u = .ok (.value (.slice (some ⟨u.heap.size, 0, none⟩) 1 1)) (u.alloc (.cells (kmc s) 47)) := by
  unfold execOp
  rw [ho]
  simp only [List.map_toArray, List.map_cons, List.map_nil, hx]
  go_simp
  try rfl
/-- one command more -/
def putO (s : Ln) (c : Cc) : Ln := ⟨s.ss, s.se, s.ot, s.O ++ [c], s.ak, s.G, s.mq, s.mt⟩
/-- the kept ones are stored, and how many -/
theorem Lkk.laid {w : World} {B p mb : Nat} {ko ko' : Option Addr} {kc kc' : Nat} {s : Ln} {c : Cc} (h : w.heap[p]? = some (.cells (lkc s ko kc mb) 57 (0, 0))) (hk : Kp w B ko' kc' (s.O.drop s.ak ++ [c])) (hm : Mpc w mb s.G.length s.mq s.G) (hl : s.ak ≤ s.O.length) (lp : B ≤ p) (lm : B ≤ mb) :
    Lkk ((w.setCell ⟨p, 8, none⟩ (.slice ko' (s.O.length - s.ak + 1) kc')).setCell ⟨p, 3, none⟩ (.int .i64 ((s.O.length : Int) + 1))) B p mb ko' kc' (putO s c) := by
  have f1 : Fr (fun k => k = p) w (w.setCell ⟨p, 8, none⟩ (.slice ko' (s.O.length - s.ak + 1) kc')) := Fr.setCell (Fr.refl _ _) _ _ (.inl rfl)
  have f2 : Fr (fun k => k = p) w ((w.setCell ⟨p, 8, none⟩ (.slice ko' (s.O.length - s.ak + 1) kc')).setCell ⟨p, 3, none⟩ (.int .i64 ((s.O.length : Int) + 1))) := Fr.setCell f1 _ _ (.inl rfl)
  have b1 := heap_setCell_same w p 8 _ _ (.slice ko' (s.O.length - s.ak + 1) kc') h
  have b2 := heap_setCell_same _ p 3 _ _ (.int .i64 ((s.O.length : Int) + 1)) b1
  refine ⟨b2.trans ?_, ?_, ?_, lp, lm⟩
  · have e1 : (putO s c).O.length = s.O.length + 1 := by simp [putO]
    have e2 : s.O.length + 1 - s.ak = s.O.length - s.ak + 1 := by omega
    show _ = some (Obj.cells (lkc (putO s c) ko' kc' mb) _ _)
    unfold lkc
    rw [e1]
    show _ = some (Obj.cells #[_, _, _, _, _, _, _, _, .slice ko' (s.O.length + 1 - s.ak) kc', _] _ _)
    rw [e2]
    rfl
  · have e : (putO s c).O.drop (putO s c).ak = s.O.drop s.ak ++ [c] := by
      show (s.O ++ [c]).drop s.ak = _
      rw [List.drop_append_of_le_length hl]
    rw [e]
    refine hk.keep f2 (fun a ha e => ?_)
    obtain ⟨cur, hc⟩ := (hk.bl a ha).2
    exact ty_ne hc h (by decide) e
  · obtain ⟨es, cl, hmm⟩ := hm.map
    exact hm.keep f2 (fun e => map_ne h hmm e.symm)
set_option maxHeartbeats 4000000 in
theorem llay_any (p : Nat) (ko : Option Addr) (kc mb B : Nat) (s : Ln) (c : Cc) (hO : s.O.length ≤ 1152921504606846976) (hal : s.ak ≤ s.O.length) (w : World) (h : Lkk w B p mb ko kc s) : Calls Try.prog 10 #[.pointer (some ⟨p, 0, none⟩), kmv c] w fun e w' => ∃ ko' kc', e = .returned (.int .i64 (layE s c)) ∧ Lkk w' B p mb ko' kc' (layS s c) ∧ Fr (fun k => k = p ∨ ∃ a, ko = some a ∧ a.block = k) w w' ∧ ∀ a, ko' = some a → (∃ b, ko = some b ∧ b.block = a.block) ∨ w.heap.size ≤ a.block := by
  have A0 := Still.alloc w (.cells (kmc c) 47)
  have p0 := newCc_b w c
  have L0 := h.still A0
  obtain ⟨g, eg⟩ : ∃ g, w.heap.size = g := ⟨_, rfl⟩
  unfold newCc at p0
  obtain ⟨W, eW⟩ : ∃ W, w.alloc (.cells (kmc c) 47) = W := ⟨_, rfl⟩
  rw [eW] at A0 p0 L0
  rw [eg] at p0
  obtain ⟨d0, d1, d2, d3, d4, d5, d6, df⟩ := p0.cells
  have HS := hid A0
  have HC := hid (lmay_any p ko kc mb B s c hO W L0)
  have HL := hid L0
  have HP := hid p0
  have HEe : Hid (layE s c = if okL s.se s.O.length c = true then (if 336 ≤ s.O.length - s.ak then 2 else 0) else 1) := hid rfl
  have HEs : Hid (layS s c = if layE s c = 0 then putO s c else s) := hid rfl
  have HB : Hid (B ≤ w.heap.size) := hid (by have := h.lp; have := h.lt.1; omega)
  obtain ⟨b, eb⟩ : ∃ b, okL s.se s.O.length c = b := ⟨_, rfl⟩
  rw [eb] at HC HEe
  clear eb A0 p0 L0 h
  cases b with
  | false =>
    have HE1 : Hid (layE s c = 1) := hid (by rw [HEe.out]; rfl)
    have HE2 : Hid (layS s c = s) := hid (by rw [HEs.out, HE1.out]; rfl)
    go_enter Try.func10, Try.ntmps10
    go_wp2_with fail
    refine HC.out.mono ?_
    rintro e w1 ⟨rfl, h1⟩
    have HS1 := hid h1
    clear h1 d0 d1 d2 d3 d4 d5 d6 df
    go_wp2_with fail
    go_ret
    exact ⟨ko, kc, by rw [HE1.out]; rfl, by rw [HE2.out]; exact HL.out.still HS1.out, Still.to (HS.out.trans HS1.out), fun a ha => .inl ⟨a, ha, rfl⟩⟩
  | true =>
    by_cases hf : 336 ≤ s.O.length - s.ak
    · have hf' : (336 : Int) ≤ ((s.O.length - s.ak : Nat) : Int) := by omega
      have HE1 : Hid (layE s c = 2) := hid (by rw [HEe.out, if_pos rfl, if_pos hf])
      have HE2 : Hid (layS s c = s) := hid (by rw [HEs.out, HE1.out]; rfl)
      go_enter Try.func10, Try.ntmps10
      go_wp2_with fail
      refine HC.out.mono ?_
      rintro e w1 ⟨rfl, h1⟩
      have HS1 := hid h1
      clear h1 d0 d1 d2 d3 d4 d5 d6 df
      have k8 := (HL.out.still HS1.out).cells.2.2.2.2.2.2.2.2.1
      go_wp2_with fail
      go_ret
      exact ⟨ko, kc, by rw [HE1.out]; rfl, by rw [HE2.out]; exact HL.out.still HS1.out, Still.to (HS.out.trans HS1.out), fun a ha => .inl ⟨a, ha, rfl⟩⟩
    · have hf' : ¬ (336 : Int) ≤ ((s.O.length - s.ak : Nat) : Int) := by omega
      have HE1 : Hid (layE s c = 0) := hid (by rw [HEe.out, if_pos rfl, if_neg hf])
      have HE2 : Hid (layS s c = putO s c) := hid (by rw [HEs.out, HE1.out]; rfl)
      go_enter Try.func10, Try.ntmps10
      go_wp2_with fail
      refine HC.out.mono ?_
      rintro e w1 ⟨rfl, h1⟩
      have HS1 := hid (HS.out.trans h1)
      have HL1 := hid (HL.out.still h1)
      have HP1 := hid (HP.out.still h1)
      clear h1 d0 d1 d2 d3 d4 d5 d6 df eW HL HP HC HS
      have k8 := HL1.out.cells.2.2.2.2.2.2.2.2.1
      go_upto_region 5 with fail
      clear k8
      refine region_laid 6 1 (by kernel_rfl) (by kernel_rfl) (by kernel_rfl) ?_
      apply Exists.intro
      refine And.intro ?_ (And.intro ?_ ?_)
      · intro u hu
        have q0 := Cl.cell (HL1.out.still hu).cells.2.2.2.2.2.2.2.2.1
        obtain ⟨n0, n1, n2, n3, n4, n5, n6, _⟩ := (HP1.out.still hu).cells
        have q1 := Cl.cell n0
        have q2 := Cl.cell n1
        have q3 := Cl.cell n2
        have q4 := Cl.cell n3
        have q5 := Cl.cell n4
        have q6 := Cl.cell n5
        have q7 := Cl.cell n6
        have hne := Aft.here u
        simp only [List.take_succ_cons, List.take_zero]
        repeat (go_big_quiet_step (fail))
        exact wpQuiet_nil rfl
      · intro _ o ho u hu
        obtain rfl := Option.some.inj ho
        exact ⟨_, _, bs_cc rfl rfl u, Still.alloc u _⟩
      intro w3 h3
      simp only [List.drop_succ_cons, List.drop_zero]
      have A4 := Still.alloc w3 (.cells (kmc c) 47)
      have HL4 := hid ((HL1.out.still h3).still A4)
      have HG4 : Hid (Ccb (w3.alloc (.cells (kmc c) 47)) w3.heap.size c) := hid (newCc_b w3 c)
      have HS4 := hid ((HS1.out.trans h3).trans A4)
      have HB4 : Hid (B ≤ (w3.alloc (.cells (kmc c) 47)).heap.size) := hid (by have := HS4.out.size; have := HB.out; omega)
      have HLn : Hid ((s.O.drop s.ak).length = s.O.length - s.ak) := hid (List.length_drop ..)
      clear h3 A4 HL1 HS1 HP1
      go_wp2_with (
        at_builtin
        refine wpList_appK _ rfl _ _ rfl B w3.heap.size ko kc (s.O.length - s.ak) (s.O.drop s.ak) c HLn.out rfl rfl HL4.out.kp HG4.out (by rw [HLn.out]; omega) HB4.out ?_
        intro ko' kc' w' hk' hf5 hb5
        have HF5 : Hid (Fr (fun k => ∃ a, ko = some a ∧ a.block = k) w w') := hid (Fr.trans (Still.to HS4.out) hf5 (fun _ _ e => e))
        have hb' := hf5.kept HL4.out.bk (fun e => by obtain ⟨a, ha, e⟩ := e; exact (HL4.out.ne.2 a ha).1 e)
        have hm' := HL4.out.mp.keep hf5 (fun e => by obtain ⟨a, ha, e⟩ := e; exact (HL4.out.ne.2 a ha).2.1 e)
        have HLk := hid (Lkk.laid hb' hk' hm' hal HL4.out.lp HL4.out.lm)
        have HBl : Hid (∀ a, ko' = some a → (∃ b, ko = some b ∧ b.block = a.block) ∨ w.heap.size ≤ a.block) := hid (fun a ha => (hb5 a ha).imp id (fun e => Nat.le_trans HS4.out.size e))
        have e3 : w'.cell? ⟨p, 3, none⟩ = some (.int .i64 (s.O.length : Int)) := by rw [cell_of_row _ _ _ _ _ _ hb']; rfl
        have e8 : w'.cell? ⟨p, 8, none⟩ = some (.slice ko (s.O.length - s.ak) kc) := by rw [cell_of_row _ _ _ _ _ _ hb']; rfl
        have ef := fun o => frozen_of_row w' p o _ _ hb'
        clear hk' hf5 hb5 hb' hm' HL4 HG4 HS4 HB4)
      refine ⟨rfl, ?_⟩
      have hw : IntKind.i64.wrap ((s.O.length : Int) + 1) = (s.O.length : Int) + 1 := wr64 (by omega) (by omega)
      go_wp2_with fail
      (try simp only [Exit.inBlock, Exit.then])
      go_ret
      exact ⟨ko', kc', by rw [HE1.out]; rfl, by rw [HE2.out]; exact HLk.out, Fr.setCell (Fr.setCell (HF5.out.mono (fun k _ e => .inr e)) _ _ (.inl (.inl rfl))) _ _ (.inl (.inl rfl)), HBl.out⟩
end Go.Proofs.Ytcmgghfjakphmaa
