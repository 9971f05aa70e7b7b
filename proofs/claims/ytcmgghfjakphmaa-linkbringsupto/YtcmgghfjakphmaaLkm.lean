/- The program's acknowledge, receive. -/
import Derived.Test.YtcmgghfjakphmaaLkl
namespace Go.Proofs.Ytcmgghfjakphmaa
open Go.RowKit
open Wp Vp Lp
set_option maxRecDepth 100000
set_option linter.unusedVariables false
set_option linter.unusedSimpArgs false

def akS (s : Ln) (d : Dg) : Ln := ⟨s.ss, s.se, s.ot, s.O, max s.ak d.ak.toNat, s.G, s.mq, s.mt⟩
def gtS (s : Ln) (F : List Cc) : Ln := ⟨s.ss, s.se, s.ot, s.O, s.ak, s.G ++ F, s.mq, s.mt⟩
def mkS (s : Ln) (d : Dg) : Ln := ⟨s.ss, s.se, s.ot, s.O, s.ak, s.G, max s.mq d.mrk, s.mt⟩
def mtS (s : Ln) : Ln := ⟨s.ss, s.se, s.ot, s.O, s.ak, s.G, s.mq, true⟩
theorem takS_four (s : Ln) (d : Dg) : takS s d = mtS (mkS (gtS (akS s d) (frs s d)) d) := rfl
theorem akS_no {s : Ln} {d : Dg} (h : d.ak ≤ (s.ak : Int)) : akS s d = s := by
  unfold akS
  rw [Nat.max_eq_left (by omega)]
theorem mkS_no {s : Ln} {d : Dg} (h : d.mrk ≤ s.mq) : mkS s d = s := by
  unfold mkS
  rw [show max s.mq d.mrk = s.mq by omega]
theorem Lkk.acked {w : World} {B p mb : Nat} {ko ko' : Option Addr} {kc kc' n : Nat} {s : Ln} {d : Dg} (h : w.heap[p]? = some (.cells (lkc s ko kc mb) 57 (0, 0))) (hk : Kp w B ko' kc' (s.O.drop d.ak.toNat)) (hn : n = s.O.length - d.ak.toNat) (hm : Mpc w mb s.G.length s.mq s.G) (ha : (s.ak : Int) < d.ak) (lp : B ≤ p) (lm : B ≤ mb) :
    Lkk ((w.setCell ⟨p, 8, none⟩ (.slice ko' n kc')).setCell ⟨p, 4, none⟩ (.int .i64 d.ak)) B p mb ko' kc' (akS s d) := by
  have f1 : Fr (fun k => k = p) w (w.setCell ⟨p, 8, none⟩ (.slice ko' n kc')) := Fr.setCell (Fr.refl _ _) _ _ (.inl rfl)
  have f2 : Fr (fun k => k = p) w ((w.setCell ⟨p, 8, none⟩ (.slice ko' n kc')).setCell ⟨p, 4, none⟩ (.int .i64 d.ak)) := Fr.setCell f1 _ _ (.inl rfl)
  have b1 := heap_setCell_same w p 8 _ _ (.slice ko' n kc') h
  have b2 := heap_setCell_same _ p 4 _ _ (.int .i64 d.ak) b1
  have e0 : max s.ak d.ak.toNat = d.ak.toNat := by omega
  have e1 : ((d.ak.toNat : Nat) : Int) = d.ak := by omega
  refine ⟨b2.trans ?_, ?_, ?_, lp, lm⟩
  · subst hn
    show _ = some (Obj.cells (lkc (akS s d) ko' kc' mb) _ _)
    unfold lkc akS
    simp only [e0, e1]
    rfl
  · have e : (akS s d).O.drop (akS s d).ak = s.O.drop d.ak.toNat := by
      show s.O.drop (max s.ak d.ak.toNat) = _
      rw [e0]
    rw [e]
    refine hk.keep f2 (fun a ha e => ?_)
    obtain ⟨cur, hc⟩ := (hk.bl a ha).2
    exact ty_ne hc h (by decide) e
  · obtain ⟨es, cl, hmm⟩ := hm.map
    exact hm.keep f2 (fun e => map_ne h hmm e.symm)
set_option maxHeartbeats 4000000 in
theorem lackn_any (p : Nat) (ko : Option Addr) (kc mb B : Nat) (s : Ln) (d : Dg) (co : Option Addr) (cn cp : Nat) (hO : s.O.length ≤ 1152921504606846976) (hal : s.ak ≤ s.O.length) (hak : 0 ≤ d.ak ∧ d.ak ≤ (s.O.length : Int)) (w : World) (h : Lkk w B p mb ko kc s) : Calls Try.prog 21 #[.pointer (some ⟨p, 0, none⟩), dgv d co cn cp] w fun e w' => e = .returned (.bool (decide ((s.ak : Int) < d.ak))) ∧ ∃ ko' kc', Lkk w' B p mb ko' kc' (akS s d) ∧ Fr (fun k => k = p) w w' ∧ ∀ a, ko' = some a → ∃ b, ko = some b ∧ a.block = b.block := by
  have A0 := Still.alloc w (.cells (dgc d co cn cp) 51)
  have p0 := newDg_b w d co cn cp
  have L0 := h.still A0
  obtain ⟨g, eg⟩ : ∃ g, w.heap.size = g := ⟨_, rfl⟩
  unfold newDg at p0
  obtain ⟨W, eW⟩ : ∃ W, w.alloc (.cells (dgc d co cn cp) 51) = W := ⟨_, rfl⟩
  rw [eW] at A0 p0 L0
  rw [eg] at p0
  have HG : Hid (w.heap.size = g) := hid eg
  have HS := hid A0
  have HL := hid L0
  have HP := hid p0
  have q7 := Cl.cell p0.cells.2.2.2.2.2.2.2.1
  have q4 := Cl.cell L0.cells.2.2.2.2.1
  have hne := Aft.here W
  have hpg : p ≠ g := by have := h.lt.1; omega
  clear A0 p0 L0 h
  by_cases hc : d.ak ≤ (s.ak : Int)
  · have hd : decide (d.ak ≤ (s.ak : Int)) = true := by simpa using hc
    have HD : Hid (decide ((s.ak : Int) < d.ak) = false) := hid (by simp; omega)
    have HE := hid (akS_no hc)
    go_enter Try.func21, Try.ntmps21
    go_wp2_with fail
    refine region_all (by kernel_rfl) (by kernel_rfl) ?_
    repeat (go_big_quiet_step (rfl))
    refine wpQuiet_nil ?_
    intro w3 h3
    have HS3 := hid h3
    clear h3 q7 q4 hne
    go_wp2_with fail
    go_ret
    exact ⟨by rw [HD.out]; rfl, ko, kc, by rw [HE.out]; exact HL.out.still HS3.out, Still.to (HS.out.trans HS3.out), fun a ha => ⟨a, ha, rfl⟩⟩
  · have hd : decide (d.ak ≤ (s.ak : Int)) = false := by simpa using hc
    have HD : Hid (decide ((s.ak : Int) < d.ak) = true) := hid (by simp; omega)
    have hab : abI s d.ak ≤ s.O.length - s.ak := by unfold abI; omega
    have HA : Hid (∀ u, Still W u → Calls Try.prog 25 #[.pointer (some ⟨p, 0, none⟩), .int .i64 d.ak] u fun e w' => e = .returned (.slice (cutG 7 ko (s.O.length - s.ak) (abI s d.ak)) (s.O.length - s.ak - abI s d.ak) (s.O.length - s.ak - abI s d.ak)) ∧ Still u w') := hid (fun u hu => labove_any p ko kc mb B s d.ak ⟨hak.1, by omega⟩ hab (by omega) u (HL.out.still hu))
    have HAb := hid hab
    go_enter Try.func21, Try.ntmps21
    go_wp2_with fail
    refine region_all (by kernel_rfl) (by kernel_rfl) ?_
    repeat (go_big_quiet_step (rfl))
    refine wpQuiet_nil ?_
    intro w3 h3
    have HS3 := hid h3
    clear h3 q7 q4 hne hab
    obtain ⟨d0, d1, d2, d3, d4, d5, d6, d7, df⟩ := (HP.out.still HS3.out).cells
    go_wp2_with fail
    refine (HA.out _ HS3.out).mono ?_
    rintro e w4 ⟨he, h4⟩
    rw [he]
    have hs4 := HS3.out.trans h4
    have l4 := HL.out.still hs4
    have hk4 := l4.kp.cut (i := abI s d.ak) (by rw [List.length_drop]; exact HAb.out)
    rw [List.length_drop, List.drop_drop, show s.ak + abI s d.ak = d.ak.toNat by unfold abI; omega] at hk4
    obtain ⟨ko', eko⟩ : ∃ k, cutG 7 ko (s.O.length - s.ak) (abI s d.ak) = k := ⟨_, rfl⟩
    have HBl : Hid (∀ a, ko' = some a → ∃ b, ko = some b ∧ a.block = b.block) := hid (fun a ha => cut_block (eko.trans ha))
    obtain ⟨n, en⟩ : ∃ n, s.O.length - s.ak - abI s d.ak = n := ⟨_, rfl⟩
    rw [eko, en] at hk4 ⊢
    have HLk := hid (Lkk.acked (n := n) l4.bk hk4 (by rw [← en]; unfold abI; omega) l4.mp (by omega) l4.lp l4.lm)
    have HF : Hid (Fr (fun k => k = p) w ((w4.setCell ⟨p, 8, none⟩ (.slice ko' n n)).setCell ⟨p, 4, none⟩ (.int .i64 d.ak))) := hid (Fr.setCell (F := fun k => k = p) (Fr.setCell (F := fun k => k = p) (Still.to (HS.out.trans hs4)) _ _ (.inl rfl)) _ _ (.inl rfl))
    clear d0 d1 d2 d3 d4 d5 d6 d7 df
    obtain ⟨d0, d1, d2, d3, d4, d5, d6, d7, df⟩ := (HP.out.still hs4).cells
    obtain ⟨c0, c1, c2, c3, c4, c5, c6, c7, c8, c9, cf⟩ := l4.cells
    clear he h4 hs4 l4 hk4 HA eW en eko
    go_wp2_with fail
    go_ret
    exact ⟨by rw [HD.out]; rfl, ko', n, HLk.out, HF.out, HBl.out⟩
end Go.Proofs.Ytcmgghfjakphmaa
