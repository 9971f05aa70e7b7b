/- Parts of the proof, laid end to end. -/
import Derived.Test.YtnbofjaecchnaaaDoorZR10
import Derived.Deep.MidRow
namespace Go.Proofs.YtnbofjaecchnaaaDoor
open Go.RowKit
open Wp Vp Lp
set_option maxRecDepth 100000
set_option linter.unusedVariables false
set_option linter.unusedSimpArgs false
def spC : Cc := ⟨0, 0, -9, 0, 0, 0, 0⟩
def spD : Cc := ⟨0, 0, -8, 0, 0, 0, 0⟩
def Sb (co : Option Addr) (k : Nat) : Prop := ∃ a, co = some a /\ a.block = k
theorem Sb.own {o : Option Addr} {n c k : Nat} (h : (Value.slice o n c).ownBlock = some k) : Sb o k := by
 cases o with
 | none => cases h
 | some a => exact ⟨a, rfl, by simpa [Value.ownBlock] using h⟩
set_option maxHeartbeats 4000000 in
theorem lspoil_any (co : Option Addr) (n cp : Nat) (L : List Cc) (B : Nat) (hL : L.length = n) (h47 : n <= 2513169434843) (w : World) (ho : OwG KCc 36 w B (.slice co n cp) L) (hB : B <= w.heap.size) : Calls Tryd.prog 37 #[.slice co n cp] w fun e w' => e = .returned (.tuple #[]) /\ Fr (fun k => Sb co k) w w' := by
 have HO := hid ho
 have HL := hid hL
 have HB := hid hB
 have H47 := hid h47
 clear ho hL hB
 go_enter Tryd.func37, Tryd.ntmps37
 go_wp2_with fail
 go_loopw [2] (fun u2 wr => ∃ i : Nat, i <= n /\ u2 = .int .i64 (i : Int) /\ Hid (∃ M : List Cc, M.length = n /\ OwG KCc 36 wr B (.slice co n cp) M) /\ Hid (Fr (fun k => Sb co k) w wr)) (fun u2 _ => n - (intOf u2).toNat)
 case atStart => exact ⟨0, by omega, rfl, hid ⟨L, HL.out, HO.out⟩, hid (Fr.refl _ _)⟩
 case round =>
  obtain ⟨i, hi, rfl, HM, HT⟩ := hrel
  obtain ⟨M, hM, oM⟩ := HM.out
  by_cases hin : i < n
  ·have hlt : (i : Int) < (n : Int) := by omega
   obtain ⟨g8, cap8, e8, _, _⟩ := oM.head (by omega)
   injection e8 with e81 e82 e83
   subst e81
   clear e82 e83
   obtain ⟨x0, x1, x2, x3, x4, x5, x6, xf⟩ := owCc oM (i := i) (by omega)
   have o2 := oM.put (i := i) (by omega) spC
   have HO2 := hid o2
   have HT2 : Hid (Fr (fun k => Sb (some ⟨g8, 0, none⟩) k) w (wr.setCells g8 (i * KCc.k) (KCc.f spC))) := hid (fr_setCells g8 _ _ _ HT.out (.inl ⟨_, rfl, rfl⟩))
   have HMl : Hid ((M.set i spC).length = n) := hid (by rw [List.length_set]; exact hM)
   clear o2 hM oM
   go_wp2_with fail
   go_roundw
   case rel => exact ⟨i + 1, by omega, by go_num, hid ⟨_, HMl.out, HO2.out⟩, HT2⟩
   case measure => simp [intOf]; omega
  ·have hlt : ¬ (i : Int) < (n : Int) := by omega
   obtain rfl : i = n := by omega
   have HM2 := hid hM
   have A1 := Still.alloc wr (.cells (kmc spD) 36)
   have HO1 := hid (oM.still A1)
   have HA1 := hid A1
   have HC1 : Hid (Ccb (wr.alloc (.cells (kmc spD) 36)) wr.heap.size spD) := hid (newCc_b wr spD)
   have HB1 : Hid (B <= (wr.alloc (.cells (kmc spD) 36)).heap.size) := hid (Nat.le_trans HB.out (Nat.le_trans HT.out.size A1.size))
   have HN7 : Hid ((M.length + 1) * 56 <= 140737488355328) := hid (by omega)
   have HN8 : Hid (M.length <= 281474976710656) := hid (by omega)
   clear hM oM A1
   go_wp2_with (
    at_builtin
    refine wpList_appQ KCc _ rfl _ _ _ rfl Tryd.underlying37 56 infoCc B wr.heap.size _ M spD rfl rfl HO1.out HC1.out HN7.out HN8.out HB1.out ?_
    intro v' w' ho' hf' hb'
    obtain ⟨b, cap', e', _, _⟩ := ho'.head (by rw [List.length_append]; simp)
    have el : (M ++ [spD]).length = i + 1 := by rw [List.length_append, List.length_singleton, HM2.out]
    rw [el] at e'
    subst e'
    obtain ⟨x0, x1, z2, x3, x4, x5, x6, df⟩ := owCc ho' (i := i) (by omega)
    obtain ⟨z0, d0⟩ : ∃ z, w'.cell? ⟨b, i * 7 + 2, none⟩ = some (.int .i64 z) := ⟨_, z2⟩
    clear x0 x1 z2 x3 x4 x5 x6
    have hlt : (i : Int) < ((i + 1 : Nat) : Int) := by omega
    have HF : Hid (Fr (fun k => Sb co k) w (w'.setCell ⟨b, i * 7 + 2, none⟩ (.int .i64 (-7)))) := hid (by
     have h1 : Fr (fun k => Sb co k) w (wr.alloc (.cells (kmc spD) 36)) := Fr.trans HT.out HA1.out (fun _ _ e => e.elim)
     have h2 : Fr (fun k => Sb co k) w w' := Fr.trans h1 hf' (fun k hk e => Sb.own e)
     refine Fr.setCell h2 _ _ ?_
     rcases hb' b rfl with h | h
     ·exact .inl (Sb.own h)
     ·exact .inr (Nat.le_trans h1.size h))
    clear ho' hf' hb' el)
   go_end0
   exact ⟨rfl, HF.out⟩
end Go.Proofs.YtnbofjaecchnaaaDoor
namespace Go.Proofs.YtnbofjaecchnaaaDoor
open Go.RowKit
open Wp Vp Lp
set_option maxRecDepth 100000
set_option linter.unusedVariables false
set_option linter.unusedSimpArgs false
theorem OwG.rdC {w : World} {B n cp : Nat} {co : Option Addr} {L : List Cc} (h : OwG KCc 36 w B (.slice co n cp) L) (hn : L.length = n) (h47 : n <= 2513169434843) : RdG KCc w co n L := by
 have := OwG.rd (L := L) (M := []) (by rw [List.append_nil]; exact h) (by omega)
 rw [hn] at this
 exact this
set_option maxHeartbeats 2000000 in
theorem ltold_any (d : Dg) (ao bo : Option Addr) (n c1 c2 B : Nat) (w : World) (hn : d.cs.length = n) (h47 : n <= 2513169434843) (hB : B <= w.heap.size) (ha : OwG KCc 36 w B (.slice ao n c1) d.cs) (hb : RdG KCc w bo n d.cs) : Calls Tryd.prog 19 #[dgv d ao n c1, dgv d bo n c2] w fun e w' => e = .returned (.bool true) /\ Fr (fun k => Sb ao k) w w' := by
 have A0 := Still.alloc w (.cells (dgc d ao n c1) 39)
 have A1 := Still.alloc (newDg w d ao n c1) (.cells (dgc d bo n c2) 39)
 have p0 := (newDg_b w d ao n c1).still A1
 have q0 := newDg_b (newDg w d ao n c1) d bo n c2
 simp only [size_alloc] at q0
 have HS0 := hid (A0.trans A1)
 have HA := hid (ha.still (A0.trans A1))
 have HB := hid (hb.still (A0.trans A1))
 have HP := hid p0
 have HQ := hid q0
 have HN := hid hn
 have H47 := hid h47
 have HL := hid hB
 obtain ⟨W, eW⟩ : ∃ W, newDg (newDg w d ao n c1) d bo n c2 = W := ⟨_, rfl⟩
 obtain ⟨g, eg⟩ : ∃ g, w.heap.size = g := ⟨_, rfl⟩
 have eW' : (w.alloc (.cells (dgc d ao n c1) 39)).alloc (.cells (dgc d bo n c2) 39) = W := eW
 unfold newDg at HP HQ
 rw [eW'] at HS0 HA HB HP HQ
 rw [eg] at HP HQ
 clear ha hb A0 A1 p0 q0 eW hn h47 hB
 obtain ⟨e0, e1, e2, e3, e4, e5, e6, e7, ef⟩ := HP.out.cells
 obtain ⟨f0, f1, f2, f3, f4, f5, f6, f7, ff⟩ := HQ.out.cells
 go_enter Tryd.func19, Tryd.ntmps19
 go_wp2_with fail
 clear e0 e1 e2 e3 e4 e5 e6 e7 ef f0 f1 f2 f3 f4 f5 f6 f7 ff
 refine (rsame16_t d ao bo n c1 c2 _ (HA.out.rdC HN.out H47.out) HB.out).mono ?_
 rintro e w1 ⟨he, h1⟩
 rw [he]
 obtain ⟨_, _, _, _, _, _, e6, _, ef⟩ := (HP.out.still h1).cells
 have HS1 := hid (HS0.out.trans h1)
 have HA1 := hid (HA.out.still h1)
 clear he h1
 go_wp2_with fail
 refine (lspoil_any ao n c1 d.cs B HN.out H47.out _ HA1.out (Nat.le_trans HL.out HS1.out.size)).mono ?_
 rintro e w2 ⟨he, h2⟩
 rw [he]
 have HF := hid (Fr.trans (Still.to HS1.out) h2 (fun _ _ e => e))
 clear he h2 e6 ef
 go_wp2_with fail
 go_ret
 exact ⟨rfl, HF.out⟩
set_option maxHeartbeats 2000000 in
theorem lmade_no (ss se ot : Int) (h : mayN se ot = false) (w : World) : Calls Tryd.prog 5 #[.int .u64 ss, .int .i64 se, .int .i64 ot] w fun e w' => e = .returned (.tuple #[.pointer none, .bool true]) /\ w' = w := by
 have H1 := hid (fun w => lnew_no ss se ot h w)
 have H2 := hid (fun w => rnew_no ss se ot h w)
 clear h
 go_enter Tryd.func5, Tryd.ntmps5
 go_wp2_with fail
 refine (H1.out _).mono ?_
 rintro e w1 ⟨he, h1⟩
 rw [he, h1]
 clear he h1
 go_wp2_with fail
 refine (H2.out _).mono ?_
 rintro e w1 ⟨he, h1⟩
 rw [he, h1]
 clear he h1
 go_wp2_with fail
 go_ret2
 exact ⟨rfl, rfl⟩
def Prb (w : World) (r p q : Nat) : Prop := w.heap[r]? = some (.cells #[.pointer (some ⟨p, 0, none⟩), .pointer (some ⟨q, 0, none⟩)] 48 (0, 0))
set_option maxHeartbeats 2000000 in
theorem lmade_yes (ss se ot : Int) (h : mayN se ot = true) (w : World) : Calls Tryd.prog 5 #[.int .u64 ss, .int .i64 se, .int .i64 ot] w fun e w' => ∃ r p mb q, e = .returned (.tuple #[.pointer (some ⟨r, 0, none⟩), .bool true]) /\ Prb w' r p q /\ Lkk w' w.heap.size p mb none 0 (zLn ss se ot) /\ Ydl w' w.heap.size q none 0 none 0 (zLn ss se ot) /\ w.heap.size <= r /\ p < r /\ q < r /\ mb < r /\ Still w w' := by
 have H1 := hid (fun w => lnew_yes ss se ot h w)
 have H2 := hid (fun w => rnew_yes ss se ot h w)
 clear h
 go_enter Tryd.func5, Tryd.ntmps5
 go_wp2_with fail
 refine (H1.out _).mono ?_
 rintro e w1 ⟨p, mb, he, hl, h1⟩
 rw [he]
 have HL := hid hl
 have HS1 := hid h1
 clear he h1 hl
 go_wp2_with fail
 refine (H2.out _).mono ?_
 rintro e w2 ⟨q, he, hl, h2⟩
 rw [he]
 have HY := hid hl
 have HS2 := hid h2
 clear he h2 hl
 go_wp2_with fail
 go_ret2
 have A := Still.alloc w2 (.cells #[.pointer (some ⟨p, 0, none⟩), .pointer (some ⟨q, 0, none⟩)] 48)
 have z1 := HS1.out.size
 have z2 := HS2.out.size
 have y := HY.out
 exact ⟨w2.heap.size, p, mb, q, rfl, heap_alloc_new w2 _, (HL.out.still HS2.out).still A, (Ydl.mk y.bk (y.ow.less z1) (y.gw.less z1) (Nat.le_trans z1 y.lo) y.ne).still A, by omega, Nat.lt_of_lt_of_le HL.out.lt.1 z2, y.lt, Nat.lt_of_lt_of_le HL.out.lt.2 z2, (HS1.out.trans HS2.out).trans A⟩
end Go.Proofs.YtnbofjaecchnaaaDoor
namespace Go.Proofs.YtnbofjaecchnaaaDoor
open Go.RowKit
open Wp Vp Lp
set_option maxRecDepth 100000
set_option linter.unusedVariables false
set_option linter.unusedSimpArgs false
def tkS (s : Ln) (d : Dg) (lead : Int) : Ln := if refE s d lead = 0 then takS s d else s
def tkF (s : Ln) (d : Dg) (lead : Int) : List Cc := if refE s d lead = 0 then frs s d else []
def tkB (s : Ln) (d : Dg) (lead : Int) : Bool := if refE s d lead = 0 then broB s d else false
theorem Fits.tk {s : Ln} (h : Fits s) (d : Dg) (lead : Int) : Fits (tkS s d lead) := by
 unfold tkS
 by_cases e : refE s d lead = 0
 ·rw [if_pos e]; exact h.take e
 ·rw [if_neg e]; exact h
theorem tkF_len (s : Ln) (d : Dg) (lead : Int) : (tkF s d lead).length <= d.cs.length := by
 unfold tkF
 by_cases e : refE s d lead = 0
 ·rw [if_pos e]; unfold frs; rw [List.length_drop]; omega
 ·rw [if_neg e]; simp
theorem OTab.keep {F : Nat -> Prop} {w w' : World} /- 50 -/ (h : OTab w) (hf : Fr F w w') {B : Nat} (hB : 3 <= B) (hF : ∀ k, F k -> B <= k) : OTab w' := by
 have n1 : ¬ F 0 := fun e => by have := hF _ e; omega
 have n2 : ¬ F 1 := fun e => by have := hF _ e; omega
 have n3 : ¬ F 2 := fun e => by have := hF _ e; omega
 exact ⟨fun d hd => (hf.cell (World.block_lt_of_cell? w _ (h.fs d hd)) n1).trans (h.fs d hd), fun d hd => (hf.cell (World.block_lt_of_cell? w _ (h.lo d hd)) n2).trans (h.lo d hd), fun d hd => (hf.cell (World.block_lt_of_cell? w _ (h.hi d hd)) n3).trans (h.hi d hd)⟩
theorem ltake_all (p : Nat) (ko : Option Addr) (kc mb B : Nat) (s : Ln) (d : Dg) (co : Option Addr) (cn cp : Nat) (lead : Int) (hO : s.O.length <= 1152921504606846976) (hf : Fits s) (hn : d.cs.length = cn) (w : World) (h : Lkk w B p mb ko kc s) (hr : SrG KCc w co cp d.cs) (hro : ∀ a, co = some a -> a.block ≠ mb /\ a.block ≠ p) : Calls Tryd.prog 10 #[.pointer (some ⟨p, 0, none⟩), dgv d co cn cp, .int .i64 lead] w fun e w' => ∃ fo fc ko' kc', e = .returned (.tuple #[.slice fo (tkF s d lead).length fc, .bool (tkB s d lead), .int .i64 (refE s d lead)]) /\ OwG KCc 36 w' w.heap.size (.slice fo (tkF s d lead).length fc) (tkF s d lead) /\ Lkk w' B p mb ko' kc' (tkS s d lead) /\ Fr (fun k => k = p \/ k = mb) w w' /\ Kb ko ko' := by
 unfold tkF tkB tkS
 by_cases e : refE s d lead = 0
 ·rw [if_pos e, if_pos e, if_pos e, e]
  exact ltake_yes p ko kc mb B s d co cn cp lead hO hf hn w h hr hro e
 ·rw [if_neg e, if_neg e, if_neg e]
  refine (ltake_no p ko kc mb B s d co cn cp lead hO hf.a1 hn hf.g w h hr e).mono ?_
  rintro _ w' ⟨rfl, hs⟩
  exact ⟨none, 0, ko, kc, rfl, OwG.nil _ _, h.still hs, Still.to hs, Kb.refl _⟩
theorem rtake_all (q : Nat) (oo : Option Addr) (oc : Nat) (go : Option Addr) (gc B : Nat) (s : Ln) (d : Dg) (co : Option Addr) (cn cp : Nat) (lead : Int) (hO : s.O.length <= 1000000000000) (hf : Fits s) (hn : d.cs.length = cn) (w : World) (ht : OTab w) (h : Ydl w B q oo oc go gc s) (hr : RdG KCc w co cn d.cs) (hro : ∀ a, 0 < cn /\ co = some a -> a.block ≠ q /\ ∀ b, go = some b -> a.block ≠ b.block) (hrl : ∀ a, 0 < cn /\ co = some a -> a.block < w.heap.size) : Calls Tryd.prog 38 #[.pointer (some ⟨q, 0, none⟩), dgv d co cn cp, .int .i64 lead] w fun e w' => ∃ fo fc go' gc', e = .returned (.tuple #[.slice fo (tkF s d lead).length fc, .bool (tkB s d lead), .int .i64 (refE s d lead)]) /\ SrG KCc w' fo fc (tkF s d lead) /\ Ydl w' B q oo oc go' gc' (tkS s d lead) /\ Fr (fun k => k = q \/ ∃ b, go = some b /\ b.block = k) w w' /\ ∀ b, go' = some b -> (∃ b0, go = some b0 /\ b0.block = b.block) \/ w.heap.size <= b.block := by
 unfold tkF tkB tkS
 by_cases e : refE s d lead = 0
 ·rw [if_pos e, if_pos e, if_pos e, e]
  exact rtake_yes q oo oc go gc B s d co cn cp lead hO hf hn w ht h hr hro hrl e
 ·rw [if_neg e, if_neg e, if_neg e]
  refine (rtake_no q oo oc go gc B s d co cn cp lead hO hf hn w ht h hr e).mono ?_
  rintro _ w' ⟨rfl, hs⟩
  exact ⟨none, 0, go, gc, rfl, SrG.nil _, h.still hs, Still.to hs, fun b hb => .inl ⟨b, hb, rfl⟩⟩
end Go.Proofs.YtnbofjaecchnaaaDoor
namespace Go.Proofs.YtnbofjaecchnaaaDoor
open Go.RowKit
open Wp Vp Lp
set_option maxRecDepth 100000
set_option linter.unusedVariables false
set_option linter.unusedSimpArgs false
theorem Prb.cells {w : World} {r p q : Nat} (h : Prb w r p q) : w.cell? ⟨r, 0, none⟩ = some (.pointer (some ⟨p, 0, none⟩)) /\ w.cell? ⟨r, 1, none⟩ = some (.pointer (some ⟨q, 0, none⟩)) /\ ∀ o, w.frozen? ⟨r, o, none⟩ = false := by
 refine ⟨?_, ?_, fun o => frozen_of_row w r o _ _ h⟩ <;> (rw [cell_of_row _ _ _ _ _ _ h]; rfl)
theorem Prb.keep {F : Nat -> Prop} {w w' : World} {r p q : Nat} (h : Prb w r p q) (hf : Fr F w w') (hn : ¬ F r) : Prb w' r p q := hf.kept h hn
theorem Prb.still {w w' : World} {r p q : Nat} (h : Prb w r p q) (hs : Still w w') : Prb w' r p q := hs.kept_still h
structure Pq where
 r : Nat
 p : Nat
 mb : Nat
 ko : Option Addr
 kc : Nat
 q : Nat
 oo : Option Addr
 oc : Nat
 go : Option Addr
 gc : Nat
structure Pr (w : World) (B : Nat) (x : Pq) (s : Ln) : Prop where
 b : Prb w x.r x.p x.q
 l : Lkk w B x.p x.mb x.ko x.kc s
 y : Ydl w B x.q x.oo x.oc x.go x.gc s
 ng : ∀ a b, x.ko = some a -> x.go = some b -> a.block ≠ b.block
 no : ∀ a b, x.ko = some a -> x.oo = some b -> a.block ≠ b.block
 lr : B <= x.r
def PqB (x : Pq) (k : Nat) : Prop := k = x.r \/ k = x.p \/ k = x.mb \/ k = x.q
def PqC (x : Pq) (k : Nat) : Prop := Sb x.ko k \/ Sb x.oo k \/ Sb x.go k
theorem Pr.keep {F : Nat -> Prop} {w w' : World} {B : Nat} {x : Pq} {s : Ln} (h : Pr w B x s) (hf : Fr F w w') (h1 : ∀ k, F k -> ¬ PqB x k) (h2 : ∀ k, F k -> ¬ PqC x k) : Pr w' B x s :=
 ⟨h.b.keep hf (fun e => h1 _ e (.inl rfl)), h.l.keep hf (fun e => h1 _ e (.inr (.inl rfl))) (fun e => h1 _ e (.inr (.inr (.inl rfl)))) (fun a ha e => h2 _ e (.inl ⟨a, ha, rfl⟩)), h.y.keep hf (fun e => h1 _ e (.inr (.inr (.inr rfl)))) (fun a ha e => h2 _ e (.inr (.inl ⟨a, ha, rfl⟩))) (fun a ha e => h2 _ e (.inr (.inr ⟨a, ha, rfl⟩))), h.ng, h.no, h.lr⟩
theorem Pr.still {w w' : World} {B : Nat} {x : Pq} {s : Ln} (h : Pr w B x s) (hs : Still w w') : Pr w' B x s := h.keep hs (fun _ e => e.elim) (fun _ e => e.elim)
theorem Pr.lt {w : World} {B : Nat} {x : Pq} {s : Ln} (h : Pr w B x s) : ∀ k, PqB x k \/ PqC x k -> k < w.heap.size /\ B <= k := by
 rintro k ((rfl | rfl | rfl | rfl) | (⟨a, ha, rfl⟩ | ⟨a, ha, rfl⟩ | ⟨a, ha, rfl⟩))
 ·exact ⟨block_lt h.b, h.lr⟩
 ·exact ⟨h.l.lt.1, h.l.lp⟩
 ·exact ⟨h.l.lt.2, h.l.lm⟩
 ·exact ⟨h.y.lt, h.y.lo⟩
 ·exact ⟨(h.l.ne.2 a ha).2.2, (h.l.kp.bl a ha).1⟩
 ·exact ⟨(h.y.ob a ha).2.1, (h.y.ob a ha).1⟩
 ·exact ⟨(h.y.gb a ha).2.1, (h.y.gb a ha).1⟩
structure Tk2 (w W W1 wx : World) (B g cn cp fc kc : Nat) (co fo ko : Option Addr) (x : Pq) (s s' : Ln) (d : Dg) (F : List Cc) : Prop where
 dd : Dgb wx g d co cn cp
 fw : OwG KCc 36 wx W1.heap.size (.slice fo F.length fc) F
 l : Lkk wx B x.p x.mb ko kc s'
 b : Prb wx x.r x.p x.q
 y : Ydl wx B x.q x.oo x.oc x.go x.gc s
 sr : SrG KCc wx co cp d.cs
 t : OTab wx
 f : Fr (fun k => k = x.p \/ k = x.mb) w wx
 kb : Kb x.ko ko
 sz : ∀ k, PqB x k \/ PqC x k \/ (0 < d.cs.length /\ Sb co k) -> k < w.heap.size
 zg : w.heap.size = g /\ W.heap.size = g + 1 /\ W.heap.size <= W1.heap.size /\ 3 <= w.heap.size
 zx : W1.heap.size <= wx.heap.size
theorem Tk2.kos {w W W1 wx : World} {B g cn cp fc kc : Nat} {co fo ko : Option Addr} {x : Pq} {s s' : Ln} {d : Dg} {F : List Cc} (h : Tk2 w W W1 wx B g cn cp fc kc co fo ko x s s' d F) : ∀ a, ko = some a -> a.block < w.heap.size := fun a ha => by
 obtain ⟨b, hb, e⟩ := h.kb a ha
 rw [e]
 exact h.sz _ (.inr (.inl (.inl ⟨b, hb, rfl⟩)))
theorem Tk2.keep {G : Nat -> Prop} {w W W1 wx wy : World} {B g cn cp fc kc : Nat} {co fo ko : Option Addr} {x : Pq} {s s' : Ln} {d : Dg} {F : List Cc} (h : Tk2 w W W1 wx B g cn cp fc kc co fo ko x s s' d F) (hf : Fr G wx wy) (hG : ∀ k, G k -> W.heap.size <= k /\ k < W1.heap.size) : Tk2 w W W1 wy B g cn cp fc kc co fo ko x s s' d F := by
 have zg := h.zg
 have lo : ∀ k, G k -> w.heap.size <= k := fun k hk => by have := hG k hk; omega
 have no : ∀ k, k < w.heap.size -> ¬ G k := fun k hk e => by have := lo k e; omega
 refine ⟨h.dd.keepD hf (fun e => by have := hG _ e; omega), h.fw.keep hf (fun k hk e => by have h1 := (h.fw.block e).1; have := hG k hk; omega), h.l.keep hf (no _ (h.sz _ (.inl (.inr (.inl rfl))))) (no _ (h.sz _ (.inl (.inr (.inr (.inl rfl)))))) (fun a ha => no _ (h.kos a ha)), h.b.keep hf (no _ (h.sz _ (.inl (.inl rfl)))), h.y.keep hf (no _ (h.sz _ (.inl (.inr (.inr (.inr rfl)))))) (fun a ha => no _ (h.sz _ (.inr (.inl (.inr (.inl ⟨a, ha, rfl⟩)))))) (fun a ha => no _ (h.sz _ (.inr (.inl (.inr (.inr ⟨a, ha, rfl⟩)))))), h.sr.kept0 hf (fun a ha => no _ (h.sz _ (.inr (.inr ⟨ha.1, a, ha.2, rfl⟩)))), h.t.keep hf zg.2.2.2 lo, Fr.trans h.f hf (fun k hk e => absurd e (no k hk)), h.kb, h.sz, zg, Nat.le_trans h.zx hf.size⟩
theorem Tk2.still {w W W1 wx wy : World} {B g cn cp fc kc : Nat} {co fo ko : Option Addr} {x : Pq} {s s' : Ln} {d : Dg} {F : List Cc} (h : Tk2 w W W1 wx B g cn cp fc kc co fo ko x s s' d F) (hs : Still wx wy) : Tk2 w W W1 wy B g cn cp fc kc co fo ko x s s' d F := h.keep hs (fun _ e => e.elim)
structure Tk5 (w W1 wx : World) (B fc kc bc gc : Nat) (fo ko bo go : Option Addr) (x : Pq) (s' : Ln) (F : List Cc) : Prop where
 fw : OwG KCc 36 wx W1.heap.size (.slice fo F.length fc) F
 bw : SrG KCc wx bo bc F
 l : Lkk wx B x.p x.mb ko kc s'
 b : Prb wx x.r x.p x.q
 y : Ydl wx B x.q x.oo x.oc go gc s'
 f : Fr (fun k => k = x.p \/ k = x.mb \/ k = x.q \/ ∃ b, x.go = some b /\ b.block = k) w wx
 kb : Kb x.ko ko
 kg : ∀ b, go = some b -> (∃ b0, x.go = some b0 /\ b0.block = b.block) \/ w.heap.size <= b.block
 nf : ∀ a b, fo = some a -> go = some b -> a.block ≠ b.block
 sz : ∀ k, PqB x k \/ PqC x k -> k < w.heap.size
 zw : w.heap.size <= W1.heap.size
 zx : W1.heap.size <= wx.heap.size
 ng : ∀ a b, x.ko = some a -> x.go = some b -> a.block ≠ b.block
 no : ∀ a b, x.ko = some a -> x.oo = some b -> a.block ≠ b.block
 lr : B <= x.r
theorem Tk5.still {w W1 wx wy : World} {B fc kc bc gc : Nat} {fo ko bo go : Option Addr} {x : Pq} {s' : Ln} {F : List Cc} (h : Tk5 w W1 wx B fc kc bc gc fo ko bo go x s' F) (hs : Still wx wy) : Tk5 w W1 wy B fc kc bc gc fo ko bo go x s' F :=
 ⟨h.fw.still hs, h.bw.still hs, h.l.still hs, h.b.still hs, h.y.still hs, Fr.trans h.f hs (fun _ _ e => e.elim), h.kb, h.kg, h.nf, h.sz, h.zw, Nat.le_trans h.zx hs.size, h.ng, h.no, h.lr⟩
theorem Tk5.end {w W1 wx wy : World} {B fc kc bc gc : Nat} {fo ko bo go : Option Addr} {x : Pq} {s' : Ln} {F : List Cc} (h : Tk5 w W1 wx B fc kc bc gc fo ko bo go x s' F) (hf : Fr (fun k => Sb fo k) wx wy) : ∃ ko' kc' go' gc', Pr wy B ⟨x.r, x.p, x.mb, ko', kc', x.q, x.oo, x.oc, go', gc'⟩ s' /\ Fr (fun k => k = x.p \/ k = x.mb \/ k = x.q \/ ∃ b, x.go = some b /\ b.block = k) w wy /\ Kb x.ko ko' /\ ∀ b, go' = some b -> (∃ b0, x.go = some b0 /\ b0.block = b.block) \/ w.heap.size <= b.block := by
 have lo : ∀ k, Sb fo k -> W1.heap.size <= k := fun k hk => (h.fw.block (own_some.2 hk)).1
 have zw := h.zw
 have no : ∀ k, k < w.heap.size -> ¬ Sb fo k := fun k hk e => by have := lo k e; omega
 have hko : ∀ a, ko = some a -> ∃ b, x.ko = some b /\ a.block = b.block := h.kb
 refine ⟨ko, kc, go, gc, ⟨h.b.keep hf (no _ (h.sz _ (.inl (.inl rfl)))), h.l.keep hf (no _ (h.sz _ (.inl (.inr (.inl rfl))))) (no _ (h.sz _ (.inl (.inr (.inr (.inl rfl)))))) (fun a ha => ?_), h.y.keep hf (no _ (h.sz _ (.inl (.inr (.inr (.inr rfl)))))) (fun a ha => no _ (h.sz _ (.inr (.inr (.inl ⟨a, ha, rfl⟩))))) (fun b hb e => ?_), fun a b ha hb => ?_, fun a b ha hb => ?_, h.lr⟩, Fr.trans h.f hf (fun k hk e => absurd e (no k hk)), h.kb, h.kg⟩
 ·obtain ⟨b, hb, e⟩ := hko a ha
  rw [e]
  exact no _ (h.sz _ (.inr (.inl ⟨b, hb, rfl⟩)))
 ·obtain ⟨a, ha, e2⟩ := e
  exact h.nf a b ha hb e2
 ·obtain ⟨c, hc, e⟩ := hko a ha
  rw [e]
  rcases h.kg b hb with ⟨b0, hb0, e0⟩ | h1
  ·rw [<- e0]; exact h.ng c b0 hc hb0
  ·have := h.sz _ (.inr (.inl ⟨c, hc, rfl⟩)); omega
 ·obtain ⟨c, hc, e⟩ := hko a ha
  rw [e]
  exact h.no c b hc hb
set_option maxHeartbeats 16000000 in
theorem ptake_any (x : Pq) (B cn cp : Nat) (co : Option Addr) (s : Ln) (d : Dg) (lead : Int) (hO : s.O.length <= 1000000000000) (hf : Fits s) (hn : d.cs.length = cn) (h47 : cn <= 2513169434843) (w : World) (ht : OTab w) (h : Pr w B x s) (hg : 3 <= B) (hB : B <= w.heap.size) (hr : SrG KCc w co cp d.cs) (hco : ∀ a, 0 < cn /\ co = some a -> a.block < w.heap.size /\ a.block ≠ x.p /\ a.block ≠ x.mb /\ a.block ≠ x.q /\ ∀ b, x.go = some b -> a.block ≠ b.block) : Calls Tryd.prog 22 #[.pointer (some ⟨x.r, 0, none⟩), dgv d co cn cp, .int .i64 lead] w fun e w' => e = .returned (.bool true) /\ ∃ ko' kc' go' gc', Pr w' B ⟨x.r, x.p, x.mb, ko', kc', x.q, x.oo, x.oc, go', gc'⟩ (tkS s d lead) /\ Fr (fun k => k = x.p \/ k = x.mb \/ k = x.q \/ ∃ b, x.go = some b /\ b.block = k) w w' /\ Kb x.ko ko' /\ ∀ b, go' = some b -> (∃ b0, x.go = some b0 /\ b0.block = b.block) \/ w.heap.size <= b.block := by
  have A0 := Still.alloc w (.cells (dgc d co cn cp) 39)
  have p0 := newDg_b w d co cn cp
  obtain ⟨g, eg⟩ : ∃ g, w.heap.size = g := ⟨_, rfl⟩
  unfold newDg at p0
  obtain ⟨W, eW⟩ : ∃ W, w.alloc (.cells (dgc d co cn cp) 39) = W := ⟨_, rfl⟩
  have hsW : W.heap.size = g + 1 := by rw [<- eW, size_alloc, eg]
  have hs0 := A0
  have h0 := h.still A0
  have r0 := hr.still A0
  rw [eW] at A0 p0 h0 r0 hs0
  rw [eg] at p0
  have HT := hid (ht.still hs0)
  have HS0 := hid hs0
  have HH0 := hid h0
  have HR0 := hid r0
  have HD0 := hid p0
  have HN := hid hn
  have H47 := hid h47
  have HCo := hid hco
  have HBs := hid hB
  have HGs := hid eg
  have HsW := hid hsW
  have HNg := hid hg
  have HOl := hid hO
  have HLt : Hid (∀ k, PqB x k \/ PqC x k -> k < w.heap.size) := hid (fun k hk => (h.lt k hk).1)
  obtain ⟨d0, d1, d2, d3, d4, d5, d6, d7, df⟩ := p0.cells
  clear A0 p0 h0 r0 hs0 h hr ht hn h47 hco hB hsW hg hO
  go_enter Tryd.func22, Tryd.ntmps22
  go_wp2_with fail
  clear d0 d1 d2 d3 d4 d5 d6 d7 df
  refine (lown_any d co cn cp _ HN.out (by have := H47.out; omega) HR0.out).mono ?_
  rintro e w1 ⟨lo, lc, he, ho, hs1⟩
  rw [he]
  have A1 := Still.alloc w1 (.cells (dgc d lo cn lc) 39)
  have p1 := newDg_b w1 d lo cn lc
  obtain ⟨gl, egl⟩ : ∃ g, w1.heap.size = g := ⟨_, rfl⟩
  unfold newDg at p1
  obtain ⟨W1, eW1⟩ : ∃ W, w1.alloc (.cells (dgc d lo cn lc) 39) = W := ⟨_, rfl⟩
  have ho1 := ho.still A1
  have hs2 := hs1.trans A1
  rw [eW1] at p1 ho1 hs2
  rw [egl] at p1
  have HS1 := hid hs2
  have HD1 := hid p1
  have HO1 := hid ho1
  clear he ho hs1 A1 p1 ho1 hs2
  go_upto_region 2 with fail
  clear eW eW1
  obtain ⟨F, eF⟩ : ∃ F, tkF s d lead = F := ⟨_, rfl⟩
  obtain ⟨s', es'⟩ : ∃ F, tkS s d lead = F := ⟨_, rfl⟩
  obtain ⟨tb, etb⟩ : ∃ F, tkB s d lead = F := ⟨_, rfl⟩
  obtain ⟨re, ere⟩ : ∃ F, refE s d lead = F := ⟨_, rfl⟩
  have HFl : Hid (F.length <= 2513169434843) := hid (by have := tkF_len s d lead; rw [eF, HN.out] at this; have := H47.out; omega)
  have HFit := hid hf
  have HTa : Hid (∀ u, Still W1 u -> Calls Tryd.prog 10 #[.pointer (some ⟨x.p, 0, none⟩), dgv d lo cn lc, .int .i64 lead] u fun e w' => ∃ fo fc ko kc, e = .returned (.tuple #[.slice fo F.length fc, .bool tb, .int .i64 re]) /\ Tk2 w W W1 w' B g cn cp fc kc co fo ko x s s' d F /\ Dgb w' gl d lo cn lc /\ OwG KCc 36 w' W.heap.size (.slice lo cn lc) d.cs) := hid (fun u hu => by
    have sWu := HS1.out.trans hu
    have hu3 := HH0.out.still sWu
    have hd3 := HD1.out.still hu
    have ho3 := HO1.out.still hu
    have hdd := HD0.out.still sWu
    have hsr := HR0.out.still sWu
    have hlo : ∀ a, lo = some a -> a.block ≠ x.mb /\ a.block ≠ x.p := fun a ha => by
      have h1 := (HO1.out.block (own_some.2 ⟨a, ha, rfl⟩)).1
      have h2 := (HH0.out.lt x.mb (.inl (.inr (.inr (.inl rfl))))).1
      have h3 := (HH0.out.lt x.p (.inl (.inr (.inl rfl)))).1
      omega
    refine (ltake_all x.p x.ko x.kc x.mb B s d lo cn lc lead (by have := HOl.out; omega) HFit.out HN.out u hu3.l (SrG.own (by rw [HN.out]; exact ho3) (by rw [HN.out]; have := H47.out; omega)) hlo).mono ?_
    rw [eF, es', etb, ere]
    rintro e w' ⟨fo, fc, ko', kc', he, hfo, hl, hfr, hkb⟩
    obtain ⟨es2, c2', hm2⟩ := hu3.l.mp.map
    have tdd : ¬ (g = x.p \/ g = x.mb) := fun e => e.elim (ty_ne hdd hu3.l.bk (by decide)) (map_ne hdd hm2)
    have tdl : ¬ (gl = x.p \/ gl = x.mb) := fun e => e.elim (ty_ne hd3 hu3.l.bk (by decide)) (map_ne hd3 hm2)
    have tr : ¬ (x.r = x.p \/ x.r = x.mb) := fun e => e.elim (ty_ne hu3.b hu3.l.bk (by decide)) (map_ne hu3.b hm2)
    have tq : ¬ (x.q = x.p \/ x.q = x.mb) := fun e => e.elim (ty_ne hu3.y.bk hu3.l.bk (by decide)) (map_ne hu3.y.bk hm2)
    have tc : ∀ k, (∃ cur, u.heap[k]? = some (.cells cur 36 (0, 0))) -> ¬ (k = x.p \/ k = x.mb) := fun k ⟨cur, hk⟩ e => e.elim (ty_ne hk hu3.l.bk (by decide)) (map_ne hk hm2)
    have hwu : Still w u := HS0.out.trans sWu
    have hwl : ∀ k, PqB x k \/ PqC x k -> k < w.heap.size := HLt.out
    refine ⟨fo, fc, ko', kc', he, ⟨hdd.keepD hfr tdd, hfo.less hu.size, hl, hu3.b.keep hfr tr, hu3.y.keep hfr tq (fun a ha => tc _ (ow_ty hu3.y.ow (own_some.2 ⟨a, ha, rfl⟩))) (fun a ha => tc _ (ow_ty hu3.y.gw (own_some.2 ⟨a, ha, rfl⟩))), hsr.kept0 hfr (fun a ha e => by have := HCo.out a ⟨by have := HN.out; have := ha.1; omega, ha.2⟩; rcases e with e | e; exact this.2.1 e; exact this.2.2.1 e), ((HT.out.still sWu).keep hfr HNg.out (fun k hk => by rcases hk with rfl | rfl; exact hu3.l.lp; exact hu3.l.lm)), Fr.trans (Still.to hwu) hfr (fun _ _ e => e), hkb, fun k hk => ?_, ⟨HGs.out, HsW.out, HS1.out.size, Nat.le_trans HNg.out HBs.out⟩, Nat.le_trans hu.size hfr.size⟩, hd3.keepD hfr tdl, ho3.keep hfr (fun k hk e => tc k (ow_ty ho3 e) hk)⟩
    rcases hk with hk | hk | ⟨h0, a, ha, rfl⟩
    · exact hwl k (.inl hk)
    · exact hwl k (.inr hk)
    · exact (HCo.out a ⟨by have := HN.out; omega, ha⟩).1)
  obtain ⟨c0, c1, cf⟩ := (HH0.out.b.still HS1.out).cells
  obtain ⟨d0, d1, d2, d3, d4, d5, d6, d7, df⟩ := HD1.out.cells
  have HEq := hid (And.intro eF (And.intro es' (And.intro etb ere)))
  clear eF es' etb ere
  go_cut [8, 9, 10] (fun v8 v9 v10 wx => ∃ fo fc ko kc, v8 = .slice fo F.length fc /\ v9 = .bool tb /\ v10 = .int .i64 re /\ Hid (Tk2 w W W1 wx B g cn cp fc kc co fo ko x s s' d F /\ Dgb wx gl d lo cn lc /\ OwG KCc 36 wx W.heap.size (.slice lo cn lc) d.cs))
  case first =>
    go_region_held3 (fun w' => w'.cell? ⟨x.r, 0, none⟩ = some (.pointer (some ⟨x.p, 0, none⟩)) /\ w'.cell? ⟨gl, 0, none⟩ = some (.int .i64 d.kd) /\ w'.cell? ⟨gl, 1, none⟩ = some (.int .u64 d.ss) /\ w'.cell? ⟨gl, 2, none⟩ = some (.int .i64 d.fr) /\ w'.cell? ⟨gl, 3, none⟩ = some (.int .i64 d.to) /\ w'.cell? ⟨gl, 4, none⟩ = some (.int .i64 d.mrk) /\ w'.cell? ⟨gl, 5, none⟩ = some (.int .i64 d.fi) /\ w'.cell? ⟨gl, 6, none⟩ = some (.slice lo cn lc) /\ w'.cell? ⟨gl, 7, none⟩ = some (.int .i64 d.ak)) (go_keep)
      (first
        | (go_at_call 10
           refine (HTa.out _ (by repeat (first | exact Fr.refl _ _ | refine Fr.drew ?_ | refine Fr.alloc ?_ _))).mono ?_
           rintro e w4 ⟨fo, fc, ko, kc, rfl, t4, l4, o4⟩
           obtain ⟨v0, v1, v2, v3, v4', v5', v6', v7', vf⟩ := l4.cells
           obtain ⟨a0, a1, af⟩ := t4.b.cells
           have HR4 : Hid (Tk2 w W W1 w4 B g cn cp fc kc co fo ko x s s' d F /\ Dgb w4 gl d lo cn lc /\ OwG KCc 36 w4 W.heap.size (.slice lo cn lc) d.cs) := hid ⟨t4, l4, o4⟩
           clear t4 l4 o4))
    all_goals
      (go_wp2_with fail
       go_meet
       exact ⟨fo, fc, ko, kc, rfl, rfl, rfl, HR4⟩)
  case rest =>
    obtain ⟨fo, fc, ko, kc, rfl, rfl, rfl, HX⟩ := hcut
    clear c0 c1 cf d0 d1 d2 d3 d4 d5 d6 d7 df HTa
    obtain ⟨d0, d1, d2, d3, d4, d5, d6, d7, df⟩ := HX.out.2.1.cells
    obtain ⟨f0, f1, f2, f3, f4, f5, f6, f7, ff⟩ := HX.out.1.dd.cells
    go_wp2_with fail
    clear d0 d1 d2 d3 d4 d5 d6 d7 df f0 f1 f2 f3 f4 f5 f6 f7 ff
    refine (rsame16_t d lo co cn lc cp _ (HX.out.2.2.rdC HN.out H47.out) (by have := HX.out.1.sr.rd; rw [HN.out] at this; exact this)).mono ?_
    rintro e w5 ⟨he, h5⟩
    rw [he]
    have HX5 := hid (And.intro (HX.out.1.still h5) (And.intro (HX.out.2.1.still h5) (HX.out.2.2.still h5)))
    clear he h5 HX
    obtain ⟨_, _, _, _, _, _, d6, _, df⟩ := HX5.out.2.1.cells
    go_wp2_with fail
    clear d6 df
    have HSz : Hid (W.heap.size <= w5.heap.size) := hid (by have h1 := HX5.out.1.f.size; have h2 := block_lt HX5.out.1.dd; have := HsW.out; omega)
    refine (lspoil_any lo cn lc d.cs W.heap.size HN.out H47.out _ HX5.out.2.2 HSz.out).mono ?_
    rintro e w6 ⟨he, h6⟩
    rw [he]
    have HX6 := hid (HX5.out.1.keep h6 (fun k hk => by
      have h1 := HO1.out.block (own_some.2 hk)
      exact h1))
    clear he h6 HX5
    go_upto_region 5 with fail
    have HTb : Hid (∀ u, Still w6 u -> Calls Tryd.prog 38 #[.pointer (some ⟨x.q, 0, none⟩), dgv d co cn cp, .int .i64 lead] u fun e w' => ∃ bo bc go gc, e = .returned (.tuple #[.slice bo F.length bc, .bool tb, .int .i64 re]) /\ Tk5 w W1 w' B fc kc bc gc fo ko bo go x s' F /\ Dgb w' g d co cn cp) := hid (fun u hu => by
      have hX := HX6.out.still hu
      have zg := hX.zg
      refine (rtake_all x.q x.oo x.oc x.go x.gc B s d co cn cp lead HOl.out HFit.out HN.out u hX.t hX.y (by have := hX.sr.rd; rw [HN.out] at this; exact this) (fun a ha => ⟨(HCo.out a ha).2.2.2.1, (HCo.out a ha).2.2.2.2⟩) (fun a ha => Nat.lt_of_lt_of_le (HCo.out a ha).1 hX.f.size)).mono ?_
      rw [HEq.out.1, HEq.out.2.1, HEq.out.2.2.1, HEq.out.2.2.2]
      rintro e w' ⟨bo, bc, go', gc', he, hbo, hy, hfr, hkg⟩
      have tdd : ¬ (g = x.q \/ ∃ b, x.go = some b /\ b.block = g) := fun e => by
        rcases e with e | ⟨b, hb, e⟩
        · exact ty_ne hX.dd hX.y.bk (by decide) e
        · have := hX.sz b.block (.inr (.inl (.inr (.inr ⟨b, hb, rfl⟩)))); omega
      have lw : ∀ k, (k = x.q \/ ∃ b, x.go = some b /\ b.block = k) -> k < w.heap.size := fun k e => by
        rcases e with rfl | ⟨b, hb, rfl⟩
        · exact hX.sz _ (.inl (.inr (.inr (.inr rfl))))
        · exact hX.sz _ (.inr (.inl (.inr (.inr ⟨b, hb, rfl⟩))))
      have tr : ¬ (x.r = x.q \/ ∃ b, x.go = some b /\ b.block = x.r) := fun e => by
        rcases e with e | ⟨b, hb, e⟩
        · exact ty_ne hX.b hX.y.bk (by decide) e
        · obtain ⟨cur, hc⟩ := ow_ty hX.y.gw (own_some.2 ⟨b, hb, rfl⟩)
          exact ty_ne hc hX.b (by decide) e
      have tp : ¬ (x.p = x.q \/ ∃ b, x.go = some b /\ b.block = x.p) := fun e => by
        rcases e with e | ⟨b, hb, e⟩
        · exact ty_ne hX.l.bk hX.y.bk (by decide) e
        · obtain ⟨cur, hc⟩ := ow_ty hX.y.gw (own_some.2 ⟨b, hb, rfl⟩)
          exact ty_ne hc hX.l.bk (by decide) e
      obtain ⟨es2, c2', hm2⟩ := hX.l.mp.map
      have tm : ¬ (x.mb = x.q \/ ∃ b, x.go = some b /\ b.block = x.mb) := fun e => by
        rcases e with e | ⟨b, hb, e⟩
        · exact map_ne hX.y.bk hm2 e.symm
        · obtain ⟨cur, hc⟩ := ow_ty hX.y.gw (own_some.2 ⟨b, hb, rfl⟩)
          exact map_ne hc hm2 e
      have tk : ∀ a, ko = some a -> ¬ (a.block = x.q \/ ∃ b, x.go = some b /\ b.block = a.block) := fun a ha e => by
        obtain ⟨c, hc, ec⟩ := hX.kb a ha
        rcases e with e | ⟨b, hb, e⟩
        · obtain ⟨cur, hcc⟩ := (hX.l.kp.bl a ha).2
          exact ty_ne hcc hX.y.bk (by decide) e
        · exact HH0.out.ng c b hc hb (by omega)
      refine ⟨bo, bc, go', gc', he, ⟨hX.fw.keep hfr (fun k hk e => by have h1 := (hX.fw.block e).1; have h2 := lw k hk; omega), hbo, hX.l.keep hfr tp tm tk, hX.b.keep hfr tr, hy, Fr.trans (hX.f.mono (fun k _ e => e.imp id .inl)) hfr (fun k _ e => .inr (.inr e)), hX.kb, fun b hb => (hkg b hb).imp id (fun e => Nat.le_trans hX.f.size e), fun a b ha hb e => ?_, fun k hk => hX.sz k (hk.imp id .inl), by omega, Nat.le_trans hX.zx hfr.size, HH0.out.ng, HH0.out.no, HH0.out.lr⟩, hX.dd.keepD hfr tdd⟩
      have h1 := hX.fw.block (own_some.2 ⟨a, ha, rfl⟩)
      rcases hkg b hb with ⟨b0, hb0, e0⟩ | h2
      · have h3 := lw b0.block (.inr ⟨b0, hb0, rfl⟩); omega
      · omega)
    obtain ⟨c0, c1, cf⟩ := HX6.out.b.cells
    obtain ⟨d0, d1, d2, d3, d4, d5, d6, d7, df⟩ := HX6.out.dd.cells
    go_cut [12, 13, 14] (fun v8 v9 v10 wx => ∃ bo bc go gc, v8 = .slice bo F.length bc /\ v9 = .bool tb /\ v10 = .int .i64 re /\ Hid (Tk5 w W1 wx B fc kc bc gc fo ko bo go x s' F))
    case first =>
      go_region_held3 (fun w' => w'.cell? ⟨x.r, 1, none⟩ = some (.pointer (some ⟨x.q, 0, none⟩)) /\ w'.cell? ⟨g, 0, none⟩ = some (.int .i64 d.kd) /\ w'.cell? ⟨g, 1, none⟩ = some (.int .u64 d.ss) /\ w'.cell? ⟨g, 2, none⟩ = some (.int .i64 d.fr) /\ w'.cell? ⟨g, 3, none⟩ = some (.int .i64 d.to) /\ w'.cell? ⟨g, 4, none⟩ = some (.int .i64 d.mrk) /\ w'.cell? ⟨g, 5, none⟩ = some (.int .i64 d.fi) /\ w'.cell? ⟨g, 6, none⟩ = some (.slice co cn cp) /\ w'.cell? ⟨g, 7, none⟩ = some (.int .i64 d.ak)) (go_keep)
        (first
          | (go_at_call 38
             refine (HTb.out _ (by repeat (first | exact Fr.refl _ _ | refine Fr.drew ?_ | refine Fr.alloc ?_ _))).mono ?_
             rintro e w4 ⟨bo, bc, go, gc, rfl, t4, l4⟩
             obtain ⟨v0, v1, v2, v3, v4', v5', v6', v7', vf⟩ := l4.cells
             obtain ⟨a0, a1, af⟩ := t4.b.cells
             have HR4 : Hid (Tk5 w W1 w4 B fc kc bc gc fo ko bo go x s' F) := hid t4
             clear t4 l4))
      all_goals
        (go_wp2_with fail
         go_meet
         exact ⟨bo, bc, go, gc, rfl, rfl, rfl, HR4⟩)
    case rest =>
      obtain ⟨bo, bc, go, gc, rfl, rfl, rfl, HY⟩ := hcut
      clear c0 c1 cf d0 d1 d2 d3 d4 d5 d6 d7 df HTb
      go_wp2_with fail
      refine (rsamc_t F fo bo F.length fc bc _ (HY.out.fw.rdC rfl HFl.out) HY.out.bw.rd).mono ?_
      rintro e w7 ⟨he, h7⟩
      rw [he]
      have HY7 := hid (HY.out.still h7)
      clear he h7 HY
      go_wp2_with fail
      have HSy : Hid (W1.heap.size <= w7.heap.size) := hid HY7.out.zx
      refine (lspoil_any fo F.length fc F W1.heap.size rfl HFl.out _ HY7.out.fw HSy.out).mono ?_
      rintro e w8 ⟨he, h8⟩
      rw [he]
      have HE := hid (HY7.out.end h8)
      clear he h8 HY7
      have ht1 : (tb == tb) = true := by simp
      have ht2 : (re == re) = true := by simp
      go_wp2_with fail
      go_ret
      rw [HEq.out.2.1]
      exact ⟨rfl, HE.out⟩
end Go.Proofs.YtnbofjaecchnaaaDoor
namespace Go.Proofs.YtnbofjaecchnaaaDoor
open Go.RowKit
open Wp Vp Lp
set_option maxRecDepth 100000
set_option linter.unusedVariables false
set_option linter.unusedSimpArgs false
structure Dq where
 d : Dg
 co : Option Addr
 cn : Nat
 cp : Nat
def zDq : Dq := ⟨zD, none, 0, 0⟩
abbrev dqc (x : Dq) : Array Value := dgc x.d x.co x.cn x.cp
def KDq : Kd Dq := ⟨fun x => (dqc x).toList, 8, zDq, fun _ => rfl, fun m u hu => by
 simp at hu
 rcases hu with rfl | rfl | rfl | rfl | rfl | rfl | rfl | rfl <;> rfl, by decide⟩
theorem infoDq : ∃ i, Tryd.prog.info? 39 = some i /\ i.zero = some (.agg (KDq.f KDq.d).toArray) /\ i.size = KDq.k /\ i.bytes = 80 := ⟨_, rfl, rfl, rfl, rfl⟩
def dq (Q : List Dq) (j : Nat) : Dq := Q.getD j zDq
theorem owDq {e : TypeId} {w : World} {B g n cap : Nat} {L : List Dq} (h : OwG KDq e w B (.slice (some ⟨g, 0, none⟩) n cap) L) {i : Nat} (hi : i < L.length) : w.cell? ⟨g, i * 8, none⟩ = some (.int .i64 (dq L i).d.kd) /\ w.cell? ⟨g, i * 8 + 1, none⟩ = some (.int .u64 (dq L i).d.ss) /\ w.cell? ⟨g, i * 8 + 2, none⟩ = some (.int .i64 (dq L i).d.fr) /\ w.cell? ⟨g, i * 8 + 3, none⟩ = some (.int .i64 (dq L i).d.to) /\ w.cell? ⟨g, i * 8 + 4, none⟩ = some (.int .i64 (dq L i).d.mrk) /\ w.cell? ⟨g, i * 8 + 5, none⟩ = some (.int .i64 (dq L i).d.fi) /\ w.cell? ⟨g, i * 8 + 6, none⟩ = some (.slice (dq L i).co (dq L i).cn (dq L i).cp) /\ w.cell? ⟨g, i * 8 + 7, none⟩ = some (.int .i64 (dq L i).d.ak) :=
 ⟨h.get hi 0 _ rfl, h.get hi 1 _ rfl, h.get hi 2 _ rfl, h.get hi 3 _ rfl, h.get hi 4 _ rfl, h.get hi 5 _ rfl, h.get hi 6 _ rfl, h.get hi 7 _ rfl⟩
def KPp : Kd Nat := ⟨fun r => [.pointer (some ⟨r, 0, none⟩)], 1, 0, fun _ => rfl, fun m u hu => by
 simp at hu
 subst hu; rfl, by decide⟩
theorem infoPp : ∃ i, Tryd.prog.info? 23 = some i /\ i.zero = some (.pointer none) /\ i.size = KPp.k /\ i.bytes = 8 := ⟨_, rfl, rfl, rfl, rfl⟩
theorem Pr.tB {w : World} {B : Nat} {x : Pq} {s : Ln} (h : Pr w B x s) {k : Nat} (hk : PqB x k) {cur : Array Value} {t : TypeId} (hc : w.heap[k]? = some (.cells cur t (0, 0))) : t = 48 \/ t = 70 \/ t = 64 := by
 rcases hk with rfl | rfl | rfl | rfl
 ·left; have := hc.symm.trans h.b; simp at this; exact this.2
 ·right; left; have := hc.symm.trans h.l.bk; simp at this; exact this.2
 ·obtain ⟨es, c, hm⟩ := h.l.mp.map
  have := hc.symm.trans hm
  simp at this
 ·right; right; have := hc.symm.trans h.y.bk; simp at this; exact this.2
theorem Pr.tC {w : World} {B : Nat} {x : Pq} {s : Ln} (h : Pr w B x s) {k : Nat} (hk : PqC x k) : ∃ cur, w.heap[k]? = some (.cells cur 36 (0, 0)) := by
 rcases hk with ⟨a, ha, rfl⟩ | ⟨a, ha, rfl⟩ | ⟨a, ha, rfl⟩
 ·exact (h.l.kp.bl a ha).2
 ·exact ow_ty h.y.ow (own_some.2 ⟨a, ha, rfl⟩)
 ·exact ow_ty h.y.gw (own_some.2 ⟨a, ha, rfl⟩)
theorem Pr.bc {w : World} {B B' : Nat} {x x' : Pq} {s s' : Ln} (h : Pr w B x s) (h' : Pr w B' x' s') {k : Nat} (hb : PqB x k) (hc : PqC x' k) : False := by
 obtain ⟨cur, hk⟩ := h'.tC hc
 rcases h.tB hb hk with e | e | e <;> exact absurd e (by decide)
theorem Pr.ty {w : World} {B : Nat} {x : Pq} {s : Ln} (h : Pr w B x s) {k : Nat} (hk : PqB x k \/ PqC x k) {cur : Array Value} {t : TypeId} (hc : w.heap[k]? = some (.cells cur t (0, 0))) : t = 48 \/ t = 70 \/ t = 64 \/ t = 36 := by
 rcases hk with hk | hk
 ·rcases h.tB hk hc with e | e | e
  ·exact .inl e
  ·exact .inr (.inl e)
  ·exact .inr (.inr (.inl e))
 ·obtain ⟨cur', h'⟩ := h.tC hk
  have := hc.symm.trans h'
  simp at this
  exact .inr (.inr (.inr this.2))
def zPq : Pq := ⟨0, 0, 0, none, 0, 0, none, 0, none, 0⟩
def pz (P : List (Pq × Ln)) (i : Nat) : Pq × Ln := P.getD i (zPq, zLn 0 0 0)
theorem pz_same {P : List (Pq × Ln)} {i : Nat} (hi : i < P.length) (y : Pq × Ln) : pz (P.set i y) i = y := by
 unfold pz; simp [List.getD, hi]
theorem pz_ne {P : List (Pq × Ln)} {i j : Nat} (hij : i ≠ j) (y : Pq × Ln) : pz (P.set i y) j = pz P j := by
 unfold pz; simp [List.getD, hij]
theorem pz_old {P : List (Pq × Ln)} {j : Nat} (hj : j < P.length) (y : Pq × Ln) : pz (P ++ [y]) j = pz P j := by
 unfold pz; simp [List.getD, List.getElem?_append_left hj]
theorem pz_new (P : List (Pq × Ln)) (y : Pq × Ln) : pz (P ++ [y]) P.length = y := by
 unfold pz; simp [List.getD]
structure St (w0 w : World) (wb : Nat) (lo : Option Addr) (lc : Nat) (mo : Option Addr) (mc : Nat) (P : List (Pq × Ln)) (Q : List Dq) (N : Nat) : Prop where
 bk : w.heap[wb]? = some (.cells #[.slice lo P.length lc, .slice mo Q.length mc] 31 (0, 0))
 lw : OwG KPp 23 w w0.heap.size (.slice lo P.length lc) (P.map fun x => x.1.r)
 mw : OwG KDq 39 w w0.heap.size (.slice mo Q.length mc) Q
 pr : ∀ i, i < P.length -> Pr w w0.heap.size (pz P i).1 (pz P i).2 /\ Fits (pz P i).2 /\ (pz P i).2.O.length <= N
 ap : ∀ i j, i < P.length -> j < P.length -> i ≠ j -> ∀ k, (PqB (pz P i).1 k -> ¬ PqB (pz P j).1 k) /\ (PqC (pz P i).1 k -> ¬ PqC (pz P j).1 k)
 qd : ∀ i, i < Q.length -> (dq Q i).d.cs.length = (dq Q i).cn /\ (dq Q i).cn <= 336 /\ SrG KCc w (dq Q i).co (dq Q i).cp (dq Q i).d.cs /\ ∀ a, (dq Q i).co = some a -> w0.heap.size <= a.block /\ (∃ cur, w.heap[a.block]? = some (.cells cur 36 (0, 0))) /\ ∀ j, j < P.length -> ¬ PqC (pz P j).1 a.block
 st : Still w0 w
 ot : OTab w
 ng : 3 <= w0.heap.size
 hl : w0.heap.size <= wb
section
variable {w0 w w' : World} {wb : Nat} {lo : Option Addr} {lc : Nat} {mo : Option Addr} {mc : Nat} {P : List (Pq × Ln)} {Q : List Dq} {N : Nat}
theorem St.still (h : St w0 w wb lo lc mo mc P Q N) (hs : Still w w') : St w0 w' wb lo lc mo mc P Q N :=
 ⟨hs.kept_still h.bk, h.lw.still hs, h.mw.still hs, fun i hi => ⟨(h.pr i hi).1.still hs, (h.pr i hi).2⟩, h.ap, fun i hi => by
  obtain ⟨a, b, c, d⟩ := h.qd i hi
  refine ⟨a, b, c.still hs, fun x hx => ?_⟩
  obtain ⟨e, ⟨cur, f⟩, r⟩ := d x hx
  exact ⟨e, ⟨cur, hs.kept_still f⟩, r⟩, h.st.trans hs, h.ot.still hs, h.ng, h.hl⟩
theorem St.cells (h : St w0 w wb lo lc mo mc P Q N) : w.cell? ⟨wb, 0, none⟩ = some (.slice lo P.length lc) /\ w.cell? ⟨wb, 1, none⟩ = some (.slice mo Q.length mc) /\ ∀ o, w.frozen? ⟨wb, o, none⟩ = false := by
 refine ⟨?_, ?_, fun o => frozen_of_row w wb o _ _ h.bk⟩ <;> (rw [cell_of_row _ _ _ _ _ _ h.bk]; rfl)
theorem St.step (h : St w0 w wb lo lc mo mc P Q N) {i : Nat} (hi : i < P.length) {x' : Pq} {s' : Ln} {F : Nat -> Prop} (hf : Fr F w w') (hF : ∀ k, F k -> PqB (pz P i).1 k \/ PqC (pz P i).1 k) (hx : Pr w' w0.heap.size x' s') (hfit : Fits s') (hB : ∀ k, PqB x' k -> PqB (pz P i).1 k) (hr : x'.r = (pz P i).1.r) (hC : ∀ k, PqC x' k -> PqC (pz P i).1 k \/ w.heap.size <= k) {N' : Nat} (hN : s'.O.length <= N') (hNN : N <= N') : St w0 w' wb lo lc mo mc (P.set i (x', s')) Q N' := by
 have hpi := (h.pr i hi).1
 have low : ∀ k, F k -> w0.heap.size <= k := fun k hk => (hpi.lt k (hF k hk)).2
 have nF : ∀ {k cur t}, w.heap[k]? = some (.cells cur t (0, 0)) -> (t ≠ 48 /\ t ≠ 70 /\ t ≠ 64 /\ t ≠ 36) -> ¬ F k := fun hc ht e => by
  rcases hpi.ty (hF _ e) hc with e | e | e | e
  ·exact ht.1 e
  ·exact ht.2.1 e
  ·exact ht.2.2.1 e
  ·exact ht.2.2.2 e
 have hl : (P.set i (x', s')).length = P.length := List.length_set
 have nP : ∀ j, j < P.length -> i ≠ j -> (∀ k, F k -> ¬ PqB (pz P j).1 k) /\ (∀ k, F k -> ¬ PqC (pz P j).1 k) := fun j hj hij => by
  have hpj := (h.pr j hj).1
  refine ⟨fun k hk e => ?_, fun k hk e => ?_⟩
  ·rcases hF k hk with e' | e'
   ·exact (h.ap i j hi hj hij k).1 e' e
   ·exact hpj.bc hpi e e'
  ·rcases hF k hk with e' | e'
   ·exact hpi.bc hpj e' e
   ·exact (h.ap i j hi hj hij k).2 e' e
 refine ⟨?_, ?_, ?_, fun j hj => ?_, fun j j' hj hj' hjj k => ?_, fun j hj => ?_, Fr.trans h.st hf (fun k hk e => by have := low k e; omega), h.ot.keep hf h.ng low, h.ng, h.hl⟩
 ·rw [hl]; exact hf.kept h.bk (nF h.bk (by decide))
 ·rw [hl]
  have e : (P.set i (x', s')).map (fun x => x.1.r) = P.map fun x => x.1.r := by
   rw [List.map_set]
   have : (P.map fun x => x.1.r)[i]? = some x'.r := by
    rw [List.getElem?_map, List.getElem?_eq_getElem hi, hr]
    simp [pz, List.getD, hi]
   apply List.ext_getElem?
   intro j
   by_cases hij : i = j
   ·subst hij
    rw [List.getElem?_set_self (by simpa using hi), this]
   ·rw [List.getElem?_set_ne hij]
  rw [e]
  exact h.lw.keep hf (fun k hk e => by obtain ⟨cur, hc⟩ := ow_ty h.lw e; exact nF hc (by decide) hk)
 ·exact h.mw.keep hf (fun k hk e => by obtain ⟨cur, hc⟩ := ow_ty h.mw e; exact nF hc (by decide) hk)
 ·rw [hl] at hj
  by_cases hij : i = j
  ·subst hij
   rw [pz_same hi]
   exact ⟨hx, hfit, hN⟩
  ·rw [pz_ne hij]
   exact ⟨(h.pr j hj).1.keep hf (nP j hj hij).1 (nP j hj hij).2, (h.pr j hj).2.1, Nat.le_trans (h.pr j hj).2.2 hNN⟩
 ·rw [hl] at hj hj'
  by_cases hij : i = j
  ·subst hij
   rw [pz_same hi, pz_ne hjj]
   refine ⟨fun e e' => (h.ap i j' hj hj' hjj k).1 (hB k e) e', fun e e' => ?_⟩
   rcases hC k e with e1 | e1
   ·exact (h.ap i j' hj hj' hjj k).2 e1 e'
   ·have := ((h.pr j' hj').1.lt k (.inr e')).1; omega
  ·by_cases hij' : i = j'
   ·subst hij'
    rw [pz_same hi, pz_ne hij]
    refine ⟨fun e e' => (h.ap j i hj hj' hjj k).1 e (hB k e'), fun e e' => ?_⟩
    rcases hC k e' with e1 | e1
    ·exact (h.ap j i hj hj' hjj k).2 e e1
    ·have := ((h.pr j hj).1.lt k (.inr e)).1; omega
   ·rw [pz_ne hij, pz_ne hij']
    exact h.ap j j' hj hj' hjj k
 ·obtain ⟨a, b, c, d⟩ := h.qd j hj
  refine ⟨a, b, c.kept hf (fun x hx e => ?_), fun x hx => ?_⟩
  ·obtain ⟨_, ⟨cur, f⟩, r⟩ := d x hx
   rcases hF _ e with e | e
   ·rcases hpi.tB e f with e | e | e <;> exact absurd e (by decide)
   ·exact r i hi e
  ·obtain ⟨e0, ⟨cur, f⟩, r⟩ := d x hx
   have nf : ¬ F x.block := fun e => by
    rcases hF _ e with e | e
    ·rcases hpi.tB e f with e | e | e <;> exact absurd e (by decide)
    ·exact r i hi e
   refine ⟨e0, ⟨cur, hf.kept f nf⟩, fun j' hj' e => ?_⟩
   rw [hl] at hj'
   by_cases hij : i = j'
   ·subst hij
    rw [pz_same hi] at e
    rcases hC _ e with e1 | e1
    ·exact r i hi e1
    ·have := block_lt f; omega
   ·rw [pz_ne hij] at e
    exact r j' hj' e
end
end Go.Proofs.YtnbofjaecchnaaaDoor
namespace Go.Proofs.YtnbofjaecchnaaaDoor
open Go.RowKit
open Wp Vp Lp
set_option maxRecDepth 100000
set_option linter.unusedVariables false
set_option linter.unusedSimpArgs false
section
variable {w0 w w' : World} {wb : Nat} {lo : Option Addr} {lc : Nat} {mo : Option Addr} {mc : Nat} {P : List (Pq × Ln)} {Q : List Dq} {N : Nat}
theorem St.ow (h : St w0 w wb lo lc mo mc P Q N) {k : Nat} (hk : k = wb \/ Sb lo k \/ Sb mo k) : w0.heap.size <= k /\ ∃ cur t, w.heap[k]? = some (.cells cur t (0, 0)) /\ t ≠ 48 /\ t ≠ 70 /\ t ≠ 64 /\ t ≠ 36 := by
 rcases hk with rfl | hk | hk
 ·exact ⟨h.hl, _, _, h.bk, by decide⟩
 ·obtain ⟨cur, hc⟩ := ow_ty h.lw (own_some.2 hk)
  exact ⟨(h.lw.block (own_some.2 hk)).1, _, _, hc, by decide⟩
 ·obtain ⟨cur, hc⟩ := ow_ty h.mw (own_some.2 hk)
  exact ⟨(h.mw.block (own_some.2 hk)).1, _, _, hc, by decide⟩
theorem St.nop (h : St w0 w wb lo lc mo mc P Q N) {k : Nat} (hk : k = wb \/ Sb lo k \/ Sb mo k) {i : Nat} (hi : i < P.length) : ¬ PqB (pz P i).1 k /\ ¬ PqC (pz P i).1 k := by
 obtain ⟨_, cur, t, hc, h1, h2, h3, h4⟩ := h.ow hk
 refine ⟨fun e => ?_, fun e => ?_⟩
 ·rcases (h.pr i hi).1.ty (.inl e) hc with e | e | e | e
  ·exact h1 e
  ·exact h2 e
  ·exact h3 e
  ·exact h4 e
 ·rcases (h.pr i hi).1.ty (.inr e) hc with e | e | e | e
  ·exact h1 e
  ·exact h2 e
  ·exact h3 e
  ·exact h4 e
theorem St.oth (h : St w0 w wb lo lc mo mc P Q N) {F : Nat -> Prop} (hf : Fr F w w') (hF : ∀ k, F k -> k = wb \/ Sb lo k \/ Sb mo k) : (∀ i, i < P.length -> Pr w' w0.heap.size (pz P i).1 (pz P i).2 /\ Fits (pz P i).2 /\ (pz P i).2.O.length <= N) /\ (∀ i, i < Q.length -> (dq Q i).d.cs.length = (dq Q i).cn /\ (dq Q i).cn <= 336 /\ SrG KCc w' (dq Q i).co (dq Q i).cp (dq Q i).d.cs /\ ∀ a, (dq Q i).co = some a -> w0.heap.size <= a.block /\ (∃ cur, w'.heap[a.block]? = some (.cells cur 36 (0, 0))) /\ ∀ j, j < P.length -> ¬ PqC (pz P j).1 a.block) /\ Still w0 w' /\ OTab w' := by
 have low : ∀ k, F k -> w0.heap.size <= k := fun k hk => (h.ow (hF k hk)).1
 refine ⟨fun i hi => ⟨(h.pr i hi).1.keep hf (fun k hk => (h.nop (hF k hk) hi).1) (fun k hk => (h.nop (hF k hk) hi).2), (h.pr i hi).2⟩, fun i hi => ?_, Fr.trans h.st hf (fun k hk e => by have := low k e; omega), h.ot.keep hf h.ng low⟩
 obtain ⟨a, b, c, d⟩ := h.qd i hi
 have nf : ∀ x, (dq Q i).co = some x -> ¬ F x.block := fun x hx e => by
  obtain ⟨_, ⟨cur, f⟩, _⟩ := d x hx
  obtain ⟨_, cur', t, hc, h1, h2, h3, h4⟩ := h.ow (hF _ e)
  have := f.symm.trans hc
  simp at this
  exact h4 this.2.symm
 refine ⟨a, b, c.kept hf nf, fun x hx => ?_⟩
 obtain ⟨e0, ⟨cur, f⟩, r⟩ := d x hx
 exact ⟨e0, ⟨cur, hf.kept f (nf x hx)⟩, r⟩
theorem dq_old {j : Nat} (hj : j < Q.length) (y : Dq) : dq (Q ++ [y]) j = dq Q j := by
 unfold dq; simp [List.getD, List.getElem?_append_left hj]
theorem dq_new (y : Dq) : dq (Q ++ [y]) Q.length = y := by
 unfold dq; simp [List.getD]
theorem Sb.ty {α : Type} {K : Kd α} {e t : TypeId} {B k n c : Nat} {o : Option Addr} {L : List α} (h : OwG K e w B (.slice o n c) L) (hk : Sb o k) {cur : Array Value} (hc : w.heap[k]? = some (.cells cur t (0, 0))) : t = e := by
 obtain ⟨cur', h'⟩ := ow_ty h (own_some.2 hk)
 have := hc.symm.trans h'
 simp at this
 exact this.2
theorem St.addQ (h : St w0 w wb lo lc mo mc P Q N) {mo' : Option Addr} {mc' : Nat} {y : Dq} (ho : OwG KDq 39 w' w0.heap.size (.slice mo' (Q.length + 1) mc') (Q ++ [y])) (hf : Fr (fun k => Sb mo k) w w') (y1 : y.d.cs.length = y.cn) (y2 : y.cn <= 336) (y3 : SrG KCc w y.co y.cp y.d.cs) (y4 : ∀ a, y.co = some a -> w0.heap.size <= a.block /\ (∃ cur, w.heap[a.block]? = some (.cells cur 36 (0, 0))) /\ ∀ j, j < P.length -> ¬ PqC (pz P j).1 a.block) :
  St w0 (w'.setCell ⟨wb, 1, none⟩ (.slice mo' (Q.length + 1) mc')) wb lo lc mo' mc' P (Q ++ [y]) N /\ w'.cell? ⟨wb, 1, none⟩ = some (.slice mo Q.length mc) /\ ∀ o, w'.frozen? ⟨wb, o, none⟩ = false := by
 have nwb : ¬ Sb mo wb := fun e => absurd (Sb.ty h.mw e h.bk) (by decide)
 have b1 := hf.kept h.bk nwb
 have b2 := heap_setCell_same w' wb 1 _ _ (.slice mo' (Q.length + 1) mc') b1
 have f2 : Fr (fun k => k = wb) w' (w'.setCell ⟨wb, 1, none⟩ (.slice mo' (Q.length + 1) mc')) := Fr.setCell (Fr.refl _ _) _ _ (.inl rfl)
 have f3 : Fr (fun k => k = wb \/ Sb mo k) w (w'.setCell ⟨wb, 1, none⟩ (.slice mo' (Q.length + 1) mc')) := Fr.trans (hf.mono (fun k _ e => .inr e)) f2 (fun k _ e => .inl e)
 obtain ⟨o1, o2, o3, o4⟩ := h.oth f3 (fun k hk => hk.imp id .inr)
 have e1 : (Q ++ [y]).length = Q.length + 1 := by simp
 have ny : ∀ a, y.co = some a -> ¬ (a.block = wb \/ Sb mo a.block) := fun a ha e => by
  obtain ⟨_, ⟨cur, f⟩, _⟩ := y4 a ha
  rcases e with e | e
  ·exact ty_ne f h.bk (by decide) e
  ·exact absurd (Sb.ty h.mw e f) (by decide)
 refine ⟨⟨?_, h.lw.keep f3 (fun k hk e => ?_), ?_, o1, h.ap, fun i hi => ?_, o3, o4, h.ng, h.hl⟩, by rw [cell_of_row _ _ _ _ _ _ b1]; rfl, fun o => frozen_of_row w' wb o _ _ b1⟩
 ·rw [e1]; exact b2.trans (by rfl)
 ·obtain ⟨cur, hc⟩ := ow_ty h.lw e
  rcases hk with rfl | hk
  ·exact ty_ne hc h.bk (by decide) rfl
  ·exact absurd (Sb.ty h.mw hk hc) (by decide)
 ·rw [e1]
  refine ho.keep f2 (fun k hk e => ?_)
  obtain ⟨cur, hc⟩ := ow_ty ho e
  exact ty_ne hc b1 (by decide) hk
 ·rw [e1] at hi
  by_cases hl : i < Q.length
  ·rw [dq_old hl]; exact o2 i hl
  ·obtain rfl : i = Q.length := by omega
   rw [dq_new]
   refine ⟨y1, y2, y3.kept f3 ny, fun a ha => ?_⟩
   obtain ⟨e0, ⟨cur, f⟩, r⟩ := y4 a ha
   exact ⟨e0, ⟨cur, f3.kept f (ny a ha)⟩, r⟩
theorem St.addX (h : St w0 w wb lo lc mo mc P Q N) {lo' : Option Addr} {lc' : Nat} {x : Pq} {s : Ln} (ho : OwG KPp 23 w' w0.heap.size (.slice lo' (P.length + 1) lc') ((P.map fun x => x.1.r) ++ [x.r])) (hf : Fr (fun k => Sb lo k) w w') (hx : Pr w w0.heap.size x s) (hft : Fits s) (hN : s.O.length <= N) (hc : ∀ k, ¬ PqC x k) (hb : ∀ k, PqB x k -> ∀ j, j < P.length -> ¬ PqB (pz P j).1 k) :
  St w0 (w'.setCell ⟨wb, 0, none⟩ (.slice lo' (P.length + 1) lc')) wb lo' lc' mo mc (P ++ [(x, s)]) Q N /\ w'.cell? ⟨wb, 0, none⟩ = some (.slice lo P.length lc) /\ ∀ o, w'.frozen? ⟨wb, o, none⟩ = false := by
 have nwb : ¬ Sb lo wb := fun e => absurd (Sb.ty h.lw e h.bk) (by decide)
 have b1 := hf.kept h.bk nwb
 have b2 := heap_setCell_same w' wb 0 _ _ (.slice lo' (P.length + 1) lc') b1
 have f2 : Fr (fun k => k = wb) w' (w'.setCell ⟨wb, 0, none⟩ (.slice lo' (P.length + 1) lc')) := Fr.setCell (Fr.refl _ _) _ _ (.inl rfl)
 have f3 : Fr (fun k => k = wb \/ Sb lo k) w (w'.setCell ⟨wb, 0, none⟩ (.slice lo' (P.length + 1) lc')) := Fr.trans (hf.mono (fun k _ e => .inr e)) f2 (fun k _ e => .inl e)
 obtain ⟨o1, o2, o3, o4⟩ := h.oth f3 (fun k hk => hk.imp id .inl)
 have e1 : (P ++ [(x, s)]).length = P.length + 1 := by simp
 refine ⟨⟨?_, ?_, h.mw.keep f3 (fun k hk e => ?_), fun i hi => ?_, fun i j hi hj hij k => ?_, fun i hi => ?_, o3, o4, h.ng, h.hl⟩, by rw [cell_of_row _ _ _ _ _ _ b1]; rfl, fun o => frozen_of_row w' wb o _ _ b1⟩
 ·rw [e1]; exact b2.trans (by rfl)
 ·rw [e1, List.map_append]
  refine OwG.keep (L := (P.map fun x => x.1.r) ++ [x.r]) ho f2 (fun k hk e => ?_)
  obtain ⟨cur, hc⟩ := ow_ty ho e
  exact ty_ne hc b1 (by decide) hk
 ·obtain ⟨cur, hc⟩ := ow_ty h.mw e
  rcases hk with rfl | hk
  ·exact ty_ne hc h.bk (by decide) rfl
  ·exact absurd (Sb.ty h.lw hk hc) (by decide)
 ·rw [e1] at hi
  by_cases hl : i < P.length
  ·rw [pz_old hl]; exact o1 i hl
  ·obtain rfl : i = P.length := by omega
   rw [pz_new]
   have nt : ∀ k, (k = wb \/ Sb lo k) -> ¬ PqB x k := fun k hk e => by
    obtain ⟨_, cur, t, hc, h1, h2, h3, h4⟩ := h.ow (k := k) (hk.imp id .inl)
    rcases hx.ty (.inl e) hc with e | e | e | e
    ·exact h1 e
    ·exact h2 e
    ·exact h3 e
    ·exact h4 e
   exact ⟨hx.keep f3 nt (fun k _ => hc k), hft, hN⟩
 ·rw [e1] at hi hj
  by_cases hl : i < P.length
  ·rw [pz_old hl]
   by_cases hl' : j < P.length
   ·rw [pz_old hl']; exact h.ap i j hl hl' hij k
   ·obtain rfl : j = P.length := by omega
    rw [pz_new]
    exact ⟨fun e e' => hb k e' i hl e, fun _ e' => hc k e'⟩
  ·obtain rfl : i = P.length := by omega
   rw [pz_new]
   have hl' : j < P.length := by omega
   rw [pz_old hl']
   exact ⟨fun e e' => hb k e j hl' e', fun e _ => hc k e⟩
 ·obtain ⟨a, b, c, d⟩ := o2 i hi
  refine ⟨a, b, c, fun ad ha => ?_⟩
  obtain ⟨e0, f, r⟩ := d ad ha
  refine ⟨e0, f, fun j hj => ?_⟩
  rw [e1] at hj
  by_cases hl : j < P.length
  ·rw [pz_old hl]; exact r j hl
  ·obtain rfl : j = P.length := by omega
   rw [pz_new]; exact hc _
end
end Go.Proofs.YtnbofjaecchnaaaDoor
namespace Go.Proofs.YtnbofjaecchnaaaDoor
open Go.RowKit
open Wp Vp Lp
set_option maxRecDepth 100000
set_option linter.unusedVariables false
set_option linter.unusedSimpArgs false
def In64 (x : Int) : Prop := -9223372036854775808 <= x /\ x <= 9223372036854775807
structure Opq where
 kd : Int
 wh : Int
 c : Cc
 mk' : Int
 ld : Int
 d : Dg
 co : Option Addr
 cn : Nat
 cp : Nat
 n : Int
 nx : Bool
 ss : Int
 se : Int
 ot : Int
abbrev opc (o : Opq) : Array Value := #[.int .i64 o.kd, .int .i64 o.wh, .int .i64 o.c.fr, .int .i64 o.c.pe, .int .i64 o.c.sq, .int .i64 o.c.v, .int .i64 o.c.a, .int .i64 o.c.b, .int .i64 o.c.c, .int .i64 o.mk', .int .i64 o.ld, .int .i64 o.d.kd, .int .u64 o.d.ss, .int .i64 o.d.fr, .int .i64 o.d.to, .int .i64 o.d.mrk, .int .i64 o.d.fi, .slice o.co o.cn o.cp, .int .i64 o.d.ak, .int .i64 o.n, .bool o.nx, .int .u64 o.ss, .int .i64 o.se, .int .i64 o.ot]
def Ob18 (w : World) (g : Nat) (o : Opq) : Prop := w.heap[g]? = some (.cells (opc o) 41 (0, 0))
theorem Ob18.still {w w' : World} {g : Nat} {o : Opq} (h : Ob18 w g o) (hs : Still w w') : Ob18 w' g o := hs.kept_still h
theorem Ob18.keep {F : Nat -> Prop} {w w' : World} {g : Nat} {o : Opq} (h : Ob18 w g o) (hf : Fr F w w') (hn : ¬ F g) : Ob18 w' g o := hf.kept h hn
structure OpOk (w0 : World) (o : Opq) : Prop where
 kd : In64 o.kd
 wh : In64 o.wh
 n : In64 o.n
 ss : 0 <= o.ss /\ o.ss < 18446744073709551616
 cn : o.d.cs.length = o.cn /\ o.cn <= 2513169434843
 sr : SrG KCc w0 o.co o.cp o.d.cs
 lt : ∀ a, 0 < o.cn /\ o.co = some a -> a.block < w0.heap.size
theorem owPp {e : TypeId} {w : World} {B g n cap : Nat} {L : List Nat} (h : OwG KPp e w B (.slice (some ⟨g, 0, none⟩) n cap) L) {i : Nat} (hi : i < L.length) : w.cell? ⟨g, i, none⟩ = some (.pointer (some ⟨L.getD i 0, 0, none⟩)) := by
 have := h.get hi 0 _ rfl
 rw [show i * KPp.k + 0 = i by show i * 1 + 0 = i; omega] at this
 exact this
theorem eqI_bool (d : Nat) (x y : Bool) (w : World) : (Op.equalIn (d + 1) 4 (.bool x) (.bool y)).run Tryd.prog w = .ok (x == y) w := by
 go_simp
theorem lspart (s : Ln) (w : World) : (part 3 (lsc s) 0).run Tryd.prog w = .ok (.int .i64 (s.O.length : Int)) w /\ (part 3 (lsc s) 1).run Tryd.prog w = .ok (.int .i64 (s.ak : Int)) w /\ (part 3 (lsc s) 2).run Tryd.prog w = .ok (.int .i64 ((s.G.length : Int) + 1)) w /\ (part 2 (lsc s) 3).run Tryd.prog w = .ok (.int .i64 s.mq) w /\ (part 4 (lsc s) 4).run Tryd.prog w = .ok (.bool s.mt) w := by
 refine ⟨?_, ?_, ?_, ?_, ?_⟩ <;> go_simp
theorem equal_ls (s : Ln) (w : World) : (Op.equalIn 10000 44 (lsv s) (lsv s)).run Tryd.prog w = .ok true w := by
 have c0 := fun w => (lspart s w).1
 have c1 := fun w => (lspart s w).2.1
 have c2 := fun w => (lspart s w).2.2.1
 have c3 := fun w => (lspart s w).2.2.2.1
 have c4 := fun w => (lspart s w).2.2.2.2
 have r0 := fun w => eqI_int 9998 (s.O.length : Int) (s.O.length : Int) w
 have r1 := fun w => eqI_int 9998 (s.ak : Int) (s.ak : Int) w
 have r2 := fun w => eqI_int 9998 ((s.G.length : Int) + 1) ((s.G.length : Int) + 1) w
 have r3 := fun w => eqI_i64 9998 s.mq s.mq w
 have r4 := fun w => eqI_bool 9998 s.mt s.mt w
 rw [run_equalIn_struct w 9999 _ _ _ (by kernel_rfl) (by kernel_rfl)]
 have e : (Tryd.prog.fieldsOf 44) = #[⟨ "Own", 3, 0, false, "", "", 0⟩, ⟨ "Acked", 3, 1, false, "", "", 8⟩, ⟨ "Next", 3, 2, false, "", "", 16⟩, ⟨ "Mark", 2, 3, false, "", "", 24⟩, ⟨ "Met", 4, 4, false, "", "", 32⟩] := by kernel_rfl
 rw [e]
 simp only [Op.eqFields, ne_eq, String.reduceEq, not_false_eq_true, if_true, Sem.run_bind, c0, c1, c2, c3, c4, Result.andThen_ok, r0, r1, r2, r3, r4, Sem.run_ite, Sem.run_pure]
 simp
theorem eql_ls_t (s : Ln) (w : World) : (binOp .eql 44 (lsv s) (lsv s)).run Tryd.prog w = .ok (.bool true) w := by
 rw [run_eql_struct, equal_ls]; rfl
theorem guard_ls (op : BinOp) (a b : Operand) (xs ys : Array Value) (w : World) : (eqGuard op 44 a b (.agg xs) (.agg ys)).run Tryd.prog w = .ok () w := run_eqGuard_agg w op _ a b xs ys (by kernel_rfl)
theorem St.mono {w0 w : World} {wb : Nat} {lo : Option Addr} {lc : Nat} {mo : Option Addr} {mc : Nat} {P : List (Pq × Ln)} {Q : List Dq} {N N' : Nat} (h : St w0 w wb lo lc mo mc P Q N) (hn : N <= N') : St w0 w wb lo lc mo mc P Q N' :=
 ⟨h.bk, h.lw, h.mw, fun i hi => ⟨(h.pr i hi).1, (h.pr i hi).2.1, Nat.le_trans (h.pr i hi).2.2 hn⟩, h.ap, h.qd, h.st, h.ot, h.ng, h.hl⟩
def Aft18 (w0 w' : World) (wb : Nat) (P : List (Pq × Ln)) (Q : List Dq) (N : Nat) : Prop := ∃ lo mo lc mc P' Q', St w0 w' wb lo lc mo mc P' Q' (N + 1) /\ P'.length = P.length /\ (∀ i, i < P.length -> (pz P' i).1.r = (pz P i).1.r) /\ Q'.length <= Q.length + 1
end Go.Proofs.YtnbofjaecchnaaaDoor
namespace Go.Proofs.YtnbofjaecchnaaaDoor
open Go.RowKit
open Wp Vp Lp
set_option maxRecDepth 100000
set_option linter.unusedVariables false
set_option linter.unusedSimpArgs false
theorem lsCells {w : World} {g : Nat} {s : Ln} (h : Lsb w g s) : w.cell? ⟨g, 0, none⟩ = some (.int .i64 (s.O.length : Int)) /\ w.cell? ⟨g, 1, none⟩ = some (.int .i64 (s.ak : Int)) /\ w.cell? ⟨g, 2, none⟩ = some (.int .i64 ((s.G.length : Int) + 1)) /\ w.cell? ⟨g, 3, none⟩ = some (.int .i64 s.mq) /\ w.cell? ⟨g, 4, none⟩ = some (.bool s.mt) := by
 refine ⟨?_, ?_, ?_, ?_, ?_⟩ <;> (rw [cell_of_row _ _ _ _ _ _ h]; rfl)
set_option maxHeartbeats 16000000 in
theorem ldoes_state_e (o : Opq) (w0 w : World) (wb : Nat) (lo : Option Addr) (lc : Nat) (mo : Option Addr) (mc : Nat) (P : List (Pq × Ln)) (Q : List Dq) (N : Nat) (hok : OpOk w0 o) (hk6 : pk o.kd 6 = 4) (hP : 0 < P.length) (hPl : P.length <= 1000000000000) (h : St w0 w wb lo lc mo mc P Q N) : Calls Tryd.prog 6 #[.pointer (some ⟨wb, 0, none⟩), .agg (opc o)] w fun e w' => e = .returned (.bool true) /\ St w0 w' wb lo lc mo mc P Q N := by
 have A0 := Still.alloc w (.cells (opc o) 41)
 have p0 : Ob18 (w.alloc (.cells (opc o) 41)) w.heap.size o := heap_alloc_new w _
 have h0 := h.still A0
 obtain ⟨g, eg⟩ : ∃ g, w.heap.size = g := ⟨_, rfl⟩
 obtain ⟨W, eW⟩ : ∃ W, w.alloc (.cells (opc o) 41) = W := ⟨_, rfl⟩
 rw [eW] at A0 p0 h0
 rw [eg] at p0
 have hpk := pk_in o.wh P.length (by omega)
 have HP1 := hid (fun w => pick_any o.wh P.length hok.wh (by omega) (by omega) w)
 have HP2 := hid (fun w => pick_any o.kd 6 hok.kd (by omega) (by omega) w)
 obtain ⟨j, ej⟩ : ∃ j : Nat, pk o.wh P.length = (j : Int) := ⟨(pk o.wh P.length).toNat, by omega⟩
 rw [ej] at HP1 hpk
 rw [hk6] at HP2
 have hj : j < P.length := by omega
 obtain ⟨lb, lcap, el, _, _⟩ := h0.lw.head (by rw [List.length_map]; omega)
 have hlw := h0.lw
 injection el with el1 el2 el3
 rw [el1] at hlw
 have k0 := owPp hlw (i := j) (by rw [List.length_map]; exact hj)
 have er : (P.map fun x => x.1.r).getD j 0 = (pz P j).1.r := by
  unfold pz
  simp [List.getD, hj]
 rw [er] at k0
 obtain ⟨c0, c1, cf⟩ := h0.cells
 rw [el1] at c0
 obtain ⟨x, ex⟩ : ∃ x, (pz P j).1 = x := ⟨_, rfl⟩
 obtain ⟨s, es⟩ : ∃ x, (pz P j).2 = x := ⟨_, rfl⟩
 rw [ex] at k0
 have o0 : W.cell? ⟨g, 0, none⟩ = some (.int .i64 o.kd) := by rw [cell_of_row _ _ _ _ _ _ p0]; rfl
 have o1 : W.cell? ⟨g, 1, none⟩ = some (.int .i64 o.wh) := by rw [cell_of_row _ _ _ _ _ _ p0]; rfl
 have HH := hid h0
 have HO := hid p0
 have HW := hid A0
 have HLo := hid el1
 have HX := hid (And.intro ex es)
 have HOk := hid hok
 have HPl := hid hPl
 have hji : (j : Int) < (P.length : Int) := by omega
 clear h h0 p0 A0 hlw er el2 el3 el1 ex es
 go_enter Tryd.func6, Tryd.ntmps6
 go_upto_region 1 with fail
 go_quiet ((go_at_call 15; exact Calls.quiet_of_same (HP1.out _)))
 have sW2 : Still W (W.drewN nq) := (Fr.refl _ W).drewN nq
 obtain ⟨W2, eW2⟩ : ∃ V, W.drewN nq = V := ⟨_, rfl⟩
 rw [eW2] at sW2 ⊢
 have hpr := (HH.out.still sW2).pr j hj
 rw [HX.out.1, HX.out.2] at hpr
 obtain ⟨a0, a1, af⟩ := hpr.1.b.cells
 have HPr := hid hpr
 have HH2 := hid (HH.out.still sW2)
 have HO2 := hid (HO.out.still sW2)
 have HW2 := hid (HW.out.trans sW2)
 have HGl : Hid (w.heap.size = g) := hid eg
 clear c0 c1 cf k0 o0 o1 hpr HH HO HW eW eW2 sW2
 have o0 : W2.cell? ⟨g, 0, none⟩ = some (.int .i64 o.kd) := by rw [cell_of_row _ _ _ _ _ _ HO2.out]; rfl
 go_wp2_with (go_at_call 15; refine (HP2.out _).mono ?_; rintro e w2 ⟨he, hw2⟩; rw [he, hw2]; clear he hw2)
 refine (lstate_any x.p x.ko x.kc x.mb _ s _ HPr.out.1.l).mono ?_
 rintro e w3 ⟨he, h3⟩
 rw [he]
 have A3 := Still.alloc w3 (.cells (lsc s) 44)
 have p3 : Lsb (w3.alloc (.cells (lsc s) 44)) w3.heap.size s := heap_alloc_new w3 _
 obtain ⟨g3, eg3⟩ : ∃ g, w3.heap.size = g := ⟨_, rfl⟩
 obtain ⟨W3, eW3⟩ : ∃ W, w3.alloc (.cells (lsc s) 44) = W := ⟨_, rfl⟩
 rw [eW3] at A3 p3
 rw [eg3] at p3
 have s3 := h3.trans A3
 have HPr3 := hid (HPr.out.1.still s3)
 have HS3 := hid s3
 have HL3 := hid p3
 clear he h3 A3 p3 s3 a0 a1 af o0
 obtain ⟨a0, a1, af⟩ := HPr3.out.b.cells
 go_wp2_with fail
 clear eW3 a0 a1 af
 refine (rstate_any x.q x.oo x.oc x.go x.gc _ s HPr.out.2.1.g _ HPr3.out.y).mono ?_
 rintro e w4 ⟨he, h4⟩
 rw [he]
 have A4 := Still.alloc w4 (.cells (lsc s) 44)
 have p4 : Lsb (w4.alloc (.cells (lsc s) 44)) w4.heap.size s := heap_alloc_new w4 _
 obtain ⟨g4, eg4⟩ : ∃ g, w4.heap.size = g := ⟨_, rfl⟩
 obtain ⟨W4, eW4⟩ : ∃ W, w4.alloc (.cells (lsc s) 44) = W := ⟨_, rfl⟩
 rw [eW4] at A4 p4
 rw [eg4] at p4
 have s4 := h4.trans A4
 have HS4 := hid (HS3.out.trans s4)
 have q3 := HL3.out
 have q3' : Lsb W4 g3 s := s4.kept_still q3
 obtain ⟨b0, b1, b2, b3, b4⟩ := lsCells q3'
 obtain ⟨d0, d1, d2, d3, d4⟩ := lsCells p4
 have hq := fun w => eql_ls_t s w
 have hg := fun a b w => guard_ls .eql a b (lsc s) (lsc s) w
 clear he h4 A4 p4 s4 q3 q3' HL3 HPr3
 go_wp2_with fail
 clear eW4
 go_ret
 exact ⟨rfl, HH2.out.still HS4.out⟩
theorem ldoes_state (o : Opq) (w0 w : World) (wb : Nat) (lo : Option Addr) (lc : Nat) (mo : Option Addr) (mc : Nat) (P : List (Pq × Ln)) (Q : List Dq) (N : Nat) (hok : OpOk w0 o) (hk6 : pk o.kd 6 = 4) (hP : 0 < P.length) (hPl : P.length <= 1000000000000) (h : St w0 w wb lo lc mo mc P Q N) : Calls Tryd.prog 6 #[.pointer (some ⟨wb, 0, none⟩), .agg (opc o)] w fun e w' => e = .returned (.bool true) /\ Aft18 w0 w' wb P Q N :=
 (ldoes_state_e o w0 w wb lo lc mo mc P Q N hok hk6 hP hPl h).mono (fun e w' h => ⟨h.1, lo, mo, lc, mc, P, Q, h.2.mono (Nat.le_succ _), rfl, fun _ _ => rfl, Nat.le_succ _⟩)
end Go.Proofs.YtnbofjaecchnaaaDoor
namespace Go.Proofs.YtnbofjaecchnaaaDoor
open Go.RowKit
open Wp Vp Lp
set_option maxRecDepth 100000
set_option linter.unusedVariables false
set_option linter.unusedSimpArgs false
theorem bs_dg {o : Oper} {ρ : Operand -> Value} {x : Operand} {d : Dg} {co : Option Addr} {cn cp : Nat} (ho : o.op = .buildSlice 29 1 #[(0, x)]) (hx : ρ x = dgv d co cn cp) (u : World) : (execOp ρ o).run Tryd.prog u = .ok (.value (.slice (some ⟨u.heap.size, 0, none⟩) 1 1)) (u.alloc (.cells (dgc d co cn cp) 39)) := by
 unfold execOp
 rw [ho]
 simp only [List.map_toArray, List.map_cons, List.map_nil, hx]
 go_simp
 try rfl
theorem St.away {w0 w w' : World} {wb : Nat} {lo : Option Addr} {lc : Nat} {mo : Option Addr} {mc : Nat} {P : List (Pq × Ln)} {Q : List Dq} {N : Nat} (h : St w0 w wb lo lc mo mc P Q N) {F : Nat -> Prop} (hf : Fr F w w') (h1 : ∀ k, F k -> w0.heap.size <= k /\ ∃ cur, w.heap[k]? = some (.cells cur 36 (0, 0))) (h2 : ∀ k, F k -> ∀ i, i < P.length -> ¬ PqC (pz P i).1 k) (h3 : ∀ k, F k -> ∀ i, i < Q.length -> ¬ Sb (dq Q i).co k) : St w0 w' wb lo lc mo mc P Q N := by
 have nF : ∀ {k cur t}, w.heap[k]? = some (.cells cur t (0, 0)) -> t ≠ 36 -> ¬ F k := fun hc ht e => by
  obtain ⟨_, cur', h'⟩ := h1 _ e
  have := hc.symm.trans h'
  simp at this
  exact ht this.2
 have nf : ∀ i, i < Q.length -> ∀ x, (dq Q i).co = some x -> ¬ F x.block := fun i hi x hx e => h3 _ e i hi ⟨x, hx, rfl⟩
 refine ⟨hf.kept h.bk (nF h.bk (by decide)), h.lw.keep hf (fun k hk e => by obtain ⟨cur, hc⟩ := ow_ty h.lw e; exact nF hc (by decide) hk), h.mw.keep hf (fun k hk e => by obtain ⟨cur, hc⟩ := ow_ty h.mw e; exact nF hc (by decide) hk), fun i hi => ⟨(h.pr i hi).1.keep hf (fun k hk e => ?_) (fun k hk => h2 k hk i hi), (h.pr i hi).2⟩, h.ap, fun i hi => ?_, Fr.trans h.st hf (fun k hk e => by have := (h1 k e).1; omega), h.ot.keep hf h.ng (fun k hk => (h1 k hk).1), h.ng, h.hl⟩
 ·obtain ⟨_, cur, hc⟩ := h1 k hk
  rcases (h.pr i hi).1.tB e hc with e | e | e <;> exact absurd e (by decide)
 ·obtain ⟨a, b, c, d⟩ := h.qd i hi
  refine ⟨a, b, c.kept hf (nf i hi), fun x hx => ?_⟩
  obtain ⟨e0, ⟨cur, f⟩, r⟩ := d x hx
  exact ⟨e0, ⟨cur, hf.kept f (nf i hi x hx)⟩, r⟩
end Go.Proofs.YtnbofjaecchnaaaDoor
namespace Go.Proofs.YtnbofjaecchnaaaDoor
open Go.RowKit
open Wp Vp Lp
set_option maxRecDepth 100000
set_option linter.unusedVariables false
set_option linter.unusedSimpArgs false
set_option maxHeartbeats 16000000 in
theorem ldoes_ack (o : Opq) (w0 w : World) (wb : Nat) (lo : Option Addr) (lc : Nat) (mo : Option Addr) (mc : Nat) (P : List (Pq × Ln)) (Q : List Dq) (N : Nat) (hok : OpOk w0 o) (hk6 : pk o.kd 6 = 2) (hQl : Q.length <= 1700000000000) (hP : 0 < P.length) (hPl : P.length <= 1000000000000) (h : St w0 w wb lo lc mo mc P Q N) : Calls Tryd.prog 6 #[.pointer (some ⟨wb, 0, none⟩), .agg (opc o)] w fun e w' => e = .returned (.bool true) /\ Aft18 w0 w' wb P Q N := by
 have A0 := Still.alloc w (.cells (opc o) 41)
 have p0 : Ob18 (w.alloc (.cells (opc o) 41)) w.heap.size o := heap_alloc_new w _
 have h0 := h.still A0
 obtain ⟨g, eg⟩ : ∃ g, w.heap.size = g := ⟨_, rfl⟩
 obtain ⟨W, eW⟩ : ∃ W, w.alloc (.cells (opc o) 41) = W := ⟨_, rfl⟩
 rw [eW] at A0 p0 h0
 rw [eg] at p0
 have hpk := pk_in o.wh P.length (by omega)
 have HP1 := hid (fun w => pick_any o.wh P.length hok.wh (by omega) (by omega) w)
 have HP2 := hid (fun w => pick_any o.kd 6 hok.kd (by omega) (by omega) w)
 obtain ⟨j, ej⟩ : ∃ j : Nat, pk o.wh P.length = (j : Int) := ⟨(pk o.wh P.length).toNat, by omega⟩
 rw [ej] at HP1 hpk
 rw [hk6] at HP2
 have hj : j < P.length := by omega
 obtain ⟨lb, lcap, el, _, _⟩ := h0.lw.head (by rw [List.length_map]; omega)
 have hlw := h0.lw
 injection el with el1 el2 el3
 rw [el1] at hlw
 have k0 := owPp hlw (i := j) (by rw [List.length_map]; exact hj)
 have er : (P.map fun x => x.1.r).getD j 0 = (pz P j).1.r := by
  unfold pz
  simp [List.getD, hj]
 rw [er] at k0
 obtain ⟨c0, c1, cf⟩ := h0.cells
 rw [el1] at c0
 obtain ⟨x, ex⟩ : ∃ x, (pz P j).1 = x := ⟨_, rfl⟩
 obtain ⟨s, es⟩ : ∃ x, (pz P j).2 = x := ⟨_, rfl⟩
 rw [ex] at k0
 have o0 : W.cell? ⟨g, 0, none⟩ = some (.int .i64 o.kd) := by rw [cell_of_row _ _ _ _ _ _ p0]; rfl
 have o1 : W.cell? ⟨g, 1, none⟩ = some (.int .i64 o.wh) := by rw [cell_of_row _ _ _ _ _ _ p0]; rfl
 have HH := hid h0
 have HO := hid p0
 have HW := hid A0
 have HLo := hid el1
 have HX := hid (And.intro ex es)
 have HOk := hid hok
 have HQl := hid hQl
 have HPl := hid hPl
 have hji : (j : Int) < (P.length : Int) := by omega
 clear h h0 p0 A0 hlw er el2 el3 el1 ex es
 go_enter Tryd.func6, Tryd.ntmps6
 go_upto_region 1 with fail
 go_quiet ((go_at_call 15; exact Calls.quiet_of_same (HP1.out _)))
 have sW2 : Still W (W.drewN nq) := (Fr.refl _ W).drewN nq
 obtain ⟨W2, eW2⟩ : ∃ V, W.drewN nq = V := ⟨_, rfl⟩
 rw [eW2] at sW2 ⊢
 have hpr := (HH.out.still sW2).pr j hj
 rw [HX.out.1, HX.out.2] at hpr
 obtain ⟨a0, a1, af⟩ := hpr.1.b.cells
 have HPr := hid hpr
 have HH2 := hid (HH.out.still sW2)
 have HO2 := hid (HO.out.still sW2)
 have HW2 := hid (HW.out.trans sW2)
 have HGl : Hid (w.heap.size = g) := hid eg
 clear c0 c1 cf k0 o0 o1 hpr HH HO HW eW eW2 sW2
 have o0 : W2.cell? ⟨g, 0, none⟩ = some (.int .i64 o.kd) := by rw [cell_of_row _ _ _ _ _ _ HO2.out]; rfl
 go_wp2_with (go_at_call 15; refine (HP2.out _).mono ?_; rintro e w2 ⟨he, hw2⟩; rw [he, hw2]; clear he hw2)
 refine (lack_any x.p x.ko x.kc x.mb _ s HPr.out.2.1.g _ HPr.out.1.l).mono ?_
 rintro e w3 ⟨he, h3⟩
 rw [he]
 have A3 := Still.alloc w3 (.cells (dgc (ackD s) none 0 0) 39)
 have p3 := newDg_b w3 (ackD s) none 0 0
 obtain ⟨g3, eg3⟩ : ∃ g, w3.heap.size = g := ⟨_, rfl⟩
 unfold newDg at p3
 obtain ⟨W3, eW3⟩ : ∃ W, w3.alloc (.cells (dgc (ackD s) none 0 0) 39) = W := ⟨_, rfl⟩
 rw [eW3] at A3 p3
 rw [eg3] at p3
 have s3 := h3.trans A3
 have HG3 : Hid (W2.heap.size <= g3) := hid (by have := h3.size; omega)
 have HPr3 := hid (HPr.out.1.still s3)
 have HS3 := hid s3
 have HA3 := hid p3
 clear he h3 A3 p3 s3 a0 a1 af o0
 obtain ⟨a0, a1, af⟩ := HPr3.out.b.cells
 go_wp2_with fail
 clear eW3 a0 a1 af
 refine (rack_any x.q x.oo x.oc x.go x.gc _ s _ HPr3.out.y).mono ?_
 rintro e w4 ⟨he, h4⟩
 rw [he]
 have A4 := Still.alloc w4 (.cells (dgc (ackD s) none 0 0) 39)
 have p4 := newDg_b w4 (ackD s) none 0 0
 obtain ⟨g4, eg4⟩ : ∃ g, w4.heap.size = g := ⟨_, rfl⟩
 unfold newDg at p4
 obtain ⟨W4, eW4⟩ : ∃ W, w4.alloc (.cells (dgc (ackD s) none 0 0) 39) = W := ⟨_, rfl⟩
 rw [eW4] at A4 p4
 rw [eg4] at p4
 have s4 := h4.trans A4
 have HS4 := hid (HS3.out.trans s4)
 have HH4 := hid (HH2.out.still HS4.out)
 have HA4 := hid (HA3.out.still s4)
 have HB4 := hid p4
 have HG34 : Hid (W2.heap.size <= g3 /\ W2.heap.size <= g4) := hid (by have h1 := HG3.out; have h2 := HS3.out.size; have h5 := h4.size; omega)
 have HMl : Hid (∀ k, Sb mo k -> k < W2.heap.size) := hid (fun k hk => (HH2.out.mw.block (own_some.2 hk)).2)
 have HZp : Hid (∀ i, i < P.length -> ∀ k, PqC (pz P i).1 k -> k < W2.heap.size) := hid (fun i hi k hk => ((HH2.out.pr i hi).1.lt k (.inr hk)).1)
 have HZq : Hid (∀ i, i < Q.length -> ∀ k, Sb (dq Q i).co k -> k < W2.heap.size) := hid (fun i hi k hk => by
  obtain ⟨a, ha, rfl⟩ := hk
  obtain ⟨_, ⟨cur, hc⟩, _⟩ := (HH2.out.qd i hi).2.2.2 a ha
  exact block_lt hc)
 have HZ : Hid (w0.heap.size <= W2.heap.size) := hid HH2.out.st.size
 have HOa : Hid (OwG KCc 36 W4 W2.heap.size (.slice none 0 0) (ackD s).cs) := hid (OwG.nil _ _)
 have HOb : Hid (OwG KCc 36 W4 W2.heap.size (.slice none 0 0) (ackD s).cs) := hid (OwG.nil _ _)
 have HCn : Hid ((ackD s).cs.length = 0) := hid rfl
 have HC336 : Hid (0 <= 336) := hid (by omega)
 have HNab : Hid (∀ k, Sb none k -> ¬ Sb none k) := hid (fun k hk => by obtain ⟨a, ha, _⟩ := hk; cases ha)
 clear he h4 A4 p4 s4 HA3 HPr3 HS3
 obtain ⟨b0, b1, b2, b3, b4, b5, b6, b7, bf⟩ := HB4.out.cells
 go_upto_region 19 with fail
 clear eW4 b0 b1 b2 b3 b4 b5 b6 b7 bf
 refine region_laid 6 1 (by kernel_rfl) (by kernel_rfl) (by kernel_rfl) ?_
 apply Exists.intro
 refine And.intro ?_ (And.intro ?_ ?_)
 ·intro u hu
  have q4 := Cl.cell (HH4.out.still hu).cells.2.1
  obtain ⟨d0, d1, d2, d3, d4, d5, d6, d7, df⟩ := (HB4.out.still hu).cells
  have r0 := Cl.cell d0
  have r1 := Cl.cell d1
  have r2 := Cl.cell d2
  have r3 := Cl.cell d3
  have r4 := Cl.cell d4
  have r5 := Cl.cell d5
  have r6 := Cl.cell d6
  have r7 := Cl.cell d7
  have hne := Aft.here u
  clear d0 d1 d2 d3 d4 d5 d6 d7 df
  simp only [List.take_succ_cons, List.take_zero]
  repeat (go_big_quiet_step (fail))
  exact wpQuiet_nil rfl
 ·intro _ o ho u hu
  obtain rfl := Option.some.inj ho
  exact ⟨_, _, bs_dg (d := (ackD s)) (co := (none : Option Addr)) (cn := 0) (cp := 0) rfl rfl u, Still.alloc u _⟩
 intro w7 h7
 simp only [List.drop_succ_cons, List.drop_zero]
 have A8 := Still.alloc w7 (.cells (dgc (ackD s) (none : Option Addr) 0 0) 39)
 have h8 := h7.trans A8
 have HH8 := hid (HH4.out.still h8)
 have HA8 := hid (HA4.out.still h8)
 have HB8 := hid (HB4.out.still h8)
 have HOa8 := hid (HOa.out.still h8)
 have HOb8 := hid (HOb.out.still h8)
 have HG8 : Hid ((w7.alloc (.cells (dgc (ackD s) (none : Option Addr) 0 0) 39)).heap[w7.heap.size]? = some (.cells (KDq.f ⟨(ackD s), (none : Option Addr), 0, 0⟩).toArray 39 (0, 0))) := hid (newDg_b w7 (ackD s) (none : Option Addr) 0 0)
 have HB8l : Hid (w0.heap.size <= (w7.alloc (.cells (dgc (ackD s) (none : Option Addr) 0 0) 39)).heap.size) := hid HH8.out.st.size
 have HS8 := hid h8.size
 clear h7 A8 h8 HH4 HA4 HB4 HOa HOb
 go_wp2_with (
  at_builtin
  refine wpList_appQ KDq _ rfl _ _ _ rfl Tryd.underlying29 80 infoDq w0.heap.size w7.heap.size _ Q ⟨(ackD s), (none : Option Addr), 0, 0⟩ rfl rfl (by have := HH8.out.mw; exact this) HG8.out (by have := HQl.out; omega) (by have := HQl.out; omega) HB8l.out ?_
  intro v9 w9 ho9 hf9 hb9
  obtain ⟨mo2, mc2, ev, _⟩ := ho9.slice
  rw [List.length_append, List.length_singleton] at ev
  subst ev
  have hf9' : Fr (fun k => Sb mo k) _ w9 := hf9.mono (fun k _ e => Sb.own e)
  have hsb : ∀ a, (none : Option Addr) = some a -> (w0.heap.size <= a.block /\ (∃ cur, (w7.alloc (.cells (dgc (ackD s) (none : Option Addr) 0 0) 39)).heap[a.block]? = some (.cells cur 36 (0, 0))) /\ ∀ j, j < P.length -> ¬ PqC (pz P j).1 a.block) := fun a ha => by
   have h1 := (HOb8.out.block (own_some.2 ⟨a, ha, rfl⟩)).1
   have h2 := HZ.out
   refine ⟨by omega, ow_ty HOb8.out (own_some.2 ⟨a, ha, rfl⟩), fun j hj e => ?_⟩
   have h3 := HZp.out j hj a.block e
   omega
  have hY := HH8.out.addQ (y := ⟨(ackD s), (none : Option Addr), 0, 0⟩) ho9 hf9' HCn.out HC336.out (by have h1 := HOb8.out; have h2 := HCn.out; exact SrG.own (by rw [h2]; exact h1) (by rw [h2]; have := HC336.out; omega)) hsb
  have nA : ∀ k, Sb mo k -> ∀ cur t, (w7.alloc (.cells (dgc (ackD s) (none : Option Addr) 0 0) 39)).heap[k]? = some (.cells cur t (0, 0)) -> t = 39 := fun k hk cur t hc => Sb.ty HH8.out.mw hk hc
  have ng3 : ¬ Sb mo g3 := fun e => by have h1 := (HH8.out.mw.block (own_some.2 e)); have h2 := HG34.out; have h3 := HMl.out g3 e; omega
  have ng4 : ¬ Sb mo g4 := fun e => by have h1 := (HH8.out.mw.block (own_some.2 e)); have h2 := HG34.out; have h3 := HMl.out g4 e; omega
  have f10 : Fr (fun k => k = wb \/ Sb mo k) (w7.alloc (.cells (dgc (ackD s) (none : Option Addr) 0 0) 39)) (w9.setCell ⟨wb, 1, none⟩ (.slice mo2 (Q.length + 1) mc2)) := Fr.setCell (hf9'.mono (fun k _ e => .inr e)) _ _ (.inl (.inl rfl))
  have HW10 : Hid (W2.heap.size <= (w9.setCell ⟨wb, 1, none⟩ (.slice mo2 (Q.length + 1) mc2)).heap.size) := hid (Nat.le_trans HS4.out.size (Nat.le_trans HS8.out f10.size))
  have HA10 := hid (HA8.out.keepD f10 (fun e => by rcases e with e | e; exact ty_ne HA8.out HH8.out.bk (by decide) e; exact ng3 e))
  have HB10 := hid (HB8.out.keepD f10 (fun e => by rcases e with e | e; exact ty_ne HB8.out HH8.out.bk (by decide) e; exact ng4 e))
  have cN : ∀ k, (∃ cur, (w7.alloc (.cells (dgc (ackD s) (none : Option Addr) 0 0) 39)).heap[k]? = some (.cells cur 36 (0, 0))) -> ¬ (k = wb \/ Sb mo k) := fun k hc e => by
   obtain ⟨cur, hc⟩ := hc
   rcases e with e | e
   ·exact ty_ne hc HH8.out.bk (by decide) e
   ·exact absurd (nA k e _ _ hc) (by decide)
  have HOa10 := hid (HOa8.out.keep f10 (fun k hk e => cN k (ow_ty HOa8.out e) hk))
  have HOb10 := hid (HOb8.out.keep f10 (fun k hk e => cN k (ow_ty HOb8.out e) hk))
  have HY := hid hY.1
  have e4 := hY.2.1
  have ef := hY.2.2
  clear ho9 hf9 hb9 hf9' hsb hY nA ng3 ng4 f10 cN)
 obtain ⟨W10, eW10⟩ : ∃ V, w9.setCell ⟨wb, 1, none⟩ (.slice mo2 (Q.length + 1) mc2) = V := ⟨_, rfl⟩
 rw [eW10] at HW10 HA10 HB10 HOa10 HOb10 HY
 obtain ⟨b0, b1, b2, b3, b4, b5, b6, b7, bf⟩ := HA10.out.cells
 obtain ⟨d0, d1, d2, d3, d4, d5, d6, d7, df⟩ := HB10.out.cells
 refine ⟨rfl, ?_⟩
 rw [eW10]
 go_wp2_with fail
 refine (ltold_any (ackD s) (none : Option Addr) (none : Option Addr) 0 0 0 W2.heap.size _ HCn.out (by have := HC336.out; omega) HW10.out HOa10.out (HOb10.out.rdC HCn.out (by have := HC336.out; omega))).mono ?_
 rintro e w11 ⟨he, h11⟩
 rw [he]
 have HE := hid (HY.out.away h11 (fun k hk => ⟨by have h1 := (HOa10.out.block (own_some.2 hk)).1; have := HZ.out; omega, ow_ty HOa10.out (own_some.2 hk)⟩) (fun k hk i hi e => by have h1 := (HOa10.out.block (own_some.2 hk)).1; have := HZp.out i hi k e; omega) (fun k hk i hi e => by
  have h1 := (HOa10.out.block (own_some.2 hk)).1
  rw [List.length_append, List.length_singleton] at hi
  by_cases hl : i < Q.length
  ·rw [dq_old hl] at e
   have := HZq.out i hl k e
   omega
  ·obtain rfl : i = Q.length := by omega
   rw [dq_new] at e
   exact HNab.out k hk e))
 clear he h11
 go_wp2_with fail
 go_ret
 exact ⟨rfl, lo, mo2, lc, mc2, P, _, HE.out.mono (Nat.le_succ _), rfl, fun _ _ => rfl, by rw [List.length_append]; exact Nat.le_refl _⟩
end Go.Proofs.YtnbofjaecchnaaaDoor
namespace Go.Proofs.YtnbofjaecchnaaaDoor
open Go.RowKit
open Wp Vp Lp
set_option maxRecDepth 100000
set_option linter.unusedVariables false
set_option linter.unusedSimpArgs false
set_option maxHeartbeats 16000000 in
theorem ldoes_turn (o : Opq) (w0 w : World) (wb : Nat) (lo : Option Addr) (lc : Nat) (mo : Option Addr) (mc : Nat) (P : List (Pq × Ln)) (Q : List Dq) (N : Nat) (hok : OpOk w0 o) (hk6 : pk o.kd 6 = 1) (hQl : Q.length <= 1700000000000) (hNl : N <= 10000000000000) (hP : 0 < P.length) (hPl : P.length <= 1000000000000) (h : St w0 w wb lo lc mo mc P Q N) : Calls Tryd.prog 6 #[.pointer (some ⟨wb, 0, none⟩), .agg (opc o)] w fun e w' => e = .returned (.bool true) /\ Aft18 w0 w' wb P Q N := by
  have A0 := Still.alloc w (.cells (opc o) 41)
  have p0 : Ob18 (w.alloc (.cells (opc o) 41)) w.heap.size o := heap_alloc_new w _
  have h0 := h.still A0
  obtain ⟨g, eg⟩ : ∃ g, w.heap.size = g := ⟨_, rfl⟩
  obtain ⟨W, eW⟩ : ∃ W, w.alloc (.cells (opc o) 41) = W := ⟨_, rfl⟩
  rw [eW] at A0 p0 h0
  rw [eg] at p0
  have hpk := pk_in o.wh P.length (by omega)
  have HP1 := hid (fun w => pick_any o.wh P.length hok.wh (by omega) (by omega) w)
  have HP2 := hid (fun w => pick_any o.kd 6 hok.kd (by omega) (by omega) w)
  obtain ⟨j, ej⟩ : ∃ j : Nat, pk o.wh P.length = (j : Int) := ⟨(pk o.wh P.length).toNat, by omega⟩
  rw [ej] at HP1 hpk
  rw [hk6] at HP2
  have hj : j < P.length := by omega
  obtain ⟨lb, lcap, el, _, _⟩ := h0.lw.head (by rw [List.length_map]; omega)
  have hlw := h0.lw
  injection el with el1 el2 el3
  rw [el1] at hlw
  have k0 := owPp hlw (i := j) (by rw [List.length_map]; exact hj)
  have er : (P.map fun x => x.1.r).getD j 0 = (pz P j).1.r := by
    unfold pz
    simp [List.getD, hj]
  rw [er] at k0
  obtain ⟨c0, c1, cf⟩ := h0.cells
  rw [el1] at c0
  obtain ⟨x, ex⟩ : ∃ x, (pz P j).1 = x := ⟨_, rfl⟩
  obtain ⟨s, es⟩ : ∃ x, (pz P j).2 = x := ⟨_, rfl⟩
  rw [ex] at k0
  have o0 : W.cell? ⟨g, 0, none⟩ = some (.int .i64 o.kd) := by rw [cell_of_row _ _ _ _ _ _ p0]; rfl
  have o1 : W.cell? ⟨g, 1, none⟩ = some (.int .i64 o.wh) := by rw [cell_of_row _ _ _ _ _ _ p0]; rfl
  have HH := hid h0
  have HO := hid p0
  have HW := hid A0
  have HLo := hid el1
  have HX := hid (And.intro ex es)
  have HOk := hid hok
  have HQl := hid hQl
  have HNl := hid hNl
  have HPl := hid hPl
  have hji : (j : Int) < (P.length : Int) := by omega
  clear h h0 p0 A0 hlw er el2 el3 el1 ex es
  go_enter Tryd.func6, Tryd.ntmps6
  go_upto_region 1 with fail
  go_quiet ((go_at_call 15; exact Calls.quiet_of_same (HP1.out _)))
  have sW2 : Still W (W.drewN nq) := (Fr.refl _ W).drewN nq
  obtain ⟨W2, eW2⟩ : ∃ V, W.drewN nq = V := ⟨_, rfl⟩
  rw [eW2] at sW2 ⊢
  have hpr := (HH.out.still sW2).pr j hj
  rw [HX.out.1, HX.out.2] at hpr
  obtain ⟨a0, a1, af⟩ := hpr.1.b.cells
  have HPr := hid hpr
  have HH2 := hid (HH.out.still sW2)
  have HO2 := hid (HO.out.still sW2)
  have HW2 := hid (HW.out.trans sW2)
  have HGl : Hid (w.heap.size = g) := hid eg
  clear c0 c1 cf k0 o0 o1 hpr HH HO HW eW eW2 sW2
  have o0 : W2.cell? ⟨g, 0, none⟩ = some (.int .i64 o.kd) := by rw [cell_of_row _ _ _ _ _ _ HO2.out]; rfl
  have o9 : W2.cell? ⟨g, 9, none⟩ = some (.int .i64 o.mk') := by rw [cell_of_row _ _ _ _ _ _ HO2.out]; rfl
  obtain ⟨D, eD⟩ : ∃ D, turD s o.mk' = D := ⟨_, rfl⟩
  obtain ⟨cn, ecn⟩ : ∃ D, s.O.length - s.ak = D := ⟨_, rfl⟩
  have HCn : Hid (D.cs.length = cn) := hid (by rw [<- eD, <- ecn]; exact List.length_drop ..)
  have HC336 : Hid (cn <= 336) := hid (by rw [<- ecn]; exact HPr.out.2.1.a2)
  have eDc : s.O.drop s.ak = D.cs := by rw [<- eD]; rfl
  have HTu : Hid (∀ u, Still W2 u -> Calls Tryd.prog 8 #[.pointer (some ⟨x.p, 0, none⟩), .int .i64 o.mk'] u fun e w' => ∃ co cp, e = .returned (dgv D co cn cp) /\ OwG KCc 36 w' u.heap.size (.slice co cn cp) D.cs /\ Still u w') := hid (fun u hu => by
    have hc := lturn_any x.p x.ko x.kc x.mb w0.heap.size s o.mk' HPr.out.2.1.g (by have := HPr.out.2.1.a1; have := HPr.out.2.2; have := HNl.out; omega) HPr.out.2.1.a2 HPr.out.2.1.a1 u (HPr.out.1.l.still hu)
    rw [eD, ecn, eDc] at hc
    exact hc)
  have HTv : Hid (∀ u, Still W2 u -> Calls Tryd.prog 18 #[.pointer (some ⟨x.q, 0, none⟩), .int .i64 o.mk'] u fun e w' => ∃ co cp, e = .returned (dgv D co cn cp) /\ OwG KCc 36 w' u.heap.size (.slice co cn cp) D.cs /\ Still u w') := hid (fun u hu => by
    have hc := rturn18_any x.q x.oo x.oc x.go x.gc w0.heap.size s o.mk' (by have := HPr.out.2.2; have := HNl.out; omega) HPr.out.2.1.a1 HPr.out.2.1.a2 u (HPr.out.1.y.still hu)
    rw [eD, ecn, eDc] at hc
    exact hc)
  have HRl : Hid (x.r < W2.heap.size /\ g < W2.heap.size) := hid ⟨block_lt HPr.out.1.b, block_lt HO2.out⟩
  have HD9 := hid eD
  clear eD ecn eDc
  go_upto_region 12 with (go_at_call 15; refine (HP2.out _).mono ?_; rintro e w2 ⟨he, hw2⟩; rw [he, hw2]; clear he hw2)
  have k1 : W2.heap.size ≠ x.r := by have := HRl.out; omega
  have k2 : W2.heap.size ≠ g := by have := HRl.out; omega
  go_cut [9] (fun v wx => ∃ gD co cp, v = .pointer (some ⟨gD, 0, none⟩) /\ Dgb wx gD D co cn cp /\ OwG KCc 36 wx W2.heap.size (.slice co cn cp) D.cs /\ Still W2 wx /\ W2.heap.size <= gD)
  case first =>
    go_region_held3 (fun w' => w'.cell? ⟨x.r, 0, none⟩ = some (.pointer (some ⟨x.p, 0, none⟩)) /\ w'.cell? ⟨g, 9, none⟩ = some (.int .i64 o.mk')) (go_keep)
      (first
        | (go_at_call 8
           refine (HTu.out _ (by repeat (first | exact Fr.refl _ _ | refine Fr.drew ?_ | refine Fr.alloc ?_ _))).mono ?_
           rintro e x1 ⟨co, cp, rfl, o1, g1⟩
           have HX1 : Hid (Still W2 x1) := hid (by
             refine Still.trans ?_ g1
             repeat (first | exact Fr.refl _ _ | refine Fr.drew ?_ | refine Fr.alloc ?_ _))
           obtain ⟨e0, e1, ef⟩ := (HPr.out.1.still HX1.out).b.cells
           have e9 : x1.cell? ⟨g, 9, none⟩ = some (.int .i64 o.mk') := by rw [cell_of_row _ _ _ _ _ _ (HO2.out.still HX1.out)]; rfl
           have HO1 : Hid (OwG KCc 36 x1 W2.heap.size (.slice co cn cp) D.cs) := hid (o1.less (by
             first
               | exact Nat.le_refl _
               | (simp only [World.drew]; exact Nat.le_refl _)
               | (rw [size_alloc]; exact Nat.le_succ _)
               | (simp)))
           have HO2x := hid (fun k hk => (o1.block (k := k) hk).1)
           have m1' : x1.heap.size ≠ x.r := by have := HX1.out.size; have := HRl.out; omega
           have m2' : x1.heap.size ≠ g := by have := HX1.out.size; have := HRl.out; omega
           try (have z1 : Dgb x1 W2.heap.size zD none 0 0 := Fr.kept_still (Still.undrew g1) (heap_alloc_new W2 _); obtain ⟨u0, u1, u2, u3, u4, u5, u6, u7, uf⟩ := z1.cells)
           clear o1 g1))
    all_goals
      first
        | (go_wp2_with fail
           go_meet
           exact ⟨W2.heap.size, co, cp, rfl, z1.set D co cn cp, HO1.out.keep (setDg_fr (Fr.refl (fun k => k = W2.heap.size) x1) W2.heap.size D co cn cp (.inl rfl)) (fun k hk e => by have := HO2x.out k e; simp at this; omega), setDg_fr HX1.out W2.heap.size D co cn cp (.inr (Nat.le_refl _)), Nat.le_refl _⟩)
        | (go_wp2_with fail
           go_meet
           have hA1 := Still.alloc x1 (.cells (dgc D co cn cp) 39)
           exact ⟨x1.heap.size, co, cp, rfl, newDg_b x1 D co cn cp, HO1.out.still hA1, HX1.out.trans hA1, HX1.out.size⟩)
  case rest =>
    obtain ⟨g3, ao, ac, rfl, hd, ho, hs, hg3⟩ := hcut
    obtain ⟨W3, eW3⟩ : ∃ V, V = wc := ⟨_, rfl⟩
    subst eW3
    have HA3 := hid hd
    have HOa3 := hid ho
    have HS3 := hid hs
    have HG3 := hid hg3
    clear hd ho hs hg3 a0 a1 af o0 o9 HTu k1 k2
    have HTw : Hid (∀ u, Still W3 u -> Calls Tryd.prog 18 #[.pointer (some ⟨x.q, 0, none⟩), .int .i64 o.mk'] u fun e w' => ∃ co cp, e = .returned (dgv D co cn cp) /\ OwG KCc 36 w' u.heap.size (.slice co cn cp) D.cs /\ Still u w') := hid (fun u hu => HTv.out u (HS3.out.trans hu))
    obtain ⟨a0, a1, af⟩ := (HPr.out.1.still HS3.out).b.cells
    have o9 : W3.cell? ⟨g, 9, none⟩ = some (.int .i64 o.mk') := by rw [cell_of_row _ _ _ _ _ _ (HO2.out.still HS3.out)]; rfl
    have HRw : Hid (W2.heap.size <= W3.heap.size) := hid HS3.out.size
    have k1 : W3.heap.size ≠ x.r := by have := HRl.out; have := HRw.out; omega
    have k2 : W3.heap.size ≠ g := by have := HRl.out; have := HRw.out; omega
    go_upto_region 13 with fail
    go_cut [10] (fun v wx => ∃ gD co cp, v = .pointer (some ⟨gD, 0, none⟩) /\ Dgb wx gD D co cn cp /\ OwG KCc 36 wx W3.heap.size (.slice co cn cp) D.cs /\ Still W3 wx /\ W3.heap.size <= gD)
    case first =>
      go_region_held3 (fun w' => w'.cell? ⟨x.r, 1, none⟩ = some (.pointer (some ⟨x.q, 0, none⟩)) /\ w'.cell? ⟨g, 9, none⟩ = some (.int .i64 o.mk')) (go_keep)
        (first
          | (go_at_call 18
             refine (HTw.out _ (by repeat (first | exact Fr.refl _ _ | refine Fr.drew ?_ | refine Fr.alloc ?_ _))).mono ?_
             rintro e x1 ⟨co, cp, rfl, o1, g1⟩
             have HX1 : Hid (Still W3 x1) := hid (by
               refine Still.trans ?_ g1
               repeat (first | exact Fr.refl _ _ | refine Fr.drew ?_ | refine Fr.alloc ?_ _))
             obtain ⟨e0, e1, ef⟩ := (HPr.out.1.still (HS3.out.trans HX1.out)).b.cells
             have e9 : x1.cell? ⟨g, 9, none⟩ = some (.int .i64 o.mk') := by rw [cell_of_row _ _ _ _ _ _ (HO2.out.still (HS3.out.trans HX1.out))]; rfl
             have HO1 : Hid (OwG KCc 36 x1 W3.heap.size (.slice co cn cp) D.cs) := hid (o1.less (by
               first
                 | exact Nat.le_refl _
                 | (simp only [World.drew]; exact Nat.le_refl _)
                 | (rw [size_alloc]; exact Nat.le_succ _)
                 | (simp)))
             have HO2x := hid (fun k hk => (o1.block (k := k) hk).1)
             have m1' : x1.heap.size ≠ x.r := by have := HX1.out.size; have := HRl.out; have := HRw.out; omega
             have m2' : x1.heap.size ≠ g := by have := HX1.out.size; have := HRl.out; have := HRw.out; omega
             try (have z1 : Dgb x1 W3.heap.size zD none 0 0 := Fr.kept_still (Still.undrew g1) (heap_alloc_new W3 _); obtain ⟨u0, u1, u2, u3, u4, u5, u6, u7, uf⟩ := z1.cells)
             clear o1 g1))
      all_goals
        first
          | (go_wp2_with fail
             go_meet
             exact ⟨W3.heap.size, co, cp, rfl, z1.set D co cn cp, HO1.out.keep (setDg_fr (Fr.refl (fun k => k = W3.heap.size) x1) W3.heap.size D co cn cp (.inl rfl)) (fun k hk e => by have := HO2x.out k e; simp at this; omega), setDg_fr HX1.out W3.heap.size D co cn cp (.inr (Nat.le_refl _)), Nat.le_refl _⟩)
          | (go_wp2_with fail
             go_meet
             have hA1 := Still.alloc x1 (.cells (dgc D co cn cp) 39)
             exact ⟨x1.heap.size, co, cp, rfl, newDg_b x1 D co cn cp, HO1.out.still hA1, HX1.out.trans hA1, HX1.out.size⟩)
    case rest =>
      obtain ⟨g4, bo, bc, rfl, hd, ho, hs, hg4⟩ := hcut
      obtain ⟨W4, eW4⟩ : ∃ V, V = wc := ⟨_, rfl⟩
      subst eW4
      have HB4 := hid hd
      have HOb : Hid (OwG KCc 36 W4 W2.heap.size (.slice bo cn bc) D.cs) := hid (ho.less HRw.out)
      have HNab : Hid (∀ k, Sb ao k -> ¬ Sb bo k) := hid (fun k hk hb => by
        have h1 := (HOa3.out.block (own_some.2 hk)).2
        have h2 := (ho.block (own_some.2 hb)).1
        omega)
      have HOa := hid (HOa3.out.still hs)
      have HA4 := hid (HA3.out.still hs)
      have HS4 := hid (HS3.out.trans hs)
      have HH4 := hid (HH2.out.still HS4.out)
      have HG34 : Hid (W2.heap.size <= g3 /\ W2.heap.size <= g4) := hid ⟨HG3.out, Nat.le_trans HRw.out hg4⟩
      have HMl : Hid (∀ k, Sb mo k -> k < W2.heap.size) := hid (fun k hk => (HH2.out.mw.block (own_some.2 hk)).2)
      have HZp : Hid (∀ i, i < P.length -> ∀ k, PqC (pz P i).1 k -> k < W2.heap.size) := hid (fun i hi k hk => ((HH2.out.pr i hi).1.lt k (.inr hk)).1)
      have HZq : Hid (∀ i, i < Q.length -> ∀ k, Sb (dq Q i).co k -> k < W2.heap.size) := hid (fun i hi k hk => by
        obtain ⟨a, ha, rfl⟩ := hk
        obtain ⟨_, ⟨cur, hc⟩, _⟩ := (HH2.out.qd i hi).2.2.2 a ha
        exact block_lt hc)
      have HZ : Hid (w0.heap.size <= W2.heap.size) := hid HH2.out.st.size
      clear hd ho hs hg4 a0 a1 af o9 HTv HTw k1 k2
      obtain ⟨b0, b1, b2, b3, b4, b5, b6, b7, bf⟩ := HB4.out.cells
      go_upto_region 14 with fail
      clear b0 b1 b2 b3 b4 b5 b6 b7 bf
      refine region_laid 6 1 (by kernel_rfl) (by kernel_rfl) (by kernel_rfl) ?_
      apply Exists.intro
      refine And.intro ?_ (And.intro ?_ ?_)
      · intro u hu
        have q4 := Cl.cell (HH4.out.still hu).cells.2.1
        obtain ⟨d0, d1, d2, d3, d4, d5, d6, d7, df⟩ := (HB4.out.still hu).cells
        have r0 := Cl.cell d0
        have r1 := Cl.cell d1
        have r2 := Cl.cell d2
        have r3 := Cl.cell d3
        have r4 := Cl.cell d4
        have r5 := Cl.cell d5
        have r6 := Cl.cell d6
        have r7 := Cl.cell d7
        have hne := Aft.here u
        clear d0 d1 d2 d3 d4 d5 d6 d7 df
        simp only [List.take_succ_cons, List.take_zero]
        repeat (go_big_quiet_step (fail))
        exact wpQuiet_nil rfl
      · intro _ o ho u hu
        obtain rfl := Option.some.inj ho
        exact ⟨_, _, bs_dg (d := D) (co := bo) (cn := cn) (cp := bc) rfl rfl u, Still.alloc u _⟩
      intro w7 h7
      simp only [List.drop_succ_cons, List.drop_zero]
      have A8 := Still.alloc w7 (.cells (dgc D bo cn bc) 39)
      have h8 := h7.trans A8
      have HH8 := hid (HH4.out.still h8)
      have HA8 := hid (HA4.out.still h8)
      have HB8 := hid (HB4.out.still h8)
      have HOa8 := hid (HOa.out.still h8)
      have HOb8 := hid (HOb.out.still h8)
      have HG8 : Hid ((w7.alloc (.cells (dgc D bo cn bc) 39)).heap[w7.heap.size]? = some (.cells (KDq.f ⟨D, bo, cn, bc⟩).toArray 39 (0, 0))) := hid (newDg_b w7 D bo cn bc)
      have HB8l : Hid (w0.heap.size <= (w7.alloc (.cells (dgc D bo cn bc) 39)).heap.size) := hid HH8.out.st.size
      have HS8 := hid h8.size
      clear h7 A8 h8 HH4 HA4 HB4 HOa HOb
      go_wp2_with (
        at_builtin
        refine wpList_appQ KDq _ rfl _ _ _ rfl Tryd.underlying29 80 infoDq w0.heap.size w7.heap.size _ Q ⟨D, bo, cn, bc⟩ rfl rfl (by have := HH8.out.mw; exact this) HG8.out (by have := HQl.out; omega) (by have := HQl.out; omega) HB8l.out ?_
        intro v9 w9 ho9 hf9 hb9
        obtain ⟨mo2, mc2, ev, _⟩ := ho9.slice
        rw [List.length_append, List.length_singleton] at ev
        subst ev
        have hf9' : Fr (fun k => Sb mo k) _ w9 := hf9.mono (fun k _ e => Sb.own e)
        have hsb : ∀ a, bo = some a -> (w0.heap.size <= a.block /\ (∃ cur, (w7.alloc (.cells (dgc D bo cn bc) 39)).heap[a.block]? = some (.cells cur 36 (0, 0))) /\ ∀ j, j < P.length -> ¬ PqC (pz P j).1 a.block) := fun a ha => by
          have h1 := (HOb8.out.block (own_some.2 ⟨a, ha, rfl⟩)).1
          have h2 := HZ.out
          refine ⟨by omega, ow_ty HOb8.out (own_some.2 ⟨a, ha, rfl⟩), fun j hj e => ?_⟩
          have h3 := HZp.out j hj a.block e
          omega
        have hY := HH8.out.addQ (y := ⟨D, bo, cn, bc⟩) ho9 hf9' HCn.out HC336.out (by have h1 := HOb8.out; have h2 := HCn.out; exact SrG.own (by rw [h2]; exact h1) (by rw [h2]; have := HC336.out; omega)) hsb
        have nA : ∀ k, Sb mo k -> ∀ cur t, (w7.alloc (.cells (dgc D bo cn bc) 39)).heap[k]? = some (.cells cur t (0, 0)) -> t = 39 := fun k hk cur t hc => Sb.ty HH8.out.mw hk hc
        have ng3 : ¬ Sb mo g3 := fun e => by have h1 := (HH8.out.mw.block (own_some.2 e)); have h2 := HG34.out; have h3 := HMl.out g3 e; omega
        have ng4 : ¬ Sb mo g4 := fun e => by have h1 := (HH8.out.mw.block (own_some.2 e)); have h2 := HG34.out; have h3 := HMl.out g4 e; omega
        have f10 : Fr (fun k => k = wb \/ Sb mo k) (w7.alloc (.cells (dgc D bo cn bc) 39)) (w9.setCell ⟨wb, 1, none⟩ (.slice mo2 (Q.length + 1) mc2)) := Fr.setCell (hf9'.mono (fun k _ e => .inr e)) _ _ (.inl (.inl rfl))
        have HW10 : Hid (W2.heap.size <= (w9.setCell ⟨wb, 1, none⟩ (.slice mo2 (Q.length + 1) mc2)).heap.size) := hid (Nat.le_trans HS4.out.size (Nat.le_trans HS8.out f10.size))
        have HA10 := hid (HA8.out.keepD f10 (fun e => by rcases e with e | e; exact ty_ne HA8.out HH8.out.bk (by decide) e; exact ng3 e))
        have HB10 := hid (HB8.out.keepD f10 (fun e => by rcases e with e | e; exact ty_ne HB8.out HH8.out.bk (by decide) e; exact ng4 e))
        have cN : ∀ k, (∃ cur, (w7.alloc (.cells (dgc D bo cn bc) 39)).heap[k]? = some (.cells cur 36 (0, 0))) -> ¬ (k = wb \/ Sb mo k) := fun k hc e => by
          obtain ⟨cur, hc⟩ := hc
          rcases e with e | e
          · exact ty_ne hc HH8.out.bk (by decide) e
          · exact absurd (nA k e _ _ hc) (by decide)
        have HOa10 := hid (HOa8.out.keep f10 (fun k hk e => cN k (ow_ty HOa8.out e) hk))
        have HOb10 := hid (HOb8.out.keep f10 (fun k hk e => cN k (ow_ty HOb8.out e) hk))
        have HY := hid hY.1
        have e4 := hY.2.1
        have ef := hY.2.2
        clear ho9 hf9 hb9 hf9' hsb hY nA ng3 ng4 f10 cN)
      obtain ⟨W10, eW10⟩ : ∃ V, w9.setCell ⟨wb, 1, none⟩ (.slice mo2 (Q.length + 1) mc2) = V := ⟨_, rfl⟩
      rw [eW10] at HW10 HA10 HB10 HOa10 HOb10 HY
      obtain ⟨b0, b1, b2, b3, b4, b5, b6, b7, bf⟩ := HA10.out.cells
      obtain ⟨d0, d1, d2, d3, d4, d5, d6, d7, df⟩ := HB10.out.cells
      refine ⟨rfl, ?_⟩
      rw [eW10]
      go_wp2_with fail
      refine (ltold_any D ao bo cn ac bc W2.heap.size _ HCn.out (by have := HC336.out; omega) HW10.out HOa10.out (HOb10.out.rdC HCn.out (by have := HC336.out; omega))).mono ?_
      rintro e w11 ⟨he, h11⟩
      rw [he]
      have HE := hid (HY.out.away h11 (fun k hk => ⟨by have h1 := (HOa10.out.block (own_some.2 hk)).1; have := HZ.out; omega, ow_ty HOa10.out (own_some.2 hk)⟩) (fun k hk i hi e => by have h1 := (HOa10.out.block (own_some.2 hk)).1; have := HZp.out i hi k e; omega) (fun k hk i hi e => by
        have h1 := (HOa10.out.block (own_some.2 hk)).1
        rw [List.length_append, List.length_singleton] at hi
        by_cases hl : i < Q.length
        · rw [dq_old hl] at e
          have := HZq.out i hl k e
          omega
        · obtain rfl : i = Q.length := by omega
          rw [dq_new] at e
          exact HNab.out k hk e))
      clear he h11
      go_wp2_with fail
      go_ret
      exact ⟨rfl, lo, mo2, lc, mc2, P, _, HE.out.mono (Nat.le_succ _), rfl, fun _ _ => rfl, by rw [List.length_append]; exact Nat.le_refl _⟩
end Go.Proofs.YtnbofjaecchnaaaDoor
namespace Go.Proofs.YtnbofjaecchnaaaDoor
open Go.RowKit
open Wp Vp Lp
set_option maxRecDepth 100000
set_option linter.unusedVariables false
set_option linter.unusedSimpArgs false
def Aft18n (w0 w' : World) (wb : Nat) (P : List (Pq × Ln)) (Q : List Dq) (N : Nat) : Prop := ∃ lo mo lc mc P' Q', St w0 w' wb lo lc mo mc P' Q' (N + 1) /\ P.length <= P'.length /\ P'.length <= P.length + 1 /\ (∀ i, i < P.length -> (pz P' i).1.r = (pz P i).1.r) /\ Q'.length <= Q.length + 1
theorem srPp (w : World) (r : Nat) : SrG KPp (w.alloc (.cells #[.pointer (some ⟨r, 0, none⟩)] 23)) (some ⟨w.heap.size, 0, none⟩) 1 [r] := by
 refine ⟨⟨rfl, by show 1 <= _; omega, .inr ⟨w.heap.size, 0, rfl, fun i hi j u hu => ?_⟩⟩, Nat.le_refl _, fun e => by cases e⟩
 obtain rfl : i = 0 := by have : i < 1 := hi; omega
 have h := heap_alloc_new w (.cells #[.pointer (some ⟨r, 0, none⟩)] 23)
 have hj : j < 1 := by
  have := (List.getElem?_eq_some_iff.1 hu).1
  exact this
 obtain rfl : j = 0 := by omega
 rw [cell_of_row _ _ _ _ _ _ h]
 exact hu
set_option maxHeartbeats 16000000 in
theorem ldoes_new (o : Opq) (w0 w : World) (wb : Nat) (lo : Option Addr) (lc : Nat) (mo : Option Addr) (mc : Nat) (P : List (Pq × Ln)) (Q : List Dq) (N : Nat) (hok : OpOk w0 o) (hk6 : pk o.kd 6 = 5) (hP : 0 < P.length) (hPl : P.length <= 1000000000000) (h : St w0 w wb lo lc mo mc P Q N) : Calls Tryd.prog 6 #[.pointer (some ⟨wb, 0, none⟩), .agg (opc o)] w fun e w' => e = .returned (.bool true) /\ Aft18n w0 w' wb P Q N := by
 have A0 := Still.alloc w (.cells (opc o) 41)
 have p0 : Ob18 (w.alloc (.cells (opc o) 41)) w.heap.size o := heap_alloc_new w _
 have h0 := h.still A0
 obtain ⟨g, eg⟩ : ∃ g, w.heap.size = g := ⟨_, rfl⟩
 obtain ⟨W, eW⟩ : ∃ W, w.alloc (.cells (opc o) 41) = W := ⟨_, rfl⟩
 rw [eW] at A0 p0 h0
 rw [eg] at p0
 have hpk := pk_in o.wh P.length (by omega)
 have HP1 := hid (fun w => pick_any o.wh P.length hok.wh (by omega) (by omega) w)
 have HP2 := hid (fun w => pick_any o.kd 6 hok.kd (by omega) (by omega) w)
 obtain ⟨j, ej⟩ : ∃ j : Nat, pk o.wh P.length = (j : Int) := ⟨(pk o.wh P.length).toNat, by omega⟩
 rw [ej] at HP1 hpk
 rw [hk6] at HP2
 have hj : j < P.length := by omega
 obtain ⟨lb, lcap, el, _, _⟩ := h0.lw.head (by rw [List.length_map]; omega)
 have hlw := h0.lw
 injection el with el1 el2 el3
 rw [el1] at hlw
 have k0 := owPp hlw (i := j) (by rw [List.length_map]; exact hj)
 have er : (P.map fun x => x.1.r).getD j 0 = (pz P j).1.r := by
  unfold pz
  simp [List.getD, hj]
 rw [er] at k0
 obtain ⟨c0, c1, cf⟩ := h0.cells
 rw [el1] at c0
 obtain ⟨x, ex⟩ : ∃ x, (pz P j).1 = x := ⟨_, rfl⟩
 obtain ⟨s, es⟩ : ∃ x, (pz P j).2 = x := ⟨_, rfl⟩
 rw [ex] at k0
 have o0 : W.cell? ⟨g, 0, none⟩ = some (.int .i64 o.kd) := by rw [cell_of_row _ _ _ _ _ _ p0]; rfl
 have o1 : W.cell? ⟨g, 1, none⟩ = some (.int .i64 o.wh) := by rw [cell_of_row _ _ _ _ _ _ p0]; rfl
 have HH := hid h0
 have HO := hid p0
 have HW := hid A0
 have HLo := hid el1
 have HX := hid (And.intro ex es)
 have HOk := hid hok
 have HPl := hid hPl
 have hji : (j : Int) < (P.length : Int) := by omega
 clear h h0 p0 A0 hlw er el2 el3 el1 ex es
 go_enter Tryd.func6, Tryd.ntmps6
 go_upto_region 1 with fail
 go_quiet ((go_at_call 15; exact Calls.quiet_of_same (HP1.out _)))
 have sW2 : Still W (W.drewN nq) := (Fr.refl _ W).drewN nq
 obtain ⟨W2, eW2⟩ : ∃ V, W.drewN nq = V := ⟨_, rfl⟩
 rw [eW2] at sW2 ⊢
 have hpr := (HH.out.still sW2).pr j hj
 rw [HX.out.1, HX.out.2] at hpr
 obtain ⟨a0, a1, af⟩ := hpr.1.b.cells
 have HPr := hid hpr
 have HH2 := hid (HH.out.still sW2)
 have HO2 := hid (HO.out.still sW2)
 have HW2 := hid (HW.out.trans sW2)
 have HGl : Hid (w.heap.size = g) := hid eg
 clear c0 c1 cf k0 o0 o1 hpr HH HO HW eW eW2 sW2
 have o0 : W2.cell? ⟨g, 0, none⟩ = some (.int .i64 o.kd) := by rw [cell_of_row _ _ _ _ _ _ HO2.out]; rfl
 have o21 : W2.cell? ⟨g, 21, none⟩ = some (.int .u64 o.ss) := by rw [cell_of_row _ _ _ _ _ _ HO2.out]; rfl
 have o22 : W2.cell? ⟨g, 22, none⟩ = some (.int .i64 o.se) := by rw [cell_of_row _ _ _ _ _ _ HO2.out]; rfl
 have o23 : W2.cell? ⟨g, 23, none⟩ = some (.int .i64 o.ot) := by rw [cell_of_row _ _ _ _ _ _ HO2.out]; rfl
 cases hm : mayN o.se o.ot with
 | false =>
  go_wp2_with (go_at_call 15; refine (HP2.out _).mono ?_; rintro e w2 ⟨he, hw2⟩; rw [he, hw2]; clear he hw2)
  refine (lmade_no o.ss o.se o.ot hm _).mono ?_
  rintro e w3 ⟨he, hw3⟩
  rw [he, hw3]
  clear he hw3 a0 a1 af o0 o21 o22 o23
  go_wp2_with fail
  go_ret
  exact ⟨rfl, lo, mo, lc, mc, P, Q, HH2.out.mono (Nat.le_succ _), Nat.le_refl _, Nat.le_succ _, fun _ _ => rfl, Nat.le_succ _⟩
 | true =>
  go_wp2_with (go_at_call 15; refine (HP2.out _).mono ?_; rintro e w2 ⟨he, hw2⟩; rw [he, hw2]; clear he hw2)
  refine (lmade_yes o.ss o.se o.ot hm _).mono ?_
  rintro e w3 ⟨r, p, mb, q, he, hb, hl, hy, hr, hp, hq, hmb, h3⟩
  rw [he]
  have A4 := Still.alloc w3 (.cells #[.pointer (some ⟨r, 0, none⟩)] 23)
  have HS4 := hid (h3.trans A4)
  have HPn : Hid (Pr (w3.alloc (.cells #[.pointer (some ⟨r, 0, none⟩)] 23)) w0.heap.size ⟨r, p, mb, none, 0, q, none, 0, none, 0⟩ (zLn o.ss o.se o.ot)) := hid (by
   have z := HH2.out.st.size
   have l4 := hl.still A4
   have y4 := hy.still A4
   exact ⟨hb.still A4, ⟨l4.bk, Kp.nil _ _, l4.mp, Nat.le_trans z l4.lp, Nat.le_trans z l4.lm⟩, ⟨y4.bk, y4.ow.less z, y4.gw.less z, Nat.le_trans z y4.lo, y4.ne⟩, (fun a b ha => by cases ha), (fun a b ha => by cases ha), Nat.le_trans z hr⟩)
  have HNew : Hid (∀ k, PqB ⟨r, p, mb, none, 0, q, none, 0, none, 0⟩ k -> W2.heap.size <= k) := hid (fun k hk => by
   rcases hk with rfl | rfl | rfl | rfl
   ·exact hr
   ·exact hl.lp
   ·exact hl.lm
   ·exact hy.lo)
  have HSr := hid (srPp w3 r)
  have HH4 := hid (HH2.out.still HS4.out)
  obtain ⟨c0, c1, cf⟩ := (HH2.out.still h3).cells
  have HZ : Hid (w0.heap.size <= W2.heap.size) := hid HH2.out.st.size
  have HBl : Hid (w0.heap.size <= (w3.alloc (.cells #[.pointer (some ⟨r, 0, none⟩)] 23)).heap.size) := hid HH4.out.st.size
  have HMy := hid (mayN_iff.1 hm)
  clear he hb hl hy hr hp hq hmb h3 A4 a0 a1 af o0 o21 o22 o23
  go_wp2_with (
   at_builtin
   refine wpList_appMG KPp _ rfl _ _ _ rfl Tryd.underlying28 8 (.pointer none) rfl infoPp w0.heap.size _ (P.map fun x => x.1.r) [r] (some ⟨w3.heap.size, 0, none⟩) 1 1 rfl rfl rfl (by have := HH4.out.lw; exact this) HSr.out (by rw [List.length_map, List.length_singleton]; have := HPl.out; omega) (by rw [List.length_map, List.length_singleton]; have := HPl.out; omega) HBl.out ?_
   intro v9 w9 ho9 hf9
   obtain ⟨lo2, lc2, ev, _⟩ := ho9.slice
   rw [List.length_append, List.length_singleton, List.length_map] at ev
   subst ev
   have hf9' : Fr (fun k => Sb lo k) _ w9 := hf9.mono (fun k _ e => Sb.own e)
   have hY := HH4.out.addX (x := ⟨r, p, mb, none, 0, q, none, 0, none, 0⟩) (s := zLn o.ss o.se o.ot) ho9 hf9' HPn.out (Fits.new ⟨by have := HMy.out; omega, by have := HMy.out; omega⟩ ⟨by have := HMy.out; omega, by have := HMy.out; omega⟩ (by have := HMy.out; omega) HOk.out.ss) (Nat.zero_le _) (fun k hk => by rcases hk with ⟨a, ha, _⟩ | ⟨a, ha, _⟩ | ⟨a, ha, _⟩ <;> cases ha) (fun k hk j hj e => by have h1 := HNew.out k hk; have h2 := ((HH2.out.pr j hj).1.lt k (.inl e)).1; omega)
   have HY := hid hY.1
   have e4 := hY.2.1
   have ef := hY.2.2
   clear ho9 hf9 hf9' hY)
  go_ret
  exact ⟨rfl, lo2, mo, lc2, mc, _, Q, HY.out.mono (Nat.le_succ _), by rw [List.length_append]; omega, by rw [List.length_append]; exact Nat.le_refl _, fun i hi => by rw [pz_old hi], Nat.le_succ _⟩
end Go.Proofs.YtnbofjaecchnaaaDoor
namespace Go.Proofs.YtnbofjaecchnaaaDoor
open Go.RowKit
open Wp Vp Lp
set_option maxRecDepth 100000
set_option linter.unusedVariables false
set_option linter.unusedSimpArgs false
theorem tkS_O (s : Ln) (d : Dg) (lead : Int) : (tkS s d lead).O = s.O := by
 unfold tkS
 split
 ·rfl
 ·rfl
theorem St.took {w0 w w' : World} {wb : Nat} {lo : Option Addr} {lc : Nat} {mo : Option Addr} {mc : Nat} {P : List (Pq × Ln)} {Q : List Dq} {N : Nat} (h : St w0 w wb lo lc mo mc P Q N) {i : Nat} (hi : i < P.length) {x : Pq} {s : Ln} (ex : (pz P i).1 = x) (es : (pz P i).2 = s) {d : Dg} {lead : Int} {ko' go' : Option Addr} {kc' gc' : Nat} (hp : Pr w' w0.heap.size ⟨x.r, x.p, x.mb, ko', kc', x.q, x.oo, x.oc, go', gc'⟩ (tkS s d lead)) (hf : Fr (fun k => k = x.p \/ k = x.mb \/ k = x.q \/ ∃ b, x.go = some b /\ b.block = k) w w') (hk : Kb x.ko ko') (hg : ∀ b, go' = some b -> (∃ b0, x.go = some b0 /\ b0.block = b.block) \/ w.heap.size <= b.block) : Aft18 w0 w' wb P Q N := by
 have hft := Fits.tk (h.pr i hi).2.1 d lead
 have hN := (h.pr i hi).2.2
 rw [es] at hft hN
 refine ⟨lo, mo, lc, mc, P.set i (⟨x.r, x.p, x.mb, ko', kc', x.q, x.oo, x.oc, go', gc'⟩, tkS s d lead), Q, h.step hi hf (fun k e => ?_) hp hft (fun k e => ?_) (by rw [ex]) (fun k e => ?_) (by rw [tkS_O]; omega) (Nat.le_succ _), List.length_set, fun j hj => ?_, Nat.le_succ _⟩
 ·rw [ex]
  rcases e with e | e | e | e
  ·exact .inl (.inr (.inl e))
  ·exact .inl (.inr (.inr (.inl e)))
  ·exact .inl (.inr (.inr (.inr e)))
  ·exact .inr (.inr (.inr e))
 ·rw [ex]; exact e
 ·rw [ex]
  rcases e with ⟨a, ha, e⟩ | e | ⟨b, hb, e⟩
  ·obtain ⟨c, hc, e2⟩ := hk a ha
   exact .inl (.inl ⟨c, hc, by omega⟩)
  ·exact .inl (.inr (.inl e))
  ·rcases hg b hb with ⟨b0, hb0, e0⟩ | e1
   ·exact .inl (.inr (.inr ⟨b0, hb0, by omega⟩))
   ·exact .inr (by omega)
 ·by_cases hij : i = j
  ·subst hij
   rw [pz_same hi, ex]
  ·rw [pz_ne hij]
set_option maxHeartbeats 16000000 in
theorem ldoes_takea (o : Opq) (w0 w : World) (wb : Nat) (lo : Option Addr) (lc : Nat) (mo : Option Addr) (mc : Nat) (P : List (Pq × Ln)) (Q : List Dq) (N : Nat) (hok : OpOk w0 o) (hk6 : pk o.kd 6 = 3) (hnx : o.nx = false \/ Q = []) (hNl : N <= 1000000000000) (hP : 0 < P.length) (hPl : P.length <= 1000000000000) (h : St w0 w wb lo lc mo mc P Q N) : Calls Tryd.prog 6 #[.pointer (some ⟨wb, 0, none⟩), .agg (opc o)] w fun e w' => e = .returned (.bool true) /\ Aft18 w0 w' wb P Q N := by
 have A0 := Still.alloc w (.cells (opc o) 41)
 have p0 : Ob18 (w.alloc (.cells (opc o) 41)) w.heap.size o := heap_alloc_new w _
 have h0 := h.still A0
 obtain ⟨g, eg⟩ : ∃ g, w.heap.size = g := ⟨_, rfl⟩
 obtain ⟨W, eW⟩ : ∃ W, w.alloc (.cells (opc o) 41) = W := ⟨_, rfl⟩
 rw [eW] at A0 p0 h0
 rw [eg] at p0
 have hpk := pk_in o.wh P.length (by omega)
 have HP1 := hid (fun w => pick_any o.wh P.length hok.wh (by omega) (by omega) w)
 have HP2 := hid (fun w => pick_any o.kd 6 hok.kd (by omega) (by omega) w)
 obtain ⟨j, ej⟩ : ∃ j : Nat, pk o.wh P.length = (j : Int) := ⟨(pk o.wh P.length).toNat, by omega⟩
 rw [ej] at HP1 hpk
 rw [hk6] at HP2
 have hj : j < P.length := by omega
 obtain ⟨lb, lcap, el, _, _⟩ := h0.lw.head (by rw [List.length_map]; omega)
 have hlw := h0.lw
 injection el with el1 el2 el3
 rw [el1] at hlw
 have k0 := owPp hlw (i := j) (by rw [List.length_map]; exact hj)
 have er : (P.map fun x => x.1.r).getD j 0 = (pz P j).1.r := by
  unfold pz
  simp [List.getD, hj]
 rw [er] at k0
 obtain ⟨c0, c1, cf⟩ := h0.cells
 rw [el1] at c0
 obtain ⟨x, ex⟩ : ∃ x, (pz P j).1 = x := ⟨_, rfl⟩
 obtain ⟨s, es⟩ : ∃ x, (pz P j).2 = x := ⟨_, rfl⟩
 rw [ex] at k0
 have o0 : W.cell? ⟨g, 0, none⟩ = some (.int .i64 o.kd) := by rw [cell_of_row _ _ _ _ _ _ p0]; rfl
 have o1 : W.cell? ⟨g, 1, none⟩ = some (.int .i64 o.wh) := by rw [cell_of_row _ _ _ _ _ _ p0]; rfl
 have HH := hid h0
 have HO := hid p0
 have HW := hid A0
 have HLo := hid el1
 have HX := hid (And.intro ex es)
 have HOk := hid hok
 have HNl := hid hNl
 have HNx := hid hnx
 have HPl := hid hPl
 have hji : (j : Int) < (P.length : Int) := by omega
 clear h h0 p0 A0 hlw er el2 el3 el1 ex es
 go_enter Tryd.func6, Tryd.ntmps6
 go_upto_region 1 with fail
 go_quiet ((go_at_call 15; exact Calls.quiet_of_same (HP1.out _)))
 have sW2 : Still W (W.drewN nq) := (Fr.refl _ W).drewN nq
 obtain ⟨W2, eW2⟩ : ∃ V, W.drewN nq = V := ⟨_, rfl⟩
 rw [eW2] at sW2 ⊢
 have hpr := (HH.out.still sW2).pr j hj
 rw [HX.out.1, HX.out.2] at hpr
 obtain ⟨a0, a1, af⟩ := hpr.1.b.cells
 have HPr := hid hpr
 have HH2 := hid (HH.out.still sW2)
 have HO2 := hid (HO.out.still sW2)
 have HW2 := hid (HW.out.trans sW2)
 have HGl : Hid (w.heap.size = g) := hid eg
 clear c0 c1 cf k0 o0 o1 hpr HH HO HW eW eW2 sW2
 have o0 : W2.cell? ⟨g, 0, none⟩ = some (.int .i64 o.kd) := by rw [cell_of_row _ _ _ _ _ _ HO2.out]; rfl
 have o10 : W2.cell? ⟨g, 10, none⟩ = some (.int .i64 o.ld) := by rw [cell_of_row _ _ _ _ _ _ HO2.out]; rfl
 have o11 : W2.cell? ⟨g, 11, none⟩ = some (.int .i64 o.d.kd) := by rw [cell_of_row _ _ _ _ _ _ HO2.out]; rfl
 have o12 : W2.cell? ⟨g, 12, none⟩ = some (.int .u64 o.d.ss) := by rw [cell_of_row _ _ _ _ _ _ HO2.out]; rfl
 have o13 : W2.cell? ⟨g, 13, none⟩ = some (.int .i64 o.d.fr) := by rw [cell_of_row _ _ _ _ _ _ HO2.out]; rfl
 have o14 : W2.cell? ⟨g, 14, none⟩ = some (.int .i64 o.d.to) := by rw [cell_of_row _ _ _ _ _ _ HO2.out]; rfl
 have o15 : W2.cell? ⟨g, 15, none⟩ = some (.int .i64 o.d.mrk) := by rw [cell_of_row _ _ _ _ _ _ HO2.out]; rfl
 have o16 : W2.cell? ⟨g, 16, none⟩ = some (.int .i64 o.d.fi) := by rw [cell_of_row _ _ _ _ _ _ HO2.out]; rfl
 have o17 : W2.cell? ⟨g, 17, none⟩ = some (.slice o.co o.cn o.cp) := by rw [cell_of_row _ _ _ _ _ _ HO2.out]; rfl
 have o18 : W2.cell? ⟨g, 18, none⟩ = some (.int .i64 o.d.ak) := by rw [cell_of_row _ _ _ _ _ _ HO2.out]; rfl
 have o20 : W2.cell? ⟨g, 20, none⟩ = some (.bool o.nx) := by rw [cell_of_row _ _ _ _ _ _ HO2.out]; rfl
 obtain ⟨c0, c1, cf⟩ := HH2.out.cells
 have A3 := Still.alloc W2 (.cells (dgc o.d o.co o.cn o.cp) 39)
 have HTk := hid (ptake_any x w0.heap.size o.cn o.cp o.co s o.d o.ld (by have := HPr.out.2.2; have := HNl.out; omega) HPr.out.2.1 HOk.out.cn.1 HOk.out.cn.2 _ (HH2.out.ot.still A3) (HPr.out.1.still A3) HH2.out.ng (HH2.out.still A3).st.size ((HOk.out.sr.still HH2.out.st).still A3) (fun a ha => by
  have h1 := HOk.out.lt a ha
  have h2 := (HH2.out.still A3).st.size
  have h3 := fun k hk => ((HPr.out.1.still A3).lt k hk).2
  have hp := h3 x.p (.inl (.inr (.inl rfl)))
  have hm := h3 x.mb (.inl (.inr (.inr (.inl rfl))))
  have hq := h3 x.q (.inl (.inr (.inr (.inr rfl))))
  refine ⟨by omega, by omega, by omega, by omega, fun b hb => ?_⟩
  have hb2 := h3 b.block (.inr (.inr (.inr ⟨b, hb, rfl⟩)))
  omega))
 have HS3 := hid A3
 have hlit : (¬ (Q.length : Int) > 0) \/ o.nx = false := hnx.elim .inr (fun e => .inl (by rw [e]; simp))
 have HE : Hid (∀ w', (∃ ko' kc' go' gc', Pr w' w0.heap.size ⟨x.r, x.p, x.mb, ko', kc', x.q, x.oo, x.oc, go', gc'⟩ (tkS s o.d o.ld) /\ Fr (fun k => k = x.p \/ k = x.mb \/ k = x.q \/ ∃ b, x.go = some b /\ b.block = k) (W2.alloc (.cells (dgc o.d o.co o.cn o.cp) 39)) w' /\ Kb x.ko ko' /\ ∀ b, go' = some b -> (∃ b0, x.go = some b0 /\ b0.block = b.block) \/ (W2.alloc (.cells (dgc o.d o.co o.cn o.cp) 39)).heap.size <= b.block) -> Aft18 w0 w' wb P Q N) := hid (fun w' ⟨ko', kc', go', gc', h1, h2, h3, h4⟩ => (HH2.out.still HS3.out).took hj HX.out.1 HX.out.2 h1 h2 h3 h4)
 have p3 := newDg_b W2 o.d o.co o.cn o.cp
 unfold newDg at p3
 have hh3 := HH2.out.still A3
 have oo3 := HO2.out.still A3
 obtain ⟨g3, eg3⟩ : ∃ g, W2.heap.size = g := ⟨_, rfl⟩
 obtain ⟨W3, eW3⟩ : ∃ W, W2.alloc (.cells (dgc o.d o.co o.cn o.cp) 39) = W := ⟨_, rfl⟩
 rw [eW3] at p3 hh3 oo3 HTk HE HS3
 rw [eg3] at p3
 obtain ⟨b0, b1, b2, b3, b4, b5, b6, b7, bf⟩ := p3.cells
 obtain ⟨f0, f1, ff⟩ := hh3.cells
 have q10 : W3.cell? ⟨g, 10, none⟩ = some (.int .i64 o.ld) := by rw [cell_of_row _ _ _ _ _ _ oo3]; rfl
 have q20 : W3.cell? ⟨g, 20, none⟩ = some (.bool o.nx) := by rw [cell_of_row _ _ _ _ _ _ oo3]; rfl
 clear A3 hnx p3 hh3 oo3 o10 o20 c0 c1 cf
 cases hx : o.nx with
 | false =>
  rw [hx] at q20
  clear hlit
  go_wp2_with (go_at_call 15; refine (HP2.out _).mono ?_; rintro e w2 ⟨he, hw2⟩; rw [he, hw2]; clear he hw2)
  refine HTk.out.mono ?_
  rintro e w4 ⟨he, h4⟩
  rw [he]
  have HF := hid (HE.out w4 h4)
  clear he h4 HTk HE
  go_wp2_with fail
  go_ret
  exact ⟨rfl, HF.out⟩
 | true =>
  rw [hx] at q20
  have hlq : ¬ (0 : Int) < (Q.length : Int) := by
   rcases hlit with e | e
   ·omega
   ·rw [hx] at e; cases e
  clear hlit
  go_wp2_with (go_at_call 15; refine (HP2.out _).mono ?_; rintro e w2 ⟨he, hw2⟩; rw [he, hw2]; clear he hw2)
  refine HTk.out.mono ?_
  rintro e w4 ⟨he, h4⟩
  rw [he]
  have HF := hid (HE.out w4 h4)
  clear he h4 HTk HE
  go_wp2_with fail
  go_ret
  exact ⟨rfl, HF.out⟩
end Go.Proofs.YtnbofjaecchnaaaDoor
namespace Go.Proofs.YtnbofjaecchnaaaDoor
open Go.RowKit
open Wp Vp Lp
set_option maxRecDepth 100000
set_option linter.unusedVariables false
set_option linter.unusedSimpArgs false
set_option maxHeartbeats 16000000 in
theorem ldoes_takeb (o : Opq) (w0 w : World) (wb : Nat) (lo : Option Addr) (lc : Nat) (mo : Option Addr) (mc : Nat) (P : List (Pq × Ln)) (Q : List Dq) (N : Nat) (hok : OpOk w0 o) (hk6 : pk o.kd 6 = 3) (hnx : o.nx = true) (hQ0 : 0 < Q.length) (hQl : Q.length <= 1800000000000) (hNl : N <= 1000000000000) (hP : 0 < P.length) (hPl : P.length <= 1000000000000) (h : St w0 w wb lo lc mo mc P Q N) : Calls Tryd.prog 6 #[.pointer (some ⟨wb, 0, none⟩), .agg (opc o)] w fun e w' => e = .returned (.bool true) /\ Aft18 w0 w' wb P Q N := by
 have A0 := Still.alloc w (.cells (opc o) 41)
 have p0 : Ob18 (w.alloc (.cells (opc o) 41)) w.heap.size o := heap_alloc_new w _
 have h0 := h.still A0
 obtain ⟨g, eg⟩ : ∃ g, w.heap.size = g := ⟨_, rfl⟩
 obtain ⟨W, eW⟩ : ∃ W, w.alloc (.cells (opc o) 41) = W := ⟨_, rfl⟩
 rw [eW] at A0 p0 h0
 rw [eg] at p0
 have hpk := pk_in o.wh P.length (by omega)
 have HP1 := hid (fun w => pick_any o.wh P.length hok.wh (by omega) (by omega) w)
 have HP2 := hid (fun w => pick_any o.kd 6 hok.kd (by omega) (by omega) w)
 obtain ⟨j, ej⟩ : ∃ j : Nat, pk o.wh P.length = (j : Int) := ⟨(pk o.wh P.length).toNat, by omega⟩
 rw [ej] at HP1 hpk
 rw [hk6] at HP2
 have hj : j < P.length := by omega
 obtain ⟨lb, lcap, el, _, _⟩ := h0.lw.head (by rw [List.length_map]; omega)
 have hlw := h0.lw
 injection el with el1 el2 el3
 rw [el1] at hlw
 have k0 := owPp hlw (i := j) (by rw [List.length_map]; exact hj)
 have er : (P.map fun x => x.1.r).getD j 0 = (pz P j).1.r := by
  unfold pz
  simp [List.getD, hj]
 rw [er] at k0
 obtain ⟨c0, c1, cf⟩ := h0.cells
 rw [el1] at c0
 obtain ⟨x, ex⟩ : ∃ x, (pz P j).1 = x := ⟨_, rfl⟩
 obtain ⟨s, es⟩ : ∃ x, (pz P j).2 = x := ⟨_, rfl⟩
 rw [ex] at k0
 have o0 : W.cell? ⟨g, 0, none⟩ = some (.int .i64 o.kd) := by rw [cell_of_row _ _ _ _ _ _ p0]; rfl
 have o1 : W.cell? ⟨g, 1, none⟩ = some (.int .i64 o.wh) := by rw [cell_of_row _ _ _ _ _ _ p0]; rfl
 have HH := hid h0
 have HO := hid p0
 have HW := hid A0
 have HLo := hid el1
 have HX := hid (And.intro ex es)
 have HOk := hid hok
 have HNl := hid hNl
 have HQl := hid hQl
 have HPl := hid hPl
 have hji : (j : Int) < (P.length : Int) := by omega
 clear h h0 p0 A0 hlw er el2 el3 el1 ex es
 go_enter Tryd.func6, Tryd.ntmps6
 go_upto_region 1 with fail
 go_quiet ((go_at_call 15; exact Calls.quiet_of_same (HP1.out _)))
 have sW2 : Still W (W.drewN nq) := (Fr.refl _ W).drewN nq
 obtain ⟨W2, eW2⟩ : ∃ V, W.drewN nq = V := ⟨_, rfl⟩
 rw [eW2] at sW2 ⊢
 have hpr := (HH.out.still sW2).pr j hj
 rw [HX.out.1, HX.out.2] at hpr
 obtain ⟨a0, a1, af⟩ := hpr.1.b.cells
 have HPr := hid hpr
 have HH2 := hid (HH.out.still sW2)
 have HO2 := hid (HO.out.still sW2)
 have HW2 := hid (HW.out.trans sW2)
 have HGl : Hid (w.heap.size = g) := hid eg
 clear c0 c1 cf k0 o0 o1 hpr HH HO HW eW eW2 sW2
 have o0 : W2.cell? ⟨g, 0, none⟩ = some (.int .i64 o.kd) := by rw [cell_of_row _ _ _ _ _ _ HO2.out]; rfl
 have o11 : W2.cell? ⟨g, 11, none⟩ = some (.int .i64 o.d.kd) := by rw [cell_of_row _ _ _ _ _ _ HO2.out]; rfl
 have o12 : W2.cell? ⟨g, 12, none⟩ = some (.int .u64 o.d.ss) := by rw [cell_of_row _ _ _ _ _ _ HO2.out]; rfl
 have o13 : W2.cell? ⟨g, 13, none⟩ = some (.int .i64 o.d.fr) := by rw [cell_of_row _ _ _ _ _ _ HO2.out]; rfl
 have o14 : W2.cell? ⟨g, 14, none⟩ = some (.int .i64 o.d.to) := by rw [cell_of_row _ _ _ _ _ _ HO2.out]; rfl
 have o15 : W2.cell? ⟨g, 15, none⟩ = some (.int .i64 o.d.mrk) := by rw [cell_of_row _ _ _ _ _ _ HO2.out]; rfl
 have o16 : W2.cell? ⟨g, 16, none⟩ = some (.int .i64 o.d.fi) := by rw [cell_of_row _ _ _ _ _ _ HO2.out]; rfl
 have o17 : W2.cell? ⟨g, 17, none⟩ = some (.slice o.co o.cn o.cp) := by rw [cell_of_row _ _ _ _ _ _ HO2.out]; rfl
 have o18 : W2.cell? ⟨g, 18, none⟩ = some (.int .i64 o.d.ak) := by rw [cell_of_row _ _ _ _ _ _ HO2.out]; rfl
 have hqk := pk_in o.n Q.length (by omega)
 have HPq := hid (fun w => pick_any o.n Q.length HOk.out.n (by omega) (by omega) w)
 obtain ⟨m, em⟩ : ∃ j : Nat, pk o.n Q.length = (j : Int) := ⟨(pk o.n Q.length).toNat, by omega⟩
 rw [em] at HPq hqk
 have hmq : m < Q.length := by omega
 obtain ⟨qd1, qd2, qd3, qd4⟩ := HH2.out.qd m hmq
 obtain ⟨mb', mcap, el', _, hml⟩ := HH2.out.mw.head (by omega)
 injection el' with el1' el2' el3'
 have A3 := Still.alloc W2 (.cells (dgc o.d o.co o.cn o.cp) 39)
 have p3 := newDg_b W2 o.d o.co o.cn o.cp
 unfold newDg at p3
 have hh3 := HH2.out.still A3
 have oo3 := HO2.out.still A3
 obtain ⟨g3, eg3⟩ : ∃ g, W2.heap.size = g := ⟨_, rfl⟩
 obtain ⟨W3, eW3⟩ : ∃ W, W2.alloc (.cells (dgc o.d o.co o.cn o.cp) 39) = W := ⟨_, rfl⟩
 rw [eW3] at p3 hh3 oo3 A3
 rw [eg3] at p3
 have HS3 := hid A3
 have HH3 := hid hh3
 have HD3 := hid p3
 have HO3 := hid oo3
 obtain ⟨f0, f1, ff⟩ := hh3.cells
 have q20 : W3.cell? ⟨g, 20, none⟩ = some (.bool true) := by rw [cell_of_row _ _ _ _ _ _ oo3, <- hnx]; rfl
 have hlq : (0 : Int) < (Q.length : Int) := by omega
 have HMo := hid el1'
 have HHm : Hid (m < Q.length) := hid hmq
 have HQd := hid (And.intro qd1 (And.intro qd2 (And.intro qd3 qd4)))
 have hmi : (m : Int) < (Q.length : Int) := by omega
 have HG3 := hid eg3
 clear A3 hnx p3 hh3 oo3 el2' el3' qd1 qd2 qd3 qd4 em el1'
 go_upto_region 24 with (go_at_call 15; refine (HP2.out _).mono ?_; rintro e w2 ⟨he, hw2⟩; rw [he, hw2]; clear he hw2)
 clear eW3 f0 f1 ff q20 o11 o12 o13 o14 o15 o16 o17 o18 o0 a0 a1 af
 have hw3 := HH3.out.mw
 rw [HMo.out] at hw3
 obtain ⟨k0, k1, k2, k3, k4, k5, k6, k7⟩ := owDq hw3 (i := m) HHm.out
 obtain ⟨y, ey⟩ : ∃ y, dq Q m = y := ⟨_, rfl⟩
 rw [ey] at k0 k1 k2 k3 k4 k5 k6 k7
 have HY := hid ey
 obtain ⟨f0, f1, ff⟩ := HH3.out.cells
 rw [HMo.out] at f1
 have q19 : W3.cell? ⟨g, 19, none⟩ = some (.int .i64 o.n) := by rw [cell_of_row _ _ _ _ _ _ HO3.out]; rfl
 have r0 := Cl.cell k0
 have r1 := Cl.cell k1
 have r2 := Cl.cell k2
 have r3 := Cl.cell k3
 have r4 := Cl.cell k4
 have r5 := Cl.cell k5
 have r6 := Cl.cell k6
 have r7 := Cl.cell k7
 have r8 := Cl.cell f1
 have r9 := Cl.cell q19
 have hne := Aft.here W3
 clear f0 f1 ff q19 k0 k1 k2 k3 k4 k5 k6 k7 hw3 ey
 refine region_rest 14 (by kernel_rfl) (by kernel_rfl) ?_
 simp only [List.take_succ_cons, List.take_zero, List.drop_succ_cons, List.drop_zero]
 repeat (go_big_quiet_step ((go_at_call 15; with_reducible exact Calls.cl_same (HPq.out _))))
 refine wpQuiet_nil ?_
 intro w5 h5
 have hd5 := HD3.out.still h5
 obtain ⟨b0, b1, b2, b3, b4, b5, b6, b7, bf⟩ := hd5.cells
 have f6 : Fr (fun k => k = g3) w5 (setDg w5 g3 y.d y.co y.cn y.cp) := setDg_fr (Fr.refl _ _) g3 y.d y.co y.cn y.cp (.inl rfl)
 have s6 : Still W2 (setDg w5 g3 y.d y.co y.cn y.cp) := Fr.trans (HS3.out.trans h5) f6 (fun k hk e => by have := HG3.out; omega)
 have hd6 := hd5.set y.d y.co y.cn y.cp
 obtain ⟨W6, eW6⟩ : ∃ V, setDg w5 g3 y.d y.co y.cn y.cp = V := ⟨_, rfl⟩
 rw [eW6] at s6 hd6
 have hh6 := HH2.out.still s6
 have oo6 := HO2.out.still s6
 have HPr6 := hid (HPr.out.1.still s6)
 have HQ6 := hid (hh6.qd m HHm.out)
 rw [HY.out] at HQ6
 have HTk := hid (ptake_any x w0.heap.size y.cn y.cp y.co s y.d o.ld (by have := HPr.out.2.2; have := HNl.out; omega) HPr.out.2.1 HQ6.out.1 (by have := HQ6.out.2.1; omega) W6 hh6.ot HPr6.out hh6.ng hh6.st.size HQ6.out.2.2.1 (fun a ha => by
  obtain ⟨e0, ⟨cur, hc⟩, e2⟩ := HQ6.out.2.2.2 a ha.2
  have ht : ∀ k, PqB x k -> a.block ≠ k := fun k hk e => by
   have := HPr6.out.tB (k := a.block) (by rw [e]; exact hk) hc
   rcases this with e | e | e <;> exact absurd e (by decide)
  have e3 := e2 j hj
  rw [HX.out.1] at e3
  exact ⟨block_lt hc, ht x.p (.inr (.inl rfl)), ht x.mb (.inr (.inr (.inl rfl))), ht x.q (.inr (.inr (.inr rfl))), fun b hb e => e3 (.inr (.inr ⟨b, hb, e.symm⟩))⟩))
 have HH6 := hid hh6
 have e10 : W6.cell? ⟨g, 10, none⟩ = some (.int .i64 o.ld) := by rw [cell_of_row _ _ _ _ _ _ oo6]; rfl
 obtain ⟨u0, u1, u2, u3, u4, u5, u6, u7, uf⟩ := hd6.cells
 clear h5 hd5 f6 s6 hd6 hh6 oo6 HPr6 HQ6 r0 r1 r2 r3 r4 r5 r6 r7 r8 r9 hne HPq
 go_wp2_with fail
 refine HTk.out.mono ?_
 rintro e w7 ⟨he, ko', kc', go', gc', h1, h2, h3, h4⟩
 rw [he]
 have HF := hid (HH6.out.took hj HX.out.1 HX.out.2 h1 h2 h3 h4)
 clear he h1 h2 h3 h4 HTk
 go_wp2_with fail
 go_ret
 exact ⟨rfl, HF.out⟩
end Go.Proofs.YtnbofjaecchnaaaDoor
namespace Go.Proofs.YtnbofjaecchnaaaDoor
open Go.RowKit
open Wp Vp Lp
set_option maxRecDepth 100000
set_option linter.unusedVariables false
set_option linter.unusedSimpArgs false
theorem layS_O (s : Ln) (c : Cc) : (layS s c).O.length <= s.O.length + 1 := by
 unfold layS
 split
 ·show (s.O ++ [c]).length <= _
  simp
 ·omega
structure Ly8 (w wx : World) (B g : Nat) (ko : Option Addr) (kc : Nat) (x : Pq) (s s' : Ln) (c : Cc) : Prop where
 l : Lkk wx B x.p x.mb ko kc s'
 b : Prb wx x.r x.p x.q
 y : Ydl wx B x.q x.oo x.oc x.go x.gc s
 c : Ccb wx g c
 t : OTab wx
 f : Fr (fun k => k = x.p \/ Sb x.ko k) w wx
 kb : ∀ a, ko = some a -> (∃ b, x.ko = some b /\ b.block = a.block) \/ w.heap.size <= a.block
theorem Ly8.still {w wx wy : World} {B g : Nat} {ko : Option Addr} {kc : Nat} {x : Pq} {s s' : Ln} {c : Cc} (h : Ly8 w wx B g ko kc x s s' c) (hs : Still wx wy) : Ly8 w wy B g ko kc x s s' c :=
 ⟨h.l.still hs, h.b.still hs, h.y.still hs, h.c.still hs, h.t.still hs, Fr.trans h.f hs (fun _ _ e => e.elim), h.kb⟩
theorem Ly8.make {w u wx : World} {B g : Nat} {ko : Option Addr} {kc : Nat} {x : Pq} {s s' : Ln} {c : Cc} (hp : Pr u B x s) (hn : 3 <= B) (hc : Ccb u g c) (hg : ¬ Sb x.ko g) (ht : OTab u) (hw : Still w u) (hl : Lkk wx B x.p x.mb ko kc s') (hf : Fr (fun k => k = x.p \/ ∃ a, x.ko = some a /\ a.block = k) u wx) (hk : ∀ a, ko = some a -> (∃ b, x.ko = some b /\ b.block = a.block) \/ u.heap.size <= a.block) : Ly8 w wx B g ko kc x s s' c := by
 have tk : ∀ a, x.ko = some a -> ∃ cur, u.heap[a.block]? = some (.cells cur 36 (0, 0)) := fun a ha => (hp.l.kp.bl a ha).2
 refine ⟨hl, hp.b.keep hf (fun e => ?_), hp.y.keep hf (fun e => ?_) (fun a ha e => ?_) (fun a ha e => ?_), hf.kept hc (fun e => ?_), ht.keep hf hn (fun k e => ?_), Fr.trans (Still.to hw) hf (fun _ _ e => e), fun a ha => (hk a ha).imp id (fun e => Nat.le_trans hw.size e)⟩
 ·rcases e with e | ⟨a, ha, e⟩
  ·exact ty_ne hp.b hp.l.bk (by decide) e
  ·obtain ⟨cur, hc⟩ := tk a ha; exact ty_ne hc hp.b (by decide) e
 ·rcases e with e | ⟨a, ha, e⟩
  ·exact ty_ne hp.y.bk hp.l.bk (by decide) e
  ·obtain ⟨cur, hc⟩ := tk a ha; exact ty_ne hc hp.y.bk (by decide) e
 ·obtain ⟨cur, hc⟩ := ow_ty hp.y.ow (own_some.2 ⟨a, ha, rfl⟩)
  rcases e with e | ⟨b, hb, e⟩
  ·exact ty_ne hc hp.l.bk (by decide) e
  ·exact hp.no b a hb ha e
 ·obtain ⟨cur, hc⟩ := ow_ty hp.y.gw (own_some.2 ⟨a, ha, rfl⟩)
  rcases e with e | ⟨b, hb, e⟩
  ·exact ty_ne hc hp.l.bk (by decide) e
  ·exact hp.ng b a hb ha e
 ·rcases e with e | e
  ·exact ty_ne hc hp.l.bk (by decide) e
  ·exact hg e
 ·rcases e with rfl | ⟨a, ha, rfl⟩
  ·exact hp.l.lp
  ·exact (hp.l.kp.bl a ha).1
theorem Ly8.end {w u wy : World} {B g : Nat} {ko : Option Addr} {kc : Nat} {x : Pq} {s s' : Ln} {c : Cc} {oo : Option Addr} {oc : Nat} (hp : Pr w B x s) (h : Ly8 w u B g ko kc x s s' c) (hy : Ydl wy B x.q oo oc x.go x.gc s') (hf : Fr (fun k => k = x.q \/ ∃ a, x.oo = some a /\ a.block = k) u wy) (hk : ∀ a, oo = some a -> (∃ b, x.oo = some b /\ b.block = a.block) \/ u.heap.size <= a.block) : Pr wy B ⟨x.r, x.p, x.mb, ko, kc, x.q, oo, oc, x.go, x.gc⟩ s' /\ Fr (fun k => (k = x.p \/ Sb x.ko k) \/ (k = x.q \/ Sb x.oo k)) w wy := by
 have lo : ∀ b, x.oo = some b -> b.block < w.heap.size := fun b hb => (hp.y.ob b hb).2.1
 have lg : ∀ b, x.go = some b -> b.block < w.heap.size := fun b hb => (hp.y.gb b hb).2.1
 have lk : ∀ a, ko = some a -> a.block < u.heap.size := fun a ha => (h.l.ne.2 a ha).2.2
 have ko_oo : ∀ a b, ko = some a -> x.oo = some b -> a.block ≠ b.block := fun a b ha hb => by
  rcases h.kb a ha with ⟨c, hc, e⟩ | e
  ·rw [<- e]; exact hp.no c b hc hb
  ·have := lo b hb; omega
 have too : ∀ b, x.oo = some b -> ∃ cur, u.heap[b.block]? = some (.cells cur 36 (0, 0)) := fun b hb => ow_ty h.y.ow (own_some.2 ⟨b, hb, rfl⟩)
 refine ⟨⟨h.b.keep hf (fun e => ?_), h.l.keep hf (fun e => ?_) (fun e => ?_) (fun a ha e => ?_), hy, fun a b ha hb => ?_, fun a b ha hb => ?_, hp.lr⟩, Fr.trans (h.f.mono (fun _ _ e => .inl e)) hf (fun _ _ e => .inr e)⟩
 ·rcases e with e | ⟨b, hb, e⟩
  ·exact ty_ne h.b h.y.bk (by decide) e
  ·obtain ⟨cur, hc⟩ := too b hb; exact ty_ne hc h.b (by decide) e
 ·rcases e with e | ⟨b, hb, e⟩
  ·exact ty_ne h.l.bk h.y.bk (by decide) e
  ·obtain ⟨cur, hc⟩ := too b hb; exact ty_ne hc h.l.bk (by decide) e
 ·obtain ⟨es, c2, hm⟩ := h.l.mp.map
  rcases e with e | ⟨b, hb, e⟩
  ·exact map_ne h.y.bk hm e.symm
  ·obtain ⟨cur, hc⟩ := too b hb; exact map_ne hc hm e
 ·rcases e with e | ⟨b, hb, e⟩
  ·obtain ⟨cur, hc⟩ := (h.l.kp.bl a ha).2; exact ty_ne hc h.y.bk (by decide) e
  ·exact ko_oo a b ha hb e.symm
 ·rcases h.kb a ha with ⟨c, hc, e⟩ | e
  ·have := hp.ng c b hc hb; intro e2; exact this (e.trans e2)
  ·have := lg b hb; omega
 ·rcases hk b hb with ⟨b0, hb0, e0⟩ | e1
  ·have := ko_oo a b0 ha hb0; intro e2; exact this (e2.trans e0.symm)
  ·have := lk a ha; omega
theorem St.laid {w0 w w' : World} {wb : Nat} {lo : Option Addr} {lc : Nat} {mo : Option Addr} {mc : Nat} {P : List (Pq × Ln)} {Q : List Dq} {N : Nat} (h : St w0 w wb lo lc mo mc P Q N) {i : Nat} (hi : i < P.length) {x : Pq} {s : Ln} (ex : (pz P i).1 = x) (es : (pz P i).2 = s) {c : Cc} {ko oo : Option Addr} {kc oc : Nat} (hp : Pr w' w0.heap.size ⟨x.r, x.p, x.mb, ko, kc, x.q, oo, oc, x.go, x.gc⟩ (layS s c)) (hf : Fr (fun k => (k = x.p \/ Sb x.ko k) \/ (k = x.q \/ Sb x.oo k)) w w') (hk : ∀ a, ko = some a -> (∃ b, x.ko = some b /\ b.block = a.block) \/ w.heap.size <= a.block) (hg : ∀ a, oo = some a -> (∃ b, x.oo = some b /\ b.block = a.block) \/ w.heap.size <= a.block) : Aft18 w0 w' wb P Q N := by
 have hft := (h.pr i hi).2.1.lay c
 have hN := (h.pr i hi).2.2
 rw [es] at hft hN
 refine ⟨lo, mo, lc, mc, P.set i (⟨x.r, x.p, x.mb, ko, kc, x.q, oo, oc, x.go, x.gc⟩, layS s c), Q, h.step hi hf (fun k e => ?_) hp hft (fun k e => ?_) (by rw [ex]) (fun k e => ?_) (by have := layS_O s c; omega) (Nat.le_succ _), List.length_set, fun j hj => ?_, Nat.le_succ _⟩
 ·rw [ex]
  rcases e with (e | e) | (e | e)
  ·exact .inl (.inr (.inl e))
  ·exact .inr (.inl e)
  ·exact .inl (.inr (.inr (.inr e)))
  ·exact .inr (.inr (.inl e))
 ·rw [ex]; exact e
 ·rw [ex]
  rcases e with ⟨a, ha, e⟩ | ⟨a, ha, e⟩ | e
  ·rcases hk a ha with ⟨b, hb, e2⟩ | e2
   ·exact .inl (.inl ⟨b, hb, by omega⟩)
   ·exact .inr (by omega)
  ·rcases hg a ha with ⟨b, hb, e2⟩ | e2
   ·exact .inl (.inr (.inl ⟨b, hb, by omega⟩))
   ·exact .inr (by omega)
  ·exact .inl (.inr (.inr e))
 ·by_cases hij : i = j
  ·subst hij
   rw [pz_same hi, ex]
  ·rw [pz_ne hij]
end Go.Proofs.YtnbofjaecchnaaaDoor
namespace Go.Proofs.YtnbofjaecchnaaaDoor
open Go.RowKit
open Wp Vp Lp
set_option maxRecDepth 100000
set_option linter.unusedVariables false
set_option linter.unusedSimpArgs false
set_option maxHeartbeats 16000000 in
theorem ldoes_lay (o : Opq) (w0 w : World) (wb : Nat) (lo : Option Addr) (lc : Nat) (mo : Option Addr) (mc : Nat) (P : List (Pq × Ln)) (Q : List Dq) (N : Nat) (hok : OpOk w0 o) (hk6 : pk o.kd 6 = 0) (hNl : N <= 900000000000) (hP : 0 < P.length) (hPl : P.length <= 1000000000000) (h : St w0 w wb lo lc mo mc P Q N) : Calls Tryd.prog 6 #[.pointer (some ⟨wb, 0, none⟩), .agg (opc o)] w fun e w' => e = .returned (.bool true) /\ Aft18 w0 w' wb P Q N := by
  have A0 := Still.alloc w (.cells (opc o) 41)
  have p0 : Ob18 (w.alloc (.cells (opc o) 41)) w.heap.size o := heap_alloc_new w _
  have h0 := h.still A0
  obtain ⟨g, eg⟩ : ∃ g, w.heap.size = g := ⟨_, rfl⟩
  obtain ⟨W, eW⟩ : ∃ W, w.alloc (.cells (opc o) 41) = W := ⟨_, rfl⟩
  rw [eW] at A0 p0 h0
  rw [eg] at p0
  have hpk := pk_in o.wh P.length (by omega)
  have HP1 := hid (fun w => pick_any o.wh P.length hok.wh (by omega) (by omega) w)
  have HP2 := hid (fun w => pick_any o.kd 6 hok.kd (by omega) (by omega) w)
  obtain ⟨j, ej⟩ : ∃ j : Nat, pk o.wh P.length = (j : Int) := ⟨(pk o.wh P.length).toNat, by omega⟩
  rw [ej] at HP1 hpk
  rw [hk6] at HP2
  have hj : j < P.length := by omega
  obtain ⟨lb, lcap, el, _, _⟩ := h0.lw.head (by rw [List.length_map]; omega)
  have hlw := h0.lw
  injection el with el1 el2 el3
  rw [el1] at hlw
  have k0 := owPp hlw (i := j) (by rw [List.length_map]; exact hj)
  have er : (P.map fun x => x.1.r).getD j 0 = (pz P j).1.r := by
    unfold pz
    simp [List.getD, hj]
  rw [er] at k0
  obtain ⟨c0, c1, cf⟩ := h0.cells
  rw [el1] at c0
  obtain ⟨x, ex⟩ : ∃ x, (pz P j).1 = x := ⟨_, rfl⟩
  obtain ⟨s, es⟩ : ∃ x, (pz P j).2 = x := ⟨_, rfl⟩
  rw [ex] at k0
  have o0 : W.cell? ⟨g, 0, none⟩ = some (.int .i64 o.kd) := by rw [cell_of_row _ _ _ _ _ _ p0]; rfl
  have o1 : W.cell? ⟨g, 1, none⟩ = some (.int .i64 o.wh) := by rw [cell_of_row _ _ _ _ _ _ p0]; rfl
  have HH := hid h0
  have HO := hid p0
  have HW := hid A0
  have HLo := hid el1
  have HX := hid (And.intro ex es)
  have HOk := hid hok
  have HNl := hid hNl
  have HPl := hid hPl
  have hji : (j : Int) < (P.length : Int) := by omega
  clear h h0 p0 A0 hlw er el2 el3 el1 ex es
  go_enter Tryd.func6, Tryd.ntmps6
  go_upto_region 1 with fail
  go_quiet ((go_at_call 15; exact Calls.quiet_of_same (HP1.out _)))
  have sW2 : Still W (W.drewN nq) := (Fr.refl _ W).drewN nq
  obtain ⟨W2, eW2⟩ : ∃ V, W.drewN nq = V := ⟨_, rfl⟩
  rw [eW2] at sW2 ⊢
  have hpr := (HH.out.still sW2).pr j hj
  rw [HX.out.1, HX.out.2] at hpr
  obtain ⟨a0, a1, af⟩ := hpr.1.b.cells
  have HPr := hid hpr
  have HH2 := hid (HH.out.still sW2)
  have HO2 := hid (HO.out.still sW2)
  have HW2 := hid (HW.out.trans sW2)
  have HGl : Hid (w.heap.size = g) := hid eg
  clear c0 c1 cf k0 o0 o1 hpr HH HO HW eW eW2 sW2
  have o0 : W2.cell? ⟨g, 0, none⟩ = some (.int .i64 o.kd) := by rw [cell_of_row _ _ _ _ _ _ HO2.out]; rfl
  have o2 : W2.cell? ⟨g, 2, none⟩ = some (.int .i64 o.c.fr) := by rw [cell_of_row _ _ _ _ _ _ HO2.out]; rfl
  have o3 : W2.cell? ⟨g, 3, none⟩ = some (.int .i64 o.c.pe) := by rw [cell_of_row _ _ _ _ _ _ HO2.out]; rfl
  have o4 : W2.cell? ⟨g, 4, none⟩ = some (.int .i64 o.c.sq) := by rw [cell_of_row _ _ _ _ _ _ HO2.out]; rfl
  have o5 : W2.cell? ⟨g, 5, none⟩ = some (.int .i64 o.c.v) := by rw [cell_of_row _ _ _ _ _ _ HO2.out]; rfl
  have o6 : W2.cell? ⟨g, 6, none⟩ = some (.int .i64 o.c.a) := by rw [cell_of_row _ _ _ _ _ _ HO2.out]; rfl
  have o7 : W2.cell? ⟨g, 7, none⟩ = some (.int .i64 o.c.b) := by rw [cell_of_row _ _ _ _ _ _ HO2.out]; rfl
  have o8 : W2.cell? ⟨g, 8, none⟩ = some (.int .i64 o.c.c) := by rw [cell_of_row _ _ _ _ _ _ HO2.out]; rfl
  have A3 := Still.alloc W2 (.cells (kmc o.c) 36)
  have p3 := newCc_b W2 o.c
  unfold newCc at p3
  have oo3 := HO2.out.still A3
  obtain ⟨g3, eg3⟩ : ∃ g, W2.heap.size = g := ⟨_, rfl⟩
  obtain ⟨W3, eW3⟩ : ∃ W, W2.alloc (.cells (kmc o.c) 36) = W := ⟨_, rfl⟩
  rw [eW3] at p3 oo3 A3
  rw [eg3] at p3
  have q20 : W3.cell? ⟨g, 20, none⟩ = some (.bool o.nx) := by rw [cell_of_row _ _ _ _ _ _ oo3]; rfl
  have HKg : Hid (¬ Sb x.ko g3) := hid (fun e => by have := (HPr.out.1.lt g3 (.inr (.inl e))).1; omega)
  have HKo : Hid (¬ Sb x.oo g3) := hid (fun e => by have := (HPr.out.1.lt g3 (.inr (.inr (.inl e)))).1; omega)
  have HS3 := hid A3
  have HC3 := hid p3
  have HG3 := hid eg3
  clear A3 oo3 p3
  cases hx : o.nx with
  | false =>
    rw [hx] at q20
    go_upto_region 8 with (go_at_call 15; refine (HP2.out _).mono ?_; rintro e w2 ⟨he, hw2⟩; rw [he, hw2]; clear he hw2)
    clear eW3 q20 o0 o2 o3 o4 o5 o6 o7 o8 a0 a1 af
    have HS4 := HS3
    have HC4 := HC3
    obtain ⟨C, eC⟩ : ∃ C, o.c = C := ⟨_, rfl⟩
    rw [eC] at HC4
    obtain ⟨W4, eW4⟩ : ∃ V, V = W3 := ⟨_, rfl⟩
    subst eW4
    have HP4 := hid (HPr.out.1.still HS4.out)
    have HT4 := hid (HH2.out.ot.still HS4.out)
    have HNg := hid HH2.out.ng
    have HLa : Hid (∀ u, Still W4 u -> Calls Tryd.prog 16 #[.pointer (some ⟨x.p, 0, none⟩), kmv C] u fun e w' => ∃ ko kc, e = .returned (.int .i64 (layE s C)) /\ Ly8 W4 w' w0.heap.size g3 ko kc x s (layS s C) C) := hid (fun u hu => by
      refine (llay_any x.p x.ko x.kc x.mb w0.heap.size s C (by have := HPr.out.2.2; have := HNl.out; omega) HPr.out.2.1.a1 u (HP4.out.l.still hu)).mono ?_
      rintro e w' ⟨ko, kc, he, h1, h2, h3⟩
      exact ⟨ko, kc, he, Ly8.make (HP4.out.still hu) HNg.out (HC4.out.still hu) HKg.out (HT4.out.still hu) hu h1 h2 h3⟩)
    obtain ⟨E, eE⟩ : ∃ E, layE s C = E := ⟨_, rfl⟩
    rw [eE] at HLa
    have HE := hid eE
    clear eE
    obtain ⟨a0, a1, af⟩ := HP4.out.b.cells
    obtain ⟨c0, c1, c2, c3, c4, c5, c6, cf⟩ := HC4.out.cells
    go_cut [7] (fun v wx => ∃ ko kc, v = .int .i64 E /\ Hid (Ly8 W4 wx w0.heap.size g3 ko kc x s (layS s C) C))
    case first =>
      go_region_held3 (fun w' => w'.cell? ⟨x.r, 0, none⟩ = some (.pointer (some ⟨x.p, 0, none⟩)) /\ w'.cell? ⟨g3, 0, none⟩ = some (.int .i64 C.fr) /\ w'.cell? ⟨g3, 1, none⟩ = some (.int .i64 C.pe) /\ w'.cell? ⟨g3, 2, none⟩ = some (.int .i64 C.sq) /\ w'.cell? ⟨g3, 3, none⟩ = some (.int .i64 C.v) /\ w'.cell? ⟨g3, 4, none⟩ = some (.int .i64 C.a) /\ w'.cell? ⟨g3, 5, none⟩ = some (.int .i64 C.b) /\ w'.cell? ⟨g3, 6, none⟩ = some (.int .i64 C.c)) (go_keep)
        (first
          | (go_at_call 16
             refine (HLa.out _ (by repeat (first | exact Fr.refl _ _ | refine Fr.drew ?_ | refine Fr.alloc ?_ _))).mono ?_
             rintro e w5 ⟨ko, kc, rfl, t5⟩
             obtain ⟨v0, v1, v2, v3, v4', v5', v6', vf⟩ := t5.c.cells
             obtain ⟨e0, e1, ef⟩ := t5.b.cells
             have HR5 := hid t5
             clear t5))
      all_goals
        (go_wp2_with fail
         go_meet
         exact ⟨ko, kc, rfl, HR5⟩)
    case rest =>
      obtain ⟨ko, kc, rfl, HX5⟩ := hcut
      obtain ⟨W5, eW5⟩ : ∃ V, V = wc := ⟨_, rfl⟩
      subst eW5
      clear a0 a1 af c0 c1 c2 c3 c4 c5 c6 cf HLa
      have HLb : Hid (∀ u, Still W5 u -> Calls Tryd.prog 17 #[.pointer (some ⟨x.q, 0, none⟩), kmv C] u fun e w' => e = .returned (.int .i64 E) /\ Prb w' x.r x.p x.q /\ Ccb w' g3 C /\ Aft18 w0 w' wb P Q N) := hid (fun u hu => by
        have h5 := HX5.out.still hu
        refine (rlay_any x.q x.oo x.oc x.go x.gc w0.heap.size s C (by have := HPr.out.2.2; have := HNl.out; omega) HPr.out.2.1.a1 u h5.t h5.y).mono ?_
        rintro e w' ⟨oo, oc, he, h1, h2, h3⟩
        rw [HE.out] at he
        have hz := Ly8.end HP4.out h5 h1 h2 h3
        exact ⟨he, hz.1.b, h2.kept h5.c (fun e => by rcases e with e | e; exact ty_ne h5.c h5.y.bk (by decide) e; exact HKo.out e), (HH2.out.still HS4.out).laid hj HX.out.1 HX.out.2 hz.1 hz.2 h5.kb (fun a ha => (h3 a ha).imp id (fun e => Nat.le_trans h5.f.size e))⟩)
      obtain ⟨a0, a1, af⟩ := HX5.out.b.cells
      obtain ⟨c0, c1, c2, c3, c4, c5, c6, cf⟩ := HX5.out.c.cells
      go_upto_region 9 with fail
      go_cut [8] (fun v wx => v = .int .i64 E /\ Hid (Aft18 w0 wx wb P Q N))
      case first =>
        go_region_held3 (fun w' => w'.cell? ⟨x.r, 1, none⟩ = some (.pointer (some ⟨x.q, 0, none⟩)) /\ w'.cell? ⟨g3, 0, none⟩ = some (.int .i64 C.fr) /\ w'.cell? ⟨g3, 1, none⟩ = some (.int .i64 C.pe) /\ w'.cell? ⟨g3, 2, none⟩ = some (.int .i64 C.sq) /\ w'.cell? ⟨g3, 3, none⟩ = some (.int .i64 C.v) /\ w'.cell? ⟨g3, 4, none⟩ = some (.int .i64 C.a) /\ w'.cell? ⟨g3, 5, none⟩ = some (.int .i64 C.b) /\ w'.cell? ⟨g3, 6, none⟩ = some (.int .i64 C.c)) (go_keep)
          (first
            | (go_at_call 17
               refine (HLb.out _ (by repeat (first | exact Fr.refl _ _ | refine Fr.drew ?_ | refine Fr.alloc ?_ _))).mono ?_
               rintro e w6 ⟨rfl, t6, t8, t7⟩
               obtain ⟨v0, v1, v2, v3, v4', v5', v6', vf⟩ := t8.cells
               obtain ⟨e0, e1, ef⟩ := t6.cells
               have HR6 := hid t7
               clear t6 t7 t8))
        all_goals
          (go_wp2_with fail
           go_meet
           exact ⟨rfl, HR6⟩)
      case rest =>
        obtain ⟨rfl, HX6⟩ := hcut
        clear a0 a1 af c0 c1 c2 c3 c4 c5 c6 cf HLb
        have hee : (E == E) = true := by simp
        go_wp2_with fail
        go_ret
        exact ⟨rfl, HX6.out⟩
  | true =>
    rw [hx] at q20
    obtain ⟨b0, b1, b2, b3, b4, b5, b6, bf⟩ := HC3.out.cells
    obtain ⟨d0, d1, df⟩ := (HPr.out.1.still HS3.out).b.cells
    obtain ⟨y0, y1, y2, y3, y4, y5, y6, y7, yf⟩ := (HPr.out.1.still HS3.out).y.cells
    have hwr : IntKind.i64.wrap ((s.O.length : Int) + 1) = (s.O.length : Int) + 1 := wr64 (by omega) (by have := HPr.out.2.2; have := HNl.out; omega)
    have k1 : g3 ≠ x.r := by have := (HPr.out.1.lt x.r (.inl (.inl rfl))).1; omega
    have k2 : g3 ≠ x.q := by have := (HPr.out.1.lt x.q (.inl (.inr (.inr (.inr rfl))))).1; omega
    go_upto_region 8 with (go_at_call 15; refine (HP2.out _).mono ?_; rintro e w2 ⟨he, hw2⟩; rw [he, hw2]; clear he hw2)
    clear eW3 q20 o0 o2 o3 o4 o5 o6 o7 o8 a0 a1 af b0 b1 b2 b3 b4 b5 b6 bf d0 d1 df y0 y1 y2 y3 y4 y5 y6 y7 yf hwr k1 k2
    have z1 := heap_setCell_same W3 g3 1 _ _ (.int .i64 s.se) HC3.out
    have z2 := heap_setCell_same _ g3 2 _ _ (.int .i64 ((s.O.length : Int) + 1)) z1
    have hc4 : Ccb ((W3.setCell ⟨g3, 1, none⟩ (.int .i64 s.se)).setCell ⟨g3, 2, none⟩ (.int .i64 ((s.O.length : Int) + 1))) g3 ⟨o.c.fr, s.se, (s.O.length : Int) + 1, o.c.v, o.c.a, o.c.b, o.c.c⟩ := z2.trans (by rfl)
    have hs4 : Still W2 ((W3.setCell ⟨g3, 1, none⟩ (.int .i64 s.se)).setCell ⟨g3, 2, none⟩ (.int .i64 ((s.O.length : Int) + 1))) := Fr.setCell (Fr.setCell HS3.out _ _ (.inr (by rw [HG3.out]; exact Nat.le_refl _))) _ _ (.inr (by rw [HG3.out]; exact Nat.le_refl _))
    obtain ⟨C, eC⟩ : ∃ C : Cc, (⟨o.c.fr, s.se, (s.O.length : Int) + 1, o.c.v, o.c.a, o.c.b, o.c.c⟩ : Cc) = C := ⟨_, rfl⟩
    obtain ⟨W4, eW4⟩ : ∃ V, (W3.setCell ⟨g3, 1, none⟩ (.int .i64 s.se)).setCell ⟨g3, 2, none⟩ (.int .i64 ((s.O.length : Int) + 1)) = V := ⟨_, rfl⟩
    rw [eC] at hc4
    rw [eW4] at hc4 hs4 ⊢
    have HC4 := hid hc4
    have HS4 := hid hs4
    clear z1 z2 hc4 hs4 eC eW4
    have HP4 := hid (HPr.out.1.still HS4.out)
    have HT4 := hid (HH2.out.ot.still HS4.out)
    have HNg := hid HH2.out.ng
    have HLa : Hid (∀ u, Still W4 u -> Calls Tryd.prog 16 #[.pointer (some ⟨x.p, 0, none⟩), kmv C] u fun e w' => ∃ ko kc, e = .returned (.int .i64 (layE s C)) /\ Ly8 W4 w' w0.heap.size g3 ko kc x s (layS s C) C) := hid (fun u hu => by
      refine (llay_any x.p x.ko x.kc x.mb w0.heap.size s C (by have := HPr.out.2.2; have := HNl.out; omega) HPr.out.2.1.a1 u (HP4.out.l.still hu)).mono ?_
      rintro e w' ⟨ko, kc, he, h1, h2, h3⟩
      exact ⟨ko, kc, he, Ly8.make (HP4.out.still hu) HNg.out (HC4.out.still hu) HKg.out (HT4.out.still hu) hu h1 h2 h3⟩)
    obtain ⟨E, eE⟩ : ∃ E, layE s C = E := ⟨_, rfl⟩
    rw [eE] at HLa
    have HE := hid eE
    clear eE
    obtain ⟨a0, a1, af⟩ := HP4.out.b.cells
    obtain ⟨c0, c1, c2, c3, c4, c5, c6, cf⟩ := HC4.out.cells
    go_cut [7] (fun v wx => ∃ ko kc, v = .int .i64 E /\ Hid (Ly8 W4 wx w0.heap.size g3 ko kc x s (layS s C) C))
    case first =>
      go_region_held3 (fun w' => w'.cell? ⟨x.r, 0, none⟩ = some (.pointer (some ⟨x.p, 0, none⟩)) /\ w'.cell? ⟨g3, 0, none⟩ = some (.int .i64 C.fr) /\ w'.cell? ⟨g3, 1, none⟩ = some (.int .i64 C.pe) /\ w'.cell? ⟨g3, 2, none⟩ = some (.int .i64 C.sq) /\ w'.cell? ⟨g3, 3, none⟩ = some (.int .i64 C.v) /\ w'.cell? ⟨g3, 4, none⟩ = some (.int .i64 C.a) /\ w'.cell? ⟨g3, 5, none⟩ = some (.int .i64 C.b) /\ w'.cell? ⟨g3, 6, none⟩ = some (.int .i64 C.c)) (go_keep)
        (first
          | (go_at_call 16
             refine (HLa.out _ (by repeat (first | exact Fr.refl _ _ | refine Fr.drew ?_ | refine Fr.alloc ?_ _))).mono ?_
             rintro e w5 ⟨ko, kc, rfl, t5⟩
             obtain ⟨v0, v1, v2, v3, v4', v5', v6', vf⟩ := t5.c.cells
             obtain ⟨e0, e1, ef⟩ := t5.b.cells
             have HR5 := hid t5
             clear t5))
      all_goals
        (go_wp2_with fail
         go_meet
         exact ⟨ko, kc, rfl, HR5⟩)
    case rest =>
      obtain ⟨ko, kc, rfl, HX5⟩ := hcut
      obtain ⟨W5, eW5⟩ : ∃ V, V = wc := ⟨_, rfl⟩
      subst eW5
      clear a0 a1 af c0 c1 c2 c3 c4 c5 c6 cf HLa
      have HLb : Hid (∀ u, Still W5 u -> Calls Tryd.prog 17 #[.pointer (some ⟨x.q, 0, none⟩), kmv C] u fun e w' => e = .returned (.int .i64 E) /\ Prb w' x.r x.p x.q /\ Ccb w' g3 C /\ Aft18 w0 w' wb P Q N) := hid (fun u hu => by
        have h5 := HX5.out.still hu
        refine (rlay_any x.q x.oo x.oc x.go x.gc w0.heap.size s C (by have := HPr.out.2.2; have := HNl.out; omega) HPr.out.2.1.a1 u h5.t h5.y).mono ?_
        rintro e w' ⟨oo, oc, he, h1, h2, h3⟩
        rw [HE.out] at he
        have hz := Ly8.end HP4.out h5 h1 h2 h3
        exact ⟨he, hz.1.b, h2.kept h5.c (fun e => by rcases e with e | e; exact ty_ne h5.c h5.y.bk (by decide) e; exact HKo.out e), (HH2.out.still HS4.out).laid hj HX.out.1 HX.out.2 hz.1 hz.2 h5.kb (fun a ha => (h3 a ha).imp id (fun e => Nat.le_trans h5.f.size e))⟩)
      obtain ⟨a0, a1, af⟩ := HX5.out.b.cells
      obtain ⟨c0, c1, c2, c3, c4, c5, c6, cf⟩ := HX5.out.c.cells
      go_upto_region 9 with fail
      go_cut [8] (fun v wx => v = .int .i64 E /\ Hid (Aft18 w0 wx wb P Q N))
      case first =>
        go_region_held3 (fun w' => w'.cell? ⟨x.r, 1, none⟩ = some (.pointer (some ⟨x.q, 0, none⟩)) /\ w'.cell? ⟨g3, 0, none⟩ = some (.int .i64 C.fr) /\ w'.cell? ⟨g3, 1, none⟩ = some (.int .i64 C.pe) /\ w'.cell? ⟨g3, 2, none⟩ = some (.int .i64 C.sq) /\ w'.cell? ⟨g3, 3, none⟩ = some (.int .i64 C.v) /\ w'.cell? ⟨g3, 4, none⟩ = some (.int .i64 C.a) /\ w'.cell? ⟨g3, 5, none⟩ = some (.int .i64 C.b) /\ w'.cell? ⟨g3, 6, none⟩ = some (.int .i64 C.c)) (go_keep)
          (first
            | (go_at_call 17
               refine (HLb.out _ (by repeat (first | exact Fr.refl _ _ | refine Fr.drew ?_ | refine Fr.alloc ?_ _))).mono ?_
               rintro e w6 ⟨rfl, t6, t8, t7⟩
               obtain ⟨v0, v1, v2, v3, v4', v5', v6', vf⟩ := t8.cells
               obtain ⟨e0, e1, ef⟩ := t6.cells
               have HR6 := hid t7
               clear t6 t7 t8))
        all_goals
          (go_wp2_with fail
           go_meet
           exact ⟨rfl, HR6⟩)
      case rest =>
        obtain ⟨rfl, HX6⟩ := hcut
        clear a0 a1 af c0 c1 c2 c3 c4 c5 c6 cf HLb
        have hee : (E == E) = true := by simp
        go_wp2_with fail
        go_ret
        exact ⟨rfl, HX6.out⟩
end Go.Proofs.YtnbofjaecchnaaaDoor
namespace Go.Proofs.YtnbofjaecchnaaaDoor
open Go.RowKit
open Wp Vp Lp
set_option maxRecDepth 100000
set_option linter.unusedVariables false
theorem Aft18.n {w0 w' : World} {wb : Nat} {P : List (Pq × Ln)} {Q : List Dq} {N : Nat} (h : Aft18 w0 w' wb P Q N) : Aft18n w0 w' wb P Q N := by
 obtain ⟨lo, mo, lc, mc, P', Q', h1, h2, h3, h4⟩ := h
 exact ⟨lo, mo, lc, mc, P', Q', h1, by omega, by omega, h3, h4⟩
theorem ldoes_any (o : Opq) (w0 w : World) (wb : Nat) (lo : Option Addr) (lc : Nat) (mo : Option Addr) (mc : Nat) (P : List (Pq × Ln)) (Q : List Dq) (N : Nat) (hok : OpOk w0 o) (hP : 0 < P.length) (hPl : P.length <= 1000000000000) (hQl : Q.length <= 1700000000000) (hNl : N <= 900000000000) (h : St w0 w wb lo lc mo mc P Q N) : Calls Tryd.prog 6 #[.pointer (some ⟨wb, 0, none⟩), .agg (opc o)] w fun e w' => e = .returned (.bool true) /\ Aft18n w0 w' wb P Q N := by
 have hk := pk_in o.kd 6 (by omega)
 have up : ∀ {e : Ending} {w' : World}, (e = .returned (.bool true) /\ Aft18 w0 w' wb P Q N) -> (e = .returned (.bool true) /\ Aft18n w0 w' wb P Q N) := fun h => ⟨h.1, h.2.n⟩
 by_cases h0 : pk o.kd 6 = 0
 ·exact (ldoes_lay o w0 w wb lo lc mo mc P Q N hok h0 hNl hP hPl h).mono (fun e w' => up)
 by_cases h1 : pk o.kd 6 = 1
 ·exact (ldoes_turn o w0 w wb lo lc mo mc P Q N hok h1 hQl (by omega) hP hPl h).mono (fun e w' => up)
 by_cases h2 : pk o.kd 6 = 2
 ·exact (ldoes_ack o w0 w wb lo lc mo mc P Q N hok h2 hQl hP hPl h).mono (fun e w' => up)
 by_cases h3 : pk o.kd 6 = 3
 ·by_cases hx : o.nx = true
  ·by_cases hq : 0 < Q.length
   ·exact (ldoes_takeb o w0 w wb lo lc mo mc P Q N hok h3 hx hq (by omega) (by omega) hP hPl h).mono (fun e w' => up)
   ·exact (ldoes_takea o w0 w wb lo lc mo mc P Q N hok h3 (.inr (List.eq_nil_of_length_eq_zero (by omega))) (by omega) hP hPl h).mono (fun e w' => up)
  ·exact (ldoes_takea o w0 w wb lo lc mo mc P Q N hok h3 (.inl (by simpa using hx)) (by omega) hP hPl h).mono (fun e w' => up)
 by_cases h4 : pk o.kd 6 = 4
 ·exact (ldoes_state o w0 w wb lo lc mo mc P Q N hok h4 hP hPl h).mono (fun e w' => up)
 ·exact ldoes_new o w0 w wb lo lc mo mc P Q N hok (by omega) hP hPl h
end Go.Proofs.YtnbofjaecchnaaaDoor
namespace Go.Proofs.YtnbofjaecchnaaaDoor
open Go.RowKit
open Wp Vp Lp
set_option maxRecDepth 100000
set_option linter.unusedVariables false
set_option linter.unusedSimpArgs false
def zOq : Opq := ⟨0, 0, zC, 0, 0, zD, none, 0, 0, 0, false, 0, 0, 0⟩
def KOq : Kd Opq := ⟨fun o => (opc o).toList, 24, zOq, fun _ => rfl, fun m u hu => by
 simp at hu
 rcases hu with rfl | rfl | rfl | rfl | rfl | rfl | rfl | rfl | rfl | rfl | rfl | rfl | rfl | rfl | rfl | rfl | rfl | rfl | rfl | rfl | rfl | rfl | rfl | rfl <;> rfl, by decide⟩
theorem rdOq {w : World} {B o n : Nat} {L : List Opq} (h : RdG KOq w (some ⟨B, o, none⟩) n L) {i : Nat} (hi : i < n) {x : Opq} (hx : L.getD i KOq.d = x) : w.cell? ⟨B, o + i * 24, none⟩ = some (.int .i64 x.kd) /\ w.cell? ⟨B, o + i * 24 + 1, none⟩ = some (.int .i64 x.wh) /\ w.cell? ⟨B, o + i * 24 + 2, none⟩ = some (.int .i64 x.c.fr) /\ w.cell? ⟨B, o + i * 24 + 3, none⟩ = some (.int .i64 x.c.pe) /\ w.cell? ⟨B, o + i * 24 + 4, none⟩ = some (.int .i64 x.c.sq) /\ w.cell? ⟨B, o + i * 24 + 5, none⟩ = some (.int .i64 x.c.v) /\ w.cell? ⟨B, o + i * 24 + 6, none⟩ = some (.int .i64 x.c.a) /\ w.cell? ⟨B, o + i * 24 + 7, none⟩ = some (.int .i64 x.c.b) /\ w.cell? ⟨B, o + i * 24 + 8, none⟩ = some (.int .i64 x.c.c) /\ w.cell? ⟨B, o + i * 24 + 9, none⟩ = some (.int .i64 x.mk') /\ w.cell? ⟨B, o + i * 24 + 10, none⟩ = some (.int .i64 x.ld) /\ w.cell? ⟨B, o + i * 24 + 11, none⟩ = some (.int .i64 x.d.kd) /\ w.cell? ⟨B, o + i * 24 + 12, none⟩ = some (.int .u64 x.d.ss) /\ w.cell? ⟨B, o + i * 24 + 13, none⟩ = some (.int .i64 x.d.fr) /\ w.cell? ⟨B, o + i * 24 + 14, none⟩ = some (.int .i64 x.d.to) /\ w.cell? ⟨B, o + i * 24 + 15, none⟩ = some (.int .i64 x.d.mrk) /\ w.cell? ⟨B, o + i * 24 + 16, none⟩ = some (.int .i64 x.d.fi) /\ w.cell? ⟨B, o + i * 24 + 17, none⟩ = some (.slice x.co x.cn x.cp) /\ w.cell? ⟨B, o + i * 24 + 18, none⟩ = some (.int .i64 x.d.ak) /\ w.cell? ⟨B, o + i * 24 + 19, none⟩ = some (.int .i64 x.n) /\ w.cell? ⟨B, o + i * 24 + 20, none⟩ = some (.bool x.nx) /\ w.cell? ⟨B, o + i * 24 + 21, none⟩ = some (.int .u64 x.ss) /\ w.cell? ⟨B, o + i * 24 + 22, none⟩ = some (.int .i64 x.se) /\ w.cell? ⟨B, o + i * 24 + 23, none⟩ = some (.int .i64 x.ot) := by
 subst hx
 exact ⟨h.get hi 0 _ rfl, h.get hi 1 _ rfl, h.get hi 2 _ rfl, h.get hi 3 _ rfl, h.get hi 4 _ rfl, h.get hi 5 _ rfl, h.get hi 6 _ rfl, h.get hi 7 _ rfl, h.get hi 8 _ rfl, h.get hi 9 _ rfl, h.get hi 10 _ rfl, h.get hi 11 _ rfl, h.get hi 12 _ rfl, h.get hi 13 _ rfl, h.get hi 14 _ rfl, h.get hi 15 _ rfl, h.get hi 16 _ rfl, h.get hi 17 _ rfl, h.get hi 18 _ rfl, h.get hi 19 _ rfl, h.get hi 20 _ rfl, h.get hi 21 _ rfl, h.get hi 22 _ rfl, h.get hi 23 _ rfl⟩
theorem Pr.new {w : World} {B0 B r p mb q : Nat} {ss se ot : Int} (hb : Prb w r p q) (hl : Lkk w B p mb none 0 (zLn ss se ot)) (hy : Ydl w B q none 0 none 0 (zLn ss se ot)) (hr : B <= r) (z : B0 <= B) : Pr w B0 ⟨r, p, mb, none, 0, q, none, 0, none, 0⟩ (zLn ss se ot) :=
 ⟨hb, ⟨hl.bk, Kp.nil _ _, hl.mp, Nat.le_trans z hl.lp, Nat.le_trans z hl.lm⟩, ⟨hy.bk, hy.ow.less z, hy.gw.less z, Nat.le_trans z hy.lo, hy.ne⟩, (fun a b ha => by cases ha), (fun a b ha => by cases ha), Nat.le_trans z hr⟩
theorem noPqC {r p mb q k : Nat} : ¬ PqC ⟨r, p, mb, none, 0, q, none, 0, none, 0⟩ k := fun hk => by rcases hk with ⟨a, ha, _⟩ | ⟨a, ha, _⟩ | ⟨a, ha, _⟩ <;> cases ha
abbrev ppRow (r r' : Nat) : Obj := .cells #[.pointer (some ⟨r, 0, none⟩), .pointer (some ⟨r', 0, none⟩)] 23
abbrev wdBlk (g : Nat) : Obj := .cells #[.slice (some ⟨g, 0, none⟩) 2 2, .slice none 0 0] 31
theorem St.first {w w1 w2 : World} {r p mb q r' p' mb' q' : Nat} (ht : OTab w) (hg : 3 <= w.heap.size)
  (hb : Prb w1 r p q) (hl : Lkk w1 w.heap.size p mb none 0 (zLn 7 0 1)) (hy : Ydl w1 w.heap.size q none 0 none 0 (zLn 7 0 1)) (hr : w.heap.size <= r) (s1 : Still w w1)
  (hb' : Prb w2 r' p' q') (hl' : Lkk w2 w1.heap.size p' mb' none 0 (zLn 7 1 0)) (hy' : Ydl w2 w1.heap.size q' none 0 none 0 (zLn 7 1 0)) (hr' : w1.heap.size <= r') (s2 : Still w1 w2) :
  St w ((w2.alloc (ppRow r r')).alloc (wdBlk w2.heap.size)) (w2.alloc (ppRow r r')).heap.size (some ⟨w2.heap.size, 0, none⟩) 2 none 0 [(⟨r, p, mb, none, 0, q, none, 0, none, 0⟩, zLn 7 0 1), (⟨r', p', mb', none, 0, q', none, 0, none, 0⟩, zLn 7 1 0)] [] 0 := by
 have A3 := Still.alloc w2 (ppRow r r')
 have A4 := Still.alloc (w2.alloc (ppRow r r')) (wdBlk w2.heap.size)
 have z1 := s1.size
 have z2 := s2.size
 have P1 := Pr.new hb hl hy hr (Nat.le_refl _)
 have P2 := Pr.new hb' hl' hy' hr' (Nat.le_refl _)
 have P2' := Pr.new hb' hl' hy' hr' z1
 have Q1 := ((P1.still s2).still A3).still A4
 have Q2 := (P2'.still A3).still A4
 have ow : OwG KPp 23 (w2.alloc (ppRow r r')) w.heap.size (.slice (some ⟨w2.heap.size, 0, none⟩) 2 2) [r, r'] := by
  have := World.ownsRow_lit (base := w.heap.size) (e := 23) (size := KPp.k) w2 #[.pointer (some ⟨r, 0, none⟩), .pointer (some ⟨r', 0, none⟩)] 2 (by omega) (by unfold maxLen; omega) (by simp [KPp])
  exact this
 have apart : ∀ k, PqB ⟨r, p, mb, none, 0, q, none, 0, none, 0⟩ k -> ¬ PqB ⟨r', p', mb', none, 0, q', none, 0, none, 0⟩ k := fun k h1 h2 => by
  have a := (P1.lt k (.inl h1)).1
  have b := (P2.lt k (.inl h2)).2
  omega
 refine ⟨heap_alloc_new _ _, ow.still A4, OwG.nil _ _, fun i hi => ?_, fun i j hi hj hij k => ?_, fun i hi => (by simp at hi), ((s1.trans s2).trans A3).trans A4, (((ht.still s1).still s2).still A3).still A4, hg, ?_⟩
 ·have hi2 : i < 2 := hi
  match i, hi2 with
  | 0, _ => exact ⟨Q1, Fits.new ⟨by omega, by omega⟩ ⟨by omega, by omega⟩ (by omega) ⟨by omega, by omega⟩, Nat.zero_le _⟩
  | 1, _ => exact ⟨Q2, Fits.new ⟨by omega, by omega⟩ ⟨by omega, by omega⟩ (by omega) ⟨by omega, by omega⟩, Nat.zero_le _⟩
 ·have hi2 : i < 2 := hi
  have hj2 : j < 2 := hj
  match i, hi2, j, hj2 with
  | 0, _, 0, _ => exact absurd rfl hij
  | 1, _, 1, _ => exact absurd rfl hij
  | 0, _, 1, _ => exact ⟨fun h => apart k h, fun h => absurd h noPqC⟩
  | 1, _, 0, _ => exact ⟨fun h h2 => apart k h2 h, fun h => absurd h noPqC⟩
 ·rw [size_alloc]; omega
def Inv18 (w wr : World) (wb np nq nn : Nat) : Prop := ∃ lo lc mo mc P Q N, St w wr wb lo lc mo mc P Q N /\ 0 < P.length /\ P.length <= np /\ Q.length <= nq /\ N <= nn
theorem Inv18.does {w wr : World} {wb np nq nn : Nat} (h : Inv18 w wr wb np nq nn) (o : Opq) (hok : OpOk w o) (h1 : np <= 1000000000000) (h2 : nq <= 1700000000000) (h3 : nn <= 900000000000) : Calls Tryd.prog 6 #[.pointer (some ⟨wb, 0, none⟩), .agg (opc o)] wr fun e w' => e = .returned (.bool true) /\ Inv18 w w' wb (np + 1) (nq + 1) (nn + 1) := by
 obtain ⟨lo, lc, mo, mc, P, Q, N, hs, hp, a, b, c⟩ := h
 refine (ldoes_any o w wr wb lo lc mo mc P Q N hok hp (by omega) (by omega) (by omega) hs).mono ?_
 rintro e w' ⟨he, lo', mo', lc', mc', P', Q', hs', l1, l2, _, l3⟩
 exact ⟨he, lo', lc', mo', mc', P', Q', _, hs', by omega, by omega, by omega, by omega⟩
theorem pk4 : pk 4 6 = 4 := by decide
theorem pk1 : pk 1 6 = 1 := by decide
theorem opOk_small (w : World) (k j m : Int) (hk : In64 k) (hj : In64 j) : OpOk w ⟨k, j, zC, m, 0, zD, none, 0, 0, 0, false, 0, 0, 0⟩ :=
 ⟨hk, hj, ⟨by show (-9223372036854775808 : Int) <= 0; omega, by show (0 : Int) <= 9223372036854775807; omega⟩, ⟨by show (0 : Int) <= 0; omega, by show (0 : Int) < 18446744073709551616; omega⟩, ⟨rfl, by show 0 <= 2513169434843; omega⟩, SrG.nil w, fun a ha => by cases ha.2⟩
def Fin18 (w wr : World) (wb m nq nn : Nat) : Prop := ∃ lo lc mo mc P Q N, St w wr wb lo lc mo mc P Q N /\ P.length = m /\ Q.length <= nq /\ N <= nn
theorem Fin18.state {w wr : World} {wb m nq nn : Nat} (h : Fin18 w wr wb m nq nn) (j : Int) (hj : In64 j) (h0 : 0 < m) (h1 : m <= 1000000000000) : Calls Tryd.prog 6 #[.pointer (some ⟨wb, 0, none⟩), .agg (opc ⟨4, j, zC, 0, 0, zD, none, 0, 0, 0, false, 0, 0, 0⟩)] wr fun e w' => e = .returned (.bool true) /\ Fin18 w w' wb m nq nn := by
 obtain ⟨lo, lc, mo, mc, P, Q, N, hs, a, b, c⟩ := h
 refine (ldoes_state_e _ w wr wb lo lc mo mc P Q N (opOk_small w 4 j 0 ⟨by omega, by omega⟩ hj) pk4 (by omega) (by omega) hs).mono ?_
 rintro e w' ⟨he, hs'⟩
 exact ⟨he, lo, lc, mo, mc, P, Q, N, hs', a, b, c⟩
theorem Fin18.turn {w wr : World} {wb m nq nn : Nat} (h : Fin18 w wr wb m nq nn) (j : Int) (hj : In64 j) (h0 : 0 < m) (h1 : m <= 1000000000000) (h2 : nq <= 1700000000000) (h3 : nn <= 10000000000000) : Calls Tryd.prog 6 #[.pointer (some ⟨wb, 0, none⟩), .agg (opc ⟨1, j, zC, 5, 0, zD, none, 0, 0, 0, false, 0, 0, 0⟩)] wr fun e w' => e = .returned (.bool true) /\ Fin18 w w' wb m (nq + 1) (nn + 1) := by
 obtain ⟨lo, lc, mo, mc, P, Q, N, hs, a, b, c⟩ := h
 refine (ldoes_turn _ w wr wb lo lc mo mc P Q N (opOk_small w 1 j 5 ⟨by omega, by omega⟩ hj) pk1 (by omega) (by omega) (by omega) (by omega) hs).mono ?_
 rintro e w' ⟨he, lo', mo', lc', mc', P', Q', hs', l1, _, l3⟩
 exact ⟨he, lo', lc', mo', mc', P', Q', _, hs', by omega, by omega, by omega⟩
end Go.Proofs.YtnbofjaecchnaaaDoor
namespace Go.Proofs.YtnbofjaecchnaaaDoor
open Go.RowKit
open Wp Vp Lp
set_option maxRecDepth 100000
set_option linter.unusedVariables false
set_option linter.unusedSimpArgs false
theorem OpOk.still {w w' : World} {o : Opq} (h : OpOk w o) (hs : Still w w') : OpOk w' o := ⟨h.kd, h.wh, h.n, h.ss, h.cn, h.sr.still hs, fun a ha => Nat.lt_of_lt_of_le (h.lt a ha) hs.size⟩
def Inv18r (w wr : World) (wb r np nq nn : Nat) : Prop := ∃ lo lc mo mc P Q N, St w wr wb lo lc mo mc P Q N /\ 0 < P.length /\ P.length <= np /\ Q.length <= nq /\ N <= nn /\ (pz P 0).1.r = r
theorem Inv18r.does {w wr : World} {wb r np nq nn : Nat} (h : Inv18r w wr wb r np nq nn) (o : Opq) (hok : OpOk w o) (h1 : np <= 1000000000000) (h2 : nq <= 1700000000000) (h3 : nn <= 900000000000) : Calls Tryd.prog 6 #[.pointer (some ⟨wb, 0, none⟩), .agg (opc o)] wr fun e w' => e = .returned (.bool true) /\ Inv18r w w' wb r (np + 1) (nq + 1) (nn + 1) := by
 obtain ⟨lo, lc, mo, mc, P, Q, N, hs, hp, a, b, c, hr⟩ := h
 refine (ldoes_any o w wr wb lo lc mo mc P Q N hok hp (by omega) (by omega) (by omega) hs).mono ?_
 rintro e w' ⟨he, lo', mo', lc', mc', P', Q', hs', l1, l2, hr', l3⟩
 exact ⟨he, lo', lc', mo', mc', P', Q', _, hs', by omega, by omega, by omega, by omega, (hr' 0 hp).trans hr⟩
structure Rf18 (W u : World) (x : Pq) (s : Ln) (g : Nat) (d : Dg) (co : Option Addr) (cn cp : Nat) : Prop where
 pr : Pr u W.heap.size x s
 dd : Dgb u g d co cn cp
 sr : SrG KCc u co cp d.cs
 ot : OTab u
 st : Still W u
section
variable {W v : World} {x : Pq} {s : Ln} {g : Nat} {d : Dg} {co : Option Addr} {cn cp : Nat}
theorem Rf18.still {u : World} (h : Rf18 W v x s g d co cn cp) (hs : Still v u) : Rf18 W u x s g d co cn cp := ⟨h.pr.still hs, h.dd.still hs, h.sr.still hs, h.ot.still hs, h.st.trans hs⟩
theorem Rf18.own (h : Rf18 W v x s g d co cn cp) (hn : d.cs.length = cn) (h47 : cn <= 2513169434843) : ∀ u, Still v u -> Calls Tryd.prog 11 #[dgv d co cn cp] u fun e w' => ∃ lo lc, e = .returned (dgv d lo cn lc) /\ (Still v w' /\ OwG KCc 36 w' v.heap.size (.slice lo cn lc) d.cs) := fun u hu =>
 (lown_any d co cn cp u hn h47 (h.sr.still hu)).mono (fun e w' ⟨lo, lc, he, ho, hs⟩ => ⟨lo, lc, he, hu.trans hs, ho.less hu.size⟩)
theorem Rf18.ref (h : Rf18 W v x s g d co cn cp) (lead : Int) (hf : Fits s) (hO : s.O.length <= 1000000000000) (hn : d.cs.length = cn) : ∀ u, Still v u -> Calls Tryd.prog 9 #[.pointer (some ⟨x.q, 0, none⟩), dgv d co cn cp, .int .i64 lead] u fun e w' => e = .returned (.int .i64 (refE s d lead)) /\ Still v w' := fun u hu =>
 (rref_any x.q x.oo x.oc x.go x.gc W.heap.size s d co cn cp lead hO hf hn u (h.ot.still hu) (h.pr.y.still hu) (by have := (h.sr.still hu).rd; rw [hn] at this; exact this)).mono (fun e w' h => ⟨h.1, hu.trans h.2⟩)
theorem Rf18.no (h : Rf18 W v x s g d co cn cp) (lead : Int) (hf : Fits s) (hO : s.O.length <= 1000000000000) (hn : d.cs.length = cn) (h47 : cn <= 2513169434843) (he : refE s d lead ≠ 0) : ∀ v2 lo lc, (Still v v2 /\ OwG KCc 36 v2 v.heap.size (.slice lo cn lc) d.cs) -> ∀ u, Still v2 u -> Calls Tryd.prog 10 #[.pointer (some ⟨x.p, 0, none⟩), dgv d lo cn lc, .int .i64 lead] u fun e w' => e = .returned (.tuple #[.slice none 0 0, .bool false, .int .i64 (refE s d lead)]) /\ Still v w' := fun v2 lo lc hv u hu =>
 (ltake_no x.p x.ko x.kc x.mb W.heap.size s d lo cn lc lead (by omega) hf.a1 hn hf.g u ((h.pr.l.still hv.1).still hu) (SrG.own (by rw [hn]; exact hv.2.still hu) (by rw [hn]; omega)) he).mono (fun e w' h => ⟨h.1, (hv.1.trans hu).trans h.2⟩)
theorem Rf18.yes (h : Rf18 W v x s g d co cn cp) (lead : Int) (hf : Fits s) (hO : s.O.length <= 1000000000000) (hn : d.cs.length = cn) (h47 : cn <= 2513169434843) (he : refE s d lead = 0) : ∀ v2 lo lc, (Still v v2 /\ OwG KCc 36 v2 v.heap.size (.slice lo cn lc) d.cs) -> ∀ u, Still v2 u -> Calls Tryd.prog 10 #[.pointer (some ⟨x.p, 0, none⟩), dgv d lo cn lc, .int .i64 lead] u fun e w' => ∃ a b, e = .returned (.tuple #[a, b, .int .i64 0]) /\ Still W w' /\ Prb w' x.r x.p x.q /\ Dgb w' g d co cn cp := fun v2 lo lc hv u hu => by
 have hL := (h.pr.l.still hv.1).still hu
 have hp := (h.still (hv.1.trans hu))
 refine (ltake_yes x.p x.ko x.kc x.mb W.heap.size s d lo cn lc lead (by omega) hf hn u hL (SrG.own (by rw [hn]; exact hv.2.still hu) (by rw [hn]; omega)) (fun a ha => ?_) he).mono ?_
 ·have h1 := (hv.2.block (own_some.2 ⟨a, ha, rfl⟩)).1
  have h2 := (h.pr.lt x.mb (.inl (.inr (.inr (.inl rfl))))).1
  have h3 := (h.pr.lt x.p (.inl (.inr (.inl rfl)))).1
  exact ⟨by omega, by omega⟩
 ·rintro e w' ⟨fo, fc, ko', kc', he, _, _, hfr, _⟩
  obtain ⟨es2, c2', hm2⟩ := hL.mp.map
  have tr : ¬ (x.r = x.p \/ x.r = x.mb) := fun e => e.elim (ty_ne hp.pr.b hL.bk (by decide)) (map_ne hp.pr.b hm2)
  have td : ¬ (g = x.p \/ g = x.mb) := fun e => e.elim (ty_ne hp.dd hL.bk (by decide)) (map_ne hp.dd hm2)
  exact ⟨_, _, he, Fr.trans hp.st hfr (fun k hk e => by
   have h1 := hL.lp
   have h2 := hL.lm
   rcases e with e | e <;> omega), hp.pr.b.keep hfr tr, hp.dd.keepD hfr td⟩
theorem Rf18.state (h : Rf18 W v x s g d co cn cp) : ∀ u, Still v u -> Calls Tryd.prog 7 #[.pointer (some ⟨x.p, 0, none⟩)] u fun e w' => e = .returned (lsv s) /\ Still v w' := fun u hu =>
 (lstate_any x.p x.ko x.kc x.mb W.heap.size s u (h.pr.l.still hu)).mono (fun e w' h => ⟨h.1, hu.trans h.2⟩)
theorem Rf18.turn (h : Rf18 W v x s g d co cn cp) (hf : Fits s) (hO : s.O.length <= 1000000000000) {D : Dg} {k : Nat} (eD : turD s 3 = D) (ek : s.O.length - s.ak = k) : ∀ u, Still v u -> Calls Tryd.prog 8 #[.pointer (some ⟨x.p, 0, none⟩), .int .i64 3] u fun e w' => ∃ co cp, e = .returned (dgv D co k cp) /\ (Still v w' /\ OwG KCc 36 w' v.heap.size (.slice co k cp) D.cs) := fun u hu => by
 have hc := lturn_any x.p x.ko x.kc x.mb W.heap.size s 3 hf.g (by have := hf.a1; omega) hf.a2 hf.a1 u (h.pr.l.still hu)
 have eDc : s.O.drop s.ak = D.cs := by rw [<- eD]; rfl
 rw [eD, ek, eDc] at hc
 exact hc.mono (fun e w' ⟨co, cp, he, ho, hs⟩ => ⟨co, cp, he, hu.trans hs, ho.less hu.size⟩)
end
theorem same18 {v : World} {D : Dg} {k k1 : Nat} {c1 : Option Addr} (hk : D.cs.length = k) (h336 : k <= 336) (hr : RdG KCc v c1 k D.cs) : ∀ v2 co2 cp2, (Still v v2 /\ OwG KCc 36 v2 v.heap.size (.slice co2 k cp2) D.cs) -> ∀ u, Still v2 u -> Calls Tryd.prog 12 #[dgv D c1 k k1, dgv D co2 k cp2] u fun e w' => e = .returned (.bool true) /\ Still v w' := fun v2 co2 cp2 hv u hu =>
 (rsame16_t D c1 co2 k k1 cp2 u ((hr.still hv.1).still hu) ((hv.2.still hu).rdC hk (by omega))).mono (fun e w' h => ⟨h.1, (hv.1.trans hu).trans h.2⟩)
end Go.Proofs.YtnbofjaecchnaaaDoor
namespace Go.Proofs.YtnbofjaecchnaaaDoor
open Go.RowKit
open Wp Vp Lp
set_option maxRecDepth 100000
set_option linter.unusedVariables false
set_option linter.unusedSimpArgs false
set_option maxHeartbeats 16000000 in
theorem refuses18_law (so : Option Addr) (n c : Nat) (L : List Opq) (hb : 208 * n <= 140737488351232) (d : Dg) (co : Option Addr) (cn cp : Nat) (h47 : cn <= 2513169434843) (hle : cn <= cp) (hnl : co = none -> cp = 0) (lead : Int) (w : World) (ht : OTab w) (hg : 3 <= w.heap.size) (hp : ∀ i, i < n -> OpOk w (L.getD i KOq.d)) (hr : RdG KOq w so n L) (hr1 : RdG KCc w co cn d.cs) : Calls Tryd.prog 4 #[.slice so n c, dgv d co cn cp, .int .i64 lead] w fun e w' => e = .returned (.bool true) /\ Still w w' := by
  have A0 := Still.alloc w (.cells (dgc d co cn cp) 39)
  have p0 := newDg_b w d co cn cp
  unfold newDg at p0
  obtain ⟨g, eg⟩ : ∃ g, w.heap.size = g := ⟨_, rfl⟩
  obtain ⟨W, eW⟩ : ∃ W, w.alloc (.cells (dgc d co cn cp) 39) = W := ⟨_, rfl⟩
  rw [eW] at A0 p0
  rw [eg] at p0
  have hn1 := hr1.1
  have HN : Hid (d.cs.length = cn) := hid hn1
  have H47 := hid h47
  have HSr : Hid (SrG KCc W co cp d.cs) := hid ⟨by rw [hn1]; exact hr1.still A0, by rw [hn1]; exact hle, hnl⟩
  have HDd := hid p0
  have HA := hid A0
  have HR := hid (hr.still A0)
  have HP : Hid (∀ i, i < n -> OpOk W (L.getD i KOq.d)) := hid (fun i hi => (hp i hi).still A0)
  have HT := hid (ht.still A0)
  have HG : Hid (3 <= W.heap.size) := hid (Nat.le_trans hg A0.size)
  have HM1 := hid (fun w => lmade_yes 7 0 1 (by decide) w)
  have HM2 := hid (fun w => lmade_yes 7 1 0 (by decide) w)
  have hnn : n <= 676622540150 := by omega
  clear hr hp hb ht hg h47 hle hnl hr1 A0 p0 hn1
  go_enter Tryd.func4, Tryd.ntmps4
  go_wp2_with fail
  clear eW eg
  refine (HM1.out _).mono ?_
  rintro e w1 ⟨r, p, mb, q, he, hb1, hl1, hy1, hr1, _, _, _, hs1⟩
  rw [he]
  have H1 := hid (And.intro hb1 (And.intro hl1 (And.intro hy1 (And.intro hr1 hs1))))
  clear he hb1 hl1 hy1 hr1 hs1 HM1
  go_wp2_with fail
  refine (HM2.out _).mono ?_
  rintro e w2 ⟨r', p', mb', q', he, hb2, hl2, hy2, hr2, _, _, _, hs2⟩
  rw [he]
  have HI : Hid (Inv18r W ((w2.alloc (ppRow r r')).alloc (wdBlk w2.heap.size)) (w2.heap.size + 1) r 2 0 0) := hid ⟨_, _, _, _, _, _, _, by rw [<- size_alloc w2 (ppRow r r')]; exact St.first HT.out HG.out H1.out.1 H1.out.2.1 H1.out.2.2.1 H1.out.2.2.2.1 H1.out.2.2.2.2 hb2 hl2 hy2 hr2 hs2, by simp, by simp, by simp, Nat.le_refl _, rfl⟩
  clear he hb2 hl2 hy2 hr2 hs2 HM2 H1
  go_wp2_with fail
  go_loopw [12] (fun u wr => ∃ i : Nat, i <= n /\ u = .int .i64 (i : Int) /\ Hid (Inv18r W wr (w2.heap.size + 1) r (i + 2) i i)) (fun u _ => n - (intOf u).toNat)
  case atStart => exact ⟨0, by omega, rfl, HI⟩
  case round =>
    obtain ⟨i, hi, rfl, HJ⟩ := hrel
    clear HI
    by_cases hin : i < n
    · have hlt : (i : Int) < (n : Int) := by omega
      have hst : Still W wr := by
        obtain ⟨_, _, _, _, _, _, _, hs, _⟩ := HJ.out
        exact hs.st
      obtain ⟨G, o, rfl⟩ := HR.out.at (by omega)
      have HOk := hid (HP.out i hin)
      obtain ⟨x, ex⟩ : ∃ x, L.getD i KOq.d = x := ⟨_, rfl⟩
      have hrg : wr.rangeAt G (o + i * 24) (KOq.f x) := fun j u hj => (HR.out.still hst).get hin j u (by rw [ex]; exact hj)
      have hsz : (Tryd.prog.info? 41).map (·.size) = some (KOq.f x).length := by rw [show (KOq.f x).length = 24 from rfl]; kernel_rfl
      rw [ex] at HOk
      have HD0 := HJ.out.does x HOk.out (by omega) (by omega) (by omega)
      have HD1 : Hid (Calls Tryd.prog 6 #[.pointer (some ⟨w2.heap.size + 1, 0, none⟩), .agg (KOq.f x).toArray] wr fun e w' => e = .returned (.bool true) /\ Inv18r W w' (w2.heap.size + 1) r (i + 2 + 1) (i + 1) (i + 1)) := hid HD0
      obtain ⟨cs, ecs⟩ : ∃ cs, KOq.f x = cs := ⟨_, rfl⟩
      rw [ecs] at hrg hsz HD1
      have HRg := hid hrg
      have HSz := hid hsz
      have HD := HD1
      clear hst ex HJ HOk hrg hsz HD0 HD1 ecs
      go_wp2_with (refine wpList_load_mid rfl 41 (.tmp 61) rfl G (o + i * 24) rfl cs _ HRg.out Tryd.underlying41 rfl HSz.out ?_)
      refine HD.out.mono ?_
      rintro e w3 ⟨he, hJ2⟩
      rw [he]
      have HJ2 := hid hJ2
      clear he hJ2
      clear HD HRg HSz
      go_wp2_with fail
      go_roundw
      case rel => exact ⟨i + 1, by omega, by go_num, HJ2⟩
      case measure => simp [intOf]; omega
    · have hge : ¬ (i : Int) < (n : Int) := by omega
      obtain rfl : i = n := by omega
      obtain ⟨lo, lc, mo, mc, P, Q, N, hs, hp0, _, _, hN, hxr⟩ := HJ.out
      have hpr := hs.pr 0 hp0
      obtain ⟨x, ex⟩ : ∃ x, (pz P 0).1 = x := ⟨_, rfl⟩
      obtain ⟨s, es⟩ : ∃ x, (pz P 0).2 = x := ⟨_, rfl⟩
      rw [ex] at hxr
      rw [ex, es] at hpr
      have HRf : Hid (Rf18 W wr x s g d co cn cp) := hid ⟨hpr.1, HDd.out.still hs.st, HSr.out.still hs.st, hs.ot, hs.st⟩
      have HFit := hid hpr.2.1
      have HOl : Hid (s.O.length <= 1000000000000) := hid (by have := hpr.2.2; omega)
      have HXr := hid hxr
      obtain ⟨a0, a1, af⟩ := hpr.1.b.cells
      have HS1 := hid HRf.out.state
      clear hs hpr ex es hp0 hN HJ hin hi HR HP HT HG HDd HSr hxr
      have hge2 : ¬ (i : Int) < (i : Int) := by omega
      obtain rfl := HXr.out
      clear HXr hge
      go_wp2_with fail
      refine (HS1.out _ (Fr.refl _ _)).mono ?_
      rintro e w3 ⟨he, h3⟩
      rw [he]
      have A3 := Still.alloc w3 (.cells (lsc s) 44)
      have p3 : Lsb (w3.alloc (.cells (lsc s) 44)) w3.heap.size s := heap_alloc_new w3 _
      obtain ⟨g3, eg3⟩ : ∃ g, w3.heap.size = g := ⟨_, rfl⟩
      obtain ⟨W3, eW3⟩ : ∃ W, w3.alloc (.cells (lsc s) 44) = W := ⟨_, rfl⟩
      rw [eW3] at A3 p3
      rw [eg3] at p3
      have HRf3 := hid (HRf.out.still (h3.trans A3))
      have HL3 := hid p3
      clear he h3 A3 p3 a0 a1 af HS1 HRf
      obtain ⟨a0, a1, af⟩ := HRf3.out.pr.b.cells
      obtain ⟨D, eD⟩ : ∃ D, turD s 3 = D := ⟨_, rfl⟩
      obtain ⟨k, ek⟩ : ∃ k, s.O.length - s.ak = k := ⟨_, rfl⟩
      have HTu : Hid (∀ v, Rf18 W v x s g d co cn cp -> ∀ u, Still v u -> Calls Tryd.prog 8 #[.pointer (some ⟨x.p, 0, none⟩), .int .i64 3] u fun e w' => ∃ co cp, e = .returned (dgv D co k cp) /\ (Still v w' /\ OwG KCc 36 w' v.heap.size (.slice co k cp) D.cs)) := hid (fun v h => h.turn HFit.out HOl.out eD ek)
      have HKl : Hid (D.cs.length = k /\ k <= 336) := hid ⟨by rw [<- eD, <- ek]; exact List.length_drop .., by rw [<- ek]; exact HFit.out.a2⟩
      clear eD ek
      go_wp2_with fail
      clear eW3 eg3 a0 a1 af
      refine (HTu.out W3 HRf3.out _ (Fr.refl _ _)).mono ?_
      rintro e w4 ⟨c1, k1, he, h4, ho4⟩
      rw [he]
      have A4 := Still.alloc w4 (.cells (dgc D c1 k k1) 39)
      have p4 := newDg_b w4 D c1 k k1
      unfold newDg at p4
      obtain ⟨g4, eg4⟩ : ∃ g, w4.heap.size = g := ⟨_, rfl⟩
      obtain ⟨W4, eW4⟩ : ∃ W, w4.alloc (.cells (dgc D c1 k k1) 39) = W := ⟨_, rfl⟩
      rw [eW4] at A4 p4
      rw [eg4] at p4
      have HRf4 := hid (HRf3.out.still (h4.trans A4))
      have HL4 : Hid (Lsb W4 g3 s) := hid ((h4.trans A4).kept_still HL3.out)
      have HDt : Hid (Dgb W4 g4 D c1 k k1) := hid p4
      have HRt : Hid (RdG KCc W4 c1 k D.cs) := hid ((ho4.still A4).rdC HKl.out.1 (by have := HKl.out.2; omega))
      clear he h4 ho4 A4 p4 HRf3 HL3
      obtain ⟨a0, a1, af⟩ := HRf4.out.pr.b.cells
      obtain ⟨d0, d1, d2, d3, d4, d5, d6, d7, df⟩ := HRf4.out.dd.cells
      go_upto_region 14 with fail
      clear eW4 eg4
      obtain ⟨re, ere⟩ : ∃ re, refE s d lead = re := ⟨_, rfl⟩
      have HRe := HRf4.out.ref lead HFit.out HOl.out HN.out
      rw [ere] at HRe
      have HRe4 := hid HRe
      have HEre := hid ere
      have q1 := Cl.cell a1
      have r0 := Cl.cell d0
      have r1 := Cl.cell d1
      have r2 := Cl.cell d2
      have r3 := Cl.cell d3
      have r4 := Cl.cell d4
      have r5 := Cl.cell d5
      have r6 := Cl.cell d6
      have r7 := Cl.cell d7
      have hne := Aft.here W4
      clear a0 a1 af d0 d1 d2 d3 d4 d5 d6 d7 df ere HRe
      refine region_rest 6 (by kernel_rfl) (by kernel_rfl) ?_
      simp only [List.take_succ_cons, List.take_zero, List.drop_succ_cons, List.drop_zero]
      repeat (go_big_quiet_step (fail))
      refine wpQuiet_nil ?_
      intro w5 h5
      have HR5 := hid (HRe4.out w5 h5)
      clear h5 q1 r0 r1 r2 r3 r4 r5 r6 r7 hne HRe4
      go_wp2_with fail
      refine HR5.out.mono ?_
      rintro e w6 ⟨he, h6⟩
      rw [he]
      have HRf6 := hid (HRf4.out.still h6)
      have HL6 : Hid (Lsb w6 g3 s) := hid (h6.kept_still HL4.out)
      have HDt6 := hid (HDt.out.still h6)
      have HRt6 := hid (HRt.out.still h6)
      have HOw := hid (HRf6.out.own HN.out H47.out)
      obtain ⟨a0, a1, af⟩ := HRf6.out.pr.b.cells
      obtain ⟨d0, d1, d2, d3, d4, d5, d6, d7, df⟩ := HRf6.out.dd.cells
      clear he h6 HR5 HRf4 HL4 HDt HRt
      by_cases h0 : re = 0
      · subst h0
        have HTa := hid (HRf6.out.yes lead HFit.out HOl.out HN.out H47.out HEre.out)
        go_upto_region 15 with fail
        go_cut [17, 18, 19] (fun v17 v18 v19 wx => v19 = .int .i64 0 /\ Hid (Still W wx))
        case first =>
          go_region_held3 (fun w' => w'.cell? ⟨x.r, 0, none⟩ = some (.pointer (some ⟨x.p, 0, none⟩)) /\ w'.cell? ⟨g, 0, none⟩ = some (.int .i64 d.kd) /\ w'.cell? ⟨g, 1, none⟩ = some (.int .u64 d.ss) /\ w'.cell? ⟨g, 2, none⟩ = some (.int .i64 d.fr) /\ w'.cell? ⟨g, 3, none⟩ = some (.int .i64 d.to) /\ w'.cell? ⟨g, 4, none⟩ = some (.int .i64 d.mrk) /\ w'.cell? ⟨g, 5, none⟩ = some (.int .i64 d.fi) /\ w'.cell? ⟨g, 6, none⟩ = some (.slice co cn cp) /\ w'.cell? ⟨g, 7, none⟩ = some (.int .i64 d.ak)) (go_keep)
            (first
            | (go_at_call 11
               refine (HOw.out _ (by repeat (first | exact Fr.refl _ _ | refine Fr.drew ?_ | refine Fr.alloc ?_ _))).mono ?_
               rintro e x1 ⟨lo1, lc1, rfl, t1⟩
               have HX1 := hid t1
               obtain ⟨e0, e1, ef⟩ := (HRf6.out.still HX1.out.1).pr.b.cells
               obtain ⟨u0, u1, u2, u3, u4, u5, u6, u7, uf⟩ := (HRf6.out.still HX1.out.1).dd.cells
               clear t1)
            | (go_at_call 10
               refine (HTa.out _ lo1 lc1 HX1.out _ (by repeat (first | exact Fr.refl _ _ | refine Fr.drew ?_ | refine Fr.alloc ?_ _))).mono ?_
               rintro e x2 ⟨va, vb, rfl, t2, t3, t4⟩
               obtain ⟨y0, y1, yf⟩ := t3.cells
               obtain ⟨z0, z1, z2, z3, z4, z5, z6, z7, zf⟩ := t4.cells
               have HX2 := hid t2
               clear t2 t3 t4))
          all_goals
            (go_wp2_with fail
             go_meet
             exact ⟨rfl, HX2⟩)
        case rest =>
          obtain ⟨rfl, HF⟩ := hcut
          clear a0 a1 af d0 d1 d2 d3 d4 d5 d6 d7 df
          go_wp2_with fail
          go_ret
          exact ⟨rfl, HA.out.trans HF.out⟩
      · have t0 : (re == 0) = false := beq_eq_false_iff_ne.2 h0
        have HTa0 := HRf6.out.no lead HFit.out HOl.out HN.out H47.out (by rw [HEre.out]; exact h0)
        rw [HEre.out] at HTa0
        have HTa := hid HTa0
        have H0 := hid h0
        clear h0 HTa0
        go_upto_region 15 with fail
        go_cut [17, 18, 19] (fun v17 v18 v19 wx => v17 = .slice none 0 0 /\ v18 = .bool false /\ v19 = .int .i64 re /\ Hid (Still w6 wx))
        case first =>
          go_region_held3 (fun w' => w'.cell? ⟨x.r, 0, none⟩ = some (.pointer (some ⟨x.p, 0, none⟩)) /\ w'.cell? ⟨g, 0, none⟩ = some (.int .i64 d.kd) /\ w'.cell? ⟨g, 1, none⟩ = some (.int .u64 d.ss) /\ w'.cell? ⟨g, 2, none⟩ = some (.int .i64 d.fr) /\ w'.cell? ⟨g, 3, none⟩ = some (.int .i64 d.to) /\ w'.cell? ⟨g, 4, none⟩ = some (.int .i64 d.mrk) /\ w'.cell? ⟨g, 5, none⟩ = some (.int .i64 d.fi) /\ w'.cell? ⟨g, 6, none⟩ = some (.slice co cn cp) /\ w'.cell? ⟨g, 7, none⟩ = some (.int .i64 d.ak)) (go_keep)
            (first
            | (go_at_call 11
               refine (HOw.out _ (by repeat (first | exact Fr.refl _ _ | refine Fr.drew ?_ | refine Fr.alloc ?_ _))).mono ?_
               rintro e x1 ⟨lo1, lc1, rfl, t1⟩
               have HX1 := hid t1
               obtain ⟨e0, e1, ef⟩ := (HRf6.out.still HX1.out.1).pr.b.cells
               obtain ⟨u0, u1, u2, u3, u4, u5, u6, u7, uf⟩ := (HRf6.out.still HX1.out.1).dd.cells
               clear t1)
            | (go_at_call 10
               refine (HTa.out _ lo1 lc1 HX1.out _ (by repeat (first | exact Fr.refl _ _ | refine Fr.drew ?_ | refine Fr.alloc ?_ _))).mono ?_
               rintro e x2 ⟨rfl, t2⟩
               obtain ⟨y0, y1, yf⟩ := (HRf6.out.still t2).pr.b.cells
               obtain ⟨z0, z1, z2, z3, z4, z5, z6, z7, zf⟩ := (HRf6.out.still t2).dd.cells
               have HX2 := hid t2
               clear t2))
          all_goals
            (go_wp2_with fail
             go_meet
             exact ⟨rfl, rfl, rfl, HX2⟩)
        case rest =>
          obtain ⟨rfl, rfl, rfl, HF⟩ := hcut
          obtain ⟨W7, eW7⟩ : ∃ V, V = wc := ⟨_, rfl⟩
          subst eW7
          have HRf7 := hid (HRf6.out.still HF.out)
          have HL7 : Hid (Lsb W7 g3 s) := hid (HF.out.kept_still HL6.out)
          have HDt7 := hid (HDt6.out.still HF.out)
          have HRt7 := hid (HRt6.out.still HF.out)
          clear a0 a1 af d0 d1 d2 d3 d4 d5 d6 d7 df HOw HTa HF HRf6 HL6 HDt6 HRt6
          obtain ⟨a0, a1, af⟩ := HRf7.out.pr.b.cells
          obtain ⟨d0, d1, d2, d3, d4, d5, d6, d7, df⟩ := HRf7.out.dd.cells
          have HOw := hid (HRf7.out.own HN.out H47.out)
          have HTa0 := HRf7.out.no lead HFit.out HOl.out HN.out H47.out (by rw [HEre.out]; exact H0.out)
          rw [HEre.out] at HTa0
          have HTa := hid HTa0
          clear HTa0
          go_upto_region 18 with fail
          go_cut [20, 21, 22] (fun v17 v18 v19 wx => v17 = .slice none 0 0 /\ v18 = .bool false /\ v19 = .int .i64 re /\ Hid (Still W7 wx))
          case first =>
            go_region_held3 (fun w' => w'.cell? ⟨x.r, 0, none⟩ = some (.pointer (some ⟨x.p, 0, none⟩)) /\ w'.cell? ⟨g, 0, none⟩ = some (.int .i64 d.kd) /\ w'.cell? ⟨g, 1, none⟩ = some (.int .u64 d.ss) /\ w'.cell? ⟨g, 2, none⟩ = some (.int .i64 d.fr) /\ w'.cell? ⟨g, 3, none⟩ = some (.int .i64 d.to) /\ w'.cell? ⟨g, 4, none⟩ = some (.int .i64 d.mrk) /\ w'.cell? ⟨g, 5, none⟩ = some (.int .i64 d.fi) /\ w'.cell? ⟨g, 6, none⟩ = some (.slice co cn cp) /\ w'.cell? ⟨g, 7, none⟩ = some (.int .i64 d.ak)) (go_keep)
              (first
              | (go_at_call 11
                 refine (HOw.out _ (by repeat (first | exact Fr.refl _ _ | refine Fr.drew ?_ | refine Fr.alloc ?_ _))).mono ?_
                 rintro e x1 ⟨lo1, lc1, rfl, t1⟩
                 have HX1 := hid t1
                 obtain ⟨e0, e1, ef⟩ := (HRf7.out.still HX1.out.1).pr.b.cells
                 obtain ⟨u0, u1, u2, u3, u4, u5, u6, u7, uf⟩ := (HRf7.out.still HX1.out.1).dd.cells
                 clear t1)
              | (go_at_call 10
                 refine (HTa.out _ lo1 lc1 HX1.out _ (by repeat (first | exact Fr.refl _ _ | refine Fr.drew ?_ | refine Fr.alloc ?_ _))).mono ?_
                 rintro e x2 ⟨rfl, t2⟩
                 obtain ⟨y0, y1, yf⟩ := (HRf7.out.still t2).pr.b.cells
                 obtain ⟨z0, z1, z2, z3, z4, z5, z6, z7, zf⟩ := (HRf7.out.still t2).dd.cells
                 have HX2 := hid t2
                 clear t2))
            all_goals
              (go_wp2_with fail
               go_meet
               exact ⟨rfl, rfl, rfl, HX2⟩)
          case rest =>
            obtain ⟨rfl, rfl, rfl, HF⟩ := hcut
            obtain ⟨W8, eW8⟩ : ∃ V, V = wc := ⟨_, rfl⟩
            subst eW8
            have HRf8 := hid (HRf7.out.still HF.out)
            have HL8 : Hid (Lsb W8 g3 s) := hid (HF.out.kept_still HL7.out)
            have HDt8 := hid (HDt7.out.still HF.out)
            have HRt8 := hid (HRt7.out.still HF.out)
            have HSt8 := hid HRf8.out.state
            clear a0 a1 af d0 d1 d2 d3 d4 d5 d6 d7 df HOw HTa HF HRf7 HL7 HDt7 HRt7
            obtain ⟨a0, a1, af⟩ := HRf8.out.pr.b.cells
            go_wp2_with fail
            refine (HSt8.out _ (Fr.refl _ _)).mono ?_
            rintro e w9 ⟨he, h9⟩
            rw [he]
            have A9 := Still.alloc w9 (.cells (lsc s) 44)
            have p9 : Lsb (w9.alloc (.cells (lsc s) 44)) w9.heap.size s := heap_alloc_new w9 _
            obtain ⟨g9, eg9⟩ : ∃ g, w9.heap.size = g := ⟨_, rfl⟩
            obtain ⟨W9, eW9⟩ : ∃ W, w9.alloc (.cells (lsc s) 44) = W := ⟨_, rfl⟩
            rw [eW9] at A9 p9
            rw [eg9] at p9
            have HRf9 := hid (HRf8.out.still (h9.trans A9))
            have HL9 : Hid (Lsb W9 g3 s) := hid ((h9.trans A9).kept_still HL8.out)
            have HDt9 := hid (HDt8.out.still (h9.trans A9))
            have HM9 := hid p9
            have HTv := hid (HTu.out W9 HRf9.out)
            have HSm := hid (same18 (k1 := k1) HKl.out.1 HKl.out.2 (HRt8.out.still (h9.trans A9)))
            clear he h9 A9 p9 a0 a1 af HSt8 HRf8 HL8 HDt8 HRt8
            obtain ⟨a0, a1, af⟩ := HRf9.out.pr.b.cells
            obtain ⟨d0, d1, d2, d3, d4, d5, d6, d7, df⟩ := HDt9.out.cells
            go_upto_region 20 with fail
            clear eW9 eg9
            go_cut [24] (fun v wx => v = .bool true /\ Hid (Still W9 wx))
            case first =>
              go_region_held3 (fun w' => w'.cell? ⟨x.r, 0, none⟩ = some (.pointer (some ⟨x.p, 0, none⟩)) /\ w'.cell? ⟨g4, 0, none⟩ = some (.int .i64 D.kd) /\ w'.cell? ⟨g4, 1, none⟩ = some (.int .u64 D.ss) /\ w'.cell? ⟨g4, 2, none⟩ = some (.int .i64 D.fr) /\ w'.cell? ⟨g4, 3, none⟩ = some (.int .i64 D.to) /\ w'.cell? ⟨g4, 4, none⟩ = some (.int .i64 D.mrk) /\ w'.cell? ⟨g4, 5, none⟩ = some (.int .i64 D.fi) /\ w'.cell? ⟨g4, 6, none⟩ = some (.slice c1 k k1) /\ w'.cell? ⟨g4, 7, none⟩ = some (.int .i64 D.ak)) (go_keep)
                (first
                | (go_at_call 8
                   refine (HTv.out _ (by repeat (first | exact Fr.refl _ _ | refine Fr.drew ?_ | refine Fr.alloc ?_ _))).mono ?_
                   rintro e x1 ⟨lo1, lc1, rfl, t1⟩
                   have HX1 := hid t1
                   obtain ⟨e0, e1, ef⟩ := (HRf9.out.still HX1.out.1).pr.b.cells
                   obtain ⟨u0, u1, u2, u3, u4, u5, u6, u7, uf⟩ := (HDt9.out.still HX1.out.1).cells
                   clear t1)
                | (go_at_call 12
                   refine (HSm.out _ lo1 lc1 HX1.out _ (by repeat (first | exact Fr.refl _ _ | refine Fr.drew ?_ | refine Fr.alloc ?_ _))).mono ?_
                   rintro e x2 ⟨rfl, t2⟩
                   obtain ⟨y0, y1, yf⟩ := (HRf9.out.still t2).pr.b.cells
                   obtain ⟨z0, z1, z2, z3, z4, z5, z6, z7, zf⟩ := (HDt9.out.still t2).cells
                   have HX2 := hid t2
                   clear t2))
              all_goals
                (go_wp2_with fail
                 go_meet
                 exact ⟨rfl, HX2⟩)
            case rest =>
              obtain ⟨rfl, HF⟩ := hcut
              obtain ⟨W10, eW10⟩ : ∃ V, V = wc := ⟨_, rfl⟩
              subst eW10
              have l1 : Lsb W10 g3 s := HF.out.kept_still HL9.out
              have l2 : Lsb W10 g9 s := HF.out.kept_still HM9.out
              have HZ := hid (HRf9.out.still HF.out).st
              clear a0 a1 af d0 d1 d2 d3 d4 d5 d6 d7 df HTv HSm
              obtain ⟨b0, b1, b2, b3, b4⟩ := lsCells l1
              obtain ⟨d0, d1, d2, d3, d4⟩ := lsCells l2
              have hq := fun w => eql_ls_t s w
              have hg := fun a b w => guard_ls .eql a b (lsc s) (lsc s) w
              have ht2 : (re == re) = true := by simp
              clear l1 l2
              go_wp2_with fail
              go_ret
              exact ⟨rfl, HA.out.trans HZ.out⟩
end Go.Proofs.YtnbofjaecchnaaaDoor
