/- Parts of the proof, laid end to end. -/
import Derived.Test.YtkgbmefaphhcnaaGreatDoorZE00
import Derived.Test.YtkgbmefaphhcnaaGreatDoorZE08
import Derived.Test.YtkgbmefaphhcnaaGreatDoorZE03
import Derived.Test.YtkgbmefaphhcnaaGreatDoorZE04
set_option maxRecDepth 100000
namespace Go.Proofs.YtkgbmefaphhcnaaGreatDoor
open Np Za Ka Ja Ea Ha Wp
set_option linter.unusedVariables false
set_option linter.unusedSimpArgs false
def nsB (l : List Int) : List UInt8 := l.flatMap (fun n => Cp.form (Cp.fold n))
theorem nsB_app (a b : List Int) : nsB (a ++ b) = nsB a ++ nsB b := List.flatMap_append
theorem nsB_one (n : Int) : nsB [n] = Cp.form (Cp.fold n) := by simp [nsB]
def I64 (n : Int) : Prop := -9223372036854775808 <= n /\ n <= 9223372036854775807
def flB (b : Bool) : List UInt8 := if b then [1] else [0]
def scN (s : Scr) : List Int := [s.p, s.h, s.o, s.k]
def pkN (s : Pk) : List Int := [s.no, s.sp, s.kd]
def shN (s : Sh) : List Int := [s.no, s.ow, s.pw, s.ax, s.ay, s.sx, s.sy, s.lf]
def shB (s : Sh) : List UInt8 := nsB [s.no, s.ow, s.pw] ++ nsB [s.ax, s.ay] ++ nsB [s.sx, s.sy] ++ nsB [s.lf]
def mvN (m : Mv) : List Int := [m.ax, m.ay, m.sx, m.sy, m.px, m.py, m.fc, m.hl, m.en, m.co, m.ou, m.sd]
def mvB (m : Mv) : List UInt8 := nsB [m.ax, m.ay] ++ nsB [m.sx, m.sy] ++ nsB [m.px, m.py] ++ nsB [m.fc, m.hl, m.en, m.co, m.ou, m.sd] ++ flB m.sh
def scB (s : Scr) : List UInt8 := nsB (scN s)
def pkB (s : Pk) : List UInt8 := nsB (pkN s)
structure InW (W : Wd) : Prop where
 fr : I64 W.fr
 ms : ∀ x ∈ W.ms, ∀ n ∈ mvN x, I64 n
 cs : ∀ x ∈ W.cs, ∀ n ∈ scN x, I64 n
 hs : ∀ x ∈ W.hs, ∀ n ∈ shN x, I64 n
 ks : ∀ x ∈ W.ks, ∀ n ∈ pkN x, I64 n
 nx : I64 W.nx
def wdB (W : Wd) : List UInt8 := [87] ++ Cp.form (Cp.fold W.fr) ++ W.ms.flatMap mvB ++ W.cs.flatMap scB ++ Cp.form W.hs.length ++ W.hs.flatMap shB ++ Cp.form W.ks.length ++ W.ks.flatMap pkB ++ nsB [W.nx]
theorem nsB_cons (n : Int) (l : List Int) (r : List UInt8) : nsB (n :: l) ++ r = sgB n ++ (nsB l ++ r) := by simp [nsB, sgB]
theorem nsB_nil (r : List UInt8) : nsB [] ++ r = r := rfl
theorem nsB_ge : ∀ l : List Int, l.length <= (nsB l).length
 | [] => by simp [nsB]
 | n :: l => by
  have h1 := nsB_ge l
  have h2 := Cp.form_pos (Cp.fold n)
  rw [show n :: l = [n] ++ l from rfl, nsB_app, nsB_one, List.length_append, List.length_append]
  simp only [List.length_singleton]
  omega
theorem pI_64 {n : Int} (h : I64 n) (r : List UInt8) : pI (sgB n ++ r) = some (n, r) := pI_form h.1 h.2 r
/-! a point, a flag -/
def ptM : Mch (Int × Int) := Wp.mB inM fun x => Wp.mB inM fun y => mR (x, y)
def pPt : Prs (Int × Int) := pB pI fun x => pB pI fun y => pR (x, y)
theorem par_pt : Par ptM pPt := par_in.bind fun _ => par_in.bind fun _ => Par.ret _
theorem pPt_form {x y : Int} (hx : I64 x) (hy : I64 y) (r : List UInt8) : pPt (nsB [x, y] ++ r) = some ((x, y), r) := by
 unfold pPt
 rw [nsB_cons, pB_at (pI_64 hx _), nsB_cons, pB_at (pI_64 hy _)]
 rfl
def flM : Mch Bool := Wp.mB byM fun b => Wp.mB (mG (b == 1 || b == 0)) fun _ => mR (b == 1)
def pFl : Prs Bool := pB pY fun b => pB (pG (b == 1 || b == 0)) fun _ => pR (b == 1)
theorem par_fl : Par flM pFl := par_by.bind fun b => (Par.guard _).bind fun _ => Par.ret _
theorem pFl_form (b : Bool) (r : List UInt8) : pFl (flB b ++ r) = some (b, r) := by cases b <;> rfl
/-! a mover, a score, a shot, a pickup -/
def mvM : Mch Mv := Wp.mB ptM fun a => Wp.mB ptM fun s => Wp.mB ptM fun u => Wp.mB inM fun fc => Wp.mB inM fun hl => Wp.mB inM fun en => Wp.mB inM fun co => Wp.mB inM fun ou => Wp.mB inM fun sd => Wp.mB flM fun sh => mR ⟨a.1, a.2, s.1, s.2, u.1, u.2, fc, hl, en, sh, co, ou, sd⟩
def pMv : Prs Mv := pB pPt fun a => pB pPt fun s => pB pPt fun u => pB pI fun fc => pB pI fun hl => pB pI fun en => pB pI fun co => pB pI fun ou => pB pI fun sd => pB pFl fun sh => pR ⟨a.1, a.2, s.1, s.2, u.1, u.2, fc, hl, en, sh, co, ou, sd⟩
theorem par_mv : Par mvM pMv := par_pt.bind fun _ => par_pt.bind fun _ => par_pt.bind fun _ => par_in.bind fun _ => par_in.bind fun _ => par_in.bind fun _ => par_in.bind fun _ => par_in.bind fun _ => par_in.bind fun _ => par_fl.bind fun _ => Par.ret _
theorem pMv_form (m : Mv) (r : List UInt8) (h : ∀ n ∈ mvN m, I64 n) : pMv (mvB m ++ r) = some (m, r) := by
 obtain ⟨ax, ay, sx, sy, px, py, fc, hl, en, sh, co, ou, sd⟩ := m
 simp only [mvN, List.forall_mem_cons, List.not_mem_nil, false_imp_iff, implies_true, and_true] at h
 obtain ⟨a1, a2, a3, a4, a5, a6, a7, a8, a9, a10, a11, a12⟩ := h
 unfold mvB pMv
 dsimp only
 simp only [List.append_assoc]
 rw [pB_at (pPt_form a1 a2 _), pB_at (pPt_form a3 a4 _), pB_at (pPt_form a5 a6 _)]
 dsimp only
 rw [nsB_cons, pB_at (pI_64 a7 _), nsB_cons, pB_at (pI_64 a8 _), nsB_cons, pB_at (pI_64 a9 _), nsB_cons, pB_at (pI_64 a10 _), nsB_cons, pB_at (pI_64 a11 _), nsB_cons, pB_at (pI_64 a12 _), nsB_nil, pB_at (pFl_form _ _)]
 rfl
def scM : Mch Scr := Wp.mB inM fun p => Wp.mB inM fun h => Wp.mB inM fun o => Wp.mB inM fun k => mR ⟨p, h, o, k⟩
def pSc : Prs Scr := pB pI fun p => pB pI fun h => pB pI fun o => pB pI fun k => pR ⟨p, h, o, k⟩
theorem par_sc : Par scM pSc := par_in.bind fun _ => par_in.bind fun _ => par_in.bind fun _ => par_in.bind fun _ => Par.ret _
theorem pSc_form (m : Scr) (r : List UInt8) (h : ∀ n ∈ scN m, I64 n) : pSc (scB m ++ r) = some (m, r) := by
 obtain ⟨p, h', o, k⟩ := m
 simp only [scN, List.forall_mem_cons, List.not_mem_nil, false_imp_iff, implies_true, and_true] at h
 obtain ⟨a1, a2, a3, a4⟩ := h
 unfold scB scN pSc
 dsimp only
 rw [nsB_cons, pB_at (pI_64 a1 _), nsB_cons, pB_at (pI_64 a2 _), nsB_cons, pB_at (pI_64 a3 _), nsB_cons, pB_at (pI_64 a4 _), nsB_nil]
 rfl
def shM : Mch Sh := Wp.mB inM fun no => Wp.mB inM fun ow => Wp.mB inM fun pw => Wp.mB ptM fun a => Wp.mB ptM fun s => Wp.mB inM fun lf => mR ⟨no, ow, pw, a.1, a.2, s.1, s.2, lf⟩
def pSh : Prs Sh := pB pI fun no => pB pI fun ow => pB pI fun pw => pB pPt fun a => pB pPt fun s => pB pI fun lf => pR ⟨no, ow, pw, a.1, a.2, s.1, s.2, lf⟩
theorem par_sh : Par shM pSh := par_in.bind fun _ => par_in.bind fun _ => par_in.bind fun _ => par_pt.bind fun _ => par_pt.bind fun _ => par_in.bind fun _ => Par.ret _
theorem pSh_form (m : Sh) (r : List UInt8) (h : ∀ n ∈ shN m, I64 n) : pSh (shB m ++ r) = some (m, r) := by
 obtain ⟨no, ow, pw, ax, ay, sx, sy, lf⟩ := m
 simp only [shN, List.forall_mem_cons, List.not_mem_nil, false_imp_iff, implies_true, and_true] at h
 obtain ⟨a1, a2, a3, a4, a5, a6, a7, a8⟩ := h
 unfold shB pSh
 dsimp only
 simp only [List.append_assoc]
 rw [nsB_cons, pB_at (pI_64 a1 _), nsB_cons, pB_at (pI_64 a2 _), nsB_cons, pB_at (pI_64 a3 _), nsB_nil, pB_at (pPt_form a4 a5 _), pB_at (pPt_form a6 a7 _), nsB_cons, pB_at (pI_64 a8 _), nsB_nil]
 rfl
def pkM : Mch Pk := Wp.mB inM fun no => Wp.mB inM fun sp => Wp.mB inM fun kd => mR ⟨no, sp, kd⟩
def pPk : Prs Pk := pB pI fun no => pB pI fun sp => pB pI fun kd => pR ⟨no, sp, kd⟩
theorem par_pk : Par pkM pPk := par_in.bind fun _ => par_in.bind fun _ => par_in.bind fun _ => Par.ret _
theorem pPk_form (m : Pk) (r : List UInt8) (h : ∀ n ∈ pkN m, I64 n) : pPk (pkB m ++ r) = some (m, r) := by
 obtain ⟨no, sp, kd⟩ := m
 simp only [pkN, List.forall_mem_cons, List.not_mem_nil, false_imp_iff, implies_true, and_true] at h
 obtain ⟨a1, a2, a3⟩ := h
 unfold pkB pkN pPk
 dsimp only
 rw [nsB_cons, pB_at (pI_64 a1 _), nsB_cons, pB_at (pI_64 a2 _), nsB_cons, pB_at (pI_64 a3 _), nsB_nil]
 rfl
/-! so many -/
section
variable {α : Type}
def maM (f : Mch α) : Nat -> Mch (List α)
 | 0 => mR []
 | k + 1 => Wp.mB f fun x => Wp.mB (maM f k) fun l => mR (x :: l)
def pMa (p : Prs α) : Nat -> Prs (List α)
 | 0 => pR []
 | k + 1 => pB p fun x => pB (pMa p k) fun l => pR (x :: l)
theorem par_ma {f : Mch α} {p : Prs α} (h : Par f p) : ∀ k, Par (maM f k) (pMa p k)
 | 0 => Par.ret _
 | k + 1 => h.bind fun _ => (par_ma h k).bind fun _ => Par.ret _
theorem pMa_form {p : Prs α} {B : α -> List UInt8} {G : α -> Prop} (h : ∀ x r, G x -> p (B x ++ r) = some (x, r)) : ∀ (L : List α) (r : List UInt8), (∀ x ∈ L, G x) -> pMa p L.length (L.flatMap B ++ r) = some (L, r)
 | [], r, _ => rfl
 | x :: L, r, hL => by
  show pB p (fun x => pB (pMa p L.length) fun l => pR (x :: l)) _ = _
  rw [List.flatMap_cons, List.append_assoc, pB_at (h x _ (hL x (List.mem_cons_self ..))), pB_at (pMa_form h L r fun y hy => hL y (List.mem_cons_of_mem _ hy))]
  rfl
theorem flat_ge (f : α -> List UInt8) (c : Nat) (h : ∀ x, c <= (f x).length) : ∀ (L : List α), c * L.length <= (L.flatMap f).length
 | [] => by simp
 | x :: L => by
  have h1 := flat_ge f c h L
  have h2 := h x
  rw [List.flatMap_cons, List.length_append, List.length_cons, Nat.mul_succ]
  omega
end
theorem shB_ge (s : Sh) : 8 <= (shB s).length := by
 have h1 := nsB_ge [s.no, s.ow, s.pw]
 have h2 := nsB_ge [s.ax, s.ay]
 have h3 := nsB_ge [s.sx, s.sy]
 have h4 := nsB_ge [s.lf]
 unfold shB
 simp only [List.length_append, List.length_cons, List.length_nil] at h1 h2 h3 h4 ⊢
 omega
theorem pkB_ge (s : Pk) : 3 <= (pkB s).length := nsB_ge (pkN s)
/-! a count: each of so many bytes at least -/
def cgM (k n : Nat) : Mch Nat := fun s => if n <= 2147483647 /\ n <= s.bs.length / k then (n, s) else (0, ⟨s.bs, s.e, true⟩)
def pCg (k n : Nat) : Prs Nat := fun bs => if n <= 2147483647 /\ n <= bs.length / k then some (n, bs) else none
theorem par_cg (k n : Nat) : Par (cgM k n) (pCg k n) := by
 refine ⟨fun s hs => ?_, fun bs v r e => ?_, fun bs e => ?_⟩
 ·unfold cgM
  by_cases h : n <= 2147483647 /\ n <= s.bs.length / k
  ·rw [if_pos h]; exact hs
  ·rw [if_neg h]; exact .inr rfl
 ·unfold pCg at e
  unfold cgM
  by_cases h : n <= 2147483647 /\ n <= bs.length / k
  ·rw [if_pos h] at e ⊢
   cases e
   rfl
  ·rw [if_neg h] at e; cases e
 ·unfold pCg at e
  unfold cgM
  by_cases h : n <= 2147483647 /\ n <= bs.length / k
  ·rw [if_pos h] at e; cases e
  ·rw [if_neg h]; exact .inr rfl
def cnM (k : Nat) : Mch Nat := Wp.mB unM (cgM k)
def pCn (k : Nat) : Prs Nat := pB pU (pCg k)
theorem par_cn (k : Nat) : Par (cnM k) (pCn k) := par_un.bind (par_cg k)
theorem pCn_form {k n : Nat} {r : List UInt8} (h : n <= 2147483647) (hk : 0 < k) (hl : k * n <= r.length) : pCn k (Cp.form n ++ r) = some (n, r) := by
 unfold pCn
 rw [pB_at (pU_form (by omega) r)]
 unfold pCg
 rw [if_pos ⟨h, (Nat.le_div_iff_mul_le hk).2 (by rw [Nat.mul_comm]; exact hl)⟩]
/-! a world, of so many movers and scores -/
def wdM (k : Nat) : Mch Wd := Wp.mB byM fun c => Wp.mB (mG (c == 87)) fun _ => Wp.mB inM fun f => Wp.mB (maM mvM k) fun ms => Wp.mB (maM scM k) fun cs => Wp.mB (cnM 8) fun a => Wp.mB (maM shM a) fun hs => Wp.mB (cnM 3) fun b => Wp.mB (maM pkM b) fun ks => Wp.mB inM fun nx => mR ⟨f, ms, cs, hs, ks, nx⟩
def pWd (k : Nat) : Prs Wd := pB pY fun c => pB (pG (c == 87)) fun _ => pB pI fun f => pB (pMa pMv k) fun ms => pB (pMa pSc k) fun cs => pB (pCn 8) fun a => pB (pMa pSh a) fun hs => pB (pCn 3) fun b => pB (pMa pPk b) fun ks => pB pI fun nx => pR ⟨f, ms, cs, hs, ks, nx⟩
theorem par_wd (k : Nat) : Par (wdM k) (pWd k) := par_by.bind fun _ => (Par.guard _).bind fun _ => par_in.bind fun _ => (par_ma par_mv k).bind fun _ => (par_ma par_sc k).bind fun _ => (par_cn 8).bind fun _ => (par_ma par_sh _).bind fun _ => (par_cn 3).bind fun _ => (par_ma par_pk _).bind fun _ => par_in.bind fun _ => Par.ret _
structure Wr14 (k : Nat) (W : Wd) : Prop where
 nm : InW W
 ms : W.ms.length = k
 cs : W.cs.length = k
 hs : W.hs.length <= 2147483647
 ks : W.ks.length <= 2147483647
theorem pWd_form {k : Nat} {W : Wd} (h : Wr14 k W) (r : List UInt8) : pWd k (wdB W ++ r) = some (W, r) := by
 obtain ⟨⟨i1, i2, i3, i4, i5, i6⟩, e1, e2, l1, l2⟩ := h
 obtain ⟨fr, ms, cs, hs, ks, nx⟩ := W
 dsimp only at i1 i2 i3 i4 i5 i6 e1 e2 l1 l2
 unfold wdB pWd
 dsimp only
 simp only [List.append_assoc, List.cons_append, List.nil_append]
 rw [pB_at (show pY (87 :: _) = some (87, _) from rfl), pB_at (pG_at (by decide) _)]
 rw [show Cp.form (Cp.fold fr) = sgB fr from rfl, pB_at (pI_64 i1 _)]
 have m1 := pMa_form (G := fun m => ∀ n ∈ mvN m, I64 n) pMv_form ms (cs.flatMap scB ++ (Cp.form hs.length ++ (hs.flatMap shB ++ (Cp.form ks.length ++ (ks.flatMap pkB ++ (nsB [nx] ++ r)))))) i2
 have m2 := pMa_form (G := fun m => ∀ n ∈ scN m, I64 n) pSc_form cs (Cp.form hs.length ++ (hs.flatMap shB ++ (Cp.form ks.length ++ (ks.flatMap pkB ++ (nsB [nx] ++ r))))) i3
 have m3 := pMa_form (G := fun m => ∀ n ∈ shN m, I64 n) pSh_form hs (Cp.form ks.length ++ (ks.flatMap pkB ++ (nsB [nx] ++ r))) i4
 have m4 := pMa_form (G := fun m => ∀ n ∈ pkN m, I64 n) pPk_form ks (nsB [nx] ++ r) i5
 rw [e1] at m1
 rw [e2] at m2
 have g3 := flat_ge shB 8 shB_ge hs
 have g4 := flat_ge pkB 3 pkB_ge ks
 rw [pB_at m1, pB_at m2, pB_at (pCn_form l1 (by omega) (by rw [List.length_append]; omega)), pB_at m3, pB_at (pCn_form l2 (by omega) (by rw [List.length_append]; omega)), pB_at m4, nsB_cons, pB_at (pI_64 i6 _), nsB_nil]
 rfl
def saysW (k : Nat) (B : List UInt8) : Option Wd := match pWd k B with | none => none | some x => if x.2 = [] then some x.1 else none
theorem saysW_yes {k : Nat} {f : Mch Wd} (h : Par f (pWd k)) {B : List UInt8} {d : Wd} (hd : saysW k B = some d) : (f ⟨B, 0, false⟩).1 = d /\ (!(f ⟨B, 0, false⟩).2.y && doB (f ⟨B, 0, false⟩).2) = true := by
 unfold saysW at hd
 cases hp : pWd k B with
 | none => rw [hp] at hd; cases hd
 | some x =>
  obtain ⟨x, t⟩ := x
  rw [hp] at hd
  dsimp only at hd
  by_cases ht : t = []
  ·rw [if_pos ht] at hd
   cases hd
   subst ht
   rw [h.ok _ _ _ hp]
   exact ⟨rfl, by simp [doB]⟩
  ·rw [if_neg ht] at hd; cases hd
theorem saysW_no {k : Nat} {f : Mch Wd} (h : Par f (pWd k)) {B : List UInt8} (hd : saysW k B = none) : (!(f ⟨B, 0, false⟩).2.y && doB (f ⟨B, 0, false⟩).2) = false := by
 unfold saysW at hd
 cases hp : pWd k B with
 | none =>
  rcases h.no _ hp with h1 | h1
  ·have : doB (f ⟨B, 0, false⟩).2 = false := by
    cases hb : doB (f ⟨B, 0, false⟩).2 with
    | false => rfl
    | true => exact absurd (doB_iff.1 hb).1 h1
   rw [this, Bool.and_false]
  ·rw [h1]; rfl
 | some x =>
  obtain ⟨x, t⟩ := x
  rw [hp] at hd
  dsimp only at hd
  by_cases ht : t = []
  ·rw [if_pos ht] at hd; cases hd
  ·rw [h.ok _ _ _ hp]
   have : doB ⟨t, 0, false⟩ = false := by
    cases hb : doB ⟨t, 0, false⟩ with
    | false => rfl
    | true => exact absurd (doB_iff.1 hb).2 ht
   rw [this]; rfl
theorem saysW_form {k : Nat} {W : Wd} (h : Wr14 k W) : saysW k (wdB W) = some W := by
 have := pWd_form h []
 rw [List.append_nil] at this
 unfold saysW
 rw [this]
 rfl
end Go.Proofs.YtkgbmefaphhcnaaGreatDoor
namespace Go.Proofs.YtkgbmefaphhcnaaGreatDoor
open Go.RowKit
set_option maxRecDepth 100000
theorem form10 {n : Int} (h : I64 n) : (Cp.form (Cp.fold n)).length <= 10 := Cp.form_ten (Cp.fold_lt h.1 h.2)
theorem nsB_le : ∀ {l : List Int}, (∀ n ∈ l, I64 n) -> (nsB l).length <= 10 * l.length
 | [], _ => by simp [nsB]
 | n :: l, h => by
  have h1 := nsB_le (l := l) (fun m hm => h m (List.mem_cons_of_mem _ hm))
  have h2 := form10 (h n (List.mem_cons_self ..))
  rw [show n :: l = [n] ++ l from rfl, nsB_app, nsB_one, List.length_append, List.length_append]
  simp
  omega
theorem layS_fitM {bs x : List UInt8} (h : bs.length + x.length <= 9223372036854775807) : layS 9223372036854775807 bs 0 x = (bs ++ x, 0) := by
 unfold layS
 rw [if_neg (by simp), if_neg (by omega)]
structure Wq (w : World) (p : Nat) (ao : Option Addr) (bs : List UInt8) : Prop where
 wr : ∃ cap, Wr w p ao bs.length cap 9223372036854775807 bs 0
theorem Wq.of {w : World} {p n cap : Nat} {ao : Option Addr} {bs : List UInt8} (h : Wr w p ao n cap 9223372036854775807 bs 0) : Wq w p ao bs := ⟨cap, by
 have := h.own.rd.len
 subst this
 exact h⟩
theorem Wq.wf_lt {w : World} {p : Nat} {ao : Option Addr} {bs : List UInt8} (h : Wq w p ao bs) : ∀ k, Wf p ao k -> k < w.heap.size := by
 obtain ⟨cap, h⟩ := h.wr
 exact h.wf_lt
theorem Wq.still {w w' : World} {p : Nat} {ao : Option Addr} {bs : List UInt8} (h : Wq w p ao bs) (hs : Still w w') : Wq w' p ao bs := by
 obtain ⟨cap, h⟩ := h.wr
 exact ⟨cap, h.still hs⟩
structure Lx (w w' : World) (p : Nat) (ao ao' : Option Addr) (bs x : List UInt8) : Prop where
 q : Wq w' p ao' (bs ++ x)
 f : Fr (Wf p ao) w w'
 l : Later w ao ao'
theorem Lx.nil {w w' : World} {p : Nat} {ao : Option Addr} {bs : List UInt8} (h : Wq w p ao bs) (hs : Still w w') : Lx w w' p ao ao bs [] := ⟨by rw [List.append_nil]; exact h.still hs, Still.to hs, Later.refl _ _⟩
theorem Lx.from {w w1 w' : World} {p : Nat} {ao ao' : Option Addr} {bs x : List UInt8} (hs : Still w w1) (h : Lx w1 w' p ao ao' bs x) : Lx w w' p ao ao' bs x := ⟨h.q, (Still.to hs).trans h.f (fun _ _ h => h), fun a ha => by
 rcases h.l a ha with h | h
 ·exact .inl h
 ·exact .inr (Nat.le_trans hs.size h)⟩
theorem Lx.wf {w w1 : World} {p : Nat} {ao ao1 : Option Addr} {bs x : List UInt8} (h : Lx w w1 p ao ao1 bs x) : ∀ k, Wf p ao1 k -> Wf p ao k \/ w.heap.size <= k := by
 rintro k (rfl | ⟨a, ha, rfl⟩)
 ·exact .inl (.inl rfl)
 ·rcases h.l a ha with ⟨b, hb, e⟩ | h
  ·exact .inl (.inr ⟨b, hb, e⟩)
  ·exact .inr h
theorem Lx.trans {w w1 w2 : World} {p : Nat} {ao ao1 ao2 : Option Addr} {bs x y : List UInt8} (h : Lx w w1 p ao ao1 bs x) (k : Lx w1 w2 p ao1 ao2 (bs ++ x) y) : Lx w w2 p ao ao2 bs (x ++ y) := by
 refine ⟨by rw [<- List.append_assoc]; exact k.q, h.f.trans k.f (fun j hj e => ?_), fun a ha => ?_⟩
 ·rcases h.wf j e with h1 | h1
  ·exact h1
  ·omega
 ·rcases k.l a ha with ⟨b, hb, e⟩ | h1
  ·rcases h.l b hb with ⟨c, hc, e2⟩ | h2
   ·exact .inl ⟨c, hc, e2.trans e⟩
   ·exact .inr (by rw [<- e]; exact h2)
  ·exact .inr (Nat.le_trans h.f.size h1)
theorem Lx.off {w w1 : World} {p : Nat} {ao ao1 : Option Addr} {bs x : List UInt8} (h : Lx w w1 p ao ao1 bs x) {k : Nat} (hk : k < w.heap.size) (hn : ¬ Wf p ao k) : ¬ Wf p ao1 k := fun e => by
 rcases h.wf k e with h1 | h1
 ·exact hn h1
 ·omega
theorem Lx.of {w w' : World} {p : Nat} {ao : Option Addr} {bs x : List UInt8} (h : Laid w w' p ao 9223372036854775807 bs 0 x) (hb : bs.length + x.length <= 9223372036854775807) : ∃ ao', Lx w w' p ao ao' bs x := by
 obtain ⟨ao', n, cap, h1, h2, h3⟩ := h
 rw [layS_fitM hb] at h1
 exact ⟨ao', Wq.of h1, h2, h3⟩
theorem xint_any (p : Nat) (ao : Option Addr) (bs : List UInt8) (m : Int) (hm : I64 m) (hb : bs.length <= 1000000) (w : World) (hw : Wq w p ao bs) :
  Calls Tryz.prog 98 #[.pointer (some ⟨p, 0, none⟩), .int .i64 m] w fun r w' => r = .returned (.tuple #[]) /\ ∃ ao', Lx w w' p ao ao' bs (Cp.form (Cp.fold m)) := by
 obtain ⟨cap, h⟩ := hw.wr
 refine (wint_any p ao _ cap _ bs 0 m hm.1 hm.2 w h (by omega) (by omega) (by omega)).mono ?_
 rintro r w' ⟨rfl, hl⟩
 exact ⟨rfl, Lx.of hl (by have := form10 hm; omega)⟩
theorem xuint_any (p : Nat) (ao : Option Addr) (bs : List UInt8) (m : Nat) (hm : m < 18446744073709551616) (hb : bs.length <= 1000000) (w : World) (hw : Wq w p ao bs) :
  Calls Tryz.prog 150 #[.pointer (some ⟨p, 0, none⟩), .int .u64 (m : Int)] w fun r w' => r = .returned (.tuple #[]) /\ ∃ ao', Lx w w' p ao ao' bs (Cp.form m) := by
 obtain ⟨cap, h⟩ := hw.wr
 refine (wuint_any p ao _ cap _ bs 0 m hm w h (by omega) (by omega) (by omega)).mono ?_
 rintro r w' ⟨rfl, hl⟩
 exact ⟨rfl, Lx.of hl (by have := Cp.form_ten hm; omega)⟩
theorem xbyte_any (p : Nat) (ao : Option Addr) (bs : List UInt8) (m : UInt8) (x : Int) (hm : x = (m.toNat : Int)) (hb : bs.length <= 1000000) (w : World) (hw : Wq w p ao bs) :
  Calls Tryz.prog 97 #[.pointer (some ⟨p, 0, none⟩), .int .u8 x] w fun r w' => r = .returned (.tuple #[]) /\ ∃ ao', Lx w w' p ao ao' bs [m] := by
 obtain ⟨cap, h⟩ := hw.wr
 refine (wbyte_any p ao _ cap _ bs 0 m x hm w h (by omega) (by omega) (by omega)).mono ?_
 rintro r w' ⟨rfl, hl⟩
 exact ⟨rfl, Lx.of hl (by simp; omega)⟩
abbrev wqv (p : Nat) : Value := .agg #[.pointer (some ⟨p, 0, none⟩)]
theorem wbox (w : World) (p : Nat) : (w.alloc (.cells #[.pointer (some ⟨p, 0, none⟩)] 100)).heap[w.heap.size]? = some (.cells #[.pointer (some ⟨p, 0, none⟩)] 100 (0, 0)) := heap_alloc_new w _
set_option maxHeartbeats 2000000 in
theorem xnum_any (p : Nat) (ao : Option Addr) (bs : List UInt8) (lo : Option Addr) (ln lc : Nat) (l : List Int) (hl : ∀ n ∈ l, I64 n) (hb : bs.length + 10 * l.length <= 1000000) (w : World) (hw : Wq w p ao bs) (hr : RdI w lo ln lc l) (hne : ∀ a, lo = some a -> 0 < ln -> ¬ Wf p ao a.block) :
  Calls Tryz.prog 108 #[wqv p, .slice lo ln lc] w fun r w' => r = .returned (.tuple #[]) /\ ∃ ao', Lx w w' p ao ao' bs (nsB l) := by
 have A0 := Still.alloc w (.cells #[.pointer (some ⟨p, 0, none⟩)] 100)
 have hx0 := wbox w p
 have hk0 : ¬ Wf p ao w.heap.size := fun e => by have := hw.wf_lt _ e; omega
 obtain ⟨W, eW⟩ : ∃ W, w.alloc (.cells #[.pointer (some ⟨p, 0, none⟩)] 100) = W := ⟨_, rfl⟩
 obtain ⟨g, eg⟩ : ∃ g, w.heap.size = g := ⟨_, rfl⟩
 rw [eW] at A0 hx0
 rw [eg] at hx0 hk0
 have hln := hr.len
 have hsm := hr.small
 have HW := hid (hw.still A0)
 have HR := hid (hr.still A0)
 have HX := hid hx0
 have HK := hid (And.intro hk0 (show g < W.heap.size from block_lt hx0))
 have HN := hid hne
 have HA := hid A0
 have HLl := hid hl
 have HRl : Hid (∀ a, lo = some a -> 0 < ln -> a.block < W.heap.size) := hid (fun a ha h0 => (hr.still A0).lt h0 a ha)
 clear A0 hx0 hk0 hw hr hne hl
 go_enter Tryz.func108, Tryz.ntmps108
 go_wp2_with fail
 go_loopw [8] (fun u8 wr => ∃ (i : Nat) (ao1 : Option Addr), i <= ln /\ u8 = .int .i64 (i : Int) /\ Hid (Lx W wr p ao ao1 bs (nsB (l.take i)))) (fun u8 _ => ln - (intOf u8).toNat)
 case atStart => exact ⟨0, ao, by omega, rfl, hid (Lx.nil HW.out (Fr.refl _ _))⟩
 case round =>
  obtain ⟨i, ao1, hi, rfl, HL⟩ := hrel
  by_cases hin : i < ln
  ·have hlt : (i : Int) < (ln : Int) := by omega
   have hil : i < l.length := by omega
   obtain ⟨b, o, rfl⟩ := HR.out.addr (by omega)
   have c1 := (HR.out.kept HL.out.f (fun a ha h0 => HN.out a ha h0)).byte hil
   have hx1 := HL.out.f.kept HX.out HK.out.1
   have c0 : wr.cell? ⟨g, 0, none⟩ = some (.pointer (some ⟨p, 0, none⟩)) := by rw [cell_of_row _ _ _ _ _ _ hx1]; rfl
   have hlen : (bs ++ nsB (l.take i)).length <= 1000000 := by
    have := nsB_le (l := l.take i) (fun n hn => HLl.out n (List.mem_of_mem_take hn))
    rw [List.length_append]
    simp at this
    omega
   have HC := hid (xint_any p ao1 (bs ++ nsB (l.take i)) l[i] (HLl.out _ (List.getElem_mem hil)) hlen wr HL.out.q)
   have HS : Hid (nsB (l.take (i + 1)) = nsB (l.take i) ++ Cp.form (Cp.fold l[i])) := hid (by rw [List.take_succ_eq_append_getElem hil, nsB_app, nsB_one])
   obtain ⟨x, ex⟩ : ∃ x, l[i] = x := ⟨_, rfl⟩
   rw [ex] at c1 HC HS
   clear ex hlen hx1
   go_wp2_with fail
   refine HC.out.mono ?_
   rintro e w2 ⟨he, ao2, h2⟩
   rw [he]
   have HL2 : Hid (Lx W w2 p ao ao2 bs (nsB (l.take (i + 1)))) := hid (by rw [HS.out]; exact HL.out.trans h2)
   clear he h2 HC c0 c1 HL HS
   go_wp2_with fail
   go_roundw
   case rel => exact ⟨i + 1, ao2, by omega, by go_num, HL2⟩
   case measure => simp [intOf]; omega
  ·obtain rfl : i = ln := by omega
   have HL2 : Hid (Lx w wr p ao ao1 bs (nsB l)) := hid (by
    have := HL.out.from HA.out
    rw [List.take_of_length_le (by omega)] at this
    exact this)
   go_wp2_with fail
   go_end0
   exact ⟨rfl, ao1, HL2.out⟩
end Go.Proofs.YtkgbmefaphhcnaaGreatDoor
