/- Parts of the proof, laid end to end. -/
import Derived.Test.YtkgbmefaphhcnaaGreatDoorZU00
import Derived.Test.YtkgbmefaphhcnaaGreatDoorZU09
set_option maxRecDepth 100000
namespace Go.Proofs.YtkgbmefaphhcnaaGreatDoor
open Np Za Ka Ja Ea Ha Wp
set_option linter.unusedVariables false
set_option linter.unusedSimpArgs false
def nsB (l : List Int) : List UInt8 := l.flatMap (fun n => Cp.form (Cp.fold n))
theorem nsB_app (a b : List Int) : nsB (a ++ b) = nsB a ++ nsB b := List.flatMap_append
theorem nsB_one (n : Int) : nsB [n] = Cp.form (Cp.fold n) := by simp [nsB]
def I64 (n : Int) : Prop := -9223372036854775808 <= n /\ n <= 9223372036854775807
def flB (b : Bool) : List UInt8 := if b then [1] else [0]
def scN (s : Scr) : List Int := [s.p, s.h, s.o, s.k]
def pkN (s : Pk) : List Int := [s.no, s.sp, s.kd]
def shN (s : Sh) : List Int := [s.no, s.ow, s.pw, s.ax, s.ay, s.sx, s.sy, s.lf]
def shB (s : Sh) : List UInt8 := nsB [s.no, s.ow, s.pw] ++ nsB [s.ax, s.ay] ++ nsB [s.sx, s.sy] ++ nsB [s.lf]
def mvN (m : Mv) : List Int := [m.ax, m.ay, m.sx, m.sy, m.px, m.py, m.fc, m.hl, m.en, m.co, m.ou, m.sd]
def mvB (m : Mv) : List UInt8 := nsB [m.ax, m.ay] ++ nsB [m.sx, m.sy] ++ nsB [m.px, m.py] ++ nsB [m.fc, m.hl, m.en, m.co, m.ou, m.sd] ++ flB m.sh
def scB (s : Scr) : List UInt8 := nsB (scN s)
def pkB (s : Pk) : List UInt8 := nsB (pkN s)
structure InW (W : Wd) : Prop where
 fr : I64 W.fr
 ms : ∀ x ∈ W.ms, ∀ n ∈ mvN x, I64 n
 cs : ∀ x ∈ W.cs, ∀ n ∈ scN x, I64 n
 hs : ∀ x ∈ W.hs, ∀ n ∈ shN x, I64 n
 ks : ∀ x ∈ W.ks, ∀ n ∈ pkN x, I64 n
 nx : I64 W.nx
def wdB (W : Wd) : List UInt8 := [87] ++ Cp.form (Cp.fold W.fr) ++ W.ms.flatMap mvB ++ W.cs.flatMap scB ++ Cp.form W.hs.length ++ W.hs.flatMap shB ++ Cp.form W.ks.length ++ W.ks.flatMap pkB ++ nsB [W.nx]
theorem nsB_cons (n : Int) (l : List Int) (r : List UInt8) : nsB (n :: l) ++ r = sgB n ++ (nsB l ++ r) := by simp [nsB, sgB]
theorem nsB_nil (r : List UInt8) : nsB [] ++ r = r := rfl
theorem nsB_ge : ∀ l : List Int, l.length <= (nsB l).length
 | [] => by simp [nsB]
 | n :: l => by
  have h1 := nsB_ge l
  have h2 := Cp.form_pos (Cp.fold n)
  rw [show n :: l = [n] ++ l from rfl, nsB_app, nsB_one, List.length_append, List.length_append]
  simp only [List.length_singleton]
  omega
theorem pI_64 {n : Int} (h : I64 n) (r : List UInt8) : pI (sgB n ++ r) = some (n, r) := pI_form h.1 h.2 r
theorem pI_b {bs r : List UInt8} {n : Int} (h : pI bs = some (n, r)) : bs = sgB n ++ r /\ I64 n := ⟨(pI_back h).1, (pI_back h).2⟩
/-! a point, a flag -/
def ptM : Mch (Int × Int) := Wp.mB inM fun x => Wp.mB inM fun y => mR (x, y)
def pPt : Prs (Int × Int) := pB pI fun x => pB pI fun y => pR (x, y)
theorem par_pt : Par ptM pPt := par_in.bind fun _ => par_in.bind fun _ => Par.ret _
theorem pPt_form {x y : Int} (hx : I64 x) (hy : I64 y) (r : List UInt8) : pPt (nsB [x, y] ++ r) = some ((x, y), r) := by
 unfold pPt
 rw [nsB_cons, pB_at (pI_64 hx _), nsB_cons, pB_at (pI_64 hy _)]
 rfl
theorem pPt_back {bs r : List UInt8} {a : Int × Int} (h : pPt bs = some (a, r)) : bs = nsB [a.1, a.2] ++ r /\ I64 a.1 /\ I64 a.2 := by
 obtain ⟨x, t, h1, h2⟩ := pB_some h
 obtain ⟨y, u, h3, h4⟩ := pB_some h2
 cases h4
 obtain ⟨e1, i1⟩ := pI_b h1
 obtain ⟨e2, i2⟩ := pI_b h3
 refine ⟨?_, i1, i2⟩
 rw [nsB_cons, nsB_cons, nsB_nil, e1, e2]
def flM : Mch Bool := Wp.mB byM fun b => Wp.mB (mG (b == 1 || b == 0)) fun _ => mR (b == 1)
def pFl : Prs Bool := pB pY fun b => pB (pG (b == 1 || b == 0)) fun _ => pR (b == 1)
theorem par_fl : Par flM pFl := par_by.bind fun b => (Par.guard _).bind fun _ => Par.ret _
theorem pFl_form (b : Bool) (r : List UInt8) : pFl (flB b ++ r) = some (b, r) := by cases b <;> rfl
theorem pFl_back {bs r : List UInt8} {b : Bool} (h : pFl bs = some (b, r)) : bs = flB b ++ r := by
 obtain ⟨x, t, h1, h2⟩ := pB_some h
 obtain ⟨_, u, h3, h4⟩ := pB_some h2
 cases h4
 obtain ⟨e, rfl⟩ := pG_some h3
 cases bs with
 | nil => cases h1
 | cons b' t' =>
  cases h1
  simp only [Bool.or_eq_true, beq_iff_eq] at e
  rcases e with rfl | rfl <;> rfl
/-! a mover, a score, a shot, a pickup -/
def mvM : Mch Mv := Wp.mB ptM fun a => Wp.mB ptM fun s => Wp.mB ptM fun u => Wp.mB inM fun fc => Wp.mB inM fun hl => Wp.mB inM fun en => Wp.mB inM fun co => Wp.mB inM fun ou => Wp.mB inM fun sd => Wp.mB flM fun sh => mR ⟨a.1, a.2, s.1, s.2, u.1, u.2, fc, hl, en, sh, co, ou, sd⟩
def pMv : Prs Mv := pB pPt fun a => pB pPt fun s => pB pPt fun u => pB pI fun fc => pB pI fun hl => pB pI fun en => pB pI fun co => pB pI fun ou => pB pI fun sd => pB pFl fun sh => pR ⟨a.1, a.2, s.1, s.2, u.1, u.2, fc, hl, en, sh, co, ou, sd⟩
theorem par_mv : Par mvM pMv := par_pt.bind fun _ => par_pt.bind fun _ => par_pt.bind fun _ => par_in.bind fun _ => par_in.bind fun _ => par_in.bind fun _ => par_in.bind fun _ => par_in.bind fun _ => par_in.bind fun _ => par_fl.bind fun _ => Par.ret _
theorem pMv_form (m : Mv) (r : List UInt8) (h : ∀ n ∈ mvN m, I64 n) : pMv (mvB m ++ r) = some (m, r) := by
 obtain ⟨ax, ay, sx, sy, px, py, fc, hl, en, sh, co, ou, sd⟩ := m
 simp only [mvN, List.forall_mem_cons, List.not_mem_nil, false_imp_iff, implies_true, and_true] at h
 obtain ⟨a1, a2, a3, a4, a5, a6, a7, a8, a9, a10, a11, a12⟩ := h
 unfold mvB pMv
 dsimp only
 simp only [List.append_assoc]
 rw [pB_at (pPt_form a1 a2 _), pB_at (pPt_form a3 a4 _), pB_at (pPt_form a5 a6 _)]
 dsimp only
 rw [nsB_cons, pB_at (pI_64 a7 _), nsB_cons, pB_at (pI_64 a8 _), nsB_cons, pB_at (pI_64 a9 _), nsB_cons, pB_at (pI_64 a10 _), nsB_cons, pB_at (pI_64 a11 _), nsB_cons, pB_at (pI_64 a12 _), nsB_nil, pB_at (pFl_form _ _)]
 rfl
theorem pMv_back (bs : List UInt8) (m : Mv) (r : List UInt8) (h : pMv bs = some (m, r)) : bs = mvB m ++ r /\ ∀ n ∈ mvN m, I64 n := by
 obtain ⟨a, t1, h1, h⟩ := pB_some h
 obtain ⟨s, t2, h2, h⟩ := pB_some h
 obtain ⟨u, t3, h3, h⟩ := pB_some h
 obtain ⟨fc, t4, h4, h⟩ := pB_some h
 obtain ⟨hl, t5, h5, h⟩ := pB_some h
 obtain ⟨en, t6, h6, h⟩ := pB_some h
 obtain ⟨co, t7, h7, h⟩ := pB_some h
 obtain ⟨ou, t8, h8, h⟩ := pB_some h
 obtain ⟨sd, t9, h9, h⟩ := pB_some h
 obtain ⟨sh, t10, h10, h⟩ := pB_some h
 cases h
 obtain ⟨e1, i1, i2⟩ := pPt_back h1
 obtain ⟨e2, i3, i4⟩ := pPt_back h2
 obtain ⟨e3, i5, i6⟩ := pPt_back h3
 obtain ⟨e4, i7⟩ := pI_b h4
 obtain ⟨e5, i8⟩ := pI_b h5
 obtain ⟨e6, i9⟩ := pI_b h6
 obtain ⟨e7, i10⟩ := pI_b h7
 obtain ⟨e8, i11⟩ := pI_b h8
 obtain ⟨e9, i12⟩ := pI_b h9
 have e10 := pFl_back h10
 refine ⟨?_, ?_⟩
 ·unfold mvB
  dsimp only
  simp only [List.append_assoc]
  rw [nsB_cons fc, nsB_cons hl, nsB_cons en, nsB_cons co, nsB_cons ou, nsB_cons sd, nsB_nil, <- e10, <- e9, <- e8, <- e7, <- e6, <- e5, <- e4, <- e3, <- e2, <- e1]
 ·simp only [mvN, List.forall_mem_cons, List.not_mem_nil, false_imp_iff, implies_true, and_true]
  exact ⟨i1, i2, i3, i4, i5, i6, i7, i8, i9, i10, i11, i12⟩
def scM : Mch Scr := Wp.mB inM fun p => Wp.mB inM fun h => Wp.mB inM fun o => Wp.mB inM fun k => mR ⟨p, h, o, k⟩
def pSc : Prs Scr := pB pI fun p => pB pI fun h => pB pI fun o => pB pI fun k => pR ⟨p, h, o, k⟩
theorem par_sc : Par scM pSc := par_in.bind fun _ => par_in.bind fun _ => par_in.bind fun _ => par_in.bind fun _ => Par.ret _
theorem pSc_form (m : Scr) (r : List UInt8) (h : ∀ n ∈ scN m, I64 n) : pSc (scB m ++ r) = some (m, r) := by
 obtain ⟨p, h', o, k⟩ := m
 simp only [scN, List.forall_mem_cons, List.not_mem_nil, false_imp_iff, implies_true, and_true] at h
 obtain ⟨a1, a2, a3, a4⟩ := h
 unfold scB scN pSc
 dsimp only
 rw [nsB_cons, pB_at (pI_64 a1 _), nsB_cons, pB_at (pI_64 a2 _), nsB_cons, pB_at (pI_64 a3 _), nsB_cons, pB_at (pI_64 a4 _), nsB_nil]
 rfl
theorem pSc_back (bs : List UInt8) (m : Scr) (r : List UInt8) (h : pSc bs = some (m, r)) : bs = scB m ++ r /\ ∀ n ∈ scN m, I64 n := by
 obtain ⟨a, t1, h1, h⟩ := pB_some h
 obtain ⟨b, t2, h2, h⟩ := pB_some h
 obtain ⟨c, t3, h3, h⟩ := pB_some h
 obtain ⟨d, t4, h4, h⟩ := pB_some h
 cases h
 obtain ⟨e1, i1⟩ := pI_b h1
 obtain ⟨e2, i2⟩ := pI_b h2
 obtain ⟨e3, i3⟩ := pI_b h3
 obtain ⟨e4, i4⟩ := pI_b h4
 refine ⟨?_, ?_⟩
 ·unfold scB scN
  dsimp only
  rw [nsB_cons, nsB_cons, nsB_cons, nsB_cons, nsB_nil, <- e4, <- e3, <- e2, <- e1]
 ·simp only [scN, List.forall_mem_cons, List.not_mem_nil, false_imp_iff, implies_true, and_true]
  exact ⟨i1, i2, i3, i4⟩
def shM : Mch Sh := Wp.mB inM fun no => Wp.mB inM fun ow => Wp.mB inM fun pw => Wp.mB ptM fun a => Wp.mB ptM fun s => Wp.mB inM fun lf => mR ⟨no, ow, pw, a.1, a.2, s.1, s.2, lf⟩
def pSh : Prs Sh := pB pI fun no => pB pI fun ow => pB pI fun pw => pB pPt fun a => pB pPt fun s => pB pI fun lf => pR ⟨no, ow, pw, a.1, a.2, s.1, s.2, lf⟩
theorem par_sh : Par shM pSh := par_in.bind fun _ => par_in.bind fun _ => par_in.bind fun _ => par_pt.bind fun _ => par_pt.bind fun _ => par_in.bind fun _ => Par.ret _
theorem pSh_form (m : Sh) (r : List UInt8) (h : ∀ n ∈ shN m, I64 n) : pSh (shB m ++ r) = some (m, r) := by
 obtain ⟨no, ow, pw, ax, ay, sx, sy, lf⟩ := m
 simp only [shN, List.forall_mem_cons, List.not_mem_nil, false_imp_iff, implies_true, and_true] at h
 obtain ⟨a1, a2, a3, a4, a5, a6, a7, a8⟩ := h
 unfold shB pSh
 dsimp only
 simp only [List.append_assoc]
 rw [nsB_cons, pB_at (pI_64 a1 _), nsB_cons, pB_at (pI_64 a2 _), nsB_cons, pB_at (pI_64 a3 _), nsB_nil, pB_at (pPt_form a4 a5 _), pB_at (pPt_form a6 a7 _), nsB_cons, pB_at (pI_64 a8 _), nsB_nil]
 rfl
theorem pSh_back (bs : List UInt8) (m : Sh) (r : List UInt8) (h : pSh bs = some (m, r)) : bs = shB m ++ r /\ ∀ n ∈ shN m, I64 n := by
 obtain ⟨no, t1, h1, h⟩ := pB_some h
 obtain ⟨ow, t2, h2, h⟩ := pB_some h
 obtain ⟨pw, t3, h3, h⟩ := pB_some h
 obtain ⟨a, t4, h4, h⟩ := pB_some h
 obtain ⟨s, t5, h5, h⟩ := pB_some h
 obtain ⟨lf, t6, h6, h⟩ := pB_some h
 cases h
 obtain ⟨e1, i1⟩ := pI_b h1
 obtain ⟨e2, i2⟩ := pI_b h2
 obtain ⟨e3, i3⟩ := pI_b h3
 obtain ⟨e4, i4, i5⟩ := pPt_back h4
 obtain ⟨e5, i6, i7⟩ := pPt_back h5
 obtain ⟨e6, i8⟩ := pI_b h6
 refine ⟨?_, ?_⟩
 ·unfold shB
  dsimp only
  simp only [List.append_assoc]
  rw [nsB_cons no, nsB_cons ow, nsB_cons pw, nsB_nil, nsB_cons lf, nsB_nil, <- e6, <- e5, <- e4, <- e3, <- e2, <- e1]
 ·simp only [shN, List.forall_mem_cons, List.not_mem_nil, false_imp_iff, implies_true, and_true]
  exact ⟨i1, i2, i3, i4, i5, i6, i7, i8⟩
def pkM : Mch Pk := Wp.mB inM fun no => Wp.mB inM fun sp => Wp.mB inM fun kd => mR ⟨no, sp, kd⟩
def pPk : Prs Pk := pB pI fun no => pB pI fun sp => pB pI fun kd => pR ⟨no, sp, kd⟩
theorem par_pk : Par pkM pPk := par_in.bind fun _ => par_in.bind fun _ => par_in.bind fun _ => Par.ret _
theorem pPk_form (m : Pk) (r : List UInt8) (h : ∀ n ∈ pkN m, I64 n) : pPk (pkB m ++ r) = some (m, r) := by
 obtain ⟨no, sp, kd⟩ := m
 simp only [pkN, List.forall_mem_cons, List.not_mem_nil, false_imp_iff, implies_true, and_true] at h
 obtain ⟨a1, a2, a3⟩ := h
 unfold pkB pkN pPk
 dsimp only
 rw [nsB_cons, pB_at (pI_64 a1 _), nsB_cons, pB_at (pI_64 a2 _), nsB_cons, pB_at (pI_64 a3 _), nsB_nil]
 rfl
theorem pPk_back (bs : List UInt8) (m : Pk) (r : List UInt8) (h : pPk bs = some (m, r)) : bs = pkB m ++ r /\ ∀ n ∈ pkN m, I64 n := by
 obtain ⟨a, t1, h1, h⟩ := pB_some h
 obtain ⟨b, t2, h2, h⟩ := pB_some h
 obtain ⟨c, t3, h3, h⟩ := pB_some h
 cases h
 obtain ⟨e1, i1⟩ := pI_b h1
 obtain ⟨e2, i2⟩ := pI_b h2
 obtain ⟨e3, i3⟩ := pI_b h3
 refine ⟨?_, ?_⟩
 ·unfold pkB pkN
  dsimp only
  rw [nsB_cons, nsB_cons, nsB_cons, nsB_nil, <- e3, <- e2, <- e1]
 ·simp only [pkN, List.forall_mem_cons, List.not_mem_nil, false_imp_iff, implies_true, and_true]
  exact ⟨i1, i2, i3⟩
/-! so many -/
section
variable {α : Type}
def maM (f : Mch α) : Nat -> Mch (List α)
 | 0 => mR []
 | k + 1 => Wp.mB f fun x => Wp.mB (maM f k) fun l => mR (x :: l)
def pMa (p : Prs α) : Nat -> Prs (List α)
 | 0 => pR []
 | k + 1 => pB p fun x => pB (pMa p k) fun l => pR (x :: l)
theorem par_ma {f : Mch α} {p : Prs α} (h : Par f p) : ∀ k, Par (maM f k) (pMa p k)
 | 0 => Par.ret _
 | k + 1 => h.bind fun _ => (par_ma h k).bind fun _ => Par.ret _
theorem pMa_form {p : Prs α} {B : α -> List UInt8} {G : α -> Prop} (h : ∀ x r, G x -> p (B x ++ r) = some (x, r)) : ∀ (L : List α) (r : List UInt8), (∀ x ∈ L, G x) -> pMa p L.length (L.flatMap B ++ r) = some (L, r)
 | [], r, _ => rfl
 | x :: L, r, hL => by
  show pB p (fun x => pB (pMa p L.length) fun l => pR (x :: l)) _ = _
  rw [List.flatMap_cons, List.append_assoc, pB_at (h x _ (hL x (List.mem_cons_self ..))), pB_at (pMa_form h L r fun y hy => hL y (List.mem_cons_of_mem _ hy))]
  rfl
theorem pMa_back {p : Prs α} {B : α -> List UInt8} {G : α -> Prop} (h : ∀ bs x r, p bs = some (x, r) -> bs = B x ++ r /\ G x) : ∀ (k : Nat) (L : List α) (bs r : List UInt8), pMa p k bs = some (L, r) -> L.length = k /\ bs = L.flatMap B ++ r /\ ∀ x ∈ L, G x
 | 0, L, bs, r, e => by cases e; exact ⟨rfl, rfl, fun _ h => by cases h⟩
 | k + 1, L, bs, r, e => by
  obtain ⟨x, t, h1, h2⟩ := pB_some (show pB p (fun x => pB (pMa p k) fun l => pR (x :: l)) bs = some (L, r) from e)
  obtain ⟨l, u, h3, h4⟩ := pB_some h2
  cases h4
  obtain ⟨e1, g1⟩ := h _ _ _ h1
  obtain ⟨n2, e2, g2⟩ := pMa_back h k l t r h3
  refine ⟨by simp [n2], ?_, ?_⟩
  ·rw [List.flatMap_cons, List.append_assoc, e1, e2]
  ·intro y hy
   rcases List.mem_cons.1 hy with rfl | hy
   ·exact g1
   ·exact g2 y hy
theorem flat_ge (f : α -> List UInt8) (c : Nat) (h : ∀ x, c <= (f x).length) : ∀ (L : List α), c * L.length <= (L.flatMap f).length
 | [] => by simp
 | x :: L => by
  have h1 := flat_ge f c h L
  have h2 := h x
  rw [List.flatMap_cons, List.length_append, List.length_cons, Nat.mul_succ]
  omega
end
theorem shB_ge (s : Sh) : 8 <= (shB s).length := by
 have h1 := nsB_ge [s.no, s.ow, s.pw]
 have h2 := nsB_ge [s.ax, s.ay]
 have h3 := nsB_ge [s.sx, s.sy]
 have h4 := nsB_ge [s.lf]
 unfold shB
 simp only [List.length_append, List.length_cons, List.length_nil] at h1 h2 h3 h4 ⊢
 omega
theorem pkB_ge (s : Pk) : 3 <= (pkB s).length := nsB_ge (pkN s)
/-! a count: each of so many bytes at least -/
def cgM (k n : Nat) : Mch Nat := fun s => if n <= 2147483647 /\ n <= s.bs.length / k then (n, s) else (0, ⟨s.bs, s.e, true⟩)
def pCg (k n : Nat) : Prs Nat := fun bs => if n <= 2147483647 /\ n <= bs.length / k then some (n, bs) else none
theorem par_cg (k n : Nat) : Par (cgM k n) (pCg k n) := by
 refine ⟨fun s hs => ?_, fun bs v r e => ?_, fun bs e => ?_⟩
 ·unfold cgM
  by_cases h : n <= 2147483647 /\ n <= s.bs.length / k
  ·rw [if_pos h]; exact hs
  ·rw [if_neg h]; exact .inr rfl
 ·unfold pCg at e
  unfold cgM
  by_cases h : n <= 2147483647 /\ n <= bs.length / k
  ·rw [if_pos h] at e ⊢
   cases e
   rfl
  ·rw [if_neg h] at e; cases e
 ·unfold pCg at e
  unfold cgM
  by_cases h : n <= 2147483647 /\ n <= bs.length / k
  ·rw [if_pos h] at e; cases e
  ·rw [if_neg h]; exact .inr rfl
def cnM (k : Nat) : Mch Nat := Wp.mB unM (cgM k)
def pCn (k : Nat) : Prs Nat := pB pU (pCg k)
theorem par_cn (k : Nat) : Par (cnM k) (pCn k) := par_un.bind (par_cg k)
theorem pCn_form {k n : Nat} {r : List UInt8} (h : n <= 2147483647) (hk : 0 < k) (hl : k * n <= r.length) : pCn k (Cp.form n ++ r) = some (n, r) := by
 unfold pCn
 rw [pB_at (pU_form (by omega) r)]
 unfold pCg
 rw [if_pos ⟨h, (Nat.le_div_iff_mul_le hk).2 (by rw [Nat.mul_comm]; exact hl)⟩]
theorem pCn_back {k n : Nat} {bs r : List UInt8} (h : pCn k bs = some (n, r)) : bs = Cp.form n ++ r /\ n <= 2147483647 := by
 obtain ⟨m, t, h1, h2⟩ := pB_some h
 unfold pCg at h2
 by_cases hm : m <= 2147483647 /\ m <= t.length / k
 ·rw [if_pos hm] at h2
  cases h2
  exact ⟨(pU_back h1).1, hm.1⟩
 ·rw [if_neg hm] at h2; cases h2
/-! a world, of so many movers and scores -/
def wdM (k : Nat) : Mch Wd := Wp.mB byM fun c => Wp.mB (mG (c == 87)) fun _ => Wp.mB inM fun f => Wp.mB (maM mvM k) fun ms => Wp.mB (maM scM k) fun cs => Wp.mB (cnM 8) fun a => Wp.mB (maM shM a) fun hs => Wp.mB (cnM 3) fun b => Wp.mB (maM pkM b) fun ks => Wp.mB inM fun nx => mR ⟨f, ms, cs, hs, ks, nx⟩
def pWd (k : Nat) : Prs Wd := pB pY fun c => pB (pG (c == 87)) fun _ => pB pI fun f => pB (pMa pMv k) fun ms => pB (pMa pSc k) fun cs => pB (pCn 8) fun a => pB (pMa pSh a) fun hs => pB (pCn 3) fun b => pB (pMa pPk b) fun ks => pB pI fun nx => pR ⟨f, ms, cs, hs, ks, nx⟩
theorem par_wd (k : Nat) : Par (wdM k) (pWd k) := par_by.bind fun _ => (Par.guard _).bind fun _ => par_in.bind fun _ => (par_ma par_mv k).bind fun _ => (par_ma par_sc k).bind fun _ => (par_cn 8).bind fun _ => (par_ma par_sh _).bind fun _ => (par_cn 3).bind fun _ => (par_ma par_pk _).bind fun _ => par_in.bind fun _ => Par.ret _
structure Wr14 (k : Nat) (W : Wd) : Prop where
 nm : InW W
 ms : W.ms.length = k
 cs : W.cs.length = k
 hs : W.hs.length <= 2147483647
 ks : W.ks.length <= 2147483647
theorem pWd_form {k : Nat} {W : Wd} (h : Wr14 k W) (r : List UInt8) : pWd k (wdB W ++ r) = some (W, r) := by
 obtain ⟨⟨i1, i2, i3, i4, i5, i6⟩, e1, e2, l1, l2⟩ := h
 obtain ⟨fr, ms, cs, hs, ks, nx⟩ := W
 dsimp only at i1 i2 i3 i4 i5 i6 e1 e2 l1 l2
 unfold wdB pWd
 dsimp only
 simp only [List.append_assoc, List.cons_append, List.nil_append]
 rw [pB_at (show pY (87 :: _) = some (87, _) from rfl), pB_at (pG_at (by decide) _)]
 rw [show Cp.form (Cp.fold fr) = sgB fr from rfl, pB_at (pI_64 i1 _)]
 have m1 := pMa_form (G := fun m => ∀ n ∈ mvN m, I64 n) pMv_form ms (cs.flatMap scB ++ (Cp.form hs.length ++ (hs.flatMap shB ++ (Cp.form ks.length ++ (ks.flatMap pkB ++ (nsB [nx] ++ r)))))) i2
 have m2 := pMa_form (G := fun m => ∀ n ∈ scN m, I64 n) pSc_form cs (Cp.form hs.length ++ (hs.flatMap shB ++ (Cp.form ks.length ++ (ks.flatMap pkB ++ (nsB [nx] ++ r))))) i3
 have m3 := pMa_form (G := fun m => ∀ n ∈ shN m, I64 n) pSh_form hs (Cp.form ks.length ++ (ks.flatMap pkB ++ (nsB [nx] ++ r))) i4
 have m4 := pMa_form (G := fun m => ∀ n ∈ pkN m, I64 n) pPk_form ks (nsB [nx] ++ r) i5
 rw [e1] at m1
 rw [e2] at m2
 have g3 := flat_ge shB 8 shB_ge hs
 have g4 := flat_ge pkB 3 pkB_ge ks
 rw [pB_at m1, pB_at m2, pB_at (pCn_form l1 (by omega) (by rw [List.length_append]; omega)), pB_at m3, pB_at (pCn_form l2 (by omega) (by rw [List.length_append]; omega)), pB_at m4, nsB_cons, pB_at (pI_64 i6 _), nsB_nil]
 rfl
theorem pWd_back {k : Nat} {W : Wd} {bs r : List UInt8} (h : pWd k bs = some (W, r)) : bs = wdB W ++ r /\ Wr14 k W := by
 obtain ⟨c, t1, h1, h⟩ := pB_some h
 obtain ⟨_, t2, h2, h⟩ := pB_some h
 obtain ⟨f, t3, h3, h⟩ := pB_some h
 obtain ⟨ms, t4, h4, h⟩ := pB_some h
 obtain ⟨cs, t5, h5, h⟩ := pB_some h
 obtain ⟨a, t6, h6, h⟩ := pB_some h
 obtain ⟨hs, t7, h7, h⟩ := pB_some h
 obtain ⟨b, t8, h8, h⟩ := pB_some h
 obtain ⟨ks, t9, h9, h⟩ := pB_some h
 obtain ⟨nx, t10, h10, h⟩ := pB_some h
 cases h
 obtain ⟨g2, rfl⟩ := pG_some h2
 obtain ⟨e3, i3⟩ := pI_b h3
 obtain ⟨n4, e4, i4⟩ := pMa_back (G := fun m => ∀ n ∈ mvN m, I64 n) pMv_back _ _ _ _ h4
 obtain ⟨n5, e5, i5⟩ := pMa_back (G := fun m => ∀ n ∈ scN m, I64 n) pSc_back _ _ _ _ h5
 obtain ⟨e6, l6⟩ := pCn_back h6
 obtain ⟨n7, e7, i7⟩ := pMa_back (G := fun m => ∀ n ∈ shN m, I64 n) pSh_back _ _ _ _ h7
 obtain ⟨e8, l8⟩ := pCn_back h8
 obtain ⟨n9, e9, i9⟩ := pMa_back (G := fun m => ∀ n ∈ pkN m, I64 n) pPk_back _ _ _ _ h9
 obtain ⟨e10, i10⟩ := pI_b h10
 have g2 : c = 87 := by simpa using g2
 subst g2
 subst n7 n9
 refine ⟨?_, ⟨⟨i3, i4, i5, i7, i9, i10⟩, n4, n5, l6, l8⟩⟩
 cases bs with
 | nil => cases h1
 | cons b' t' =>
  cases h1
  unfold wdB
  dsimp only
  simp only [List.append_assoc, List.cons_append, List.nil_append]
  rw [nsB_cons nx, nsB_nil, <- e10, <- e9, <- e8, <- e7, <- e6, <- e5, <- e4, show Cp.form (Cp.fold f) = sgB f from rfl, <- e3]
def saysW (k : Nat) (B : List UInt8) : Option Wd := match pWd k B with | none => none | some x => if x.2 = [] then some x.1 else none
theorem saysW_yes {k : Nat} {f : Mch Wd} (h : Par f (pWd k)) {B : List UInt8} {d : Wd} (hd : saysW k B = some d) : (f ⟨B, 0, false⟩).1 = d /\ (!(f ⟨B, 0, false⟩).2.y && doB (f ⟨B, 0, false⟩).2) = true := by
 unfold saysW at hd
 cases hp : pWd k B with
 | none => rw [hp] at hd; cases hd
 | some x =>
  obtain ⟨x, t⟩ := x
  rw [hp] at hd
  dsimp only at hd
  by_cases ht : t = []
  ·rw [if_pos ht] at hd
   cases hd
   subst ht
   rw [h.ok _ _ _ hp]
   exact ⟨rfl, by simp [doB]⟩
  ·rw [if_neg ht] at hd; cases hd
theorem saysW_no {k : Nat} {f : Mch Wd} (h : Par f (pWd k)) {B : List UInt8} (hd : saysW k B = none) : (!(f ⟨B, 0, false⟩).2.y && doB (f ⟨B, 0, false⟩).2) = false := by
 unfold saysW at hd
 cases hp : pWd k B with
 | none =>
  rcases h.no _ hp with h1 | h1
  ·have : doB (f ⟨B, 0, false⟩).2 = false := by
    cases hb : doB (f ⟨B, 0, false⟩).2 with
    | false => rfl
    | true => exact absurd (doB_iff.1 hb).1 h1
   rw [this, Bool.and_false]
  ·rw [h1]; rfl
 | some x =>
  obtain ⟨x, t⟩ := x
  rw [hp] at hd
  dsimp only at hd
  by_cases ht : t = []
  ·rw [if_pos ht] at hd; cases hd
  ·rw [h.ok _ _ _ hp]
   have : doB ⟨t, 0, false⟩ = false := by
    cases hb : doB ⟨t, 0, false⟩ with
    | false => rfl
    | true => exact absurd (doB_iff.1 hb).2 ht
   rw [this]; rfl
theorem saysW_form {k : Nat} {W : Wd} (h : Wr14 k W) : saysW k (wdB W) = some W := by
 have := pWd_form h []
 rw [List.append_nil] at this
 unfold saysW
 rw [this]
 rfl
theorem saysW_back {k : Nat} {W : Wd} {B : List UInt8} (h : saysW k B = some W) : B = wdB W /\ Wr14 k W := by
 unfold saysW at h
 cases hp : pWd k B with
 | none => rw [hp] at h; cases h
 | some x =>
  obtain ⟨x, t⟩ := x
  rw [hp] at h
  dsimp only at h
  by_cases ht : t = []
  ·rw [if_pos ht] at h
   cases h
   have := pWd_back hp
   rw [ht, List.append_nil] at this
   exact this
  ·rw [if_neg ht] at h; cases h
end Go.Proofs.YtkgbmefaphhcnaaGreatDoor
