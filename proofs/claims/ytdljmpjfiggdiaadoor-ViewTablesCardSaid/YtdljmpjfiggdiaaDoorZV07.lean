/- Parts of the proof, laid end to end. -/
import Derived.KernelRfl
import Derived.Tactics2
import Derived.Test.YtdljmpjfiggdiaaDoorZV01
import Derived.Laws.ResultCell
import Derived.Laws.StructEq
import Derived.Test.YtdljmpjfiggdiaaDoorZV00
import Derived.Deep.DeepCutAuto
namespace Go.Proofs.YtdljmpjfiggdiaaDoor.Vp
def nmL : List ByteArray := [⟨#[115, 116, 101, 101, 114]⟩, ⟨#[104, 97, 108, 116]⟩, ⟨#[97, 105, 109]⟩, ⟨#[102, 105, 114, 101]⟩, ⟨#[115, 104, 105, 101, 108, 100]⟩, ⟨#[100, 97, 115, 104]⟩, ⟨#[115, 97, 121]⟩]
def fsL : List ByteArray := [⟨#[120]⟩, ⟨#[]⟩, ⟨#[116, 111]⟩, ⟨#[112, 111, 119, 101, 114]⟩, ⟨#[111, 110]⟩, ⟨#[116, 111]⟩, ⟨#[119, 104, 97, 116]⟩]
def loL : List Int := [-8, 0, 0, 1, 0, 0, 0]
def hiL : List Int := [8, 0, 15, 3, 1, 15, 255]
def nmB (i : Nat) : ByteArray := nmL.getD i ByteArray.empty
def fsB (i : Nat) : ByteArray := fsL.getD i ByteArray.empty
def lo (i : Nat) : Int := loL.getD i 0
def hi (i : Nat) : Int := hiL.getD i 0
def isV (v : Int) : Bool := decide (1 <= v) && decide (v <= 7)
def nmV (v : Int) : ByteArray := if isV v then nmB (v - 1).toNat else ByteArray.empty
def opV (v : Int) : List (ByteArray × Int × Int) :=
 if isV v && v != 2 then (fsB (v - 1).toNat, lo (v - 1).toNat, hi (v - 1).toNat) :: (if v = 1 then [(⟨#[121]⟩, -8, 8)] else []) else []
def okO (v a b c : Int) : Bool := decide (lo (v - 1).toNat <= a) && decide (a <= hi (v - 1).toNat) && (if v = 1 then decide (-8 <= b) && decide (b <= 8) else decide (b = 0)) && decide (c = 0)
def chkO (v a b c : Int) : Int := if isV v then (if okO v a b c then 0 else 71) else 70
theorem isV_iff {v : Int} : isV v = true ↔ 1 <= v /\ v <= 7 := by unfold isV; simp
theorem isV_no {v : Int} : isV v = false ↔ v < 1 \/ 7 < v := by
 unfold isV
 simp
 omega
theorem verbs {v : Int} (h : isV v = true) : v = 1 \/ v = 2 \/ v = 3 \/ v = 4 \/ v = 5 \/ v = 6 \/ v = 7 := by
 have := isV_iff.1 h
 omega
def dg (n : Nat) : UInt8 := UInt8.ofNat (48 + n % 10)
def numN (n : Nat) : List UInt8 := if n < 10 then [dg n] else if n < 100 then [dg (n / 10), dg n] else [dg (n / 100), dg (n / 10), dg n]
def numB (n : Int) : ByteArray := ⟨(if n < 0 then 45 :: numN (-n).toNat else numN n.toNat).toArray⟩
def prn (v a b : Int) : ByteArray := nmV v ++ (if v = 2 then ByteArray.empty else (⟨#[32]⟩ : ByteArray) ++ numB a) ++ (if v = 1 then (⟨#[32]⟩ : ByteArray) ++ numB b else ByteArray.empty)
def prnO (v a b c : Int) : ByteArray := if chkO v a b c = 0 then prn v a b else ByteArray.empty
def allO : List (Int × Int × Int) :=
 ((List.range 17).flatMap fun (i : Nat) => (List.range 17).map fun (j : Nat) => ((1 : Int), (i : Int) - 8, (j : Int) - 8)) ++ [(2, 0, 0)] ++ ((List.range 16).map fun (i : Nat) => ((3 : Int), (i : Int), (0 : Int))) ++
  ((List.range 3).map fun (i : Nat) => ((4 : Int), (i : Int) + 1, (0 : Int))) ++ ((List.range 2).map fun (i : Nat) => ((5 : Int), (i : Int), (0 : Int))) ++ ((List.range 16).map fun (i : Nat) => ((6 : Int), (i : Int), (0 : Int))) ++ ((List.range 256).map fun (i : Nat) => ((7 : Int), (i : Int), (0 : Int)))
theorem mem_all {v a b c : Int} (h : chkO v a b c = 0) : (v, a, b) ∈ allO /\ c = 0 := by
 unfold chkO at h
 split at h
 ·rename_i hv
  split at h
  ·rename_i ho
   unfold okO at ho
   simp only [Bool.and_eq_true, decide_eq_true_eq] at ho
   obtain ⟨⟨⟨h1, h2⟩, h3⟩, h4⟩ := ho
   refine ⟨?_, h4⟩
   unfold allO
   simp only [List.mem_append]
   rcases verbs hv with rfl | rfl | rfl | rfl | rfl | rfl | rfl
   ·simp [lo, hi, loL, hiL] at h1 h2 h3
    left; left; left; left; left; left
    exact List.mem_flatMap.2 ⟨(a + 8).toNat, List.mem_range.2 (by omega), List.mem_map.2 ⟨(b + 8).toNat, List.mem_range.2 (by omega), by simp; omega⟩⟩
   ·simp [lo, hi, loL, hiL] at h1 h2 h3
    left; left; left; left; left; right
    rw [show a = 0 by omega, h3]
    exact List.mem_singleton.2 rfl
   ·simp [lo, hi, loL, hiL] at h1 h2 h3
    left; left; left; left; right
    exact List.mem_map.2 ⟨a.toNat, List.mem_range.2 (by omega), by simp; omega⟩
   ·simp [lo, hi, loL, hiL] at h1 h2 h3
    left; left; left; right
    exact List.mem_map.2 ⟨(a - 1).toNat, List.mem_range.2 (by omega), by simp; omega⟩
   ·simp [lo, hi, loL, hiL] at h1 h2 h3
    left; left; right
    exact List.mem_map.2 ⟨a.toNat, List.mem_range.2 (by omega), by simp; omega⟩
   ·simp [lo, hi, loL, hiL] at h1 h2 h3
    left; right
    exact List.mem_map.2 ⟨a.toNat, List.mem_range.2 (by omega), by simp; omega⟩
   ·simp [lo, hi, loL, hiL] at h1 h2 h3
    right
    exact List.mem_map.2 ⟨a.toNat, List.mem_range.2 (by omega), by simp; omega⟩
  ·cases h
 ·cases h
def cod (b : ByteArray) : Nat := b.data.toList.foldl (fun n x => n * 256 + x.toNat) 1
def none? : List Nat -> Bool
 | [] => true
 | x :: l => l.all (fun y => !Nat.beq x y) && none? l
theorem none_inj {α : Type} {f : α -> Nat} : ∀ {l : List α}, none? (l.map f) = true -> ∀ x ∈ l, ∀ y ∈ l, f x = f y -> x = y
 | [], _, x, h, _, _, _ => by cases h
 | z :: l, h, x, hx, y, hy, e => by
  rw [List.map_cons, none?, Bool.and_eq_true] at h
  have k : ∀ w ∈ l, f z ≠ f w := fun w hw e => by
   have := List.all_eq_true.1 h.1 (f w) (List.mem_map.2 ⟨w, hw, rfl⟩)
   rw [e] at this
   simp at this
  rcases List.mem_cons.1 hx with rfl | hx2
  ·rcases List.mem_cons.1 hy with rfl | hy2
   ·rfl
   ·exact absurd e (k y hy2)
  ·rcases List.mem_cons.1 hy with rfl | hy2
   ·exact absurd e.symm (k x hx2)
   ·exact none_inj h.2 x hx2 y hy2 e
theorem all_unlike : none? (allO.map fun o => cod (prn o.1 o.2.1 o.2.2)) = true := by kernel_rfl
theorem prn_inj {v a b v' a' b' : Int} (h : (v, a, b) ∈ allO) (h' : (v', a', b') ∈ allO) (e : prn v a b = prn v' a' b') : v = v' /\ a = a' /\ b = b' := by
 have := none_inj (f := fun o : Int × Int × Int => cod (prn o.1 o.2.1 o.2.2)) all_unlike _ h _ h' (by show cod (prn v a b) = cod (prn v' a' b'); rw [e])
 cases this
 exact ⟨rfl, rfl, rfl⟩
theorem prnO_inj {v a b c v' a' b' c' : Int} (h : chkO v a b c = 0) (h' : chkO v' a' b' c' = 0) (e : prn v a b = prn v' a' b') : v = v' /\ a = a' /\ b = b' /\ c = c' := by
 obtain ⟨m, rfl⟩ := mem_all h
 obtain ⟨m', rfl⟩ := mem_all h'
 obtain ⟨e1, e2, e3⟩ := prn_inj m m' e
 exact ⟨e1, e2, e3, rfl⟩
end Go.Proofs.YtdljmpjfiggdiaaDoor.Vp
namespace Go.Proofs.YtdljmpjfiggdiaaDoor.Np
open Pu Gp Ap Vp
structure Mv where
 ax : Int
 ay : Int
 sx : Int
 sy : Int
 px : Int
 py : Int
 fc : Int
 hl : Int
 en : Int
 sh : Bool
 co : Int
 ou : Int
 sd : Int
def May (m : Mv) : Prop :=
 (-2147483647 <= m.ax /\ m.ax <= 2147483647 /\ -2147483647 <= m.ay /\ m.ay <= 2147483647) /\ (-1024 <= m.sx /\ m.sx <= 1024 /\ -1024 <= m.sy /\ m.sy <= 1024) /\ (-256 <= m.px /\ m.px <= 256 /\ -256 <= m.py /\ m.py <= 256) /\
 (0 <= m.fc /\ m.fc <= 15) /\ (0 <= m.hl /\ m.hl <= 100) /\ (0 <= m.en /\ m.en <= 100) /\ (0 <= m.co /\ m.co <= 12) /\ (0 <= m.ou /\ m.ou <= 30) /\ (0 <= m.sd /\ m.sd <= 255) /\
 (m.ou = 0 -> 1 <= m.hl) /\ (m.ou ≠ 0 -> m.sx = 0 /\ m.sy = 0 /\ m.px = 0 /\ m.py = 0 /\ m.hl = 0 /\ m.en = 0 /\ m.sh = false /\ m.co = 0)
def decMay (m : Mv) : Decidable (May m) := by unfold May; infer_instance
def mayB (m : Mv) : Bool := @decide (May m) (decMay m)
theorem mayB_iff {m : Mv} : mayB m = true ↔ May m := @decide_eq_true_iff (May m) (decMay m)
def zM : Mv := ⟨0, 0, 0, 0, 0, 0, 0, 0, 0, false, 0, 0, 0⟩
def startM (x y f : Int) : Mv := ⟨bnd x, bnd y, 0, 0, 0, 0, f % 16, 100, 50, false, 0, 0, 0⟩
def chkM (m : Mv) : Int := if mayB m then 0 else 80
def doneA (m : Mv) (v a : Int) : Bool := (m.ou == 0) && (if v = 4 then (m.co == 0) && decide (10 * a <= m.en) else if v = 5 then (a == 0) || decide (0 < m.en) else if v = 6 then decide (20 <= m.en) else true)
def deed (m : Mv) (v a b : Int) : Mv :=
 if v = 1 then { m with px := 32 * a, py := 32 * b } else if v = 2 then { m with px := 0, py := 0 } else if v = 3 then { m with fc := a } else if v = 4 then { m with en := m.en - 10 * a, co := 4 * a }
 else if v = 5 then { m with sh := a == 1 } else if v = 6 then { m with en := m.en - 20, sx := mulf (ux (a % 16).toNat) 1024, sy := mulf (uy (a % 16).toNat) 1024 } else { m with sd := a }
def errA (m : Mv) (v a b c : Int) : Int := if mayB m then chkO v a b c else 80
def actD (m : Mv) (v a b c : Int) : Bool := (errA m v a b c == 0) && doneA m v a
def actM (m : Mv) (v a b c : Int) : Mv := if errA m v a b c = 0 then (if doneA m v a then deed m v a b else m) else zM
def sldX (sol : Int -> Int -> Bool) (x y p : Int) : Int := addf (bnd x) (sgn (stp p) * (kX sol 1280 (bnd x) (bnd y) (stp p) : Int))
def sldK (sol : Int -> Int -> Bool) (x y p q : Int) : Nat := kY sol 1280 (sldX sol x y p) (addf (bnd y) 0) (stp q)
def sldY (sol : Int -> Int -> Bool) (x y p q : Int) : Int := addf (addf (bnd y) 0) (sgn (stp q) * (sldK sol x y p q : Int))
def sldN (sol : Int -> Int -> Bool) (x y p q : Int) : Int := side (kX sol 1280 (bnd x) (bnd y) (stp p)) (stp p).natAbs (sldK sol x y p q) (stp q).natAbs
def spd (s p : Int) : Int := clampf ((s * 7).tdiv 8 + p) (-1024) 1024
def glideM (sol : Int -> Int -> Bool) (m : Mv) : Mv :=
  if m.ou = 0 then
    { m with ax := addf (sldX sol m.ax m.ay (spd m.sx m.px)) 0, ay := sldY sol m.ax m.ay (spd m.sx m.px) (spd m.sy m.py),
             sx := if sldN sol m.ax m.ay (spd m.sx m.px) (spd m.sy m.py) % 2 = 1 then -((spd m.sx m.px).tdiv 2) else spd m.sx m.px,
             sy := if 2 <= sldN sol m.ax m.ay (spd m.sx m.px) (spd m.sy m.py) then -((spd m.sy m.py).tdiv 2) else spd m.sy m.py }
  else m
def gliM (sol : Int -> Int -> Bool) (m : Mv) : Mv := if mayB m then glideM sol m else zM
def tak (m : Mv) (h : Int) : Int := if m.sh then min m.en h else 0
def outM (m : Mv) : Mv := ⟨m.ax, m.ay, 0, 0, 0, 0, m.fc, 0, 0, false, 0, 30, m.sd⟩
def went (m : Mv) (h : Int) : Bool := (m.ou == 0) && decide (m.hl - (h - tak m h) <= 0)
def errH (m : Mv) (h : Int) : Int := if mayB m then (if h < 1 \/ 100 < h then 1 else 0) else 80
def hurtM (m : Mv) (h : Int) : Mv := if m.ou = 0 then (if m.hl - (h - tak m h) <= 0 then outM m else { m with en := m.en - tak m h, sh := m.sh && decide (0 < m.en - tak m h), hl := m.hl - (h - tak m h) }) else m
def hurM (m : Mv) (h : Int) : Mv := if errH m h = 0 then hurtM m h else zM
def hurD (m : Mv) (h : Int) : Bool := (errH m h == 0) && went m h
def restM (m : Mv) (x y : Int) : Mv :=
 if m.ou = 1 then { startM x y m.fc with sd := m.sd } else if 1 < m.ou then { m with ou := m.ou - 1 }
 else { m with co := if 0 < m.co then m.co - 1 else m.co, en := if m.sh then (if m.en - 2 <= 0 then 0 else m.en - 2) else if m.en < 100 then m.en + 1 else m.en, sh := m.sh && decide (0 < m.en - 2) }
def resM (m : Mv) (x y : Int) : Mv := if mayB m then restM m x y else zM
def resD (m : Mv) : Bool := mayB m && (m.ou == 1)
end Go.Proofs.YtdljmpjfiggdiaaDoor.Np
namespace Go.Proofs.YtdljmpjfiggdiaaDoor.Np
open Pu Gp Ap Vp
theorem bnd_in (n : Int) : -2147483647 <= bnd n /\ bnd n <= 2147483647 := by
 unfold bnd
 repeat' split
 all_goals omega
theorem bnd_id {n : Int} (h1 : -2147483647 <= n) (h2 : n <= 2147483647) : bnd n = n := by
 unfold bnd
 rw [if_neg (by omega), if_neg (by omega)]
theorem may_start (x y f : Int) : May (startM x y f) := by
 have h1 := bnd_in x
 have h2 := bnd_in y
 unfold May startM
 simp only
 refine ⟨⟨h1.1, h1.2, h2.1, h2.2⟩, ?_⟩
 simp
 omega
theorem chk_rng {v a b c : Int} (h : chkO v a b c = 0) : (v = 1 /\ -8 <= a /\ a <= 8 /\ -8 <= b /\ b <= 8) \/ v = 2 \/ (v = 3 /\ 0 <= a /\ a <= 15) \/ (v = 4 /\ 1 <= a /\ a <= 3) \/ (v = 5 /\ 0 <= a /\ a <= 1) \/ (v = 6 /\ 0 <= a /\ a <= 15) \/ (v = 7 /\ 0 <= a /\ a <= 255) := by
 unfold chkO at h
 split at h
 ·rename_i hv
  split at h
  ·rename_i ho
   unfold okO at ho
   simp only [Bool.and_eq_true, decide_eq_true_eq] at ho
   obtain ⟨⟨⟨h1, h2⟩, h3⟩, h4⟩ := ho
   rcases verbs hv with rfl | rfl | rfl | rfl | rfl | rfl | rfl <;> simp [lo, hi, loL, hiL] at h1 h2 h3 ⊢ <;> omega
  ·cases h
 ·cases h
theorem unit_in : ∀ d : Nat, d < 16 -> (-1024 <= mulf (ux d) 1024 /\ mulf (ux d) 1024 <= 1024) /\ (-1024 <= mulf (uy d) 1024 /\ mulf (uy d) 1024 <= 1024) := by decide
theorem may_deed {m : Mv} {v a b c : Int} (hm : May m) (hc : chkO v a b c = 0) (hd : doneA m v a = true) : May (deed m v a b) := by
 have hu := unit_in (a % 16).toNat (by omega)
 have hr := chk_rng hc
 unfold doneA at hd
 simp only [Bool.and_eq_true, beq_iff_eq] at hd
 obtain ⟨h0, hd⟩ := hd
 obtain ⟨g1, g2, g3, g4, g5, g6, g7, g8, g9, g10, g11⟩ := hm
 have h1 := g10 h0
 clear g10 g11
 unfold deed
 rcases hr with ⟨rfl, hr⟩ | rfl | ⟨rfl, hr⟩ | ⟨rfl, hr⟩ | ⟨rfl, hr⟩ | ⟨rfl, hr⟩ | ⟨rfl, hr⟩ <;> simp at hd ⊢ <;> refine ⟨?_, ?_, ?_, ?_, ?_, ?_, ?_, ?_, ?_, ?_, ?_⟩ <;> simp only <;> first | omega | (intro hh; omega)
theorem may_act {m : Mv} {v a b c : Int} (he : errA m v a b c = 0) : May (actM m v a b c) := by
 have hm : May m := by
  unfold errA at he
  split at he
  ·exact mayB_iff.1 (by assumption)
  ·cases he
 have hc : chkO v a b c = 0 := by
  unfold errA at he
  rw [if_pos (mayB_iff.2 hm)] at he
  exact he
 unfold actM
 rw [if_pos he]
 split
 ·exact may_deed hm hc (by assumption)
 ·exact hm
theorem spd_in (s p : Int) : -1024 <= spd s p /\ spd s p <= 1024 := by
 unfold spd clampf
 have h1 : bnd (-1024) = -1024 := by decide
 have h2 : bnd 1024 = 1024 := by decide
 rw [h1, h2]
 repeat' split
 all_goals omega
theorem half_in {n : Int} (h1 : -1024 <= n) (h2 : n <= 1024) : -1024 <= -(n.tdiv 2) /\ -(n.tdiv 2) <= 1024 := by
 rcases Int.le_total 0 n with h | h
 ·rw [Int.tdiv_eq_ediv_of_nonneg h]; omega
 ·have e : n.tdiv 2 = -((-n).tdiv 2) := by rw [Int.neg_tdiv]; omega
  rw [e, Int.tdiv_eq_ediv_of_nonneg (by omega)]; omega
theorem may_glide {m : Mv} (sol : Int -> Int -> Bool) (hm : May m) : May (gliM sol m) := by
 unfold gliM
 rw [if_pos (mayB_iff.2 hm)]
 unfold glideM
 split
 ·rename_i h0
  obtain ⟨g1, g2, g3, g4, g5, g6, g7, g8, g9, g10, g11⟩ := hm
  have hs := spd_in m.sx m.px
  have ht := spd_in m.sy m.py
  have hs2 := half_in hs.1 hs.2
  have ht2 := half_in ht.1 ht.2
  refine ⟨?_, ?_, g3, g4, g5, g6, g7, g8, g9, g10, fun h => absurd h0 h⟩
  ·exact ⟨(bnd_in _).1, (bnd_in _).2, (bnd_in _).1, (bnd_in _).2⟩
  ·simp only
   refine ⟨?_, ?_, ?_, ?_⟩ <;> split <;> omega
 ·exact hm
theorem tak_in {m : Mv} {h : Int} (hm : May m) (h1 : 1 <= h) : 0 <= tak m h /\ tak m h <= m.en /\ tak m h <= h := by
 have := hm.2.2.2.2.2.1
 unfold tak
 split <;> omega
theorem may_hurt {m : Mv} {h : Int} (he : errH m h = 0) : May (hurM m h) := by
 have hm : May m := by
  unfold errH at he
  split at he
  ·exact mayB_iff.1 (by assumption)
  ·cases he
 have hh : 1 <= h /\ h <= 100 := by
  unfold errH at he
  rw [if_pos (mayB_iff.2 hm)] at he
  split at he
  ·cases he
  ·omega
 unfold hurM
 rw [if_pos he]
 have ht := tak_in hm hh.1
 have hm0 := hm
 obtain ⟨g1, g2, g3, g4, g5, g6, g7, g8, g9, g10, g11⟩ := hm
 unfold hurtM
 split
 ·rename_i h0
  split
  ·unfold outM May
   simp only
   refine ⟨g1, ?_⟩
   simp
   omega
  ·refine ⟨g1, g2, g3, g4, ?_, ?_, g7, g8, g9, ?_, fun h => absurd h0 h⟩ <;> simp only <;> omega
 ·exact hm0
theorem may_rest {m : Mv} (x y : Int) (hm : May m) : May (resM m x y) := by
 unfold resM
 rw [if_pos (mayB_iff.2 hm)]
 have hm0 := hm
 obtain ⟨g1, g2, g3, g4, g5, g6, g7, g8, g9, g10, g11⟩ := hm
 unfold restM
 split
 ·have := may_start x y m.fc
  obtain ⟨k1, k2, k3, k4, k5, k6, k7, k8, k9, k10, k11⟩ := this
  exact ⟨k1, k2, k3, k4, k5, k6, k7, k8, g9, k10, k11⟩
 ·split
  ·obtain ⟨e1, e2, e3, e4, e5, e6, e7, e8⟩ := g11 (by omega)
   refine ⟨g1, g2, g3, g4, g5, g6, g7, ?_, g9, ?_, fun _ => ⟨e1, e2, e3, e4, e5, e6, e7, e8⟩⟩ <;> simp only <;> omega
  ·have h0 : m.ou = 0 := by omega
   refine ⟨g1, g2, g3, g4, g5, ?_, ?_, g8, g9, g10, fun h => absurd h0 h⟩ <;> simp only
   ·repeat' split
    all_goals omega
   ·split <;> omega
end Go.Proofs.YtdljmpjfiggdiaaDoor.Np
namespace Go.Proofs.YtdljmpjfiggdiaaDoor
open Go.RowKit
open Pu Gp Ap Vp Np
set_option maxRecDepth 100000
abbrev mcs (m : Mv) : Array Value := #[.int .i64 m.ax, .int .i64 m.ay, .int .i64 m.sx, .int .i64 m.sy, .int .i64 m.px, .int .i64 m.py, .int .i64 m.fc, .int .i64 m.hl, .int .i64 m.en, .bool m.sh, .int .i64 m.co, .int .i64 m.ou, .int .i64 m.sd]
abbrev mv (m : Mv) : Value := .agg (mcs m)
def Mb (w : World) (g : Nat) (m : Mv) : Prop := w.heap[g]? = some (.cells (mcs m) 52 (0, 0))
theorem Mb.still {w w' : World} {g : Nat} {m : Mv} (h : Mb w g m) (hs : Still w w') : Mb w' g m := hs.kept_still h
theorem Mb.lt {w : World} {g : Nat} {m : Mv} (h : Mb w g m) : g < w.heap.size := block_lt h
theorem Mb.cells {w : World} {g : Nat} {m : Mv} (h : Mb w g m) : w.cell? ⟨g, 0, none⟩ = some (.int .i64 m.ax) /\ w.cell? ⟨g, 1, none⟩ = some (.int .i64 m.ay) /\ w.cell? ⟨g, 2, none⟩ = some (.int .i64 m.sx) /\ w.cell? ⟨g, 3, none⟩ = some (.int .i64 m.sy) /\ w.cell? ⟨g, 4, none⟩ = some (.int .i64 m.px) /\ w.cell? ⟨g, 5, none⟩ = some (.int .i64 m.py) /\ w.cell? ⟨g, 6, none⟩ = some (.int .i64 m.fc) /\ w.cell? ⟨g, 7, none⟩ = some (.int .i64 m.hl) /\ w.cell? ⟨g, 8, none⟩ = some (.int .i64 m.en) /\ w.cell? ⟨g, 9, none⟩ = some (.bool m.sh) /\ w.cell? ⟨g, 10, none⟩ = some (.int .i64 m.co) /\ w.cell? ⟨g, 11, none⟩ = some (.int .i64 m.ou) /\ w.cell? ⟨g, 12, none⟩ = some (.int .i64 m.sd) /\ ∀ o, w.frozen? ⟨g, o, none⟩ = false := by
 refine ⟨?_, ?_, ?_, ?_, ?_, ?_, ?_, ?_, ?_, ?_, ?_, ?_, ?_, fun o => frozen_of_row w g o _ _ h⟩ <;> (rw [cell_of_row _ _ _ _ _ _ h]; rfl)
abbrev newM (w : World) (m : Mv) : World := w.alloc (.cells (mcs m) 52)
theorem newM_mb (w : World) (m : Mv) : Mb (newM w m) w.heap.size m := heap_alloc_new w _
abbrev setM (w : World) (g : Nat) (m : Mv) : World := (((((((((((((w.setCell ⟨g, 0, none⟩ (.int .i64 m.ax)).setCell ⟨g, 1, none⟩ (.int .i64 m.ay)).setCell ⟨g, 2, none⟩ (.int .i64 m.sx)).setCell ⟨g, 3, none⟩ (.int .i64 m.sy)).setCell ⟨g, 4, none⟩ (.int .i64 m.px)).setCell ⟨g, 5, none⟩ (.int .i64 m.py)).setCell ⟨g, 6, none⟩ (.int .i64 m.fc)).setCell ⟨g, 7, none⟩ (.int .i64 m.hl)).setCell ⟨g, 8, none⟩ (.int .i64 m.en)).setCell ⟨g, 9, none⟩ (.bool m.sh)).setCell ⟨g, 10, none⟩ (.int .i64 m.co)).setCell ⟨g, 11, none⟩ (.int .i64 m.ou)).setCell ⟨g, 12, none⟩ (.int .i64 m.sd))
theorem Mb.set {w : World} {g : Nat} {m : Mv} (h0 : Mb w g m) (n : Mv) : Mb (setM w g n) g n := by
 unfold Mb at h0 ⊢
 have h1 := heap_setCell_same _ g 0 _ _ (.int .i64 n.ax) h0
 have h2 := heap_setCell_same _ g 1 _ _ (.int .i64 n.ay) h1
 have h3 := heap_setCell_same _ g 2 _ _ (.int .i64 n.sx) h2
 have h4 := heap_setCell_same _ g 3 _ _ (.int .i64 n.sy) h3
 have h5 := heap_setCell_same _ g 4 _ _ (.int .i64 n.px) h4
 have h6 := heap_setCell_same _ g 5 _ _ (.int .i64 n.py) h5
 have h7 := heap_setCell_same _ g 6 _ _ (.int .i64 n.fc) h6
 have h8 := heap_setCell_same _ g 7 _ _ (.int .i64 n.hl) h7
 have h9 := heap_setCell_same _ g 8 _ _ (.int .i64 n.en) h8
 have h10 := heap_setCell_same _ g 9 _ _ (.bool n.sh) h9
 have h11 := heap_setCell_same _ g 10 _ _ (.int .i64 n.co) h10
 have h12 := heap_setCell_same _ g 11 _ _ (.int .i64 n.ou) h11
 have h13 := heap_setCell_same _ g 12 _ _ (.int .i64 n.sd) h12
 exact h13.trans (by kernel_rfl)
theorem setM_fr {F : Nat -> Prop} {x w : World} (h : Fr F x w) (g : Nat) (m : Mv) (hb : F g \/ x.heap.size <= g) : Fr F x (setM w g m) := (((((((((((((h.setCell _ _ hb).setCell _ _ hb).setCell _ _ hb).setCell _ _ hb).setCell _ _ hb).setCell _ _ hb).setCell _ _ hb).setCell _ _ hb).setCell _ _ hb).setCell _ _ hb).setCell _ _ hb).setCell _ _ hb).setCell _ _ hb)
theorem Mb.other {w : World} {g : Nat} {m : Mv} (h : Mb w g m) (k o : Nat) (v : Value) (hk : g ≠ k) : Mb (w.setCell ⟨k, o, none⟩ v) g m := by
 unfold Mb at h ⊢
 rw [heap_setCell_other _ _ _ _ hk]
 exact h
theorem load_mv (w : World) (g : Nat) (m : Mv) (c0 : w.cell? ⟨g, 0, none⟩ = some (.int .i64 m.ax)) (c1 : w.cell? ⟨g, 1, none⟩ = some (.int .i64 m.ay)) (c2 : w.cell? ⟨g, 2, none⟩ = some (.int .i64 m.sx)) (c3 : w.cell? ⟨g, 3, none⟩ = some (.int .i64 m.sy)) (c4 : w.cell? ⟨g, 4, none⟩ = some (.int .i64 m.px)) (c5 : w.cell? ⟨g, 5, none⟩ = some (.int .i64 m.py)) (c6 : w.cell? ⟨g, 6, none⟩ = some (.int .i64 m.fc)) (c7 : w.cell? ⟨g, 7, none⟩ = some (.int .i64 m.hl)) (c8 : w.cell? ⟨g, 8, none⟩ = some (.int .i64 m.en)) (c9 : w.cell? ⟨g, 9, none⟩ = some (.bool m.sh)) (c10 : w.cell? ⟨g, 10, none⟩ = some (.int .i64 m.co)) (c11 : w.cell? ⟨g, 11, none⟩ = some (.int .i64 m.ou)) (c12 : w.cell? ⟨g, 12, none⟩ = some (.int .i64 m.sd)) :
  (loadVar 52 ⟨g, 0, none⟩).run Tryd.prog w = .ok (mv m) w := by
 go_simp
theorem Mb.load {w : World} {g : Nat} {m : Mv} (hb : Mb w g m) : (loadVar 52 ⟨g, 0, none⟩).run Tryd.prog w = .ok (mv m) w := load_mv w g m hb.cells.1 hb.cells.2.1 hb.cells.2.2.1 hb.cells.2.2.2.1 hb.cells.2.2.2.2.1 hb.cells.2.2.2.2.2.1 hb.cells.2.2.2.2.2.2.1 hb.cells.2.2.2.2.2.2.2.1 hb.cells.2.2.2.2.2.2.2.2.1 hb.cells.2.2.2.2.2.2.2.2.2.1 hb.cells.2.2.2.2.2.2.2.2.2.2.1 hb.cells.2.2.2.2.2.2.2.2.2.2.2.1 hb.cells.2.2.2.2.2.2.2.2.2.2.2.2.1
theorem Mb.res {fn : Func} {p : Tmp} {w : World} {g : Nat} {m : Mv} (hb : Mb w g m) (h : fn.results = #[.cell p 52]) (tmps : Array Value) (hp : tmps.getD p undef = .pointer (some ⟨g, 0, none⟩)) :
  (results fn tmps).run Tryd.prog w = .ok (mv m) w := by
 have hp' : tmps[p]?.getD undef = .pointer (some ⟨g, 0, none⟩) := by simpa using hp
 simp [results, h, hp', asAddr, hb.load]
theorem Mb.rest {fn : Func} {p q : Tmp} {w : World} {g : Nat} {m : Mv} (hb : Mb w g m) (h : fn.results = #[.cell p 52, .tmp q]) (tmps : Array Value) (t : Value) (hp : tmps.getD p undef = .pointer (some ⟨g, 0, none⟩)) (hq : tmps.getD q undef = t) :
  (results fn tmps).run Tryd.prog w = .ok (.tuple #[mv m, t]) w := by
 rw [results_cell_tmp h, hp, hq]
 simp [asAddr, Result.andThen, hb.load]
theorem results3 {fn : Func} {p u v : Tmp} {ty : TypeId} (h : fn.results = #[.cell p ty, .tmp u, .tmp v]) (tmps : Array Value) (P : Program) (w : World) :
  (results fn tmps).run P w = ((asAddr (tmps.getD p undef)).run P w).andThen fun a w₁ => ((loadVar ty a).run P w₁).andThen fun x w₂ => .ok (.tuple #[x, tmps.getD u undef, tmps.getD v undef]) w₂ := by
 simp only [results, h]
 simp [Sem.run_bind, Result.andThen]
theorem Mb.rest3 {fn : Func} {p q r : Tmp} {w : World} {g : Nat} {m : Mv} (hb : Mb w g m) (h : fn.results = #[.cell p 52, .tmp q, .tmp r]) (tmps : Array Value) (t s : Value) (hp : tmps.getD p undef = .pointer (some ⟨g, 0, none⟩)) (hq : tmps.getD q undef = t) (hr : tmps.getD r undef = s) :
  (results fn tmps).run Tryd.prog w = .ok (.tuple #[mv m, t, s]) w := by
 rw [results3 h, hp, hq, hr]
 simp [asAddr, Result.andThen, hb.load]
def eqM (m n : Mv) : Bool := (m.ax == n.ax) && (m.ay == n.ay) && (m.sx == n.sx) && (m.sy == n.sy) && (m.px == n.px) && (m.py == n.py) && (m.fc == n.fc) && (m.hl == n.hl) && (m.en == n.en) && (m.sh == n.sh) && (m.co == n.co) && (m.ou == n.ou) && (m.sd == n.sd)
theorem eqM_refl (m : Mv) : eqM m m = true := by unfold eqM; simp
theorem eqM_iff {m n : Mv} : eqM m n = true ↔ m = n := by
 constructor
 ·intro h
  unfold eqM at h
  simp only [Bool.and_eq_true, beq_iff_eq] at h
  cases m; cases n
  simp_all
 ·rintro rfl; exact eqM_refl m
theorem equal_int (d : Nat) (x y : Int) (w : World) : (Op.equalIn (d + 1) 3 (.int .i64 x) (.int .i64 y)).run Tryd.prog w = .ok (x == y) w := by
 go_simp
theorem equal_bool (d : Nat) (x y : Bool) (w : World) : (Op.equalIn (d + 1) 4 (.bool x) (.bool y)).run Tryd.prog w = .ok (x == y) w := by
 go_simp
theorem part_pt (m : Mv) (w : World) : (part 35 (mcs m) 0).run Tryd.prog w = .ok (pt m.ax m.ay) w /\ (part 35 (mcs m) 2).run Tryd.prog w = .ok (pt m.sx m.sy) w /\ (part 35 (mcs m) 4).run Tryd.prog w = .ok (pt m.px m.py) w := by
 refine ⟨?_, ?_, ?_⟩ <;> go_simp
theorem part_in (m : Mv) (w : World) : (part 3 (mcs m) 6).run Tryd.prog w = .ok (.int .i64 m.fc) w /\ (part 3 (mcs m) 7).run Tryd.prog w = .ok (.int .i64 m.hl) w /\ (part 3 (mcs m) 8).run Tryd.prog w = .ok (.int .i64 m.en) w /\ (part 3 (mcs m) 10).run Tryd.prog w = .ok (.int .i64 m.co) w /\ (part 3 (mcs m) 11).run Tryd.prog w = .ok (.int .i64 m.ou) w /\ (part 3 (mcs m) 12).run Tryd.prog w = .ok (.int .i64 m.sd) w /\ (part 4 (mcs m) 9).run Tryd.prog w = .ok (.bool m.sh) w := by
 refine ⟨?_, ?_, ?_, ?_, ?_, ?_, ?_⟩ <;> go_simp
def eqP (m n : Mv) : Bool := (m.ax == n.ax && m.ay == n.ay) && ((m.sx == n.sx && m.sy == n.sy) && ((m.px == n.px && m.py == n.py) && ((m.fc == n.fc) && ((m.hl == n.hl) && ((m.en == n.en) && ((m.sh == n.sh) && ((m.co == n.co) && ((m.ou == n.ou) && (m.sd == n.sd)))))))))
theorem eqP_eq (m n : Mv) : eqP m n = eqM m n := by
 unfold eqP eqM
 simp only [Bool.and_assoc]
theorem st {b c : Bool} {w : World} {R : Result Bool} (h : R = .ok c w) : (if (!b) = true then Result.ok false w else R) = .ok (b && c) w := by
 cases b <;> simp [h]
theorem st1 (b : Bool) {w : World} : (if (!b) = true then Result.ok false w else Result.ok true w) = .ok b w := by
 cases b <;> rfl
theorem equal_mv (m n : Mv) (w : World) : (Op.equalIn 10000 52 (mv m) (mv n)).run Tryd.prog w = .ok (eqM m n) w := by
 have a1 := fun w => (part_pt m w).1
 have a2 := fun w => (part_pt m w).2.1
 have a3 := fun w => (part_pt m w).2.2
 have b1 := fun w => (part_pt n w).1
 have b2 := fun w => (part_pt n w).2.1
 have b3 := fun w => (part_pt n w).2.2
 have q1 := fun w => equal_pt 9997 m.ax m.ay n.ax n.ay w
 have q2 := fun w => equal_pt 9997 m.sx m.sy n.sx n.sy w
 have q3 := fun w => equal_pt 9997 m.px m.py n.px n.py w
 have c0 := fun w => (part_in m w).1
 have d0 := fun w => (part_in n w).1
 have r0 := fun w => equal_int 9998 m.fc n.fc w
 have c1 := fun w => (part_in m w).2.1
 have d1 := fun w => (part_in n w).2.1
 have r1 := fun w => equal_int 9998 m.hl n.hl w
 have c2 := fun w => (part_in m w).2.2.1
 have d2 := fun w => (part_in n w).2.2.1
 have r2 := fun w => equal_int 9998 m.en n.en w
 have c3 := fun w => (part_in m w).2.2.2.1
 have d3 := fun w => (part_in n w).2.2.2.1
 have r3 := fun w => equal_int 9998 m.co n.co w
 have c4 := fun w => (part_in m w).2.2.2.2.1
 have d4 := fun w => (part_in n w).2.2.2.2.1
 have r4 := fun w => equal_int 9998 m.ou n.ou w
 have c5 := fun w => (part_in m w).2.2.2.2.2.1
 have d5 := fun w => (part_in n w).2.2.2.2.2.1
 have r5 := fun w => equal_int 9998 m.sd n.sd w
 have c6 := fun w => (part_in m w).2.2.2.2.2.2
 have d6 := fun w => (part_in n w).2.2.2.2.2.2
 have r6 := fun w => equal_bool 9998 m.sh n.sh w
 rw [run_equalIn_struct w 9999 _ _ _ (by kernel_rfl) (by kernel_rfl)]
 have e : (Tryd.prog.fieldsOf 52) = #[⟨ "At", 35, 0, false, "", "", 0⟩, ⟨ "Speed", 35, 2, false, "", "", 16⟩, ⟨ "Push", 35, 4, false, "", "", 32⟩, ⟨ "Facing", 3, 6, false, "", "", 48⟩, ⟨ "Health", 3, 7, false, "", "", 56⟩, ⟨ "Energy", 3, 8, false, "", "", 64⟩, ⟨ "Shield", 4, 9, false, "", "", 72⟩, ⟨ "Cool", 3, 10, false, "", "", 80⟩, ⟨ "Out", 3, 11, false, "", "", 88⟩, ⟨ "Said", 3, 12, false, "", "", 96⟩] := by kernel_rfl
 rw [e, <- eqP_eq]
 simp only [Op.eqFields, ne_eq, String.reduceEq, not_false_eq_true, if_true, Sem.run_bind, a1, a2, a3, b1, b2, b3, c0, c1, c2, c3, c4, c5, c6, d0, d1, d2, d3, d4, d5, d6, Result.andThen_ok, q1, q2, q3, r0, r1, r2, r3, r4, r5, r6, Sem.run_ite, Sem.run_pure]
 unfold eqP
 exact st (st (st (st (st (st (st (st (st (st1 _)))))))))
theorem eql_mv (m n : Mv) (w : World) : (binOp .eql 52 (mv m) (mv n)).run Tryd.prog w = .ok (.bool (eqM m n)) w := by
 rw [run_eql_struct, equal_mv]; rfl
theorem neq_mv (m n : Mv) (w : World) : (binOp .neq 52 (mv m) (mv n)).run Tryd.prog w = .ok (.bool (!(eqM m n))) w := by
 rw [run_neq_struct, equal_mv]; rfl
theorem eql_mv_t (m : Mv) (w : World) : (binOp .eql 52 (mv m) (mv m)).run Tryd.prog w = .ok (.bool true) w := by
 rw [eql_mv, eqM_refl]
theorem neq_mv_f (m : Mv) (w : World) : (binOp .neq 52 (mv m) (mv m)).run Tryd.prog w = .ok (.bool false) w := by
 rw [neq_mv, eqM_refl]; rfl
theorem guard_mv (op : BinOp) (a b : Operand) (xs ys : Array Value) (w : World) : (eqGuard op 52 a b (.agg xs) (.agg ys)).run Tryd.prog w = .ok () w := run_eqGuard_agg w op _ a b xs ys (by kernel_rfl)
theorem Mb.put {w : World} {g : Nat} {m : Mv} (h : Mb w g m) (ax : Int) (ay : Int) (sx : Int) (sy : Int) (px : Int) (py : Int) (fc : Int) (hl : Int) (en : Int) (sh : Bool) (co : Int) (ou : Int) (sd : Int) : Mb (((((((((((((w.setCell ⟨g, 0, none⟩ (.int .i64 ax)).setCell ⟨g, 1, none⟩ (.int .i64 ay)).setCell ⟨g, 2, none⟩ (.int .i64 sx)).setCell ⟨g, 3, none⟩ (.int .i64 sy)).setCell ⟨g, 4, none⟩ (.int .i64 px)).setCell ⟨g, 5, none⟩ (.int .i64 py)).setCell ⟨g, 6, none⟩ (.int .i64 fc)).setCell ⟨g, 7, none⟩ (.int .i64 hl)).setCell ⟨g, 8, none⟩ (.int .i64 en)).setCell ⟨g, 9, none⟩ (.bool sh)).setCell ⟨g, 10, none⟩ (.int .i64 co)).setCell ⟨g, 11, none⟩ (.int .i64 ou)).setCell ⟨g, 12, none⟩ (.int .i64 sd)) g ⟨ax, ay, sx, sy, px, py, fc, hl, en, sh, co, ou, sd⟩ := h.set ⟨ax, ay, sx, sy, px, py, fc, hl, en, sh, co, ou, sd⟩
theorem setC_fr {x w : World} (h : Still x w) (g o : Nat) (v : Value) (hb : x.heap.size <= g) : Still x (w.setCell ⟨g, o, none⟩ v) := h.setCell _ _ (.inr hb)
end Go.Proofs.YtdljmpjfiggdiaaDoor
namespace Go.Proofs.YtdljmpjfiggdiaaDoor
open Go.RowKit
open Pu Gp Ap Vp Np
set_option maxRecDepth 100000
def amg (n l h : Int) : Bool := decide (l <= n) && decide (n <= h)
theorem amg_iff {n l h : Int} : amg n l h = true ↔ l <= n /\ n <= h := by unfold amg; simp
def mA (m : Mv) : Bool := (bnd m.ax == m.ax && bnd m.ay == m.ay) && amg m.sx (-1024) 1024 && amg m.sy (-1024) 1024
def mB (m : Mv) : Bool := amg m.px (-256) 256 && amg m.py (-256) 256 && amg m.fc 0 15
def mC (m : Mv) : Bool := amg m.hl 0 100 && amg m.en 0 100 && amg m.co 0 12 && amg m.ou 0 30 && amg m.sd 0 255
def outN (m : Mv) : Mv := ⟨m.ax, m.ay, 0, 0, 0, 0, m.fc, 0, 0, false, 0, m.ou, m.sd⟩
def mD (m : Mv) : Bool := if m.ou = 0 then decide (1 <= m.hl) else eqM m (outN m)
theorem bnd_is {n : Int} : bnd n = n ↔ -2147483647 <= n /\ n <= 2147483647 := by
 unfold bnd
 repeat' split
 all_goals omega
theorem may_parts (m : Mv) : mayB m = (mA m && mB m && mC m && mD m) := by
 rw [Bool.eq_iff_iff, mayB_iff]
 unfold mA mB mC mD May
 simp only [Bool.and_eq_true, beq_iff_eq, bnd_is, amg_iff]
 by_cases h0 : m.ou = 0
 ·rw [if_pos h0, decide_eq_true_eq]
  constructor
  ·rintro ⟨g1, g2, g3, g4, g5, g6, g7, g8, g9, g10, g11⟩
   have := g10 h0
   omega
  ·intro h
   refine ⟨?_, ?_, ?_, ?_, ?_, ?_, ?_, ?_, ?_, ?_, fun h => absurd h0 h⟩ <;> omega
 ·rw [if_neg h0, eqM_iff]
  constructor
  ·rintro ⟨g1, g2, g3, g4, g5, g6, g7, g8, g9, g10, g11⟩
   obtain ⟨e1, e2, e3, e4, e5, e6, e7, e8⟩ := g11 h0
   refine ⟨by omega, ?_⟩
   cases m
   simp_all [outN]
  ·rintro ⟨h, e⟩
   have e1 : m.sx = 0 := by rw [e]; rfl
   have e2 : m.sy = 0 := by rw [e]; rfl
   have e3 : m.px = 0 := by rw [e]; rfl
   have e4 : m.py = 0 := by rw [e]; rfl
   have e5 : m.hl = 0 := by rw [e]; rfl
   have e6 : m.en = 0 := by rw [e]; rfl
   have e7 : m.sh = false := by rw [e]; rfl
   have e8 : m.co = 0 := by rw [e]; rfl
   clear e
   refine ⟨?_, ?_, ?_, ?_, ?_, ?_, ?_, ?_, ?_, fun h => absurd h h0, fun _ => ⟨e1, e2, e3, e4, e5, e6, e7, e8⟩⟩ <;> omega
end Go.Proofs.YtdljmpjfiggdiaaDoor
namespace Go.Proofs.YtdljmpjfiggdiaaDoor
open Go.RowKit
open Pu Gp Ap Vp Np
set_option maxRecDepth 100000
end Go.Proofs.YtdljmpjfiggdiaaDoor
namespace Go.Proofs.YtdljmpjfiggdiaaDoor
open Go.RowKit
open Pu Gp Ap Vp Np
set_option maxRecDepth 100000
def bw (x y k : Int) : Bool := amg x (-k) k && amg y (-k) k
def goneM (m : Mv) (f : Int) : Mv := ⟨m.ax, m.ay, 0, 0, 0, 0, m.fc, 0, 0, false, 0, f, m.sd⟩
end Go.Proofs.YtdljmpjfiggdiaaDoor
namespace Go.Proofs.YtdljmpjfiggdiaaDoor
open Go.RowKit
open Pu Gp Ap Vp Np
set_option maxRecDepth 100000
def rB (m : Mv) : Bool := (bnd m.ax == m.ax && bnd m.ay == m.ay) && bw m.sx m.sy 1024 && bw m.px m.py 256 && amg m.fc 0 15 && amg m.hl 0 100 && amg m.en 0 100 && amg m.co 0 12 && amg m.ou 0 30 && amg m.sd 0 255
theorem rB_may (m : Mv) : (rB m && mD m) = mayB m := by
 rw [may_parts]
 unfold rB mA mB mC bw
 simp only [Bool.and_assoc]
end Go.Proofs.YtdljmpjfiggdiaaDoor
namespace Go.Proofs.YtdljmpjfiggdiaaDoor.Za
open Pu Gp Ap Vp Np
structure Sh where
 no : Int
 ow : Int
 pw : Int
 ax : Int
 ay : Int
 sx : Int
 sy : Int
 lf : Int
def MayS (s : Sh) : Prop :=
 (1 <= s.no /\ s.no <= 1099511627776) /\ (0 <= s.ow /\ s.ow <= 5) /\ (1 <= s.pw /\ s.pw <= 3) /\ (-2147483647 <= s.ax /\ s.ax <= 2147483647 /\ -2147483647 <= s.ay /\ s.ay <= 2147483647) /\
 (-1536 <= s.sx /\ s.sx <= 1536 /\ -1536 <= s.sy /\ s.sy <= 1536) /\ (1 <= s.lf /\ s.lf <= 40)
def decMayS (s : Sh) : Decidable (MayS s) := by unfold MayS; infer_instance
def maySB (s : Sh) : Bool := @decide (MayS s) (decMayS s)
theorem maySB_iff {s : Sh} : maySB s = true ↔ MayS s := @decide_eq_true_iff (MayS s) (decMayS s)
def zS : Sh := ⟨0, 0, 0, 0, 0, 0, 0, 0⟩
def chkS (s : Sh) : Int := if maySB s then 0 else 90
def dmg (p : Int) : Int := if p < 1 \/ 3 < p then 0 else 15 * p
def argB (ow pw no : Int) : Bool := decide (0 <= ow) && decide (ow <= 5) && decide (1 <= pw) && decide (pw <= 3) && decide (1 <= no) && decide (no <= 1099511627776)
theorem argB_iff {ow pw no : Int} : argB ow pw no = true ↔ (0 <= ow /\ ow <= 5) /\ (1 <= pw /\ pw <= 3) /\ 1 <= no /\ no <= 1099511627776 := by
 unfold argB
 simp only [Bool.and_eq_true, decide_eq_true_eq]
 omega
def errF (m : Mv) (ow pw no : Int) : Int := if mayB m then (if argB ow pw no then 0 else 1) else 80
def fired (m : Mv) (ow pw no : Int) : Sh := ⟨no, ow, pw, addf m.ax (mulf (ux (m.fc % 16).toNat) 1792), addf m.ay (mulf (uy (m.fc % 16).toNat) 1792), mulf (ux (m.fc % 16).toNat) (256 * (7 - pw)), mulf (uy (m.fc % 16).toNat) (256 * (7 - pw)), 40⟩
def firS (m : Mv) (ow pw no : Int) : Sh := if errF m ow pw no = 0 then fired m ow pw no else zS
def rn (s : Sh) : Nat := rayN (stp s.sx) (stp s.sy)
def rk (sol : Int -> Int -> Bool) (s : Sh) : Nat := go (rayT sol (bnd s.ax) (bnd s.ay) (stp s.sx) (stp s.sy) (rn s)) (rn s)
def goes (sol : Int -> Int -> Bool) (s : Sh) : Bool := maySB s && !(decide (rk sol s < rn s)) && !(s.lf == 1)
def flown (sol : Int -> Int -> Bool) (s : Sh) : Sh := { s with ax := rp (bnd s.ax) (stp s.sx) (rn s) (rk sol s), ay := rp (bnd s.ay) (stp s.sy) (rn s) (rk sol s), lf := s.lf - 1 }
def flyS (sol : Int -> Int -> Bool) (s : Sh) : Sh := if goes sol s then flown sol s else zS
theorem units4 : ∀ d, d < 16 -> (-1536 <= mulf (ux d) 1024 /\ mulf (ux d) 1024 <= 1536) /\ -1536 <= mulf (uy d) 1024 /\ mulf (uy d) 1024 <= 1536 := by decide
theorem units5 : ∀ d, d < 16 -> (-1536 <= mulf (ux d) 1280 /\ mulf (ux d) 1280 <= 1536) /\ -1536 <= mulf (uy d) 1280 /\ mulf (uy d) 1280 <= 1536 := by decide
theorem units6 : ∀ d, d < 16 -> (-1536 <= mulf (ux d) 1536 /\ mulf (ux d) 1536 <= 1536) /\ -1536 <= mulf (uy d) 1536 /\ mulf (uy d) 1536 <= 1536 := by decide
theorem units_in (d : Nat) (hd : d < 16) (p : Int) (h1 : 1 <= p) (h2 : p <= 3) : (-1536 <= mulf (ux d) (256 * (7 - p)) /\ mulf (ux d) (256 * (7 - p)) <= 1536) /\ -1536 <= mulf (uy d) (256 * (7 - p)) /\ mulf (uy d) (256 * (7 - p)) <= 1536 := by
 have e : p = 1 \/ p = 2 \/ p = 3 := by omega
 rcases e with rfl | rfl | rfl
 ·exact units6 d hd
 ·exact units5 d hd
 ·exact units4 d hd
theorem may_fired {m : Mv} {ow pw no : Int} (h : argB ow pw no = true) : MayS (fired m ow pw no) := by
 obtain ⟨h1, h2, h3⟩ := argB_iff.1 h
 have hd : (m.fc % 16).toNat < 16 := by omega
 have hk := units_in (m.fc % 16).toNat hd pw h2.1 h2.2
 exact ⟨h3, h1, h2, ⟨bnd_lo _, bnd_hi _, bnd_lo _, bnd_hi _⟩, ⟨hk.1.1, hk.1.2, hk.2.1, hk.2.2⟩, by show (1 : Int) <= 40; omega, by show (40 : Int) <= 40; omega⟩
theorem stp_id {n : Int} (h0 : -1536 <= n) (h1 : n <= 1536) : stp n = n := by
 unfold stp clampf
 rw [Pu.bnd_id (show -2147483647 <= n by omega) (by omega), Pu.bnd_id (show -2147483647 <= (-2048 : Int) by omega) (by omega), Pu.bnd_id (show -2147483647 <= (2048 : Int) by omega) (by omega)]
 repeat' split
 all_goals omega
theorem goes_may {sol : Int -> Int -> Bool} {s : Sh} (h : goes sol s = true) : MayS s /\ rk sol s = rn s /\ s.lf ≠ 1 := by
 unfold goes at h
 simp only [Bool.and_eq_true, Bool.not_eq_true', decide_eq_false_iff_not, beq_eq_false_iff_ne] at h
 have := go_le (rayT sol (bnd s.ax) (bnd s.ay) (stp s.sx) (stp s.sy) (rn s)) (rn s)
 exact ⟨maySB_iff.1 h.1.1, by have h2 := h.1.2; unfold rk at h2 ⊢; omega, h.2⟩
theorem rp_in {X p : Int} {n j : Nat} (hX : inB2 X) : inB2 (rp X p n j) := by
 unfold rp
 split
 ·exact hX
 ·exact addf_in _ _
theorem may_flown {sol : Int -> Int -> Bool} {s : Sh} (h : goes sol s = true) : MayS (flown sol s) := by
 obtain ⟨⟨h1, h2, h3, h4, h5, h6⟩, _, h7⟩ := goes_may h
 have a := rp_in (X := bnd s.ax) (p := stp s.sx) (n := rn s) (j := rk sol s) ⟨bnd_lo _, bnd_hi _⟩
 have b := rp_in (X := bnd s.ay) (p := stp s.sy) (n := rn s) (j := rk sol s) ⟨bnd_lo _, bnd_hi _⟩
 exact ⟨h1, h2, h3, ⟨a.1, a.2, b.1, b.2⟩, h5, by show 1 <= s.lf - 1; omega, by show s.lf - 1 <= 40; omega⟩
theorem tou_pt {C R : Int} {s : ByteArray} {x y : Int} (hx : inB2 x) (hy : inB2 y) : touB C R s x y x y = solB C R s (dn x) (dn y) := by
 have ok : okb x y x y = true := okb_of ⟨hx.1, hx.2, hy.1, hy.2, hx.1, hx.2, hy.1, hy.2, Int.le_refl _, Int.le_refl _⟩
 unfold touB
 rw [ok, Bool.true_and, Bool.eq_iff_iff]
 unfold tch
 rw [anyC_iff]
 constructor
 ·rintro ⟨i, j, h1, h2, h3, h4, h⟩
  rw [show dn x = i by omega, show dn y = j by omega]
  exact h
 ·intro h
  exact ⟨dn x, dn y, Int.le_refl _, Int.le_refl _, Int.le_refl _, Int.le_refl _, h⟩
theorem free_flown {sol : Int -> Int -> Bool} {s : Sh} (h : goes sol s = true) (hf : sol (dn s.ax) (dn s.ay) = false) : sol (dn (flown sol s).ax) (dn (flown sol s).ay) = false := by
 obtain ⟨⟨h1, h2, h3, h4, h5, h6⟩, hk, h7⟩ := goes_may h
 have ex : bnd s.ax = s.ax := Pu.bnd_id h4.1 h4.2.1
 have ey : bnd s.ay = s.ay := Pu.bnd_id h4.2.2.1 h4.2.2.2
 show sol (dn (rp (bnd s.ax) (stp s.sx) (rn s) (rk sol s))) (dn (rp (bnd s.ay) (stp s.sy) (rn s) (rk sol s))) = false
 by_cases h0 : rk sol s = 0
 ·unfold rp
  rw [if_pos h0, if_pos h0, ex, ey]
  exact hf
 ·exact go_free (rayT sol (bnd s.ax) (bnd s.ay) (stp s.sx) (stp s.sy) (rn s)) (rn s) (rk sol s) (by omega) (Nat.le_refl _)
theorem map_free {s : ByteArray} (hz : s.size = 768) (hb : ∀ k, k < 768 -> byt s k = 46) (i j : Int) (i0 : 0 <= i) (i1 : i < 32) (j0 : 0 <= j) (j1 : j < 24) : solB 32 24 s i j = false := by
 unfold solB
 rw [if_neg (by omega), if_neg (by omega), hb _ (by omega)]
 rfl
theorem rp_mid {X p : Int} {n j : Nat} (hX : inB2 X) (p0 : -2048 <= p) (p1 : p <= 2048) (hj : j <= n) (hn : n <= 32) (lo hi : Int) (h0 : lo <= X) (h1 : X < hi) (h2 : lo <= X + p) (h3 : X + p < hi) : lo <= rp X p n j /\ rp X p n j < hi := by
 have h := rp_way hX p0 p1 hj hn
 unfold wayP at h
 omega
theorem straight {sol : Int -> Int -> Bool} {s : Sh} (h : MayS s) (hl : s.lf ≠ 1) (hx0 : 0 <= s.ax) (hx1 : s.ax < 131072) (hy0 : 0 <= s.ay) (hy1 : s.ay < 98304) (gx0 : 0 <= s.ax + s.sx) (gx1 : s.ax + s.sx < 131072) (gy0 : 0 <= s.ay + s.sy) (gy1 : s.ay + s.sy < 98304)
  (hs : ∀ i j, 0 <= i -> i < 32 -> 0 <= j -> j < 24 -> sol i j = false) : goes sol s = true /\ flown sol s = { s with ax := s.ax + s.sx, ay := s.ay + s.sy, lf := s.lf - 1 } := by
 have hm := maySB_iff.2 h
 obtain ⟨h1, h2, h3, h4, h5, h6⟩ := h
 have ex : bnd s.ax = s.ax := Pu.bnd_id h4.1 h4.2.1
 have ey : bnd s.ay = s.ay := Pu.bnd_id h4.2.2.1 h4.2.2.2
 have tx := stp_id h5.1 h5.2.1
 have ty := stp_id h5.2.2.1 h5.2.2.2
 have hX : inB2 s.ax := ⟨h4.1, h4.2.1⟩
 have hY : inB2 s.ay := ⟨h4.2.2.1, h4.2.2.2⟩
 have hn : rn s <= 32 := rayN_le (stp_in _).1 (stp_in _).2 (stp_in _).1 (stp_in _).2
 have hk : rk sol s = rn s := by
  unfold rk
  refine go_one (Nat.le_refl _) (fun j j1 j2 => ?_) (fun e => absurd e (Nat.lt_irrefl _))
  unfold rayT
  rw [ex, ey, tx, ty]
  have a := rp_mid (p := s.sx) hX (by omega) (by omega) j2 hn 0 131072 hx0 hx1 gx0 gx1
  have b := rp_mid (p := s.sy) hY (by omega) (by omega) j2 hn 0 98304 hy0 hy1 gy0 gy1
  exact hs _ _ (by unfold dn; omega) (by unfold dn; omega) (by unfold dn; omega) (by unfold dn; omega)
 refine ⟨by unfold goes; rw [hm, hk]; simp [hl], ?_⟩
 have z0 : rn s = 0 -> s.sx = 0 /\ s.sy = 0 := fun e => by
  have := rayN_zero (p := stp s.sx) (q := stp s.sy) e
  rw [tx, ty] at this
  exact this
 have a : rp (bnd s.ax) (stp s.sx) (rn s) (rk sol s) = s.ax + s.sx := by
  rw [hk, ex, tx, rp_end hX (fun e => (z0 e).1)]
  unfold addf
  rw [Pu.bnd_id h4.1 h4.2.1, Pu.bnd_id (n := s.sx) (by omega) (by omega)]
  exact Pu.bnd_id (by omega) (by omega)
 have b : rp (bnd s.ay) (stp s.sy) (rn s) (rk sol s) = s.ay + s.sy := by
  rw [hk, ey, ty, rp_end hY (fun e => (z0 e).2)]
  unfold addf
  rw [Pu.bnd_id h4.2.2.1 h4.2.2.2, Pu.bnd_id (n := s.sy) (by omega) (by omega)]
  exact Pu.bnd_id (by omega) (by omega)
 unfold flown
 rw [a, b]
end Go.Proofs.YtdljmpjfiggdiaaDoor.Za
namespace Go.Proofs.YtdljmpjfiggdiaaDoor
open Go.RowKit
open Pu Gp Ap Vp Np Za
set_option maxRecDepth 100000
abbrev scs (m : Sh) : Array Value := #[.int .i64 m.no, .int .i64 m.ow, .int .i64 m.pw, .int .i64 m.ax, .int .i64 m.ay, .int .i64 m.sx, .int .i64 m.sy, .int .i64 m.lf]
abbrev sv (m : Sh) : Value := .agg (scs m)
def Sb (w : World) (g : Nat) (m : Sh) : Prop := w.heap[g]? = some (.cells (scs m) 153 (0, 0))
theorem Sb.still {w w' : World} {g : Nat} {m : Sh} (h : Sb w g m) (hs : Still w w') : Sb w' g m := hs.kept_still h
theorem Sb.lt {w : World} {g : Nat} {m : Sh} (h : Sb w g m) : g < w.heap.size := block_lt h
theorem Sb.cells {w : World} {g : Nat} {m : Sh} (h : Sb w g m) : w.cell? ⟨g, 0, none⟩ = some (.int .i64 m.no) /\ w.cell? ⟨g, 1, none⟩ = some (.int .i64 m.ow) /\ w.cell? ⟨g, 2, none⟩ = some (.int .i64 m.pw) /\ w.cell? ⟨g, 3, none⟩ = some (.int .i64 m.ax) /\ w.cell? ⟨g, 4, none⟩ = some (.int .i64 m.ay) /\ w.cell? ⟨g, 5, none⟩ = some (.int .i64 m.sx) /\ w.cell? ⟨g, 6, none⟩ = some (.int .i64 m.sy) /\ w.cell? ⟨g, 7, none⟩ = some (.int .i64 m.lf) /\ ∀ o, w.frozen? ⟨g, o, none⟩ = false := by
 refine ⟨?_, ?_, ?_, ?_, ?_, ?_, ?_, ?_, fun o => frozen_of_row w g o _ _ h⟩ <;> (rw [cell_of_row _ _ _ _ _ _ h]; rfl)
abbrev newS (w : World) (m : Sh) : World := w.alloc (.cells (scs m) 153)
theorem newS_sb (w : World) (m : Sh) : Sb (newS w m) w.heap.size m := heap_alloc_new w _
theorem Sb.put {w : World} {g : Nat} {m : Sh} (h0 : Sb w g m) (no : Int) (ow : Int) (pw : Int) (ax : Int) (ay : Int) (sx : Int) (sy : Int) (lf : Int) : Sb ((((((((w.setCell ⟨g, 0, none⟩ (.int .i64 no)).setCell ⟨g, 1, none⟩ (.int .i64 ow)).setCell ⟨g, 2, none⟩ (.int .i64 pw)).setCell ⟨g, 3, none⟩ (.int .i64 ax)).setCell ⟨g, 4, none⟩ (.int .i64 ay)).setCell ⟨g, 5, none⟩ (.int .i64 sx)).setCell ⟨g, 6, none⟩ (.int .i64 sy)).setCell ⟨g, 7, none⟩ (.int .i64 lf)) g ⟨no, ow, pw, ax, ay, sx, sy, lf⟩ := by
 unfold Sb at h0 ⊢
 have h1 := heap_setCell_same _ g 0 _ _ (.int .i64 no) h0
 have h2 := heap_setCell_same _ g 1 _ _ (.int .i64 ow) h1
 have h3 := heap_setCell_same _ g 2 _ _ (.int .i64 pw) h2
 have h4 := heap_setCell_same _ g 3 _ _ (.int .i64 ax) h3
 have h5 := heap_setCell_same _ g 4 _ _ (.int .i64 ay) h4
 have h6 := heap_setCell_same _ g 5 _ _ (.int .i64 sx) h5
 have h7 := heap_setCell_same _ g 6 _ _ (.int .i64 sy) h6
 have h8 := heap_setCell_same _ g 7 _ _ (.int .i64 lf) h7
 exact h8.trans (by kernel_rfl)
theorem Sb.other {w : World} {g : Nat} {m : Sh} (h : Sb w g m) (k o : Nat) (v : Value) (hk : g ≠ k) : Sb (w.setCell ⟨k, o, none⟩ v) g m := by
 unfold Sb at h ⊢
 rw [heap_setCell_other _ _ _ _ hk]
 exact h
theorem Sb.step {w : World} {g : Nat} {m : Sh} (h : Sb w g m) (x y k : Int) : Sb (((w.setCell ⟨g, 3, none⟩ (.int .i64 x)).setCell ⟨g, 4, none⟩ (.int .i64 y)).setCell ⟨g, 7, none⟩ (.int .i64 k)) g { m with ax := x, ay := y, lf := k } := by
 have h1 := heap_setCell_same w g 3 _ _ (.int .i64 x) h
 have h2 := heap_setCell_same _ g 4 _ _ (.int .i64 y) h1
 have h3 := heap_setCell_same _ g 7 _ _ (.int .i64 k) h2
 exact h3.trans (by kernel_rfl)
theorem Sb.load {w : World} {g : Nat} {m : Sh} (h : Sb w g m) : (loadVar 153 ⟨g, 0, none⟩).run Tryd.prog w = .ok (sv m) w := by
 obtain ⟨c0, c1, c2, c3, c4, c5, c6, c7, cf⟩ := h.cells
 go_simp
theorem Sb.res {fn : Func} {p : Tmp} {w : World} {g : Nat} {m : Sh} (hb : Sb w g m) (h : fn.results = #[.cell p 153]) (tmps : Array Value) (hp : tmps.getD p undef = .pointer (some ⟨g, 0, none⟩)) :
  (results fn tmps).run Tryd.prog w = .ok (sv m) w := by
 have hp' : tmps[p]?.getD undef = .pointer (some ⟨g, 0, none⟩) := by simpa using hp
 simp [results, h, hp', asAddr, hb.load]
theorem Sb.rest {fn : Func} {p q : Tmp} {w : World} {g : Nat} {m : Sh} (hb : Sb w g m) (h : fn.results = #[.cell p 153, .tmp q]) (tmps : Array Value) (t : Value) (hp : tmps.getD p undef = .pointer (some ⟨g, 0, none⟩)) (hq : tmps.getD q undef = t) :
  (results fn tmps).run Tryd.prog w = .ok (.tuple #[sv m, t]) w := by
 rw [results_cell_tmp h, hp, hq]
 simp [asAddr, Result.andThen, hb.load]
theorem Sb.rest3 {fn : Func} {p q r : Tmp} {w : World} {g : Nat} {m : Sh} (hb : Sb w g m) (h : fn.results = #[.cell p 153, .tmp q, .tmp r]) (tmps : Array Value) (t s : Value) (hp : tmps.getD p undef = .pointer (some ⟨g, 0, none⟩)) (hq : tmps.getD q undef = t) (hr : tmps.getD r undef = s) :
  (results fn tmps).run Tryd.prog w = .ok (.tuple #[sv m, t, s]) w := by
 rw [results3 h, hp, hq, hr]
 simp [asAddr, Result.andThen, hb.load]
def eqS (m n : Sh) : Bool := (m.no == n.no) && (m.ow == n.ow) && (m.pw == n.pw) && (m.ax == n.ax) && (m.ay == n.ay) && (m.sx == n.sx) && (m.sy == n.sy) && (m.lf == n.lf)
theorem eqS_refl (m : Sh) : eqS m m = true := by unfold eqS; simp
theorem eqS_iff {m n : Sh} : eqS m n = true ↔ m = n := by
 constructor
 ·intro h
  unfold eqS at h
  simp only [Bool.and_eq_true, beq_iff_eq] at h
  cases m; cases n
  simp_all
 ·rintro rfl; exact eqS_refl m
def eqSP (m n : Sh) : Bool := (m.no == n.no) && ((m.ow == n.ow) && ((m.pw == n.pw) && ((m.ax == n.ax && m.ay == n.ay) && ((m.sx == n.sx && m.sy == n.sy) && (m.lf == n.lf)))))
theorem eqSP_eq (m n : Sh) : eqSP m n = eqS m n := by
 unfold eqSP eqS
 simp only [Bool.and_assoc]
theorem spart_pt (m : Sh) (w : World) : (part 35 (scs m) 3).run Tryd.prog w = .ok (pt m.ax m.ay) w /\ (part 35 (scs m) 5).run Tryd.prog w = .ok (pt m.sx m.sy) w := by
 refine ⟨?_, ?_⟩ <;> go_simp
theorem spart_in (m : Sh) (w : World) : (part 3 (scs m) 0).run Tryd.prog w = .ok (.int .i64 m.no) w /\ (part 3 (scs m) 1).run Tryd.prog w = .ok (.int .i64 m.ow) w /\ (part 3 (scs m) 2).run Tryd.prog w = .ok (.int .i64 m.pw) w /\ (part 3 (scs m) 7).run Tryd.prog w = .ok (.int .i64 m.lf) w := by
 refine ⟨?_, ?_, ?_, ?_⟩ <;> go_simp
theorem equal_sv (m n : Sh) (w : World) : (Op.equalIn 10000 153 (sv m) (sv n)).run Tryd.prog w = .ok (eqS m n) w := by
 have a1 := fun w => (spart_pt m w).1
 have a2 := fun w => (spart_pt m w).2
 have b1 := fun w => (spart_pt n w).1
 have b2 := fun w => (spart_pt n w).2
 have q1 := fun w => equal_pt 9997 m.ax m.ay n.ax n.ay w
 have q2 := fun w => equal_pt 9997 m.sx m.sy n.sx n.sy w
 have c0 := fun w => (spart_in m w).1
 have d0 := fun w => (spart_in n w).1
 have r0 := fun w => equal_int 9998 m.no n.no w
 have c1 := fun w => (spart_in m w).2.1
 have d1 := fun w => (spart_in n w).2.1
 have r1 := fun w => equal_int 9998 m.ow n.ow w
 have c2 := fun w => (spart_in m w).2.2.1
 have d2 := fun w => (spart_in n w).2.2.1
 have r2 := fun w => equal_int 9998 m.pw n.pw w
 have c3 := fun w => (spart_in m w).2.2.2
 have d3 := fun w => (spart_in n w).2.2.2
 have r3 := fun w => equal_int 9998 m.lf n.lf w
 rw [run_equalIn_struct w 9999 _ _ _ (by kernel_rfl) (by kernel_rfl)]
 have e : (Tryd.prog.fieldsOf 153) = #[⟨ "No", 3, 0, false, "", "", 0⟩, ⟨ "Owner", 3, 1, false, "", "", 8⟩, ⟨ "Power", 3, 2, false, "", "", 16⟩, ⟨ "At", 35, 3, false, "", "", 24⟩, ⟨ "Speed", 35, 5, false, "", "", 40⟩, ⟨ "Left", 3, 7, false, "", "", 56⟩] := by kernel_rfl
 rw [e, <- eqSP_eq]
 simp only [Op.eqFields, ne_eq, String.reduceEq, not_false_eq_true, if_true, Sem.run_bind, a1, a2, b1, b2, c0, c1, c2, c3, d0, d1, d2, d3, Result.andThen_ok, q1, q2, r0, r1, r2, r3, Sem.run_ite, Sem.run_pure]
 unfold eqSP
 exact st (st (st (st (st (st1 _)))))
theorem eql_sv (m n : Sh) (w : World) : (binOp .eql 153 (sv m) (sv n)).run Tryd.prog w = .ok (.bool (eqS m n)) w := by
 rw [run_eql_struct, equal_sv]; rfl
theorem eql_sv_t (m : Sh) (w : World) : (binOp .eql 153 (sv m) (sv m)).run Tryd.prog w = .ok (.bool true) w := by
 rw [eql_sv, eqS_refl]
theorem guard_sv (op : BinOp) (a b : Operand) (xs ys : Array Value) (w : World) : (eqGuard op 153 a b (.agg xs) (.agg ys)).run Tryd.prog w = .ok () w := run_eqGuard_agg w op _ a b xs ys (by kernel_rfl)
end Go.Proofs.YtdljmpjfiggdiaaDoor
