/- Verbs and orders in plain words: names, ranges, texts. No function of the program is named here. Movers in plain words: what may be, what orders, motion, harm and rest make of one. No function of the program is named here. What may be stays so: plain words on movers. Movers in memory; compared. The document's among, Start, May and Check. The document's May. A mover that is worked on, in memory; the small functions of the program. The program's Check. -/
import Derived.KernelRfl
import Derived.Tactics2
import Derived.Test.YtdljmpjfiggdiaaDoorK6b
import Derived.Test.YtdljmpjfiggdiaaDoorK5b
import Derived.Laws.ResultCell
import Derived.Laws.StructEq
import Derived.Test.YtdljmpjfiggdiaaDoorK5a
import Derived.Deep.DeepCutAuto
namespace Go.Proofs.YtdljmpjfiggdiaaDoor.Vp

/-- the verbs' names, by number less 1 -/
def nmL : List ByteArray := [⟨#[115, 116, 101, 101, 114]⟩, ⟨#[104, 97, 108, 116]⟩, ⟨#[97, 105, 109]⟩, ⟨#[102, 105, 114, 101]⟩, ⟨#[115, 104, 105, 101, 108, 100]⟩, ⟨#[100, 97, 115, 104]⟩, ⟨#[115, 97, 121]⟩]
/-- their first operands' names -/
def fsL : List ByteArray := [⟨#[120]⟩, ⟨#[]⟩, ⟨#[116, 111]⟩, ⟨#[112, 111, 119, 101, 114]⟩, ⟨#[111, 110]⟩, ⟨#[116, 111]⟩, ⟨#[119, 104, 97, 116]⟩]
def loL : List Int := [-8, 0, 0, 1, 0, 0, 0]
def hiL : List Int := [8, 0, 15, 3, 1, 15, 255]
def nmB (i : Nat) : ByteArray := nmL.getD i ByteArray.empty
def fsB (i : Nat) : ByteArray := fsL.getD i ByteArray.empty
def lo (i : Nat) : Int := loL.getD i 0
def hi (i : Nat) : Int := hiL.getD i 0
/-- is there such a verb -/
def isV (v : Int) : Bool := decide (1 ≤ v) && decide (v ≤ 7)
def nmV (v : Int) : ByteArray := if isV v then nmB (v - 1).toNat else ByteArray.empty
/-- what a verb takes -/
def opV (v : Int) : List (ByteArray × Int × Int) :=
  if isV v && v != 2 then (fsB (v - 1).toNat, lo (v - 1).toNat, hi (v - 1).toNat) :: (if v = 1 then [(⟨#[121]⟩, -8, 8)] else []) else []
/-- may an order be -/
def okO (v a b c : Int) : Bool := decide (lo (v - 1).toNat ≤ a) && decide (a ≤ hi (v - 1).toNat) && (if v = 1 then decide (-8 ≤ b) && decide (b ≤ 8) else decide (b = 0)) && decide (c = 0)
def chkO (v a b c : Int) : Int := if isV v then (if okO v a b c then 0 else 71) else 70
theorem isV_iff {v : Int} : isV v = true ↔ 1 ≤ v ∧ v ≤ 7 := by unfold isV; simp
theorem isV_no {v : Int} : isV v = false ↔ v < 1 ∨ 7 < v := by
  unfold isV
  simp
  omega
theorem verbs {v : Int} (h : isV v = true) : v = 1 ∨ v = 2 ∨ v = 3 ∨ v = 4 ∨ v = 5 ∨ v = 6 ∨ v = 7 := by
  have := isV_iff.1 h
  omega
/-- a digit -/
def dg (n : Nat) : UInt8 := UInt8.ofNat (48 + n % 10)
/-- a number of up to three digits -/
def numN (n : Nat) : List UInt8 := if n < 10 then [dg n] else if n < 100 then [dg (n / 10), dg n] else [dg (n / 100), dg (n / 10), dg n]
def numB (n : Int) : ByteArray := ⟨(if n < 0 then 45 :: numN (-n).toNat else numN n.toNat).toArray⟩
/-- an order's text -/
def prn (v a b : Int) : ByteArray := nmV v ++ (if v = 2 then ByteArray.empty else (⟨#[32]⟩ : ByteArray) ++ numB a) ++ (if v = 1 then (⟨#[32]⟩ : ByteArray) ++ numB b else ByteArray.empty)
def prnO (v a b c : Int) : ByteArray := if chkO v a b c = 0 then prn v a b else ByteArray.empty
/-- all orders -/
def allO : List (Int × Int × Int) :=
  ((List.range 17).flatMap fun (i : Nat) => (List.range 17).map fun (j : Nat) => ((1 : Int), (i : Int) - 8, (j : Int) - 8)) ++ [(2, 0, 0)] ++ ((List.range 16).map fun (i : Nat) => ((3 : Int), (i : Int), (0 : Int))) ++
    ((List.range 3).map fun (i : Nat) => ((4 : Int), (i : Int) + 1, (0 : Int))) ++ ((List.range 2).map fun (i : Nat) => ((5 : Int), (i : Int), (0 : Int))) ++ ((List.range 16).map fun (i : Nat) => ((6 : Int), (i : Int), (0 : Int))) ++ ((List.range 256).map fun (i : Nat) => ((7 : Int), (i : Int), (0 : Int)))
theorem mem_all {v a b c : Int} (h : chkO v a b c = 0) : (v, a, b) ∈ allO ∧ c = 0 := by
  unfold chkO at h
  split at h
  · rename_i hv
    split at h
    · rename_i ho
      unfold okO at ho
      simp only [Bool.and_eq_true, decide_eq_true_eq] at ho
      obtain ⟨⟨⟨h1, h2⟩, h3⟩, h4⟩ := ho
      refine ⟨?_, h4⟩
      unfold allO
      simp only [List.mem_append]
      rcases verbs hv with rfl | rfl | rfl | rfl | rfl | rfl | rfl
      · simp [lo, hi, loL, hiL] at h1 h2 h3
        left; left; left; left; left; left
        exact List.mem_flatMap.2 ⟨(a + 8).toNat, List.mem_range.2 (by omega), List.mem_map.2 ⟨(b + 8).toNat, List.mem_range.2 (by omega), by simp; omega⟩⟩
      · simp [lo, hi, loL, hiL] at h1 h2 h3
        left; left; left; left; left; right
        rw [show a = 0 by omega, h3]
        exact List.mem_singleton.2 rfl
      · simp [lo, hi, loL, hiL] at h1 h2 h3
        left; left; left; left; right
        exact List.mem_map.2 ⟨a.toNat, List.mem_range.2 (by omega), by simp; omega⟩
      · simp [lo, hi, loL, hiL] at h1 h2 h3
        left; left; left; right
        exact List.mem_map.2 ⟨(a - 1).toNat, List.mem_range.2 (by omega), by simp; omega⟩
      · simp [lo, hi, loL, hiL] at h1 h2 h3
        left; left; right
        exact List.mem_map.2 ⟨a.toNat, List.mem_range.2 (by omega), by simp; omega⟩
      · simp [lo, hi, loL, hiL] at h1 h2 h3
        left; right
        exact List.mem_map.2 ⟨a.toNat, List.mem_range.2 (by omega), by simp; omega⟩
      · simp [lo, hi, loL, hiL] at h1 h2 h3
        right
        exact List.mem_map.2 ⟨a.toNat, List.mem_range.2 (by omega), by simp; omega⟩
    · cases h
  · cases h
/-- a text as one number -/
def cod (b : ByteArray) : Nat := b.data.toList.foldl (fun n x => n * 256 + x.toNat) 1
def none? : List Nat → Bool
  | [] => true
  | x :: l => l.all (fun y => !Nat.beq x y) && none? l
theorem none_inj {α : Type} {f : α → Nat} : ∀ {l : List α}, none? (l.map f) = true → ∀ x ∈ l, ∀ y ∈ l, f x = f y → x = y
  | [], _, x, h, _, _, _ => by cases h
  | z :: l, h, x, hx, y, hy, e => by
    rw [List.map_cons, none?, Bool.and_eq_true] at h
    have k : ∀ w ∈ l, f z ≠ f w := fun w hw e => by
      have := List.all_eq_true.1 h.1 (f w) (List.mem_map.2 ⟨w, hw, rfl⟩)
      rw [e] at this
      simp at this
    rcases List.mem_cons.1 hx with rfl | hx2
    · rcases List.mem_cons.1 hy with rfl | hy2
      · rfl
      · exact absurd e (k y hy2)
    · rcases List.mem_cons.1 hy with rfl | hy2
      · exact absurd e.symm (k x hx2)
      · exact none_inj h.2 x hx2 y hy2 e
theorem all_unlike : none? (allO.map fun o => cod (prn o.1 o.2.1 o.2.2)) = true := by kernel_rfl
theorem prn_inj {v a b v' a' b' : Int} (h : (v, a, b) ∈ allO) (h' : (v', a', b') ∈ allO) (e : prn v a b = prn v' a' b') : v = v' ∧ a = a' ∧ b = b' := by
  have := none_inj (f := fun o : Int × Int × Int => cod (prn o.1 o.2.1 o.2.2)) all_unlike _ h _ h' (by show cod (prn v a b) = cod (prn v' a' b'); rw [e])
  cases this
  exact ⟨rfl, rfl, rfl⟩
theorem prnO_inj {v a b c v' a' b' c' : Int} (h : chkO v a b c = 0) (h' : chkO v' a' b' c' = 0) (e : prn v a b = prn v' a' b') : v = v' ∧ a = a' ∧ b = b' ∧ c = c' := by
  obtain ⟨m, rfl⟩ := mem_all h
  obtain ⟨m', rfl⟩ := mem_all h'
  obtain ⟨e1, e2, e3⟩ := prn_inj m m' e
  exact ⟨e1, e2, e3, rfl⟩
end Go.Proofs.YtdljmpjfiggdiaaDoor.Vp
namespace Go.Proofs.YtdljmpjfiggdiaaDoor.Np
open Pu Gp Ap Vp

/-- a mover -/
structure Mv where
  ax : Int
  ay : Int
  sx : Int
  sy : Int
  px : Int
  py : Int
  fc : Int
  hl : Int
  en : Int
  sh : Bool
  co : Int
  ou : Int
  sd : Int

/-- it may be -/
def May (m : Mv) : Prop :=
  (-2147483647 ≤ m.ax ∧ m.ax ≤ 2147483647 ∧ -2147483647 ≤ m.ay ∧ m.ay ≤ 2147483647) ∧ (-1024 ≤ m.sx ∧ m.sx ≤ 1024 ∧ -1024 ≤ m.sy ∧ m.sy ≤ 1024) ∧ (-256 ≤ m.px ∧ m.px ≤ 256 ∧ -256 ≤ m.py ∧ m.py ≤ 256) ∧
  (0 ≤ m.fc ∧ m.fc ≤ 15) ∧ (0 ≤ m.hl ∧ m.hl ≤ 100) ∧ (0 ≤ m.en ∧ m.en ≤ 100) ∧ (0 ≤ m.co ∧ m.co ≤ 12) ∧ (0 ≤ m.ou ∧ m.ou ≤ 30) ∧ (0 ≤ m.sd ∧ m.sd ≤ 255) ∧
  (m.ou = 0 → 1 ≤ m.hl) ∧ (m.ou ≠ 0 → m.sx = 0 ∧ m.sy = 0 ∧ m.px = 0 ∧ m.py = 0 ∧ m.hl = 0 ∧ m.en = 0 ∧ m.sh = false ∧ m.co = 0)
def decMay (m : Mv) : Decidable (May m) := by unfold May; infer_instance
def mayB (m : Mv) : Bool := @decide (May m) (decMay m)
theorem mayB_iff {m : Mv} : mayB m = true ↔ May m := @decide_eq_true_iff (May m) (decMay m)
def zM : Mv := ⟨0, 0, 0, 0, 0, 0, 0, 0, 0, false, 0, 0, 0⟩
def startM (x y f : Int) : Mv := ⟨bnd x, bnd y, 0, 0, 0, 0, f % 16, 100, 50, false, 0, 0, 0⟩
def chkM (m : Mv) : Int := if mayB m then 0 else 80
/-- is the order done -/
def doneA (m : Mv) (v a : Int) : Bool := (m.ou == 0) && (if v = 4 then (m.co == 0) && decide (10 * a ≤ m.en) else if v = 5 then (a == 0) || decide (0 < m.en) else if v = 6 then decide (20 ≤ m.en) else true)
/-- what it makes -/
def deed (m : Mv) (v a b : Int) : Mv :=
  if v = 1 then { m with px := 32 * a, py := 32 * b } else if v = 2 then { m with px := 0, py := 0 } else if v = 3 then { m with fc := a } else if v = 4 then { m with en := m.en - 10 * a, co := 4 * a }
  else if v = 5 then { m with sh := a == 1 } else if v = 6 then { m with en := m.en - 20, sx := mulf (ux (a % 16).toNat) 1024, sy := mulf (uy (a % 16).toNat) 1024 } else { m with sd := a }
def errA (m : Mv) (v a b c : Int) : Int := if mayB m then chkO v a b c else 80
def actD (m : Mv) (v a b c : Int) : Bool := (errA m v a b c == 0) && doneA m v a
def actM (m : Mv) (v a b c : Int) : Mv := if errA m v a b c = 0 then (if doneA m v a then deed m v a b else m) else zM
/-- where a slide leads, and its sides -/
def sldX (sol : Int → Int → Bool) (x y p : Int) : Int := addf (bnd x) (sgn (stp p) * (kX sol 1280 (bnd x) (bnd y) (stp p) : Int))
def sldK (sol : Int → Int → Bool) (x y p q : Int) : Nat := kY sol 1280 (sldX sol x y p) (addf (bnd y) 0) (stp q)
def sldY (sol : Int → Int → Bool) (x y p q : Int) : Int := addf (addf (bnd y) 0) (sgn (stp q) * (sldK sol x y p q : Int))
def sldN (sol : Int → Int → Bool) (x y p q : Int) : Int := side (kX sol 1280 (bnd x) (bnd y) (stp p)) (stp p).natAbs (sldK sol x y p q) (stp q).natAbs
/-- a speed behind a frame -/
def spd (s p : Int) : Int := clampf ((s * 7).tdiv 8 + p) (-1024) 1024
def glideM (sol : Int → Int → Bool) (m : Mv) : Mv :=
  if m.ou = 0 then
    { m with ax := addf (sldX sol m.ax m.ay (spd m.sx m.px)) 0, ay := sldY sol m.ax m.ay (spd m.sx m.px) (spd m.sy m.py),
             sx := if sldN sol m.ax m.ay (spd m.sx m.px) (spd m.sy m.py) % 2 = 1 then -((spd m.sx m.px).tdiv 2) else spd m.sx m.px,
             sy := if 2 ≤ sldN sol m.ax m.ay (spd m.sx m.px) (spd m.sy m.py) then -((spd m.sy m.py).tdiv 2) else spd m.sy m.py }
  else m
def gliM (sol : Int → Int → Bool) (m : Mv) : Mv := if mayB m then glideM sol m else zM
/-- what a shield takes -/
def tak (m : Mv) (h : Int) : Int := if m.sh then min m.en h else 0
def outM (m : Mv) : Mv := ⟨m.ax, m.ay, 0, 0, 0, 0, m.fc, 0, 0, false, 0, 30, m.sd⟩
def went (m : Mv) (h : Int) : Bool := (m.ou == 0) && decide (m.hl - (h - tak m h) ≤ 0)
def errH (m : Mv) (h : Int) : Int := if mayB m then (if h < 1 ∨ 100 < h then 1 else 0) else 80
def hurtM (m : Mv) (h : Int) : Mv := if m.ou = 0 then (if m.hl - (h - tak m h) ≤ 0 then outM m else { m with en := m.en - tak m h, sh := m.sh && decide (0 < m.en - tak m h), hl := m.hl - (h - tak m h) }) else m
def hurM (m : Mv) (h : Int) : Mv := if errH m h = 0 then hurtM m h else zM
def hurD (m : Mv) (h : Int) : Bool := (errH m h == 0) && went m h
def restM (m : Mv) (x y : Int) : Mv :=
  if m.ou = 1 then { startM x y m.fc with sd := m.sd } else if 1 < m.ou then { m with ou := m.ou - 1 }
  else { m with co := if 0 < m.co then m.co - 1 else m.co, en := if m.sh then (if m.en - 2 ≤ 0 then 0 else m.en - 2) else if m.en < 100 then m.en + 1 else m.en, sh := m.sh && decide (0 < m.en - 2) }
def resM (m : Mv) (x y : Int) : Mv := if mayB m then restM m x y else zM
def resD (m : Mv) : Bool := mayB m && (m.ou == 1)
end Go.Proofs.YtdljmpjfiggdiaaDoor.Np
namespace Go.Proofs.YtdljmpjfiggdiaaDoor.Np
open Pu Gp Ap Vp

theorem bnd_in (n : Int) : -2147483647 ≤ bnd n ∧ bnd n ≤ 2147483647 := by
  unfold bnd
  repeat' split
  all_goals omega
theorem bnd_id {n : Int} (h1 : -2147483647 ≤ n) (h2 : n ≤ 2147483647) : bnd n = n := by
  unfold bnd
  rw [if_neg (by omega), if_neg (by omega)]
theorem may_start (x y f : Int) : May (startM x y f) := by
  have h1 := bnd_in x
  have h2 := bnd_in y
  unfold May startM
  simp only
  refine ⟨⟨h1.1, h1.2, h2.1, h2.2⟩, ?_⟩
  simp
  omega
/-- an order that may be -/
theorem chk_rng {v a b c : Int} (h : chkO v a b c = 0) : (v = 1 ∧ -8 ≤ a ∧ a ≤ 8 ∧ -8 ≤ b ∧ b ≤ 8) ∨ v = 2 ∨ (v = 3 ∧ 0 ≤ a ∧ a ≤ 15) ∨ (v = 4 ∧ 1 ≤ a ∧ a ≤ 3) ∨ (v = 5 ∧ 0 ≤ a ∧ a ≤ 1) ∨ (v = 6 ∧ 0 ≤ a ∧ a ≤ 15) ∨ (v = 7 ∧ 0 ≤ a ∧ a ≤ 255) := by
  unfold chkO at h
  split at h
  · rename_i hv
    split at h
    · rename_i ho
      unfold okO at ho
      simp only [Bool.and_eq_true, decide_eq_true_eq] at ho
      obtain ⟨⟨⟨h1, h2⟩, h3⟩, h4⟩ := ho
      rcases verbs hv with rfl | rfl | rfl | rfl | rfl | rfl | rfl <;> simp [lo, hi, loL, hiL] at h1 h2 h3 ⊢ <;> omega
    · cases h
  · cases h
theorem unit_in : ∀ d : Nat, d < 16 → (-1024 ≤ mulf (ux d) 1024 ∧ mulf (ux d) 1024 ≤ 1024) ∧ (-1024 ≤ mulf (uy d) 1024 ∧ mulf (uy d) 1024 ≤ 1024) := by decide
theorem may_deed {m : Mv} {v a b c : Int} (hm : May m) (hc : chkO v a b c = 0) (hd : doneA m v a = true) : May (deed m v a b) := by
  have hu := unit_in (a % 16).toNat (by omega)
  have hr := chk_rng hc
  unfold doneA at hd
  simp only [Bool.and_eq_true, beq_iff_eq] at hd
  obtain ⟨h0, hd⟩ := hd
  obtain ⟨g1, g2, g3, g4, g5, g6, g7, g8, g9, g10, g11⟩ := hm
  have h1 := g10 h0
  clear g10 g11
  unfold deed
  rcases hr with ⟨rfl, hr⟩ | rfl | ⟨rfl, hr⟩ | ⟨rfl, hr⟩ | ⟨rfl, hr⟩ | ⟨rfl, hr⟩ | ⟨rfl, hr⟩ <;> simp at hd ⊢ <;> refine ⟨?_, ?_, ?_, ?_, ?_, ?_, ?_, ?_, ?_, ?_, ?_⟩ <;> simp only <;> first | omega | (intro hh; omega)
theorem may_act {m : Mv} {v a b c : Int} (he : errA m v a b c = 0) : May (actM m v a b c) := by
  have hm : May m := by
    unfold errA at he
    split at he
    · exact mayB_iff.1 (by assumption)
    · cases he
  have hc : chkO v a b c = 0 := by
    unfold errA at he
    rw [if_pos (mayB_iff.2 hm)] at he
    exact he
  unfold actM
  rw [if_pos he]
  split
  · exact may_deed hm hc (by assumption)
  · exact hm
theorem spd_in (s p : Int) : -1024 ≤ spd s p ∧ spd s p ≤ 1024 := by
  unfold spd clampf
  have h1 : bnd (-1024) = -1024 := by decide
  have h2 : bnd 1024 = 1024 := by decide
  rw [h1, h2]
  repeat' split
  all_goals omega
theorem half_in {n : Int} (h1 : -1024 ≤ n) (h2 : n ≤ 1024) : -1024 ≤ -(n.tdiv 2) ∧ -(n.tdiv 2) ≤ 1024 := by
  rcases Int.le_total 0 n with h | h
  · rw [Int.tdiv_eq_ediv_of_nonneg h]; omega
  · have e : n.tdiv 2 = -((-n).tdiv 2) := by rw [Int.neg_tdiv]; omega
    rw [e, Int.tdiv_eq_ediv_of_nonneg (by omega)]; omega
theorem may_glide {m : Mv} (sol : Int → Int → Bool) (hm : May m) : May (gliM sol m) := by
  unfold gliM
  rw [if_pos (mayB_iff.2 hm)]
  unfold glideM
  split
  · rename_i h0
    obtain ⟨g1, g2, g3, g4, g5, g6, g7, g8, g9, g10, g11⟩ := hm
    have hs := spd_in m.sx m.px
    have ht := spd_in m.sy m.py
    have hs2 := half_in hs.1 hs.2
    have ht2 := half_in ht.1 ht.2
    refine ⟨?_, ?_, g3, g4, g5, g6, g7, g8, g9, g10, fun h => absurd h0 h⟩
    · exact ⟨(bnd_in _).1, (bnd_in _).2, (bnd_in _).1, (bnd_in _).2⟩
    · simp only
      refine ⟨?_, ?_, ?_, ?_⟩ <;> split <;> omega
  · exact hm
theorem tak_in {m : Mv} {h : Int} (hm : May m) (h1 : 1 ≤ h) : 0 ≤ tak m h ∧ tak m h ≤ m.en ∧ tak m h ≤ h := by
  have := hm.2.2.2.2.2.1
  unfold tak
  split <;> omega
theorem may_hurt {m : Mv} {h : Int} (he : errH m h = 0) : May (hurM m h) := by
  have hm : May m := by
    unfold errH at he
    split at he
    · exact mayB_iff.1 (by assumption)
    · cases he
  have hh : 1 ≤ h ∧ h ≤ 100 := by
    unfold errH at he
    rw [if_pos (mayB_iff.2 hm)] at he
    split at he
    · cases he
    · omega
  unfold hurM
  rw [if_pos he]
  have ht := tak_in hm hh.1
  have hm0 := hm
  obtain ⟨g1, g2, g3, g4, g5, g6, g7, g8, g9, g10, g11⟩ := hm
  unfold hurtM
  split
  · rename_i h0
    split
    · unfold outM May
      simp only
      refine ⟨g1, ?_⟩
      simp
      omega
    · refine ⟨g1, g2, g3, g4, ?_, ?_, g7, g8, g9, ?_, fun h => absurd h0 h⟩ <;> simp only <;> omega
  · exact hm0
theorem may_rest {m : Mv} (x y : Int) (hm : May m) : May (resM m x y) := by
  unfold resM
  rw [if_pos (mayB_iff.2 hm)]
  have hm0 := hm
  obtain ⟨g1, g2, g3, g4, g5, g6, g7, g8, g9, g10, g11⟩ := hm
  unfold restM
  split
  · have := may_start x y m.fc
    obtain ⟨k1, k2, k3, k4, k5, k6, k7, k8, k9, k10, k11⟩ := this
    exact ⟨k1, k2, k3, k4, k5, k6, k7, k8, g9, k10, k11⟩
  · split
    · obtain ⟨e1, e2, e3, e4, e5, e6, e7, e8⟩ := g11 (by omega)
      refine ⟨g1, g2, g3, g4, g5, g6, g7, ?_, g9, ?_, fun _ => ⟨e1, e2, e3, e4, e5, e6, e7, e8⟩⟩ <;> simp only <;> omega
    · have h0 : m.ou = 0 := by omega
      refine ⟨g1, g2, g3, g4, g5, ?_, ?_, g8, g9, g10, fun h => absurd h0 h⟩ <;> simp only
      · repeat' split
        all_goals omega
      · split <;> omega
end Go.Proofs.YtdljmpjfiggdiaaDoor.Np
namespace Go.Proofs.YtdljmpjfiggdiaaDoor
open Go.RowKit
open Pu Gp Ap Vp Np
set_option maxRecDepth 100000

/-- a mover's cells -/
abbrev mcs (m : Mv) : Array Value := #[.int .i64 m.ax, .int .i64 m.ay, .int .i64 m.sx, .int .i64 m.sy, .int .i64 m.px, .int .i64 m.py, .int .i64 m.fc, .int .i64 m.hl, .int .i64 m.en, .bool m.sh, .int .i64 m.co, .int .i64 m.ou, .int .i64 m.sd]
/-- a mover as a value -/
abbrev mv (m : Mv) : Value := .agg (mcs m)
/-- block g holds a mover -/
def Mb (w : World) (g : Nat) (m : Mv) : Prop := w.heap[g]? = some (.cells (mcs m) 52 (0, 0))
theorem Mb.still {w w' : World} {g : Nat} {m : Mv} (h : Mb w g m) (hs : Still w w') : Mb w' g m := hs.kept_still h
theorem Mb.lt {w : World} {g : Nat} {m : Mv} (h : Mb w g m) : g < w.heap.size := block_lt h
theorem Mb.cells {w : World} {g : Nat} {m : Mv} (h : Mb w g m) : w.cell? ⟨g, 0, none⟩ = some (.int .i64 m.ax) ∧ w.cell? ⟨g, 1, none⟩ = some (.int .i64 m.ay) ∧ w.cell? ⟨g, 2, none⟩ = some (.int .i64 m.sx) ∧ w.cell? ⟨g, 3, none⟩ = some (.int .i64 m.sy) ∧ w.cell? ⟨g, 4, none⟩ = some (.int .i64 m.px) ∧ w.cell? ⟨g, 5, none⟩ = some (.int .i64 m.py) ∧ w.cell? ⟨g, 6, none⟩ = some (.int .i64 m.fc) ∧ w.cell? ⟨g, 7, none⟩ = some (.int .i64 m.hl) ∧ w.cell? ⟨g, 8, none⟩ = some (.int .i64 m.en) ∧ w.cell? ⟨g, 9, none⟩ = some (.bool m.sh) ∧ w.cell? ⟨g, 10, none⟩ = some (.int .i64 m.co) ∧ w.cell? ⟨g, 11, none⟩ = some (.int .i64 m.ou) ∧ w.cell? ⟨g, 12, none⟩ = some (.int .i64 m.sd) ∧ ∀ o, w.frozen? ⟨g, o, none⟩ = false := by
  refine ⟨?_, ?_, ?_, ?_, ?_, ?_, ?_, ?_, ?_, ?_, ?_, ?_, ?_, fun o => frozen_of_row w g o _ _ h⟩ <;> (rw [cell_of_row _ _ _ _ _ _ h]; rfl)
abbrev newM (w : World) (m : Mv) : World := w.alloc (.cells (mcs m) 52)
theorem newM_mb (w : World) (m : Mv) : Mb (newM w m) w.heap.size m := heap_alloc_new w _
abbrev setM (w : World) (g : Nat) (m : Mv) : World := (((((((((((((w.setCell ⟨g, 0, none⟩ (.int .i64 m.ax)).setCell ⟨g, 1, none⟩ (.int .i64 m.ay)).setCell ⟨g, 2, none⟩ (.int .i64 m.sx)).setCell ⟨g, 3, none⟩ (.int .i64 m.sy)).setCell ⟨g, 4, none⟩ (.int .i64 m.px)).setCell ⟨g, 5, none⟩ (.int .i64 m.py)).setCell ⟨g, 6, none⟩ (.int .i64 m.fc)).setCell ⟨g, 7, none⟩ (.int .i64 m.hl)).setCell ⟨g, 8, none⟩ (.int .i64 m.en)).setCell ⟨g, 9, none⟩ (.bool m.sh)).setCell ⟨g, 10, none⟩ (.int .i64 m.co)).setCell ⟨g, 11, none⟩ (.int .i64 m.ou)).setCell ⟨g, 12, none⟩ (.int .i64 m.sd))
theorem Mb.set {w : World} {g : Nat} {m : Mv} (h0 : Mb w g m) (n : Mv) : Mb (setM w g n) g n := by
  unfold Mb at h0 ⊢
  have h1 := heap_setCell_same _ g 0 _ _ (.int .i64 n.ax) h0
  have h2 := heap_setCell_same _ g 1 _ _ (.int .i64 n.ay) h1
  have h3 := heap_setCell_same _ g 2 _ _ (.int .i64 n.sx) h2
  have h4 := heap_setCell_same _ g 3 _ _ (.int .i64 n.sy) h3
  have h5 := heap_setCell_same _ g 4 _ _ (.int .i64 n.px) h4
  have h6 := heap_setCell_same _ g 5 _ _ (.int .i64 n.py) h5
  have h7 := heap_setCell_same _ g 6 _ _ (.int .i64 n.fc) h6
  have h8 := heap_setCell_same _ g 7 _ _ (.int .i64 n.hl) h7
  have h9 := heap_setCell_same _ g 8 _ _ (.int .i64 n.en) h8
  have h10 := heap_setCell_same _ g 9 _ _ (.bool n.sh) h9
  have h11 := heap_setCell_same _ g 10 _ _ (.int .i64 n.co) h10
  have h12 := heap_setCell_same _ g 11 _ _ (.int .i64 n.ou) h11
  have h13 := heap_setCell_same _ g 12 _ _ (.int .i64 n.sd) h12
  exact h13.trans (by kernel_rfl)
theorem setM_fr {F : Nat → Prop} {x w : World} (h : Fr F x w) (g : Nat) (m : Mv) (hb : F g ∨ x.heap.size ≤ g) : Fr F x (setM w g m) := (((((((((((((h.setCell _ _ hb).setCell _ _ hb).setCell _ _ hb).setCell _ _ hb).setCell _ _ hb).setCell _ _ hb).setCell _ _ hb).setCell _ _ hb).setCell _ _ hb).setCell _ _ hb).setCell _ _ hb).setCell _ _ hb).setCell _ _ hb)
theorem Mb.other {w : World} {g : Nat} {m : Mv} (h : Mb w g m) (k o : Nat) (v : Value) (hk : g ≠ k) : Mb (w.setCell ⟨k, o, none⟩ v) g m := by
  unfold Mb at h ⊢
  rw [heap_setCell_other _ _ _ _ hk]
  exact h
theorem load_mv (w : World) (g : Nat) (m : Mv) (c0 : w.cell? ⟨g, 0, none⟩ = some (.int .i64 m.ax)) (c1 : w.cell? ⟨g, 1, none⟩ = some (.int .i64 m.ay)) (c2 : w.cell? ⟨g, 2, none⟩ = some (.int .i64 m.sx)) (c3 : w.cell? ⟨g, 3, none⟩ = some (.int .i64 m.sy)) (c4 : w.cell? ⟨g, 4, none⟩ = some (.int .i64 m.px)) (c5 : w.cell? ⟨g, 5, none⟩ = some (.int .i64 m.py)) (c6 : w.cell? ⟨g, 6, none⟩ = some (.int .i64 m.fc)) (c7 : w.cell? ⟨g, 7, none⟩ = some (.int .i64 m.hl)) (c8 : w.cell? ⟨g, 8, none⟩ = some (.int .i64 m.en)) (c9 : w.cell? ⟨g, 9, none⟩ = some (.bool m.sh)) (c10 : w.cell? ⟨g, 10, none⟩ = some (.int .i64 m.co)) (c11 : w.cell? ⟨g, 11, none⟩ = some (.int .i64 m.ou)) (c12 : w.cell? ⟨g, 12, none⟩ = some (.int .i64 m.sd)) :
    (loadVar 52 ⟨g, 0, none⟩).run Tryd.prog w = .ok (mv m) w := by
  go_simp
theorem Mb.load {w : World} {g : Nat} {m : Mv} (hb : Mb w g m) : (loadVar 52 ⟨g, 0, none⟩).run Tryd.prog w = .ok (mv m) w := load_mv w g m hb.cells.1 hb.cells.2.1 hb.cells.2.2.1 hb.cells.2.2.2.1 hb.cells.2.2.2.2.1 hb.cells.2.2.2.2.2.1 hb.cells.2.2.2.2.2.2.1 hb.cells.2.2.2.2.2.2.2.1 hb.cells.2.2.2.2.2.2.2.2.1 hb.cells.2.2.2.2.2.2.2.2.2.1 hb.cells.2.2.2.2.2.2.2.2.2.2.1 hb.cells.2.2.2.2.2.2.2.2.2.2.2.1 hb.cells.2.2.2.2.2.2.2.2.2.2.2.2.1
theorem Mb.res {fn : Func} {p : Tmp} {w : World} {g : Nat} {m : Mv} (hb : Mb w g m) (h : fn.results = #[.cell p 52]) (tmps : Array Value) (hp : tmps.getD p undef = .pointer (some ⟨g, 0, none⟩)) :
    (results fn tmps).run Tryd.prog w = .ok (mv m) w := by
  have hp' : tmps[p]?.getD undef = .pointer (some ⟨g, 0, none⟩) := by simpa using hp
  simp [results, h, hp', asAddr, hb.load]
theorem Mb.rest {fn : Func} {p q : Tmp} {w : World} {g : Nat} {m : Mv} (hb : Mb w g m) (h : fn.results = #[.cell p 52, .tmp q]) (tmps : Array Value) (t : Value) (hp : tmps.getD p undef = .pointer (some ⟨g, 0, none⟩)) (hq : tmps.getD q undef = t) :
    (results fn tmps).run Tryd.prog w = .ok (.tuple #[mv m, t]) w := by
  rw [results_cell_tmp h, hp, hq]
  simp [asAddr, Result.andThen, hb.load]
theorem results3 {fn : Func} {p u v : Tmp} {ty : TypeId} (h : fn.results = #[.cell p ty, .tmp u, .tmp v]) (tmps : Array Value) (P : Program) (w : World) :
    (results fn tmps).run P w = ((asAddr (tmps.getD p undef)).run P w).andThen fun a w₁ => ((loadVar ty a).run P w₁).andThen fun x w₂ => .ok (.tuple #[x, tmps.getD u undef, tmps.getD v undef]) w₂ := by
  simp only [results, h]
  simp [Sem.run_bind, Result.andThen]
theorem Mb.rest3 {fn : Func} {p q r : Tmp} {w : World} {g : Nat} {m : Mv} (hb : Mb w g m) (h : fn.results = #[.cell p 52, .tmp q, .tmp r]) (tmps : Array Value) (t s : Value) (hp : tmps.getD p undef = .pointer (some ⟨g, 0, none⟩)) (hq : tmps.getD q undef = t) (hr : tmps.getD r undef = s) :
    (results fn tmps).run Tryd.prog w = .ok (.tuple #[mv m, t, s]) w := by
  rw [results3 h, hp, hq, hr]
  simp [asAddr, Result.andThen, hb.load]
/-- are two movers the same -/
def eqM (m n : Mv) : Bool := (m.ax == n.ax) && (m.ay == n.ay) && (m.sx == n.sx) && (m.sy == n.sy) && (m.px == n.px) && (m.py == n.py) && (m.fc == n.fc) && (m.hl == n.hl) && (m.en == n.en) && (m.sh == n.sh) && (m.co == n.co) && (m.ou == n.ou) && (m.sd == n.sd)
theorem eqM_refl (m : Mv) : eqM m m = true := by unfold eqM; simp
theorem eqM_iff {m n : Mv} : eqM m n = true ↔ m = n := by
  constructor
  · intro h
    unfold eqM at h
    simp only [Bool.and_eq_true, beq_iff_eq] at h
    cases m; cases n
    simp_all
  · rintro rfl; exact eqM_refl m
theorem equal_int (d : Nat) (x y : Int) (w : World) : (Op.equalIn (d + 1) 3 (.int .i64 x) (.int .i64 y)).run Tryd.prog w = .ok (x == y) w := by
  go_simp
theorem equal_bool (d : Nat) (x y : Bool) (w : World) : (Op.equalIn (d + 1) 4 (.bool x) (.bool y)).run Tryd.prog w = .ok (x == y) w := by
  go_simp
theorem part_pt (m : Mv) (w : World) : (part 35 (mcs m) 0).run Tryd.prog w = .ok (pt m.ax m.ay) w ∧ (part 35 (mcs m) 2).run Tryd.prog w = .ok (pt m.sx m.sy) w ∧ (part 35 (mcs m) 4).run Tryd.prog w = .ok (pt m.px m.py) w := by
  refine ⟨?_, ?_, ?_⟩ <;> go_simp
theorem part_in (m : Mv) (w : World) : (part 3 (mcs m) 6).run Tryd.prog w = .ok (.int .i64 m.fc) w ∧ (part 3 (mcs m) 7).run Tryd.prog w = .ok (.int .i64 m.hl) w ∧ (part 3 (mcs m) 8).run Tryd.prog w = .ok (.int .i64 m.en) w ∧ (part 3 (mcs m) 10).run Tryd.prog w = .ok (.int .i64 m.co) w ∧ (part 3 (mcs m) 11).run Tryd.prog w = .ok (.int .i64 m.ou) w ∧ (part 3 (mcs m) 12).run Tryd.prog w = .ok (.int .i64 m.sd) w ∧ (part 4 (mcs m) 9).run Tryd.prog w = .ok (.bool m.sh) w := by
  refine ⟨?_, ?_, ?_, ?_, ?_, ?_, ?_⟩ <;> go_simp
def eqP (m n : Mv) : Bool := (m.ax == n.ax && m.ay == n.ay) && ((m.sx == n.sx && m.sy == n.sy) && ((m.px == n.px && m.py == n.py) && ((m.fc == n.fc) && ((m.hl == n.hl) && ((m.en == n.en) && ((m.sh == n.sh) && ((m.co == n.co) && ((m.ou == n.ou) && (m.sd == n.sd)))))))))
theorem eqP_eq (m n : Mv) : eqP m n = eqM m n := by
  unfold eqP eqM
  simp only [Bool.and_assoc]
theorem st {b c : Bool} {w : World} {R : Result Bool} (h : R = .ok c w) : (if (!b) = true then Result.ok false w else R) = .ok (b && c) w := by
  cases b <;> simp [h]
theorem st1 (b : Bool) {w : World} : (if (!b) = true then Result.ok false w else Result.ok true w) = .ok b w := by
  cases b <;> rfl
theorem equal_mv (m n : Mv) (w : World) : (Op.equalIn 10000 52 (mv m) (mv n)).run Tryd.prog w = .ok (eqM m n) w := by
  have a1 := fun w => (part_pt m w).1
  have a2 := fun w => (part_pt m w).2.1
  have a3 := fun w => (part_pt m w).2.2
  have b1 := fun w => (part_pt n w).1
  have b2 := fun w => (part_pt n w).2.1
  have b3 := fun w => (part_pt n w).2.2
  have q1 := fun w => equal_pt 9997 m.ax m.ay n.ax n.ay w
  have q2 := fun w => equal_pt 9997 m.sx m.sy n.sx n.sy w
  have q3 := fun w => equal_pt 9997 m.px m.py n.px n.py w
  have c0 := fun w => (part_in m w).1
  have d0 := fun w => (part_in n w).1
  have r0 := fun w => equal_int 9998 m.fc n.fc w
  have c1 := fun w => (part_in m w).2.1
  have d1 := fun w => (part_in n w).2.1
  have r1 := fun w => equal_int 9998 m.hl n.hl w
  have c2 := fun w => (part_in m w).2.2.1
  have d2 := fun w => (part_in n w).2.2.1
  have r2 := fun w => equal_int 9998 m.en n.en w
  have c3 := fun w => (part_in m w).2.2.2.1
  have d3 := fun w => (part_in n w).2.2.2.1
  have r3 := fun w => equal_int 9998 m.co n.co w
  have c4 := fun w => (part_in m w).2.2.2.2.1
  have d4 := fun w => (part_in n w).2.2.2.2.1
  have r4 := fun w => equal_int 9998 m.ou n.ou w
  have c5 := fun w => (part_in m w).2.2.2.2.2.1
  have d5 := fun w => (part_in n w).2.2.2.2.2.1
  have r5 := fun w => equal_int 9998 m.sd n.sd w
  have c6 := fun w => (part_in m w).2.2.2.2.2.2
  have d6 := fun w => (part_in n w).2.2.2.2.2.2
  have r6 := fun w => equal_bool 9998 m.sh n.sh w
  rw [run_equalIn_struct w 9999 _ _ _ (by kernel_rfl) (by kernel_rfl)]
  have e : (Tryd.prog.fieldsOf 52) = #[⟨ "At", 35, 0, false, "", "", 0⟩, ⟨ "Speed", 35, 2, false, "", "", 16⟩, ⟨ "Push", 35, 4, false, "", "", 32⟩, ⟨ "Facing", 3, 6, false, "", "", 48⟩, ⟨ "Health", 3, 7, false, "", "", 56⟩, ⟨ "Energy", 3, 8, false, "", "", 64⟩, ⟨ "Shield", 4, 9, false, "", "", 72⟩, ⟨ "Cool", 3, 10, false, "", "", 80⟩, ⟨ "Out", 3, 11, false, "", "", 88⟩, ⟨ "Said", 3, 12, false, "", "", 96⟩] := by kernel_rfl
  rw [e, ← eqP_eq]
  simp only [Op.eqFields, ne_eq, String.reduceEq, not_false_eq_true, if_true, Sem.run_bind, a1, a2, a3, b1, b2, b3, c0, c1, c2, c3, c4, c5, c6, d0, d1, d2, d3, d4, d5, d6, Result.andThen_ok, q1, q2, q3, r0, r1, r2, r3, r4, r5, r6, Sem.run_ite, Sem.run_pure]
  unfold eqP
  exact st (st (st (st (st (st (st (st (st (st1 _)))))))))
theorem eql_mv (m n : Mv) (w : World) : (binOp .eql 52 (mv m) (mv n)).run Tryd.prog w = .ok (.bool (eqM m n)) w := by
  rw [run_eql_struct, equal_mv]; rfl
theorem neq_mv (m n : Mv) (w : World) : (binOp .neq 52 (mv m) (mv n)).run Tryd.prog w = .ok (.bool (!(eqM m n))) w := by
  rw [run_neq_struct, equal_mv]; rfl
theorem eql_mv_t (m : Mv) (w : World) : (binOp .eql 52 (mv m) (mv m)).run Tryd.prog w = .ok (.bool true) w := by
  rw [eql_mv, eqM_refl]
theorem neq_mv_f (m : Mv) (w : World) : (binOp .neq 52 (mv m) (mv m)).run Tryd.prog w = .ok (.bool false) w := by
  rw [neq_mv, eqM_refl]; rfl
theorem guard_mv (op : BinOp) (a b : Operand) (xs ys : Array Value) (w : World) : (eqGuard op 52 a b (.agg xs) (.agg ys)).run Tryd.prog w = .ok () w := run_eqGuard_agg w op _ a b xs ys (by kernel_rfl)
/-- a mover laid over another, cell by cell -/
theorem Mb.put {w : World} {g : Nat} {m : Mv} (h : Mb w g m) (ax : Int) (ay : Int) (sx : Int) (sy : Int) (px : Int) (py : Int) (fc : Int) (hl : Int) (en : Int) (sh : Bool) (co : Int) (ou : Int) (sd : Int) : Mb (((((((((((((w.setCell ⟨g, 0, none⟩ (.int .i64 ax)).setCell ⟨g, 1, none⟩ (.int .i64 ay)).setCell ⟨g, 2, none⟩ (.int .i64 sx)).setCell ⟨g, 3, none⟩ (.int .i64 sy)).setCell ⟨g, 4, none⟩ (.int .i64 px)).setCell ⟨g, 5, none⟩ (.int .i64 py)).setCell ⟨g, 6, none⟩ (.int .i64 fc)).setCell ⟨g, 7, none⟩ (.int .i64 hl)).setCell ⟨g, 8, none⟩ (.int .i64 en)).setCell ⟨g, 9, none⟩ (.bool sh)).setCell ⟨g, 10, none⟩ (.int .i64 co)).setCell ⟨g, 11, none⟩ (.int .i64 ou)).setCell ⟨g, 12, none⟩ (.int .i64 sd)) g ⟨ax, ay, sx, sy, px, py, fc, hl, en, sh, co, ou, sd⟩ := h.set ⟨ax, ay, sx, sy, px, py, fc, hl, en, sh, co, ou, sd⟩
theorem setC_fr {x w : World} (h : Still x w) (g o : Nat) (v : Value) (hb : x.heap.size ≤ g) : Still x (w.setCell ⟨g, o, none⟩ v) := h.setCell _ _ (.inr hb)
end Go.Proofs.YtdljmpjfiggdiaaDoor
namespace Go.Proofs.YtdljmpjfiggdiaaDoor
open Go.RowKit
open Pu Gp Ap Vp Np
set_option maxRecDepth 100000

/-- from l to h -/
def amg (n l h : Int) : Bool := decide (l ≤ n) && decide (n ≤ h)
theorem amg_iff {n l h : Int} : amg n l h = true ↔ l ≤ n ∧ n ≤ h := by unfold amg; simp
/-- the document's three parts, and its last test -/
def mA (m : Mv) : Bool := (bnd m.ax == m.ax && bnd m.ay == m.ay) && amg m.sx (-1024) 1024 && amg m.sy (-1024) 1024
def mB (m : Mv) : Bool := amg m.px (-256) 256 && amg m.py (-256) 256 && amg m.fc 0 15
def mC (m : Mv) : Bool := amg m.hl 0 100 && amg m.en 0 100 && amg m.co 0 12 && amg m.ou 0 30 && amg m.sd 0 255
def outN (m : Mv) : Mv := ⟨m.ax, m.ay, 0, 0, 0, 0, m.fc, 0, 0, false, 0, m.ou, m.sd⟩
def mD (m : Mv) : Bool := if m.ou = 0 then decide (1 ≤ m.hl) else eqM m (outN m)
theorem bnd_is {n : Int} : bnd n = n ↔ -2147483647 ≤ n ∧ n ≤ 2147483647 := by
  unfold bnd
  repeat' split
  all_goals omega
theorem may_parts (m : Mv) : mayB m = (mA m && mB m && mC m && mD m) := by
  rw [Bool.eq_iff_iff, mayB_iff]
  unfold mA mB mC mD May
  simp only [Bool.and_eq_true, beq_iff_eq, bnd_is, amg_iff]
  by_cases h0 : m.ou = 0
  · rw [if_pos h0, decide_eq_true_eq]
    constructor
    · rintro ⟨g1, g2, g3, g4, g5, g6, g7, g8, g9, g10, g11⟩
      have := g10 h0
      omega
    · intro h
      refine ⟨?_, ?_, ?_, ?_, ?_, ?_, ?_, ?_, ?_, ?_, fun h => absurd h0 h⟩ <;> omega
  · rw [if_neg h0, eqM_iff]
    constructor
    · rintro ⟨g1, g2, g3, g4, g5, g6, g7, g8, g9, g10, g11⟩
      obtain ⟨e1, e2, e3, e4, e5, e6, e7, e8⟩ := g11 h0
      refine ⟨by omega, ?_⟩
      cases m
      simp_all [outN]
    · rintro ⟨h, e⟩
      have e1 : m.sx = 0 := by rw [e]; rfl
      have e2 : m.sy = 0 := by rw [e]; rfl
      have e3 : m.px = 0 := by rw [e]; rfl
      have e4 : m.py = 0 := by rw [e]; rfl
      have e5 : m.hl = 0 := by rw [e]; rfl
      have e6 : m.en = 0 := by rw [e]; rfl
      have e7 : m.sh = false := by rw [e]; rfl
      have e8 : m.co = 0 := by rw [e]; rfl
      clear e
      refine ⟨?_, ?_, ?_, ?_, ?_, ?_, ?_, ?_, ?_, fun h => absurd h h0, fun _ => ⟨e1, e2, e3, e4, e5, e6, e7, e8⟩⟩ <;> omega
end Go.Proofs.YtdljmpjfiggdiaaDoor
namespace Go.Proofs.YtdljmpjfiggdiaaDoor
open Go.RowKit
open Pu Gp Ap Vp Np
set_option maxRecDepth 100000

end Go.Proofs.YtdljmpjfiggdiaaDoor
namespace Go.Proofs.YtdljmpjfiggdiaaDoor
open Go.RowKit
open Pu Gp Ap Vp Np
set_option maxRecDepth 100000

/-- both numbers of a way -/
def bw (x y k : Int) : Bool := amg x (-k) k && amg y (-k) k
/-- what stays of one that is out -/
def goneM (m : Mv) (f : Int) : Mv := ⟨m.ax, m.ay, 0, 0, 0, 0, m.fc, 0, 0, false, 0, f, m.sd⟩
end Go.Proofs.YtdljmpjfiggdiaaDoor
namespace Go.Proofs.YtdljmpjfiggdiaaDoor
open Go.RowKit
open Pu Gp Ap Vp Np
set_option maxRecDepth 100000

/-- each number lies where it may -/
def rB (m : Mv) : Bool := (bnd m.ax == m.ax && bnd m.ay == m.ay) && bw m.sx m.sy 1024 && bw m.px m.py 256 && amg m.fc 0 15 && amg m.hl 0 100 && amg m.en 0 100 && amg m.co 0 12 && amg m.ou 0 30 && amg m.sd 0 255
theorem rB_may (m : Mv) : (rB m && mD m) = mayB m := by
  rw [may_parts]
  unfold rB mA mB mC bw
  simp only [Bool.and_assoc]
end Go.Proofs.YtdljmpjfiggdiaaDoor
