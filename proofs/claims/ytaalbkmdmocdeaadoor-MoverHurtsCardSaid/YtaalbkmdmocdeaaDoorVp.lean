/- Verbs and orders in plain words: names, ranges, texts. No function of the program is named here. -/
import Derived.KernelRfl
import Derived.Tactics2

namespace Go.Proofs.YtaalbkmdmocdeaaDoor.Vp

/-- the verbs' names, by number less 1 -/
def nmL : List ByteArray := [⟨#[115, 116, 101, 101, 114]⟩, ⟨#[104, 97, 108, 116]⟩, ⟨#[97, 105, 109]⟩, ⟨#[102, 105, 114, 101]⟩, ⟨#[115, 104, 105, 101, 108, 100]⟩, ⟨#[100, 97, 115, 104]⟩, ⟨#[115, 97, 121]⟩]
/-- their first operands' names -/
def fsL : List ByteArray := [⟨#[120]⟩, ⟨#[]⟩, ⟨#[116, 111]⟩, ⟨#[112, 111, 119, 101, 114]⟩, ⟨#[111, 110]⟩, ⟨#[116, 111]⟩, ⟨#[119, 104, 97, 116]⟩]
def loL : List Int := [-8, 0, 0, 1, 0, 0, 0]
def hiL : List Int := [8, 0, 15, 3, 1, 15, 255]
def nmB (i : Nat) : ByteArray := nmL.getD i ByteArray.empty
def fsB (i : Nat) : ByteArray := fsL.getD i ByteArray.empty
def lo (i : Nat) : Int := loL.getD i 0
def hi (i : Nat) : Int := hiL.getD i 0
/-- is there such a verb -/
def isV (v : Int) : Bool := decide (1 ≤ v) && decide (v ≤ 7)
def nmV (v : Int) : ByteArray := if isV v then nmB (v - 1).toNat else ByteArray.empty
/-- what a verb takes -/
def opV (v : Int) : List (ByteArray × Int × Int) :=
  if isV v && v != 2 then (fsB (v - 1).toNat, lo (v - 1).toNat, hi (v - 1).toNat) :: (if v = 1 then [(⟨#[121]⟩, -8, 8)] else []) else []
/-- may an order be -/
def okO (v a b c : Int) : Bool := decide (lo (v - 1).toNat ≤ a) && decide (a ≤ hi (v - 1).toNat) && (if v = 1 then decide (-8 ≤ b) && decide (b ≤ 8) else decide (b = 0)) && decide (c = 0)
def chkO (v a b c : Int) : Int := if isV v then (if okO v a b c then 0 else 71) else 70
theorem isV_iff {v : Int} : isV v = true ↔ 1 ≤ v ∧ v ≤ 7 := by unfold isV; simp
theorem isV_no {v : Int} : isV v = false ↔ v < 1 ∨ 7 < v := by
  unfold isV
  simp
  omega
theorem verbs {v : Int} (h : isV v = true) : v = 1 ∨ v = 2 ∨ v = 3 ∨ v = 4 ∨ v = 5 ∨ v = 6 ∨ v = 7 := by
  have := isV_iff.1 h
  omega
/-- a digit -/
def dg (n : Nat) : UInt8 := UInt8.ofNat (48 + n % 10)
/-- a number of up to three digits -/
def numN (n : Nat) : List UInt8 := if n < 10 then [dg n] else if n < 100 then [dg (n / 10), dg n] else [dg (n / 100), dg (n / 10), dg n]
def numB (n : Int) : ByteArray := ⟨(if n < 0 then 45 :: numN (-n).toNat else numN n.toNat).toArray⟩
/-- an order's text -/
def prn (v a b : Int) : ByteArray := nmV v ++ (if v = 2 then ByteArray.empty else (⟨#[32]⟩ : ByteArray) ++ numB a) ++ (if v = 1 then (⟨#[32]⟩ : ByteArray) ++ numB b else ByteArray.empty)
def prnO (v a b c : Int) : ByteArray := if chkO v a b c = 0 then prn v a b else ByteArray.empty
/-- all orders -/
def allO : List (Int × Int × Int) :=
  ((List.range 17).flatMap fun (i : Nat) => (List.range 17).map fun (j : Nat) => ((1 : Int), (i : Int) - 8, (j : Int) - 8)) ++ [(2, 0, 0)] ++ ((List.range 16).map fun (i : Nat) => ((3 : Int), (i : Int), (0 : Int))) ++
    ((List.range 3).map fun (i : Nat) => ((4 : Int), (i : Int) + 1, (0 : Int))) ++ ((List.range 2).map fun (i : Nat) => ((5 : Int), (i : Int), (0 : Int))) ++ ((List.range 16).map fun (i : Nat) => ((6 : Int), (i : Int), (0 : Int))) ++ ((List.range 256).map fun (i : Nat) => ((7 : Int), (i : Int), (0 : Int)))
theorem mem_all {v a b c : Int} (h : chkO v a b c = 0) : (v, a, b) ∈ allO ∧ c = 0 := by
  unfold chkO at h
  split at h
  · rename_i hv
    split at h
    · rename_i ho
      unfold okO at ho
      simp only [Bool.and_eq_true, decide_eq_true_eq] at ho
      obtain ⟨⟨⟨h1, h2⟩, h3⟩, h4⟩ := ho
      refine ⟨?_, h4⟩
      unfold allO
      simp only [List.mem_append]
      rcases verbs hv with rfl | rfl | rfl | rfl | rfl | rfl | rfl
      · simp [lo, hi, loL, hiL] at h1 h2 h3
        left; left; left; left; left; left
        exact List.mem_flatMap.2 ⟨(a + 8).toNat, List.mem_range.2 (by omega), List.mem_map.2 ⟨(b + 8).toNat, List.mem_range.2 (by omega), by simp; omega⟩⟩
      · simp [lo, hi, loL, hiL] at h1 h2 h3
        left; left; left; left; left; right
        rw [show a = 0 by omega, h3]
        exact List.mem_singleton.2 rfl
      · simp [lo, hi, loL, hiL] at h1 h2 h3
        left; left; left; left; right
        exact List.mem_map.2 ⟨a.toNat, List.mem_range.2 (by omega), by simp; omega⟩
      · simp [lo, hi, loL, hiL] at h1 h2 h3
        left; left; left; right
        exact List.mem_map.2 ⟨(a - 1).toNat, List.mem_range.2 (by omega), by simp; omega⟩
      · simp [lo, hi, loL, hiL] at h1 h2 h3
        left; left; right
        exact List.mem_map.2 ⟨a.toNat, List.mem_range.2 (by omega), by simp; omega⟩
      · simp [lo, hi, loL, hiL] at h1 h2 h3
        left; right
        exact List.mem_map.2 ⟨a.toNat, List.mem_range.2 (by omega), by simp; omega⟩
      · simp [lo, hi, loL, hiL] at h1 h2 h3
        right
        exact List.mem_map.2 ⟨a.toNat, List.mem_range.2 (by omega), by simp; omega⟩
    · cases h
  · cases h
/-- a text as one number -/
def cod (b : ByteArray) : Nat := b.data.toList.foldl (fun n x => n * 256 + x.toNat) 1
def none? : List Nat → Bool
  | [] => true
  | x :: l => l.all (fun y => !Nat.beq x y) && none? l
theorem none_inj {α : Type} {f : α → Nat} : ∀ {l : List α}, none? (l.map f) = true → ∀ x ∈ l, ∀ y ∈ l, f x = f y → x = y
  | [], _, x, h, _, _, _ => by cases h
  | z :: l, h, x, hx, y, hy, e => by
    rw [List.map_cons, none?, Bool.and_eq_true] at h
    have k : ∀ w ∈ l, f z ≠ f w := fun w hw e => by
      have := List.all_eq_true.1 h.1 (f w) (List.mem_map.2 ⟨w, hw, rfl⟩)
      rw [e] at this
      simp at this
    rcases List.mem_cons.1 hx with rfl | hx2
    · rcases List.mem_cons.1 hy with rfl | hy2
      · rfl
      · exact absurd e (k y hy2)
    · rcases List.mem_cons.1 hy with rfl | hy2
      · exact absurd e.symm (k x hx2)
      · exact none_inj h.2 x hx2 y hy2 e
theorem all_unlike : none? (allO.map fun o => cod (prn o.1 o.2.1 o.2.2)) = true := by kernel_rfl
theorem prn_inj {v a b v' a' b' : Int} (h : (v, a, b) ∈ allO) (h' : (v', a', b') ∈ allO) (e : prn v a b = prn v' a' b') : v = v' ∧ a = a' ∧ b = b' := by
  have := none_inj (f := fun o : Int × Int × Int => cod (prn o.1 o.2.1 o.2.2)) all_unlike _ h _ h' (by show cod (prn v a b) = cod (prn v' a' b'); rw [e])
  cases this
  exact ⟨rfl, rfl, rfl⟩
theorem prnO_inj {v a b c v' a' b' c' : Int} (h : chkO v a b c = 0) (h' : chkO v' a' b' c' = 0) (e : prn v a b = prn v' a' b') : v = v' ∧ a = a' ∧ b = b' ∧ c = c' := by
  obtain ⟨m, rfl⟩ := mem_all h
  obtain ⟨m', rfl⟩ := mem_all h'
  obtain ⟨e1, e2, e3⟩ := prn_inj m m' e
  exact ⟨e1, e2, e3, rfl⟩
end Go.Proofs.YtaalbkmdmocdeaaDoor.Vp
