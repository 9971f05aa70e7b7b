/- Parts of the proof, laid end to end. -/
import Derived.Test.YtdmgalaajgebkaaZD05
import Derived.Test.YtdmgalaajgebkaaZD06
import Derived.Lib.SliceRun
namespace Go.Proofs.Ytdmgalaajgebkaa
open Go.RowKit
set_option maxRecDepth 100000
def lcs (s : Lgs) (vs : Nat -> Value) : Array Value := (Value.int .i64 s.np :: .int .i64 s.nr :: .int .i64 s.ba :: (List.range 112).map vs).toArray
theorem lcs_size (s : Lgs) (vs : Nat -> Value) : (lcs s vs).size = 115 := by simp [lcs]
theorem lcs_0 (s : Lgs) (vs : Nat -> Value) : (lcs s vs)[0]? = some (.int .i64 s.np) := by simp [lcs]
theorem lcs_1 (s : Lgs) (vs : Nat -> Value) : (lcs s vs)[1]? = some (.int .i64 s.nr) := by simp [lcs]
theorem lcs_2 (s : Lgs) (vs : Nat -> Value) : (lcs s vs)[2]? = some (.int .i64 s.ba) := by simp [lcs]
theorem lcs_at (s : Lgs) (vs : Nat -> Value) {i : Nat} (h : i < 112) : (lcs s vs)[3 + i]? = some (vs i) := by
 simp only [lcs, List.getElem?_toArray]
 rw [show 3 + i = i + 1 + 1 + 1 by omega]
 simp only [List.getElem?_cons_succ]
 rw [List.getElem?_map, List.getElem?_range h]
 rfl
def upV (vs : Nat -> Value) (i : Nat) (v : Value) : Nat -> Value := fun j => if j = i then v else vs j
theorem lcs_set (s : Lgs) (vs : Nat -> Value) {i : Nat} (h : i < 112) (v : Value) : (lcs s vs).setIfInBounds (3 + i) v = lcs s (upV vs i v) := by
 apply Array.ext_getElem?
 intro t
 rw [Array.getElem?_setIfInBounds, lcs_size]
 by_cases e : 3 + i = t
 ·subst e
  rw [if_pos rfl, if_pos (by omega), lcs_at _ _ h]
  simp [upV]
 ·rw [if_neg e]
  rcases Nat.lt_or_ge t 3 with h3 | h3
  ·have : t = 0 \/ t = 1 \/ t = 2 := by omega
   rcases this with rfl | rfl | rfl
   ·rw [lcs_0, lcs_0]
   ·rw [lcs_1, lcs_1]
   ·rw [lcs_2, lcs_2]
  ·rcases Nat.lt_or_ge t 115 with h4 | h4
   ·obtain ⟨j, rfl⟩ : ∃ j, t = 3 + j := ⟨t - 3, by omega⟩
    rw [lcs_at _ _ (by omega), lcs_at _ _ (by omega)]
    simp only [upV]
    rw [if_neg (by omega)]
   ·rw [Array.getElem?_eq_none (by rw [lcs_size]; omega), Array.getElem?_eq_none (by rw [lcs_size]; omega)]
theorem lcs_setb (s : Lgs) (vs : Nat -> Value) (b : Int) : (lcs s vs).setIfInBounds 2 (.int .i64 b) = lcs { s with ba := b } vs := by
 simp [lcs]
theorem lcs_S (s : Lgs) (vs : Nat -> Value) (S : List En) : lcs { s with S := S } vs = lcs s vs := rfl
abbrev lgT : TypeId := 75
abbrev enT : TypeId := 44
structure Lm (w : World) (B p : Nat) (s : Lgs) (vs : Nat -> Value) : Prop where
 bk : w.heap[p]? = some (.cells (lcs s vs) lgT (0, 0))
 lo : B <= p
 ow : ∀ i, i < 112 -> OwG KE enT w B (vs i) (plc i s.S)
 sp : ∀ i j, i < 112 -> j < 112 -> i ≠ j -> ∀ k, (vs i).ownBlock = some k -> (vs j).ownBlock ≠ some k
 ok : Lo s
section
variable {w w' : World} {B p : Nat} {s : Lgs} {vs : Nat -> Value}
def Rw (vs : Nat -> Value) (k : Nat) : Prop := ∃ i, i < 112 /\ (vs i).ownBlock = some k
theorem Lm.keep {F : Nat -> Prop} (h : Lm w B p s vs) (hf : Fr F w w') (hp : ¬ F p) (hr : ∀ k, F k -> ¬ Rw vs k) : Lm w' B p s vs :=
 ⟨hf.kept h.bk hp, h.lo, fun i hi => (h.ow i hi).keep hf (fun k hk e => hr k hk ⟨i, hi, e⟩), h.sp, h.ok⟩
theorem Lm.still (h : Lm w B p s vs) (hs : Still w w') : Lm w' B p s vs := h.keep hs (fun e => e) (fun _ e => e.elim)
theorem Lm.less {B' : Nat} (h : Lm w B p s vs) (hb : B' <= B) : Lm w B' p s vs := ⟨h.bk, by have := h.lo; omega, fun i hi => (h.ow i hi).less hb, h.sp, h.ok⟩
theorem Lm.lt (h : Lm w B p s vs) : p < w.heap.size := block_lt h.bk
theorem Lm.cell (h : Lm w B p s vs) : w.cell? ⟨p, 0, none⟩ = some (.int .i64 s.np) /\ w.cell? ⟨p, 1, none⟩ = some (.int .i64 s.nr) /\ w.cell? ⟨p, 2, none⟩ = some (.int .i64 s.ba) /\ ∀ o, w.frozen? ⟨p, o, none⟩ = false := by
 refine ⟨?_, ?_, ?_, fun o => frozen_of_row w p o _ _ h.bk⟩
 ·rw [cell_of_row _ _ _ _ _ _ h.bk, lcs_0]
 ·rw [cell_of_row _ _ _ _ _ _ h.bk, lcs_1]
 ·rw [cell_of_row _ _ _ _ _ _ h.bk, lcs_2]
theorem Lm.place (h : Lm w B p s vs) {i : Nat} (hi : i < 112) : w.cell? ⟨p, 3 + i, none⟩ = some (vs i) := by
 rw [cell_of_row _ _ _ _ _ _ h.bk, lcs_at _ _ hi]
theorem Lm.rlt (h : Lm w B p s vs) : ∀ k, Rw vs k -> B <= k /\ k < w.heap.size := by
 rintro k ⟨i, hi, e⟩
 exact (h.ow i hi).block e
theorem Lm.pne (h : Lm w B p s vs) : ¬ Rw vs p := by
 rintro ⟨i, hi, e⟩
 rcases (h.ow i hi).2 with ⟨hv, _⟩ | ⟨g, cap, cur, hv, _, hg, _⟩
 ·rw [hv] at e; cases e
 ·rw [hv] at e
  simp only [Value.ownBlock, Option.some.injEq] at e
  subst e
  have := h.bk
  rw [hg] at this
  injection this with this
  injection this with _ h2 _
  exact absurd h2 (by decide)
end
def inR (n z : Int) : Bool := decide (0 <= n /\ n < z)
theorem inR_t {n z : Int} (h1 : n ≥ 0) (h2 : n < z) : inR n z = true := decide_eq_true ⟨h1, h2⟩
theorem inR_f {n z : Int} (h : n < 0 \/ z <= n) : inR n z = false := decide_eq_false (by omega)
theorem cm_isSeat (s : Lgs) (B p : Nat) (vs : Nat -> Value) (n : Int) (w : World) (h : Lm w B p s vs) : Calls Try.prog 37 #[.pointer (some ⟨p, 0, none⟩), .int .i64 n] w fun e w' => e = .returned (.bool (inR n s.np)) /\ w' = w := by
 obtain ⟨c0, _, _, _⟩ := h.cell
 obtain ⟨z, ez⟩ : ∃ z, s.np = z := ⟨_, rfl⟩
 rw [ez] at c0 ⊢
 clear h ez
 by_cases h1 : n ≥ 0
 ·by_cases h2 : n < z
  ·have HE : Hid (inR n z = true) := hid (inR_t h1 h2)
   go_enter Try.func37, Try.ntmps37
   go_wp2_with fail
   go_ret
   exact ⟨by rw [HE.out]; rfl, rfl⟩
  ·have HE : Hid (inR n z = false) := hid (inR_f (by omega))
   go_enter Try.func37, Try.ntmps37
   go_wp2_with fail
   go_ret
   exact ⟨by rw [HE.out]; rfl, rfl⟩
 ·have HE : Hid (inR n z = false) := hid (inR_f (by omega))
  go_enter Try.func37, Try.ntmps37
  go_wp2_with fail
  go_ret
  exact ⟨by rw [HE.out]; rfl, rfl⟩
theorem cm_isRung (s : Lgs) (B p : Nat) (vs : Nat -> Value) (n : Int) (w : World) (h : Lm w B p s vs) : Calls Try.prog 35 #[.pointer (some ⟨p, 0, none⟩), .int .i64 n] w fun e w' => e = .returned (.bool (inR n s.nr)) /\ w' = w := by
 obtain ⟨_, c0, _, _⟩ := h.cell
 obtain ⟨z, ez⟩ : ∃ z, s.nr = z := ⟨_, rfl⟩
 rw [ez] at c0 ⊢
 clear h ez
 by_cases h1 : n ≥ 0
 ·by_cases h2 : n < z
  ·have HE : Hid (inR n z = true) := hid (inR_t h1 h2)
   go_enter Try.func35, Try.ntmps35
   go_wp2_with fail
   go_ret
   exact ⟨by rw [HE.out]; rfl, rfl⟩
  ·have HE : Hid (inR n z = false) := hid (inR_f (by omega))
   go_enter Try.func35, Try.ntmps35
   go_wp2_with fail
   go_ret
   exact ⟨by rw [HE.out]; rfl, rfl⟩
 ·have HE : Hid (inR n z = false) := hid (inR_f (by omega))
  go_enter Try.func35, Try.ntmps35
  go_wp2_with fail
  go_ret
  exact ⟨by rw [HE.out]; rfl, rfl⟩
theorem cm_last (s : Lgs) (B p : Nat) (vs : Nat -> Value) (w : World) (h : Lm w B p s vs) : Calls Try.prog 44 #[.pointer (some ⟨p, 0, none⟩)] w fun e w' => e = .returned (.int .i64 (s.ba + 112)) /\ w' = w := by
 obtain ⟨_, _, c0, _⟩ := h.cell
 obtain ⟨hb1, hb2⟩ := h.ok.b
 obtain ⟨z, ez⟩ : ∃ z, s.ba = z := ⟨_, rfl⟩
 rw [ez] at c0 hb1 hb2 ⊢
 have hw : IntKind.i64.wrap (z + 112) = z + 112 := by rw [IntKind.wrap_i64]; omega
 clear h ez
 go_enter Try.func44, Try.ntmps44
 go_wp2_with fail
 go_ret
 exact ⟨rfl, rfl⟩
theorem cm_base (s : Lgs) (B p : Nat) (vs : Nat -> Value) (w : World) (h : Lm w B p s vs) : Calls Try.prog 18 #[.pointer (some ⟨p, 0, none⟩)] w fun e w' => e = .returned (.int .i64 s.ba) /\ w' = w := by
 obtain ⟨_, _, c0, _⟩ := h.cell
 obtain ⟨z, ez⟩ : ∃ z, s.ba = z := ⟨_, rfl⟩
 rw [ez] at c0 ⊢
 clear h ez
 go_enter Try.func18, Try.ntmps18
 go_wp2_with fail
 go_ret
 exact ⟨rfl, rfl⟩
theorem cm_place (f : Int) (hf : 0 <= f /\ f <= 9223372036854775807) (w : World) : Calls Try.prog 50 #[.int .i64 f] w fun e w' => e = .returned (.int .i64 (f % 112)) /\ w' = w := by
 have HE : Hid (f.tmod 112 = f % 112) := hid (Int.tmod_eq_emod_of_nonneg hf.1)
 have hw : IntKind.i64.wrap (f.tmod 112) = f.tmod 112 := by rw [IntKind.wrap_i64, Int.tmod_eq_emod_of_nonneg hf.1]; omega
 go_enter Try.func50, Try.ntmps50
 go_wp2_with fail
 go_ret
 exact ⟨by first | rfl | (rw [<- HE.out]; rfl), rfl⟩
end Go.Proofs.Ytdmgalaajgebkaa
namespace Go.Proofs.Ytdmgalaajgebkaa
open Go.RowKit
set_option maxRecDepth 100000
theorem cm_at (p n cap i : Nat) (ao : Option Addr) (f : Int) (hf : 0 <= f /\ f <= 9223372036854775807) (hi : f % 112 = (i : Int)) (w : World) (hc : w.cell? ⟨p, 3 + i, none⟩ = some (.slice ao n cap)) : Calls Try.prog 46 #[.pointer (some ⟨p, 3, none⟩), .int .i64 f] w fun e w' => e = .returned (.slice ao n cap) /\ Still w w' := by
 have hil : i < 112 := by omega
 have H := hid (fun w => cm_place f hf w)
 rw [hi] at H
 have c0 := Cl.cell hc
 have hne := Aft.here w
 have h0 : (0 : Int) <= (i : Int) := by omega
 have h1 : (i : Int) < 112 := by omega
 clear hi hc hf
 go_enter Try.func46, Try.ntmps46
 go_wp2_with fail
 refine region_all (by kernel_rfl) (by kernel_rfl) ?_
 repeat (go_big_quiet_step ((first | (go_at_call 50; with_reducible exact Calls.cl_same (H.out _)) | rfl)))
 refine wpQuiet_nil ?_
 intro w2 h2
 have HS := hid h2
 clear h2 hne c0
 go_wp2_with fail
 go_ret
 exact ⟨rfl, HS.out⟩
def kpB (s : Lgs) (f : Int) : Bool := decide (s.ba < f /\ f <= s.ba + 112)
theorem kpB_t {s : Lgs} {f : Int} (h : kpB s f = true) : s.ba < f /\ f <= s.ba + 112 := of_decide_eq_true h
theorem kpB_f {s : Lgs} {f : Int} (h : kpB s f = false) : ¬ (s.ba < f /\ f <= s.ba + 112) := of_decide_eq_false h
theorem cm_keeps (s : Lgs) (B p : Nat) (vs : Nat -> Value) (f : Int) (w : World) (h : Lm w B p s vs) : Calls Try.prog 38 #[.pointer (some ⟨p, 0, none⟩), .int .i64 f] w fun e w' => e = .returned (.bool (kpB s f)) /\ w' = w := by
 obtain ⟨_, _, c0, _⟩ := h.cell
 have H := hid (cm_last s B p vs w h)
 obtain ⟨k, ek⟩ : ∃ k, kpB s f = k := ⟨_, rfl⟩
 have HK := hid ek
 unfold kpB at ek
 rw [HK.out]
 obtain ⟨z, ez⟩ : ∃ z, s.ba = z := ⟨_, rfl⟩
 rw [ez] at c0 H ek
 clear h ez HK
 obtain ⟨y, ey⟩ : ∃ y, z + 112 = y := ⟨_, rfl⟩
 rw [ey] at H ek
 clear ey
 by_cases h1 : f > z
 ·by_cases h2 : f <= y
  ·obtain rfl : k = true := by rw [<- ek]; exact decide_eq_true ⟨h1, h2⟩
   clear ek
   go_enter Try.func38, Try.ntmps38
   go_wp2_with fail
   refine H.out.mono ?_
   rintro e w2 ⟨he, hw⟩
   rw [he, hw]
   clear he hw w2 H
   go_wp2_with fail
   go_ret
   exact ⟨rfl, rfl⟩
  ·obtain rfl : k = false := by rw [<- ek]; exact decide_eq_false (by omega)
   clear ek
   go_enter Try.func38, Try.ntmps38
   go_wp2_with fail
   refine H.out.mono ?_
   rintro e w2 ⟨he, hw⟩
   rw [he, hw]
   clear he hw w2 H
   go_wp2_with fail
   go_ret
   exact ⟨by show Ending.returned (Value.bool (decide (f <= y))) = _; rw [decide_eq_false (by omega)], rfl⟩
 ·obtain rfl : k = false := by rw [<- ek]; exact decide_eq_false (by omega)
  clear ek H
  go_enter Try.func38, Try.ntmps38
  go_wp2_with fail
  go_ret
  exact ⟨rfl, rfl⟩
theorem on_out {s : Lgs} (h : Lo s) {f : Int} (hf : ¬ (s.ba < f /\ f <= s.ba + 112)) : onF f s.S = [] := by
 unfold onF
 rw [List.filter_eq_nil_iff]
 intro x hx
 have := h.fr x hx
 simp; omega
theorem Lm.row {w : World} {B p : Nat} {s : Lgs} {vs : Nat -> Value} (h : Lm w B p s vs) {f : Int} (hf : s.ba < f /\ f <= s.ba + 112) : ∃ (i : Nat) (ao : Option Addr) (cap : Nat), i < 112 /\ f % 112 = (i : Int) /\ vs i = .slice ao (onF f s.S).length cap /\ OwG KE enT w B (.slice ao (onF f s.S).length cap) (onF f s.S) /\ w.cell? ⟨p, 3 + i, none⟩ = some (.slice ao (onF f s.S).length cap) := by
 have hi : (f % 112).toNat < 112 := by omega
 have ho := h.ow _ hi
 rw [plc_on h.ok hf.1 hf.2] at ho
 obtain ⟨ao, cap, e, _⟩ := ho.slice
 have hc := h.place hi
 rw [e] at ho hc
 exact ⟨_, ao, cap, hi, by omega, e, ho, hc⟩
theorem cm_on (s : Lgs) (B p : Nat) (vs : Nat -> Value) (f : Int) (w : World) (h : Lm w B p s vs) : Calls Try.prog 36 #[.pointer (some ⟨p, 0, none⟩), .int .i64 f] w fun e w' => ∃ v, e = .returned v /\ OwG KE enT w B v (onF f s.S) /\ Still w w' := by
 have H := hid (cm_keeps s B p vs f w h)
 obtain ⟨k, ek⟩ : ∃ k, kpB s f = k := ⟨_, rfl⟩
 rw [ek] at H
 have hlt := h.lt
 cases k with
 | true =>
  have hk := kpB_t ek
  obtain ⟨i, ao, cap, hi, hf, _, ho, hc⟩ := h.row hk
  have hb := h.ok.b
  have HA := hid (cm_at p (onF f s.S).length cap i ao f (by omega) hf w hc)
  have HO := hid ho
  obtain ⟨n, en⟩ : ∃ n, (onF f s.S).length = n := ⟨_, rfl⟩
  rw [en] at HA HO
  clear ho hc h en hk hb hf ek
  go_enter Try.func36, Try.ntmps36
  go_wp2_with fail
  refine H.out.mono ?_
  rintro e w2 ⟨he, hw⟩
  rw [he, hw]
  clear he hw w2 H
  go_wp2_with fail
  refine HA.out.mono ?_
  rintro e w2 ⟨he, hs⟩
  rw [he]
  have HS := hid hs
  clear he hs HA
  go_wp2_with fail
  go_ret
  exact ⟨_, rfl, HO.out, HS.out⟩
 | false =>
  have HE := hid (on_out h.ok (kpB_f ek))
  clear h ek
  go_enter Try.func36, Try.ntmps36
  go_wp2_with fail
  refine H.out.mono ?_
  rintro e w2 ⟨he, hw⟩
  rw [he, hw]
  clear he hw w2 H
  go_wp2_with fail
  go_ret
  exact ⟨_, rfl, by rw [HE.out]; exact OwG.nil _ _, Fr.refl _ _⟩
def mayNB (a b : Int) : Bool := decide (2 <= a /\ a <= 6 /\ 2 <= b /\ b <= 5)
def zV : Nat -> Value := fun _ => .slice none 0 0
theorem lcs_new (a b : Int) : lcs ⟨a, b, 0, []⟩ zV = (Try.zeroCells75.setIfInBounds 0 (.int .i64 a)).setIfInBounds 1 (.int .i64 b) := by kernel_rfl
theorem lo_new {a b : Int} (h : 2 <= a /\ a <= 6 /\ 2 <= b /\ b <= 5) : Lo ⟨a, b, 0, []⟩ := ⟨⟨h.1, h.2.1⟩, h.2.2, ⟨Int.le_refl _, show (0 : Int) <= 1099511627776 by decide⟩, List.Pairwise.nil, fun x h => (by cases h), fun x h => (by cases h), fun x h => (by cases h), fun _ _ => Nat.zero_le _⟩
theorem lm_new (w : World) {a b : Int} (h : 2 <= a /\ a <= 6 /\ 2 <= b /\ b <= 5) : Lm (w.alloc (.cells (lcs ⟨a, b, 0, []⟩ zV) lgT)) w.heap.size w.heap.size ⟨a, b, 0, []⟩ zV :=
 ⟨heap_alloc_new w _, Nat.le_refl _, fun i _ => OwG.nil _ _, fun i j _ _ _ k e => (by cases e), lo_new h⟩
theorem cm_new (a b : Int) (w : World) : Calls Try.prog 21 #[.int .i64 a, .int .i64 b] w fun e w' => (mayNB a b = true /\ e = .returned (.tuple #[.pointer (some ⟨w.heap.size, 0, none⟩), .int .i64 0]) /\ w' = w.alloc (.cells (lcs ⟨a, b, 0, []⟩ zV) lgT)) \/ (mayNB a b = false /\ e = .returned (.tuple #[.pointer none, .int .i64 1]) /\ w' = w) := by
 by_cases h1 : a < 2
 ·have HE : Hid (mayNB a b = false) := hid (decide_eq_false (by omega))
  go_enter Try.func21, Try.ntmps21
  go_wp2_with fail
  go_ret2
  exact .inr ⟨HE.out, rfl, rfl⟩
 ·by_cases h2 : a > 6
  ·have HE : Hid (mayNB a b = false) := hid (decide_eq_false (by omega))
   go_enter Try.func21, Try.ntmps21
   go_wp2_with fail
   go_ret2
   exact .inr ⟨HE.out, rfl, rfl⟩
  ·by_cases h3 : b < 2
   ·have HE : Hid (mayNB a b = false) := hid (decide_eq_false (by omega))
    go_enter Try.func21, Try.ntmps21
    go_wp2_with fail
    go_ret2
    exact .inr ⟨HE.out, rfl, rfl⟩
   ·by_cases h4 : b > 5
    ·have HE : Hid (mayNB a b = false) := hid (decide_eq_false (by omega))
     go_enter Try.func21, Try.ntmps21
     go_wp2_with fail
     go_ret2
     exact .inr ⟨HE.out, rfl, rfl⟩
    ·have HE : Hid (mayNB a b = true) := hid (decide_eq_true (by omega))
     have HL := hid (lcs_new a b)
     go_enter Try.func21, Try.ntmps21
     go_wp2_with fail
     go_ret2
     exact .inl ⟨HE.out, rfl, by rw [HL.out]⟩
end Go.Proofs.Ytdmgalaajgebkaa
namespace Go.Proofs.Ytdmgalaajgebkaa
open Go Go.RowKit
set_option maxRecDepth 100000
attribute [local go_sem] Oper.semAt_some
def gbk (v : Value) : Nat := v.ownBlock.getD 0
def encL (vs : Nat -> Value) (S : List En) (k : Nat) : Value := .pointer (some ⟨gbk (vs ((att S k).fr % 112).toNat), (k - lowN (att S k).fr S) * 8, none⟩)
theorem encL_at {s : Lgs} (h : Lo s) {vs : Nat -> Value} {f : Int} {i j g n cap : Nat} (hi : f % 112 = (i : Int)) (hv : vs i = .slice (some ⟨g, 0, none⟩) n cap) (hj : j < (onF f s.S).length) : encL vs s.S (lowN f s.S + j) = .pointer (some ⟨g, j * 8, none⟩) := by
 unfold encL
 rw [att_on h.srt f hj, on_fr hj, hi, Int.toNat_natCast, hv]
 simp [gbk, Value.ownBlock]
def KpL (p : Nat) (W W' : World) : Prop := ∀ o, W.heap[p]? = some o -> W'.heap[p]? = some o
theorem kpL_t {p : Nat} {X Y Z : World} (h : KpL p X Y) (k : KpL p Y Z) : KpL p X Z := fun o ho => k o (h o ho)
theorem kpL_b {p B : Nat} (hp : p < B) (W : World) (l : Nat) (o o' : Obj) (hl : B <= l) (_ : W.heap[l]? = some o) (_ : o.isCells = false) (_ : o.isWalk = false) : KpL p W (W.putObj l o') :=
 fun x hx => (World.putObj_heap_other (by omega)).trans hx
theorem kpL_still {p : Nat} {W W' : World} (h : Still W W') : KpL p W W' := fun o ho => by
 exact (h.block p (Array.getElem?_eq_some_iff.1 ho).1 (fun e => e)).trans ho
theorem cm_last0 (s : Lgs) (p : Nat) (vs : Nat -> Value) (hb : 0 <= s.ba /\ s.ba <= 1099511627776) (w : World) (h : w.heap[p]? = some (.cells (lcs s vs) lgT (0, 0))) : Calls Try.prog 44 #[.pointer (some ⟨p, 0, none⟩)] w fun e w' => e = .returned (.int .i64 (s.ba + 112)) /\ w' = w := by
 have c0 : w.cell? ⟨p, 2, none⟩ = some (.int .i64 s.ba) := by rw [cell_of_row _ _ _ _ _ _ h, lcs_2]
 obtain ⟨hb1, hb2⟩ := hb
 obtain ⟨z, ez⟩ : ∃ z, s.ba = z := ⟨_, rfl⟩
 rw [ez] at c0 hb1 hb2 ⊢
 have hw : IntKind.i64.wrap (z + 112) = z + 112 := by rw [IntKind.wrap_i64]; omega
 clear h ez
 go_enter Try.func44, Try.ntmps44
 go_wp2_with fail
 go_ret
 exact ⟨rfl, rfl⟩
set_option maxHeartbeats 2000000 in
theorem cm_entries (s : Lgs) (B p : Nat) (vs : Nat -> Value) (w : World) (h : Lm w B p s vs) : SeqN Try.prog 34 #[.pointer (some ⟨p, 0, none⟩)] (encL vs s.S) (KpL p) s.S.length w := by
 intro l J Jx W hW hJ hJx hY h0
 have hbW : W.heap[p]? = some (.cells (lcs s vs) lgT (0, 0)) := (hW.block p h.lt).trans h.bk
 have HL := hid h
 have HJ := hid hJ
 have HY := hid hY
 have HLast := hid (fun W' h' => cm_last0 s p vs h.ok.b W' h')
 have hc0 : W.cell? ⟨p, 2, none⟩ = some (.int .i64 s.ba) := by rw [cell_of_row _ _ _ _ _ _ hbW, lcs_2]
 obtain ⟨hb1, hb2⟩ := h.ok.b
 have HF : Hid (J (lowN (s.ba + 1) s.S) W) := hid (by rw [lowN_first h.ok]; exact h0)
 have HEnd := hid (lowN_last h.ok)
 obtain ⟨b, eb⟩ : ∃ b, s.ba = b := ⟨_, rfl⟩
 have HEb := hid eb
 rw [eb] at HLast hc0 hb1 hb2 HF HEnd
 have hw0 : IntKind.i64.wrap (b + 1) = b + 1 := by rw [IntKind.wrap_i64]; omega
 have HBK := hid hbW
 clear h hJ hJx hY h0 hW eb hbW
 refine callsIn_of_wp Try.func34 rfl trivial ?_ rfl
 simp only [Try.ntmps34, List.size_toArray, List.length_cons, List.length_nil, Nat.reduceAdd, Nat.reduceSub, Array.replicate_succ, Array.replicate_zero, List.push_toArray, List.append_toArray, List.nil_append, List.cons_append]
 gi_wp2_with fail
 clear hc0 hw0
 gi_loopw [4] (fun u wr => ∃ j : Nat, j <= 112 /\ u = .int .i64 (b + 1 + (j : Int)) /\ Hid (J (lowN (b + 1 + (j : Int)) s.S) wr /\ wr.heap[p]? = some (.cells (lcs s vs) lgT (0, 0)))) (fun u _ => (b + 114 - intOf u).toNat)
 case atStart => exact ⟨0, by omega, by simp, hid ⟨by simpa using HF.out, HBK.out⟩⟩
 case round =>
  obtain ⟨j, hj, rfl, HJ1⟩ := hrel
  obtain ⟨f, ef⟩ : ∃ f, b + 1 + (j : Int) = f := ⟨_, rfl⟩
  rw [ef] at HJ1 ⊢
  have HC := hid (HLast.out wr HJ1.out.2)
  obtain ⟨y, ey⟩ : ∃ y, b + 112 = y := ⟨_, rfl⟩
  rw [ey] at HC
  by_cases hjn : j < 112
  ·have hfy : f <= y := by omega
   obtain ⟨i, ao, cap, hi, hfi, hv, ho, _⟩ := HL.out.row (f := f) (by have := HEb.out; omega)
   have hci : wr.cell? ⟨p, 3 + i, none⟩ = some (.slice ao (onF f s.S).length cap) := by rw [cell_of_row _ _ _ _ _ _ HJ1.out.2, lcs_at _ _ hi, hv]
   have HA := hid (cm_at p (onF f s.S).length cap i ao f (by omega) hfi wr hci)
   have HAO : Hid (0 < (onF f s.S).length -> ∃ g, ao = some ⟨g, 0, none⟩) := hid (fun h0 => by
    obtain ⟨g, cap', e', _⟩ := ho.head h0
    injection e' with e1
    exact ⟨g, e1⟩)
   have HN := hid (lowN_next f s.S)
   have HE := hid (fun g j (e : ao = some ⟨g, 0, none⟩) (hj : j < (onF f s.S).length) => encL_at HL.out.ok (vs := vs) (i := i) (j := j) (g := g) (n := (onF f s.S).length) (cap := cap) hfi (by rw [hv, e]) hj)
   have hle : lowN f s.S + (onF f s.S).length <= s.S.length := by rw [<- lowN_next]; exact lowN_le _ _
   have hn18 := on_len HL.out.ok f
   obtain ⟨m, em⟩ : ∃ m, lowN f s.S = m := ⟨_, rfl⟩
   obtain ⟨n, en⟩ : ∃ n, (onF f s.S).length = n := ⟨_, rfl⟩
   have hw1 : IntKind.i64.wrap (f + 1) = f + 1 := by rw [IntKind.wrap_i64]; omega
   rw [em] at HN HE hle HJ1
   rw [en] at HN HE hle HA HAO hn18
   have HM := hid em
   have HJ112 : Hid (j + 1 <= 112) := hid (by omega)
   have HFj : Hid (b + 1 + ((j + 1 : Nat) : Int) = f + 1) := hid (by omega)
   have HMs : Hid ((b + 114 - (f + 1)).toNat < (b + 114 - f).toNat) := hid (by omega)
   clear ef ey em en ho hci hv hfi hjn HLast
   have Hle := hid hle
   clear hle
   gi_wp2_with fail
   refine ⟨trivial, rfl, (callsIn_wide.2 HC.out).mono ?_⟩
   rintro e w1 ⟨he, hw⟩
   rw [he, hw]
   clear he hw w1 HC
   gi_wp2_with fail
   refine ⟨trivial, rfl, (callsIn_wide.2 HA.out).mono ?_⟩
   rintro e w1 ⟨he, hs1⟩
   rw [he]
   have HJ2 : Hid (J m w1 /\ w1.heap[p]? = some (.cells (lcs s vs) lgT (0, 0))) := hid ⟨abides_still HJ.out HJ1.out.1 hs1, kpL_still hs1 _ HJ1.out.2⟩
   clear he hs1 HJ1 HA
   gi_wp2_with fail
   gi_loopw [25] (fun u wr => ∃ k : Nat, k <= n /\ u = .int .i64 (k : Int) /\ Hid (J (m + k) wr /\ wr.heap[p]? = some (.cells (lcs s vs) lgT (0, 0)))) (fun u _ => n - (intOf u).toNat)
   case atStart => exact ⟨0, by omega, rfl, HJ2⟩
   case round =>
    obtain ⟨k, hk, rfl, HJ3⟩ := hrel
    clear HJ2
    by_cases hkn : k < n
    ·have hlt : (k : Int) < (n : Int) := by omega
     obtain ⟨g, eg⟩ := HAO.out (by omega)
     obtain ⟨fn, tmps, assign, body, hy, hR⟩ := HY.out (m + k) wr (by have := Hle.out; omega) HJ3.out.1
     rw [HE.out g k eg hkn] at hy
     have HR1 := hid hR
     subst eg
     clear hR
     gi_wp2_with fail
     refine ⟨rfl, HR1.out.mono ?_⟩
     rintro e w3 (⟨rfl, hj3, hk3⟩ | ⟨rfl, hx3⟩)
     ·have HJ4 : Hid (J (m + (k + 1)) w3 /\ w3.heap[p]? = some (.cells (lcs s vs) lgT (0, 0))) := hid ⟨hj3, hk3 _ HJ3.out.2⟩
      clear hj3 hk3 hy HR1 HJ3
      gi_wp2_with fail
      go_roundw
      case rel => exact ⟨k + 1, by omega, by go_num, HJ4⟩
      case measure => simp [intOf]; omega
     ·have HX := hid hx3
      clear hx3 hy HR1 HJ3
      gi_wp2_with fail
      (first | rw [Exit.noGoto_ret] | skip)
      refine bodyPost_ret (results_none rfl _ _ _) rfl ?_
      exact ⟨⟨_, rfl⟩, .inr ⟨_, by have := Hle.out; omega, HX.out⟩⟩
    ·have hge : ¬ (k : Int) < (n : Int) := by omega
     have HJ4 : Hid (J (lowN (f + 1) s.S) wr /\ wr.heap[p]? = some (.cells (lcs s vs) lgT (0, 0))) := hid ⟨by rw [HN.out]; have := HJ3.out.1; rwa [show k = n by omega] at this, HJ3.out.2⟩
     clear hkn HJ3
     gi_wp2_with fail
     go_roundw
     case rel => exact ⟨j + 1, HJ112.out, by rw [HFj.out], by rw [HFj.out]; exact HJ4⟩
     case measure => simp only [intOf]; exact HMs.out
  ·have hfy : ¬ f <= y := by omega
   have HD : Hid (J s.S.length wr) := hid (by have := HJ1.out.1; rwa [show f = b + 113 by omega, HEnd.out] at this)
   clear ef ey hjn HJ1
   gi_wp2_with fail
   refine ⟨trivial, rfl, (callsIn_wide.2 HC.out).mono ?_⟩
   rintro e w1 ⟨he, hw⟩
   rw [he, hw]
   clear he hw w1 HC
   gi_wp2_with fail
   go_end0
   exact ⟨⟨_, rfl⟩, .inl HD.out⟩
end Go.Proofs.Ytdmgalaajgebkaa
namespace Go.Proofs.Ytdmgalaajgebkaa
open Go Go.RowKit
set_option maxRecDepth 100000
attribute [local go_sem] Oper.semAt_some
theorem Lm.ent {w : World} {B p : Nat} {s : Lgs} {vs : Nat -> Value} (h : Lm w B p s vs) {k : Nat} (hk : k < s.S.length) : ∃ (i g j n cap : Nat), i < 112 /\ (att s.S k).fr % 112 = (i : Int) /\ vs i = .slice (some ⟨g, 0, none⟩) n cap /\ j < (plc i s.S).length /\ att (plc i s.S) j = att s.S k /\ j = k - lowN (att s.S k).fr s.S /\ encL vs s.S k = .pointer (some ⟨g, j * 8, none⟩) := by
 have h1 := att_fr h.ok hk
 obtain ⟨h2, h3⟩ := att_at h.ok hk
 have ea := att_on h.ok.srt (att s.S k).fr h3
 rw [show lowN (att s.S k).fr s.S + (k - lowN (att s.S k).fr s.S) = k by omega] at ea
 obtain ⟨i, ao, cap, hi, hf, hv, ho, _⟩ := h.row h1
 obtain ⟨g, cap', e', _⟩ := ho.head (by omega)
 injection e' with e1 _ _
 subst e1
 have hp := plc_on h.ok h1.1 h1.2
 rw [hf, Int.toNat_natCast] at hp
 have he := encL_at h.ok (vs := vs) hf hv h3
 rw [show lowN (att s.S k).fr s.S + (k - lowN (att s.S k).fr s.S) = k by omega] at he
 exact ⟨i, g, _, _, cap, hi, hf, hv, by rw [hp]; exact h3, by rw [hp]; exact ea.symm, rfl, he⟩
theorem Lm.entry {w : World} {B p : Nat} {s : Lgs} {vs : Nat -> Value} (h : Lm w B p s vs) {k : Nat} (hk : k < s.S.length) : ∃ (g j : Nat), encL vs s.S k = .pointer (some ⟨g, j * 8, none⟩) /\ Rw vs g /\ w.cell? ⟨g, j * 8, none⟩ = some (.int .i64 (att s.S k).fr) /\ w.cell? ⟨g, j * 8 + 1, none⟩ = some (.int .i64 (att s.S k).pe) /\ w.cell? ⟨g, j * 8 + 2, none⟩ = some (.int .i64 (att s.S k).se) /\ w.cell? ⟨g, j * 8 + 3, none⟩ = some (.int .i64 (att s.S k).vb) /\ w.cell? ⟨g, j * 8 + 4, none⟩ = some (.int .i64 (att s.S k).a) /\ w.cell? ⟨g, j * 8 + 5, none⟩ = some (.int .i64 (att s.S k).b) /\ w.cell? ⟨g, j * 8 + 6, none⟩ = some (.int .i64 (att s.S k).c) /\ w.cell? ⟨g, j * 8 + 7, none⟩ = some (.int .i64 (att s.S k).ms) /\ ∀ o, w.frozen? ⟨g, o, none⟩ = false := by
 obtain ⟨i, g, j, n, cap, hi, hf, hv, hj, ea, _, he⟩ := h.ent hk
 have ho := h.ow i hi
 rw [hv] at ho
 have hc := owE ho hj
 rw [ea] at hc
 exact ⟨g, j, he, ⟨i, hi, by rw [hv]; rfl⟩, hc⟩
theorem enters_ent : ∀ args w, (callFunc 34 args).run Try.prog w = .ok (.enter 34 args) w := enters_of Try.func34 (by kernel_rfl) rfl
theorem boxed_row19 {B0 B : Nat} {X Y : World} {row : Option Nat} {t : TypeId} {v : Value} (h : Boxed X B t v) (hg : X.grownBy Y row) (hr : ∀ r, row = some r -> B0 <= r /\ ∃ o : Obj, X.heap[r]? = some o /\ o.isCells = false) : Boxed Y B t v :=
 boxed_own B t (fun (_ : Unit) => v) () X Y row h hg (fun r e => (hr r e).2)
theorem kpL_set {p : Nat} {W : World} {a : Addr} {v : Value} (h : p ≠ a.block) : KpL p W (W.setCell a v) := fun _ ho => (heap_setCell_other W a p v h).trans ho
set_option maxHeartbeats 2000000 in
theorem cm_len (s : Lgs) (B p : Nat) (vs : Nat -> Value) (w : World) (h : Lm w B p s vs) : Calls Try.prog 15 #[.pointer (some ⟨p, 0, none⟩)] w fun e w' => e = .returned (.int .i64 (s.S.length : Int)) /\ Still w w' := by
 have HL := hid h
 have hlt := h.lt
 have hn := len_2016 h.ok
 have HB0 := hid (Boxed.new w 3 (.int .i64 0))
 have hS0 := Still.alloc w (.cells #[.int .i64 0] 3)
 clear h
 refine (callsIn_wide (n := 0)).1 ?_
 refine callsIn_of_wp_marks Try.func15 rfl trivial ?_ rfl
 simp only [Try.ntmps15, List.size_toArray, List.length_cons, List.length_nil, Nat.reduceAdd, Nat.reduceSub, Array.replicate_succ, Array.replicate_zero, List.push_toArray, List.append_toArray, List.nil_append, List.cons_append]
 gi_wp2_with fail
 refine range_n rfl enters_ent (cm_entries s B p vs _ (HL.out.still hS0)) kpL_t (kpL_b (by simp; omega)) (Below.refl _ _) rfl
  (fun k W => Boxed W w.heap.size 3 (.int .i64 (k : Int)) /\ Below w.heap.size w W) (fun _ _ => False)
  (OwnFrom.and (Own.from (boxed_own _ _ _) _) (ownFrom_below (Nat.le_refl _) (by simp))) (fun _ _ _ _ hs _ _ => hs.elim)
  ⟨HB0.out, hS0.below⟩
  (fun k => { tmps := #[.pointer (some ⟨p, 0, none⟩), undef, .int .i64 0, .pointer (some ⟨w.heap.size, 0, none⟩), .pointer (some ⟨p, 0, none⟩), .func (.func 34) #[.pointer (some ⟨p, 0, none⟩)] #[], encL vs s.S k, undef, undef, undef], defers := [] }) ?assign ?body ?done ?stop
 case assign =>
  intro l x W K hK
  gi_wp2_with fail
  simpa using hK
 case body =>
  rintro l k W hk ⟨k0, hB⟩
  have c0 := k0.cell
  have f0 := k0.frozen
  have hkw : (k : Int) < 2016 := by omega
  gi_wp2_with fail
  have hk2 : ((k + 1 : Nat) : Int) = (k : Int) + 1 := by omega
  refine ⟨KeepsOthers.setCell _ _ _, ?_, ?_, hB.setCell (p := ⟨w.heap.size, 0, none⟩) (by simp) _⟩
  ·exact kpL_set (by simp; omega)
  ·rw [hk2]
   exact k0.set _
 case done =>
  rintro D W hD ⟨k0, hB⟩ hK
  have c0 := k0.cell
  gi_wp2_with fail
  refine ⟨by simp, .inl ⟨_, _, rfl, run_takeDeferred hK, ?_⟩⟩
  exact ⟨_, results_tmp rfl _ _ _, rfl, still_under (hB.trans (belowK_b (w := w) (Nat.le_refl _) W D _ _ (by simp at hD; omega) hK rfl rfl))⟩
 case stop =>
  rintro D k W hD hk hf hK
  exact hf.elim
def hasPS (a b : Int) (S : List En) : Bool := S.any fun x => decide (x.pe = a /\ x.se = b)
theorem hasPS_f {a b : Int} {S : List En} (h : ∀ t, t < S.length -> ¬ ((att S t).pe = a /\ (att S t).se = b)) : hasPS a b S = false := by
 unfold hasPS
 rw [List.any_eq_false]
 intro x hx
 obtain ⟨t, ht, rfl⟩ := att_of_mem hx
 simpa using h t ht
theorem hasPS_t {a b : Int} {S : List En} {t : Nat} (ht : t < S.length) (h : (att S t).pe = a /\ (att S t).se = b) : hasPS a b S = true := List.any_eq_true.2 ⟨_, att_mem ht, decide_eq_true h⟩
set_option maxHeartbeats 4000000 in
theorem cm_has (s : Lgs) (B p : Nat) (vs : Nat -> Value) (a b : Int) (w : World) (h : Lm w B p s vs) : Calls Try.prog 39 #[.pointer (some ⟨p, 0, none⟩), .int .i64 a, .int .i64 b] w fun e w' => e = .returned (.bool (hasPS a b s.S)) /\ Still w w' := by
 have HL := hid h
 have hlt := h.lt
 clear h
 refine (callsIn_wide (n := 0)).1 ?_
 refine callsIn_of_wp_marks Try.func39 rfl trivial ?_ rfl
 simp only [Try.ntmps39, List.size_toArray, List.length_cons, List.length_nil, Nat.reduceAdd, Nat.reduceSub, Array.replicate_succ, Array.replicate_zero, List.push_toArray, List.append_toArray, List.nil_append, List.cons_append]
 gi_wp2_with fail
 have b0 := ((Boxed.new w 3 (.int .i64 a)).alloc (.cells #[.int .i64 b] 3)).alloc (.cells #[.bool false] 4)
 have b1 := (Boxed.new (w.alloc (.cells #[.int .i64 a] 3)) 3 (.int .i64 b)).alloc (.cells #[.bool false] 4)
 have b2 := Boxed.new ((w.alloc (.cells #[.int .i64 a] 3)).alloc (.cells #[.int .i64 b] 3)) 4 (.bool false)
 simp only [World.size_alloc] at b1 b2
 have hS0 : Still w (((w.alloc (.cells #[.int .i64 a] 3)).alloc (.cells #[.int .i64 b] 3)).alloc (.cells #[.bool false] 4)) := ((Fr.refl _ w).alloc _ |>.alloc _).alloc _
 have hsz : (((w.alloc (.cells #[.int .i64 a] 3)).alloc (.cells #[.int .i64 b] 3)).alloc (.cells #[.bool false] 4)).heap.size = w.heap.size + 3 := by simp
 obtain ⟨V, eV⟩ : ∃ V, ((w.alloc (.cells #[.int .i64 a] 3)).alloc (.cells #[.int .i64 b] 3)).alloc (.cells #[.bool false] 4) = V := ⟨_, rfl⟩
 rw [eV] at b0 b1 b2 hS0 hsz ⊢
 clear eV
 refine range_n rfl enters_ent (cm_entries s B p vs _ (HL.out.still hS0)) kpL_t (kpL_b (by omega)) (Below.refl _ _) rfl
  (fun k W => ((∀ t, t < k -> ¬ ((att s.S t).pe = a /\ (att s.S t).se = b)) /\ Boxed W w.heap.size 3 (.int .i64 a) /\ Boxed W (w.heap.size + 1) 3 (.int .i64 b) /\ Boxed W (w.heap.size + 1 + 1) 4 (.bool false)) /\ Below w.heap.size w W)
  (fun k W => (hasPS a b s.S = true /\ Boxed W (w.heap.size + 1 + 1) 4 (.bool true)) /\ Below w.heap.size w W)
  (fun s X Y row hs hg hr => ⟨⟨hs.1.1, boxed_row19 hs.1.2.1 hg hr, boxed_row19 hs.1.2.2.1 hg hr, boxed_row19 hs.1.2.2.2 hg hr⟩, ownFrom_below (Nat.le_refl _) (by omega) () X Y row hs.2 hg hr⟩)
  (fun s X Y row hs hg hr => ⟨⟨hs.1.1, boxed_row19 hs.1.2 hg hr⟩, ownFrom_below (Nat.le_refl _) (by omega) () X Y row hs.2 hg hr⟩)
  ⟨⟨fun t ht => absurd ht (by omega), b0, b1, b2⟩, hS0.below⟩
  (fun k => { tmps := #[.pointer (some ⟨p, 0, none⟩), .int .i64 a, .int .i64 b, undef, .pointer (some ⟨w.heap.size, 0, none⟩), .pointer (some ⟨w.heap.size + 1, 0, none⟩), .pointer (some ⟨w.heap.size + 1 + 1, 0, none⟩), encL vs s.S k, .pointer (some ⟨p, 0, none⟩), .func (.func 34) #[.pointer (some ⟨p, 0, none⟩)] #[], encL vs s.S k, undef, undef, undef, undef, undef, undef, undef, undef, undef, undef, undef, undef, undef, undef, undef, undef], defers := [] }) ?assign ?body ?done ?stop
 case assign =>
  intro l x W K hK
  gi_wp2_with fail
  simpa using hK
 case body =>
  rintro l k W hk ⟨⟨hp, k0, k1, k2⟩, hB⟩
  have hz := hB.size
  obtain ⟨g, j, he, hg, c0, c1, c2, _⟩ := (HL.out.still (still_under hB)).entry hk
  rw [he]
  have e0 := Cl.cell k0.cell
  have e1 := Cl.cell k1.cell
  have e2 := Cl.cell c1
  have e3 := Cl.cell c2
  have hne := Aft.here W
  have HP := hid hp
  have HW := hid (And.intro k2 (And.intro hB (And.intro k0 k1)))
  have HX := hid (fun h => hasPS_t (a := a) (b := b) hk h)
  obtain ⟨x, ex⟩ : ∃ x, (att s.S k).pe = x := ⟨_, rfl⟩
  obtain ⟨y, ey⟩ : ∃ y, (att s.S k).se = y := ⟨_, rfl⟩
  rw [ex] at e2
  rw [ey] at e3
  rw [ex, ey] at HX
  have HXY := hid (And.intro ex ey)
  clear hp k0 k1 k2 hB c0 c1 c2 ex ey he
  by_cases h1 : x = a
  ·have d1 : (x == a) = true := beq_iff_eq.2 h1
   by_cases h2 : y = b
   ·have d2 : (y == b) = true := beq_iff_eq.2 h2
    have HT := hid (HX.out ⟨h1, h2⟩)
    clear h1 h2 HX
    gi_wp2_with fail
    refine round_all (fun ⟨_, _, h⟩ => False.elim h) (by kernel_rfl) (by kernel_rfl) (by kernel_rfl) ?_
    repeat (go_big_quiet_step (rfl))
    refine wpQuiet_nil ?_
    intro W2 h2
    have k2 := boxed_still HW.out.1 h2
    have cc := k2.cell
    have ff := k2.frozen
    have HS2 := hid h2
    clear h2 e0 e1 e2 e3 hne
    gi_wp2_with fail
    exact ⟨HS2.out.others.trans (KeepsOthers.setCell _ _ _), ⟨HT.out, k2.set _⟩, (HW.out.2.1.trans (HS2.out.below.mono hz)).setCell (p := ⟨w.heap.size + 1 + 1, 0, none⟩) (by simp; omega) _⟩
   ·have d2 : (y == b) = false := beq_eq_false_iff_ne.2 h2
    have HN : Hid (∀ t, t < k + 1 -> ¬ ((att s.S t).pe = a /\ (att s.S t).se = b)) := hid (fun t ht => if e : t = k then (by rw [e, HXY.out.1, HXY.out.2]; exact fun h => h2 h.2) else HP.out t (by omega))
    clear h1 h2 HX HXY HP
    gi_wp2_with fail
    refine round_all (fun ⟨_, _, h⟩ => False.elim h) (by kernel_rfl) (by kernel_rfl) (by kernel_rfl) ?_
    repeat (go_big_quiet_step (rfl))
    refine wpQuiet_nil ?_
    intro W2 h2
    have HS2 := hid h2
    clear h2 e0 e1 e2 e3 hne
    gi_wp2_with fail
    exact ⟨HS2.out.others, kpL_still HS2.out, ⟨HN.out, boxed_still HW.out.2.2.1 HS2.out, boxed_still HW.out.2.2.2 HS2.out, boxed_still HW.out.1 HS2.out⟩, HW.out.2.1.trans (HS2.out.below.mono hz)⟩
  ·have d1 : (x == a) = false := beq_eq_false_iff_ne.2 h1
   have HN : Hid (∀ t, t < k + 1 -> ¬ ((att s.S t).pe = a /\ (att s.S t).se = b)) := hid (fun t ht => if e : t = k then (by rw [e, HXY.out.1, HXY.out.2]; exact fun h => h1 h.1) else HP.out t (by omega))
   clear h1 HX HXY HP
   gi_wp2_with fail
   refine round_all (fun ⟨_, _, h⟩ => False.elim h) (by kernel_rfl) (by kernel_rfl) (by kernel_rfl) ?_
   repeat (go_big_quiet_step (rfl))
   refine wpQuiet_nil ?_
   intro W2 h2
   have HS2 := hid h2
   clear h2 e0 e1 e2 e3 hne
   gi_wp2_with fail
   exact ⟨HS2.out.others, kpL_still HS2.out, ⟨HN.out, boxed_still HW.out.2.2.1 HS2.out, boxed_still HW.out.2.2.2 HS2.out, boxed_still HW.out.1 HS2.out⟩, HW.out.2.1.trans (HS2.out.below.mono hz)⟩
 case done =>
  rintro D W hD ⟨⟨hp, k0, k1, k2⟩, hB⟩ hK
  have HE : Hid (hasPS a b s.S = false) := hid (hasPS_f hp)
  have c2 := k2.cell
  have f2 := k2.frozen
  gi_wp2_with fail
  have hK' := (KeepsOthers.setCell W ⟨w.heap.size + 1 + 1, 0, none⟩ (.bool false)).same D _ hK rfl
  refine ⟨by simp, .inl ⟨_, _, rfl, run_takeDeferred hK', ?_⟩⟩
  have q1 := cell_kept (k2.set (.bool false)).cell (grownBy_putObj' _ D (.deferred none)) (fun r e => by cases e; exact ⟨_, hK', rfl⟩)
  refine ⟨.bool false, ?_, by rw [HE.out], still_under ((hB.setCell (p := ⟨w.heap.size + 1 + 1, 0, none⟩) (by simp; omega) _).trans (belowK_b (w := w) (Nat.le_refl _) _ D _ _ (by omega) hK' rfl rfl))⟩
  simp [results, Try.f39, go_sem, q1]
 case stop =>
  rintro D k W hD hk ⟨⟨ht, k2⟩, hB⟩ hK
  have HE := hid ht
  gi_wp2_with fail
  refine ⟨by simp, .inl ⟨_, _, rfl, run_takeDeferred hK, ?_⟩⟩
  have q1 := cell_kept k2.cell (grownBy_putObj' _ D (.deferred none)) (fun r e => by cases e; exact ⟨_, hK, rfl⟩)
  refine ⟨.bool true, ?_, by rw [HE.out], still_under (hB.trans (belowK_b (w := w) (Nat.le_refl _) _ D _ _ (by omega) hK rfl rfl))⟩
  simp [results, Try.f39, go_sem, q1]
end Go.Proofs.Ytdmgalaajgebkaa
namespace Go.Proofs.Ytdmgalaajgebkaa
open Go Go.RowKit
set_option maxRecDepth 100000
attribute [local go_sem] Oper.semAt_some
theorem app19 {α : Type} {K : Kd α} {e t : TypeId} {n₀ Bm : Nat} {U U5 : World} {v v' : Value} {l l' : List α} {tmp : Obj} (hv : Boxed U Bm t v) (hte : t ≠ e) (ho : OwG K e U n₀ v l) (hn : n₀ <= U.heap.size) (hB : n₀ <= Bm) (ho' : OwG K e U5 n₀ v' l') (hf : Fr (fun k => v.ownBlock = some k) (U.alloc tmp) U5) :
  Boxed U5 Bm t v /\ Boxed (U5.setCell ⟨Bm, 0, none⟩ v') Bm t v' /\ OwG K e (U5.setCell ⟨Bm, 0, none⟩ v') n₀ v' l' /\ KeepsOthers U (U5.setCell ⟨Bm, 0, none⟩ v') /\ Below n₀ U (U5.setCell ⟨Bm, 0, none⟩ v') :=
 hv.appended hte ho hn hB ho' ⟨hf.os, hf.tape, hf.output, hf.size, fun k hk hne => hf.block k hk (fun e => hne e.symm)⟩
theorem kpL_below {p n₀ : Nat} {W W' : World} (h : Below n₀ W W') (hp : p < n₀) : KpL p W W' := fun _ ho => (h.block p hp).trans ho
theorem bs_E19 {o : Oper} {ρ : Operand -> Value} {s : Operand} {x : En} (ho : o.op = .buildSlice 40 1 #[(0, s)]) (hs : ρ s = ev x) (u : World) : (execOp ρ o).run Try.prog u = .ok (.value (.slice (some ⟨u.heap.size, 0, none⟩) 1 1)) (newE u x) := by
 unfold execOp
 rw [ho]
 simp only [List.map_toArray, List.map_cons, List.map_nil, hs]
 go_simp
theorem take_next {S : List En} {k : Nat} (hk : k < S.length) : S.take (k + 1) = S.take k ++ [att S k] := by
 rw [List.take_succ_eq_append_getElem hk]
 unfold att
 rw [List.getD_eq_getElem?_getD, List.getElem?_eq_getElem hk]
 rfl
set_option maxHeartbeats 4000000 in
theorem cm_all (s : Lgs) (B p : Nat) (vs : Nat -> Value) (w : World) (h : Lm w B p s vs) : Calls Try.prog 12 #[.pointer (some ⟨p, 0, none⟩)] w fun e w' => ∃ v, e = .returned v /\ OwG KE enT w' w.heap.size v s.S /\ Still w w' := by
 have HL := hid h
 have hlt := h.lt
 have hn := len_2016 h.ok
 have HB0 := hid (Boxed.new w 40 (.slice none 0 0))
 have hS0 := Still.alloc w (.cells #[.slice none 0 0] 40)
 clear h
 refine (callsIn_wide (n := 0)).1 ?_
 refine callsIn_of_wp_marks Try.func12 rfl trivial ?_ rfl
 simp only [Try.ntmps12, List.size_toArray, List.length_cons, List.length_nil, Nat.reduceAdd, Nat.reduceSub, Array.replicate_succ, Array.replicate_zero, List.push_toArray, List.append_toArray, List.nil_append, List.cons_append]
 gi_wp2_with fail
 refine range_n rfl enters_ent (cm_entries s B p vs _ (HL.out.still hS0)) kpL_t (kpL_b (by simp; omega)) (Below.refl _ _) rfl
  (fun k W => (∃ v, Boxed W w.heap.size 40 v /\ W.ownsRow w.heap.size enT KE.k v (s.S.take k).length (KE.row (s.S.take k)) /\ True) /\ Below w.heap.size w W) (fun _ _ => False)
  (OwnFrom.and (Own.from (holdsRow_own w.heap.size w.heap.size 40 enT KE.k (fun k => (s.S.take k).length) (fun k => KE.row (s.S.take k)) (fun _ _ => True)) _) (ownFrom_below (Nat.le_refl _) (by simp))) (fun _ _ _ _ hs _ _ => hs.elim)
  ⟨⟨_, HB0.out, OwG.nil (K := KE) (e := enT) _ _, trivial⟩, hS0.below⟩
  (fun k => { tmps := #[.pointer (some ⟨p, 0, none⟩), undef, .slice none 0 0, .pointer (some ⟨w.heap.size, 0, none⟩), encL vs s.S k, .pointer (some ⟨p, 0, none⟩), .func (.func 34) #[.pointer (some ⟨p, 0, none⟩)] #[], encL vs s.S k, undef, undef, undef, undef, undef, undef, undef], defers := [] }) ?assign ?body ?done ?stop
 case assign =>
  intro l x W K hK
  gi_wp2_with fail
  simpa using hK
 case body =>
  rintro l k W hk ⟨⟨v, kv, ho, _⟩, hB⟩
  have ho : OwG KE enT W w.heap.size v (s.S.take k) := ho
  have hz := hB.size
  obtain ⟨g, j, he, hg, c0, c1, c2, c3, c4, c5, c6, c7, _⟩ := (HL.out.still (still_under hB)).entry hk
  rw [he]
  have HT := hid (take_next hk)
  have HLn : Hid ((s.S.take k).length <= 100000) := hid (by simp; omega)
  obtain ⟨x, ex⟩ : ∃ x, att s.S k = x := ⟨_, rfl⟩
  rw [ex] at c0 c1 c2 c3 c4 c5 c6 c7 HT
  obtain ⟨M, eM⟩ : ∃ M, s.S.take k = M := ⟨_, rfl⟩
  rw [eM] at ho HT HLn
  obtain ⟨ao, cap, ev', _⟩ := ho.slice
  subst ev'
  obtain ⟨m, em⟩ : ∃ m, M.length = m := ⟨_, rfl⟩
  have HM := hid em
  rw [em] at kv ho
  have HO := hid ho
  have HKV := hid kv
  have HB := hid hB
  have HC := hid (And.intro c0 (And.intro c1 (And.intro c2 (And.intro c3 (And.intro c4 (And.intro c5 (And.intro c6 c7)))))))
  clear ho hB ex eM he kv em c0 c1 c2 c3 c4 c5 c6 c7
  gi_wp2_with fail
  refine round_laid 4 1 (fun ⟨_, _, h⟩ => False.elim h) (by kernel_rfl) (by kernel_rfl) (by kernel_rfl) (by kernel_rfl) ?_
  apply Exists.intro
  refine And.intro ?_ (And.intro ?_ ?_)
  ·intro u hu
   have HCu := HC.out
   have e0 := Cl.cell ((hu.cell (World.block_lt_of_cell? W _ HCu.1) (fun e => e)).trans HCu.1)
   have e1 := Cl.cell ((hu.cell (World.block_lt_of_cell? W _ HCu.2.1) (fun e => e)).trans HCu.2.1)
   have e2 := Cl.cell ((hu.cell (World.block_lt_of_cell? W _ HCu.2.2.1) (fun e => e)).trans HCu.2.2.1)
   have e3 := Cl.cell ((hu.cell (World.block_lt_of_cell? W _ HCu.2.2.2.1) (fun e => e)).trans HCu.2.2.2.1)
   have e4 := Cl.cell ((hu.cell (World.block_lt_of_cell? W _ HCu.2.2.2.2.1) (fun e => e)).trans HCu.2.2.2.2.1)
   have e5 := Cl.cell ((hu.cell (World.block_lt_of_cell? W _ HCu.2.2.2.2.2.1) (fun e => e)).trans HCu.2.2.2.2.2.1)
   have e6 := Cl.cell ((hu.cell (World.block_lt_of_cell? W _ HCu.2.2.2.2.2.2.1) (fun e => e)).trans HCu.2.2.2.2.2.2.1)
   have e7 := Cl.cell ((hu.cell (World.block_lt_of_cell? W _ HCu.2.2.2.2.2.2.2) (fun e => e)).trans HCu.2.2.2.2.2.2.2)
   have e8 := Cl.cell (boxed_still HKV.out hu).cell
   have hne := Aft.here u
   clear HCu
   simp only [List.take_succ_cons, List.take_zero]
   repeat (go_big_quiet_step (fail))
   exact wpQuiet_nil rfl
  ·intro _ o ho u hu
   obtain rfl := Option.some.inj ho
   exact ⟨_, _, bs_E19 rfl rfl u, Still.alloc u _⟩
  intro u hu
  simp only [List.drop_succ_cons, List.drop_zero]
  have A4 := Still.alloc u (.cells (ecs x) 44)
  have HO3 := hid (HO.out.still hu)
  have HO4 := hid ((HO.out.still hu).still A4)
  have HX4 : Hid ((newE u x).heap[u.heap.size]? = some (.cells (KE.f x).toArray enT (0, 0))) := hid (newE_eb u x)
  have HB4 : Hid (w.heap.size <= (newE u x).heap.size) := hid (by have := hu.size; simp; omega)
  have HKV3 := hid (boxed_still HKV.out hu)
  have HSu := hid hu
  clear A4 hu HC
  go_wp2_with (
   at_builtin
   refine wpList_appG KE _ rfl _ _ _ rfl rfl 64 infoE (by omega) w.heap.size u.heap.size (.slice ao m cap) M x rfl rfl HO4.out HX4.out HLn.out HB4.out ?_
   intro v' w' ho' hf'
   have HA := hid (app19 HKV3.out (by decide) HO3.out (by have := HSu.out.size; omega) (Nat.le_refl _) ho' hf')
   obtain ⟨g', cap', rfl, _, _⟩ := ho'.head (by simp)
   have k5 := HA.out.1
   have c5 := k5.cell
   have f5 := k5.frozen
   have HLE : Hid ((M ++ [x]).length = M.length + 1) := hid (by simp)
   clear ho' hf' k5)
  refine ⟨rfl, ?_⟩
  obtain ⟨_, q2, q3, q4, q5⟩ := HA.out
  rw [HLE.out] at q2 q3 q4 q5
  have hb := (HSu.out.below.mono hz).trans q5
  refine ⟨HSu.out.others.trans q4, kpL_below hb hlt, ⟨_, q2, ?_, trivial⟩, HB.out.trans hb⟩
  rw [HT.out, <- HLE.out]
  rw [<- HLE.out] at q3
  exact q3
 case done =>
  rintro D W hD ⟨⟨v, kv, ho, _⟩, hB⟩ hK
  have ho1 : OwG KE enT W w.heap.size v (s.S.take s.S.length) := ho
  rw [List.take_of_length_le (Nat.le_refl _)] at ho1
  obtain ⟨ao2, cap2, rfl, _⟩ := ho1.slice
  have HO := hid ho1
  have HB := hid hB
  have c := kv.cell
  clear ho ho1 hB kv
  gi_wp2_with fail
  refine ⟨by simp, .inl ⟨_, _, rfl, run_takeDeferred hK, ?_⟩⟩
  exact ⟨_, results_tmp rfl _ _ _, .slice ao2 s.S.length cap2, rfl, ownsRow_putObj HO.out _ hK rfl, still_under (HB.out.trans (belowK_b (w := w) (Nat.le_refl _) W D _ _ (by simp at hD; omega) hK rfl rfl))⟩
 case stop =>
  rintro D k W hD hk hf hK
  exact hf.elim
end Go.Proofs.Ytdmgalaajgebkaa
namespace Go.Proofs.Ytdmgalaajgebkaa
open Go Go.RowKit
set_option maxRecDepth 100000
attribute [local go_sem] Oper.semAt_some
def cmE (x : En) : En := { x with ms := 0 }
abbrev cmT : TypeId := 30
def KC : Kd En := ⟨fun m => (hcs m).toList, 7, zE, fun _ => rfl, fun m u hu => by
 simp at hu
 rcases hu with rfl | rfl | rfl | rfl | rfl | rfl | rfl <;> rfl, by decide⟩
theorem infoC : ∃ i, Try.prog.info? cmT = some i /\ i.zero = some (.agg (KC.f KC.d).toArray) /\ i.size = KC.k /\ i.bytes = 56 := ⟨_, rfl, rfl, rfl, rfl⟩
def misL (r : Int) (S : List En) : List En := (S.filter fun x => decide (r < x.ms)).map cmE
theorem misL_f {r : Int} {S : List En} {k : Nat} (hk : k < S.length) (h : ¬ r < (att S k).ms) : misL r (S.take (k + 1)) = misL r (S.take k) := by
 unfold misL
 rw [take_next hk, List.filter_append, List.filter_cons_of_neg (by simpa using h), List.filter_nil, List.append_nil]
theorem misL_t {r : Int} {S : List En} {k : Nat} (hk : k < S.length) (h : r < (att S k).ms) : misL r (S.take (k + 1)) = misL r (S.take k) ++ [cmE (att S k)] := by
 unfold misL
 rw [take_next hk, List.filter_append, List.filter_cons_of_pos (by simpa using h), List.filter_nil, List.map_append]
 rfl
theorem misL_len (r : Int) (S : List En) (k : Nat) : (misL r (S.take k)).length <= S.length := by
 unfold misL
 rw [List.length_map]
 exact Nat.le_trans (List.length_filter_le _ _) (List.length_take_le' ..)
theorem bs_C19 {o : Oper} {ρ : Operand -> Value} {s : Operand} {x : En} (ho : o.op = .buildSlice 42 1 #[(0, s)]) (hs : ρ s = .agg (hcs x)) (u : World) : (execOp ρ o).run Try.prog u = .ok (.value (.slice (some ⟨u.heap.size, 0, none⟩) 1 1)) (u.alloc (.cells (hcs x) cmT)) := by
 unfold execOp
 rw [ho]
 simp only [List.map_toArray, List.map_cons, List.map_nil, hs]
 go_simp
def misA (s : Lgs) (r : Int) : List En := if inR r s.nr then misL r s.S else []
set_option maxHeartbeats 4000000 in
theorem cm_missed_yes (s : Lgs) (B p : Nat) (vs : Nat -> Value) (r : Int) (hr : inR r s.nr = true) (w : World) (h : Lm w B p s vs) : Calls Try.prog 13 #[.pointer (some ⟨p, 0, none⟩), .int .i64 r] w fun e w' => ∃ v, e = .returned v /\ OwG KC cmT w' w.heap.size v (misL r s.S) /\ Still w w' := by
 have HL := hid h
 have hlt := h.lt
 have hn := len_2016 h.ok
 have A0 := Still.alloc w (.cells #[.int .i64 r] 3)
 have HR := hid (cm_isRung s B p vs r _ (h.still A0))
 rw [hr] at HR
 clear h hr A0
 refine (callsIn_wide (n := 0)).1 ?_
 refine callsIn_of_wp_marks Try.func13 rfl trivial ?_ rfl
 simp only [Try.ntmps13, List.size_toArray, List.length_cons, List.length_nil, Nat.reduceAdd, Nat.reduceSub, Array.replicate_succ, Array.replicate_zero, List.push_toArray, List.append_toArray, List.nil_append, List.cons_append]
 gi_wp2_with fail
 refine ⟨trivial, rfl, (callsIn_wide.2 HR.out).mono ?_⟩
 rintro e w1 ⟨he, hw⟩
 rw [he, hw]
 clear he hw w1 HR
 gi_wp2_with fail
 have b0 := (Boxed.new w 3 (.int .i64 r)).alloc (.cells #[.slice none 0 0] 42)
 have b1 := Boxed.new (w.alloc (.cells #[.int .i64 r] 3)) 42 (.slice none 0 0)
 simp only [World.size_alloc] at b1
 have hS0 : Still w ((w.alloc (.cells #[.int .i64 r] 3)).alloc (.cells #[.slice none 0 0] 42)) := ((Fr.refl _ w).alloc _).alloc _
 have hsz : ((w.alloc (.cells #[.int .i64 r] 3)).alloc (.cells #[.slice none 0 0] 42)).heap.size = w.heap.size + 2 := by simp
 obtain ⟨V, eV⟩ : ∃ V, (w.alloc (.cells #[.int .i64 r] 3)).alloc (.cells #[.slice none 0 0] 42) = V := ⟨_, rfl⟩
 rw [eV] at b0 b1 hS0 hsz ⊢
 clear eV
 refine range_n rfl enters_ent (cm_entries s B p vs _ (HL.out.still hS0)) kpL_t (kpL_b (by omega)) (Below.refl _ _) rfl
  (fun k W => ((∃ v, Boxed W (w.heap.size + 1) 42 v /\ W.ownsRow w.heap.size cmT KC.k v (misL r (s.S.take k)).length (KC.row (misL r (s.S.take k))) /\ True) /\ Boxed W w.heap.size 3 (.int .i64 r)) /\ Below w.heap.size w W) (fun _ _ => False)
  (OwnFrom.and (OwnFrom.and (Own.from (holdsRow_own w.heap.size (w.heap.size + 1) 42 cmT KC.k (fun k => (misL r (s.S.take k)).length) (fun k => KC.row (misL r (s.S.take k))) (fun _ _ => True)) _) (Own.from (boxed_own _ _ _) _)) (ownFrom_below (Nat.le_refl _) (by omega))) (fun _ _ _ _ hs _ _ => hs.elim)
  ⟨⟨⟨_, b1, OwG.nil (K := KC) (e := cmT) _ _, trivial⟩, b0⟩, hS0.below⟩
  (fun k => { tmps := #[.pointer (some ⟨p, 0, none⟩), .int .i64 r, undef, .pointer (some ⟨w.heap.size, 0, none⟩), .slice none 0 0, .pointer (some ⟨w.heap.size + 1, 0, none⟩), encL vs s.S k, .pointer (some ⟨p, 0, none⟩), .int .i64 r, .bool true, .bool false, .pointer (some ⟨p, 0, none⟩), .func (.func 34) #[.pointer (some ⟨p, 0, none⟩)] #[], encL vs s.S k, undef, undef, undef, undef, undef, undef, undef, undef, undef, undef, undef, undef, undef, undef], defers := [] }) ?assign ?body ?done ?stop
 case assign =>
  intro l x W K hK
  gi_wp2_with fail
  simpa using hK
 case body =>
  rintro l k W hk ⟨⟨⟨v, kv, ho, _⟩, k0⟩, hB⟩
  have ho : OwG KC cmT W w.heap.size v (misL r (s.S.take k)) := ho
  have hz := hB.size
  obtain ⟨g, j, he, hg, c0, c1, c2, c3, c4, c5, c6, c7, _⟩ := (HL.out.still (still_under hB)).entry hk
  rw [he]
  have HTf := hid (fun h => misL_f (r := r) hk h)
  have HTt := hid (fun h => misL_t (r := r) hk h)
  have HLn : Hid ((misL r (s.S.take k)).length <= 100000) := hid (by have := misL_len r s.S k; omega)
  obtain ⟨x, ex⟩ : ∃ x, att s.S k = x := ⟨_, rfl⟩
  rw [ex] at c0 c1 c2 c3 c4 c5 c6 c7 HTt HTf
  obtain ⟨M, eM⟩ : ∃ M, misL r (s.S.take k) = M := ⟨_, rfl⟩
  rw [eM] at ho HTt HTf HLn
  obtain ⟨ao, cap, ev', _⟩ := ho.slice
  subst ev'
  obtain ⟨m, em⟩ : ∃ m, M.length = m := ⟨_, rfl⟩
  have HM := hid em
  rw [em] at kv ho
  have e1 := Cl.cell k0.cell
  have e2 := Cl.cell c7
  have hne := Aft.here W
  have HO := hid ho
  have HKV := hid kv
  have HK0 := hid k0
  have HB := hid hB
  have HC := hid (And.intro c0 (And.intro c1 (And.intro c2 (And.intro c3 (And.intro c4 (And.intro c5 c6))))))
  clear ho hB ex eM he kv k0 em c0 c1 c2 c3 c4 c5 c6 c7
  by_cases hx : r < x.ms
  ·have HT := hid (HTt.out hx)
   clear HTt HTf
   gi_wp2_with fail
   refine round_all (fun ⟨_, _, h⟩ => False.elim h) (by kernel_rfl) (by kernel_rfl) (by kernel_rfl) ?_
   repeat (go_big_quiet_step (rfl))
   refine wpQuiet_nil ?_
   intro W1 h1
   have HS1 := hid h1
   clear h1 e1 e2 hne
   gi_wp2_with fail
   refine round_laid 5 1 (fun ⟨_, _, h⟩ => False.elim h) (by kernel_rfl) (by kernel_rfl) (by kernel_rfl) (by kernel_rfl) ?_
   apply Exists.intro
   refine And.intro ?_ (And.intro ?_ ?_)
   ·intro u hu'
    have hu := HS1.out.trans hu'
    have HCu := HC.out
    have e0 := Cl.cell ((hu.cell (World.block_lt_of_cell? W _ HCu.1) (fun e => e)).trans HCu.1)
    have e1 := Cl.cell ((hu.cell (World.block_lt_of_cell? W _ HCu.2.1) (fun e => e)).trans HCu.2.1)
    have e2 := Cl.cell ((hu.cell (World.block_lt_of_cell? W _ HCu.2.2.1) (fun e => e)).trans HCu.2.2.1)
    have e3 := Cl.cell ((hu.cell (World.block_lt_of_cell? W _ HCu.2.2.2.1) (fun e => e)).trans HCu.2.2.2.1)
    have e4 := Cl.cell ((hu.cell (World.block_lt_of_cell? W _ HCu.2.2.2.2.1) (fun e => e)).trans HCu.2.2.2.2.1)
    have e5 := Cl.cell ((hu.cell (World.block_lt_of_cell? W _ HCu.2.2.2.2.2.1) (fun e => e)).trans HCu.2.2.2.2.2.1)
    have e6 := Cl.cell ((hu.cell (World.block_lt_of_cell? W _ HCu.2.2.2.2.2.2) (fun e => e)).trans HCu.2.2.2.2.2.2)
    have e8 := Cl.cell (boxed_still HKV.out hu).cell
    have hne := Aft.here u
    clear HCu
    simp only [List.take_succ_cons, List.take_zero]
    repeat (go_big_quiet_step (fail))
    exact wpQuiet_nil rfl
   ·intro _ o ho u hu
    obtain rfl := Option.some.inj ho
    exact ⟨_, _, bs_C19 (x := x) rfl rfl u, Still.alloc u _⟩
   intro u hu'
   have hu := HS1.out.trans hu'
   simp only [List.drop_succ_cons, List.drop_zero]
   have A4 := Still.alloc u (.cells (hcs x) cmT)
   have HO3 := hid (HO.out.still hu)
   have HO4 := hid ((HO.out.still hu).still A4)
   have HX4 : Hid ((u.alloc (.cells (hcs x) cmT)).heap[u.heap.size]? = some (.cells (KC.f (cmE x)).toArray cmT (0, 0))) := hid (heap_alloc_new u _)
   have HB4 : Hid (w.heap.size <= (u.alloc (.cells (hcs x) cmT)).heap.size) := hid (by have := hu.size; simp; omega)
   have HKV3 := hid (boxed_still HKV.out hu)
   have HSu := hid hu
   clear A4 hu hu' HC
   go_wp2_with (
    at_builtin
    refine wpList_appG KC _ rfl _ _ _ rfl rfl 56 infoC (by omega) w.heap.size u.heap.size (.slice ao m cap) M (cmE x) rfl rfl HO4.out HX4.out HLn.out HB4.out ?_
    intro v' w' ho' hf'
    have HA := hid (app19 HKV3.out (by decide) HO3.out (by have := HSu.out.size; omega) (by omega) ho' hf')
    have HF0 : Hid (Boxed w' w.heap.size 3 (.int .i64 r)) := hid (hf'.kept (boxed_still (boxed_still HK0.out HSu.out) (Still.alloc u _)) (fun e => (boxed_still (boxed_still HK0.out HSu.out) (Still.alloc u (.cells (hcs x) cmT))).not_row (by decide) HO4.out e.symm))
    obtain ⟨g', cap', rfl, _, _⟩ := ho'.head (by simp)
    have k5 := HA.out.1
    have c5 := k5.cell
    have f5 := k5.frozen
    have HLE : Hid ((M ++ [cmE x]).length = M.length + 1) := hid (by simp)
    clear ho' hf' k5)
   refine ⟨rfl, ?_⟩
   obtain ⟨_, q2, q3, q4, q5⟩ := HA.out
   rw [HLE.out] at q2 q3 q4 q5
   have hb := (HSu.out.below.mono hz).trans q5
   refine ⟨HSu.out.others.trans q4, kpL_below hb hlt, ⟨⟨_, q2, ?_, trivial⟩, HF0.out.other (by omega) _⟩, HB.out.trans hb⟩
   rw [HT.out, <- HLE.out]
   rw [<- HLE.out] at q3
   exact q3
  ·have HT := hid (HTf.out hx)
   have hx' : decide (x.ms > r) = false := decide_eq_false hx
   clear HTt HTf HC
   gi_wp2_with fail
   refine round_all (fun ⟨_, _, h⟩ => False.elim h) (by kernel_rfl) (by kernel_rfl) (by kernel_rfl) ?_
   repeat (go_big_quiet_step (rfl))
   refine wpQuiet_nil ?_
   intro W1 h1
   have HS1 := hid h1
   clear h1 e1 e2 hne
   gi_wp2_with fail
   refine ⟨HS1.out.others, kpL_still HS1.out, ⟨⟨_, boxed_still HKV.out HS1.out, ?_, trivial⟩, boxed_still HK0.out HS1.out⟩, HB.out.trans (HS1.out.below.mono hz)⟩
   rw [HT.out, HM.out]
   have := HO.out.still HS1.out
   unfold OwG at this
   rw [HM.out] at this
   exact this
 case done =>
  rintro D W hD ⟨⟨⟨v, kv, ho, _⟩, _⟩, hB⟩ hK
  have ho1 : OwG KC cmT W w.heap.size v (misL r (s.S.take s.S.length)) := ho
  rw [List.take_of_length_le (Nat.le_refl _)] at ho1
  obtain ⟨ao2, cap2, rfl, _⟩ := ho1.slice
  have HO := hid ho1
  have HB := hid hB
  have c := kv.cell
  clear ho ho1 hB kv
  gi_wp2_with fail
  refine ⟨by simp, .inl ⟨_, _, rfl, run_takeDeferred hK, ?_⟩⟩
  exact ⟨_, results_tmp rfl _ _ _, .slice ao2 (misL r s.S).length cap2, rfl, ownsRow_putObj HO.out _ hK rfl, still_under (HB.out.trans (belowK_b (w := w) (Nat.le_refl _) W D _ _ (by omega) hK rfl rfl))⟩
 case stop =>
  rintro D k W hD hk hf hK
  exact hf.elim
theorem cm_missed_no (s : Lgs) (B p : Nat) (vs : Nat -> Value) (r : Int) (hr : inR r s.nr = false) (w : World) (h : Lm w B p s vs) : Calls Try.prog 13 #[.pointer (some ⟨p, 0, none⟩), .int .i64 r] w fun e w' => e = .returned (.slice none 0 0) /\ Still w w' := by
 have A0 := Still.alloc w (.cells #[.int .i64 r] 3)
 have HR := hid (cm_isRung s B p vs r _ (h.still A0))
 rw [hr] at HR
 have HS := hid A0
 clear h hr A0
 go_enter Try.func13, Try.ntmps13
 go_wp2_with fail
 refine HR.out.mono ?_
 rintro e w1 ⟨he, hw⟩
 rw [he, hw]
 clear he hw w1 HR
 go_wp2_with fail
 go_ret
 exact ⟨rfl, HS.out⟩
theorem cm_missed (s : Lgs) (B p : Nat) (vs : Nat -> Value) (r : Int) (w : World) (h : Lm w B p s vs) : Calls Try.prog 13 #[.pointer (some ⟨p, 0, none⟩), .int .i64 r] w fun e w' => ∃ v, e = .returned v /\ OwG KC cmT w' w.heap.size v (misA s r) /\ Still w w' := by
 cases hr : inR r s.nr with
 | true =>
  have := cm_missed_yes s B p vs r hr w h
  rw [show misA s r = misL r s.S by unfold misA; rw [hr]; rfl]
  exact this
 | false =>
  refine (cm_missed_no s B p vs r hr w h).mono ?_
  rintro e w' ⟨rfl, hs⟩
  rw [show misA s r = [] by unfold misA; rw [hr]; rfl]
  exact ⟨_, rfl, OwG.nil _ _, hs⟩
end Go.Proofs.Ytdmgalaajgebkaa
namespace Go.Proofs.Ytdmgalaajgebkaa
open Go Go.RowKit
set_option maxRecDepth 100000
attribute [local go_sem] Oper.semAt_some
section
variable {α : Type} {K : Kd α} {e : TypeId} {L : List α} {w w' : World}
theorem OwG.put19 {B g n cap : Nat} (h : OwG K e w B (.slice (some ⟨g, 0, none⟩) n cap) L) {i : Nat} (hi : i < L.length) (j : Nat) (hj : j < K.k) (u : Value) (x : α) (hx : K.f x = (K.f (L.getD i K.d)).set j u) : OwG K e (w.setCell ⟨g, i * K.k + j, none⟩ u) B (.slice (some ⟨g, 0, none⟩) n cap) (L.set i x) := by
 rcases h.2 with ⟨hv, _⟩ | ⟨g', cap', cur, hv, hb, hg, hn, hm, hs, ht⟩
 ·cases hv
 ·cases hv
  have hi2 : i * K.k + K.k <= L.length * K.k := by rw [<- Nat.succ_mul]; exact Nat.mul_le_mul_right _ hi
  have h1 := heap_setCell_same w g (i * K.k + j) cur e u hg
  refine ⟨by rw [K.row_len, List.length_set], .inr ⟨g, cap, _, by rw [List.length_set], hb, h1, by rw [List.length_set]; exact hn, hm, by rw [Array.size_setIfInBounds]; exact hs, ?_⟩⟩
  rw [List.length_set, Array.toList_setIfInBounds, List.take_set, ht]
  have e1 := K.row_set L i hi (L.getD i K.d)
  have e2 : L.set i (L.getD i K.d) = L := by
   rw [List.getD_eq_getElem?_getD, List.getElem?_eq_getElem hi, Option.getD_some, List.set_getElem_self]
  rw [e2] at e1
  rw [<- K.row_set L i hi x, hx]
  conv => lhs; rw [<- e1]
  have hl1 : ((K.row L).take (i * K.k)).length = i * K.k := by rw [List.length_take, K.row_len]; omega
  rw [List.set_append_right _ _ (by rw [hl1]; omega), hl1, List.set_append_left _ _ (by rw [K.len]; omega), show i * K.k + j - i * K.k = j by omega]
end
theorem cnt_cm (p : En -> Bool) (hp : ∀ x, p (cmE x) = p x) (S : List En) : (S.map cmE).countP p = S.countP p := by
 rw [List.countP_map]
 congr 1
 funext x
 exact hp x
theorem srt_cm {S : List En} : Srt (S.map cmE) ↔ Srt S := by
 unfold Srt
 rw [List.pairwise_map]
 exact Iff.rfl
theorem Lo.same {s : Lgs} (h : Lo s) {S' : List En} (e : S'.map cmE = s.S.map cmE) (hm : ∀ x ∈ S', 0 <= x.ms /\ x.ms < s.nr) : Lo { s with S := S' } := by
 have mem : ∀ x ∈ S', ∃ y ∈ s.S, cmE y = cmE x := fun x hx => by
  have : cmE x ∈ S'.map cmE := List.mem_map_of_mem hx
  rw [e] at this
  obtain ⟨y, hy, e2⟩ := List.mem_map.1 this
  exact ⟨y, hy, e2⟩
 refine ⟨h.p, h.r, h.b, ?_, fun x hx => ?_, fun x hx => ?_, hm, fun f p => ?_⟩
 ·exact srt_cm.1 (by show Srt (S'.map cmE); rw [e]; exact srt_cm.2 h.srt)
 ·obtain ⟨y, hy, e2⟩ := mem x hx
  have := h.fr y hy
  rw [show y.fr = x.fr from (congrArg En.fr e2 : (cmE y).fr = (cmE x).fr)] at this
  exact this
 ·obtain ⟨y, hy, e2⟩ := mem x hx
  have := h.pe y hy
  rw [show y.pe = x.pe from (congrArg En.pe e2 : (cmE y).pe = (cmE x).pe)] at this
  exact this
 ·have h1 := h.few f p
  rw [<- cnt_cm _ (fun x => rfl), <- e, cnt_cm _ (fun x => rfl)] at h1
  exact h1
theorem att_cm {S S' : List En} (e : S'.map cmE = S.map cmE) (k : Nat) : cmE (att S' k) = cmE (att S k) := by
 have h := congrArg (fun l : List En => l.getD k zE) e
 simp only [List.getD_eq_getElem?_getD, List.getElem?_map] at h
 unfold att
 rw [List.getD_eq_getElem?_getD, List.getD_eq_getElem?_getD]
 cases h1 : S'[k]? <;> cases h2 : S[k]? <;> simp [h1, h2] at h ⊢ <;> first | exact h | (rw [<- h]; rfl) | (rw [h]; rfl)
theorem low_cm {S S' : List En} (e : S'.map cmE = S.map cmE) (f : Int) : lowN f S' = lowN f S := by
 unfold lowN
 rw [<- cnt_cm _ (fun x => rfl), e, cnt_cm _ (fun x => rfl)]
theorem encL_cm {S S' : List En} (e : S'.map cmE = S.map cmE) (vs : Nat -> Value) (k : Nat) : encL vs S' k = encL vs S k := by
 have h := congrArg En.fr (att_cm e k)
 have h : (att S' k).fr = (att S k).fr := h
 unfold encL
 rw [h, low_cm e]
def stM (x : En) (m : Int) : En := ⟨x.fr, x.pe, x.se, x.vb, x.a, x.b, x.c, m⟩
theorem split_at {S : List En} {k : Nat} (hk : k < S.length) : S = S.take k ++ att S k :: S.drop (k + 1) := by
 have : att S k = S[k] := by unfold att; rw [List.getD_eq_getElem?_getD, List.getElem?_eq_getElem hk]; rfl
 rw [this, List.getElem_cons_drop, List.take_append_drop]
theorem set_at {S : List En} {k : Nat} (hk : k < S.length) (x : En) : S.set k x = S.take k ++ x :: S.drop (k + 1) := by
 rw [List.set_eq_take_append_cons_drop, if_pos hk]
theorem plc_in {S : List En} {k i : Nat} (hk : k < S.length) (hi : (att S k).fr % 112 = (i : Int)) (x : En) (hx : x.fr = (att S k).fr) : plc i (S.set k x) = (plc i S).set (plc i (S.take k)).length x /\ (plc i (S.take k)).length < (plc i S).length /\ att (plc i S) (plc i (S.take k)).length = att S k := by
 have e1 : plc i S = plc i (S.take k) ++ att S k :: plc i (S.drop (k + 1)) := by
  conv => lhs; rw [split_at hk]
  unfold plc
  rw [List.filter_append, List.filter_cons_of_pos (by simpa using hi)]
 have e2 : plc i (S.set k x) = plc i (S.take k) ++ x :: plc i (S.drop (k + 1)) := by
  rw [set_at hk]
  unfold plc
  rw [List.filter_append, List.filter_cons_of_pos (by rw [hx]; simpa using hi)]
 refine ⟨?_, ?_, ?_⟩
 ·rw [e2, e1, List.set_append_right _ _ (Nat.le_refl _), Nat.sub_self, List.set_cons_zero]
 ·rw [e1]; simp
 ·rw [e1]
  exact att_app_r (A := plc i (S.take k)) (B := att S k :: plc i (S.drop (k + 1))) (k := 0)
theorem plc_out {S : List En} {k i : Nat} (hk : k < S.length) (hi : (att S k).fr % 112 ≠ (i : Int)) (x : En) (hx : x.fr = (att S k).fr) : plc i (S.set k x) = plc i S := by
 conv => rhs; rw [split_at hk]
 rw [set_at hk]
 unfold plc
 rw [List.filter_append, List.filter_append, List.filter_cons_of_neg (by rw [hx]; simpa using hi), List.filter_cons_of_neg (by simpa using hi)]
theorem srt_inj {S : List En} (h : Srt S) {i j : Nat} (hi : i < S.length) (hj : j < S.length) (e : att S i = att S j) : i = j := by
 rcases Nat.lt_trichotomy i j with h1 | h1 | h1
 ·have := srt_at h i j h1 hj
  rw [e, kc_lt] at this
  omega
 ·exact h1
 ·have := srt_at h j i h1 hi
  rw [e, kc_lt] at this
  omega
theorem plc_srt {S : List En} (h : Srt S) (i : Nat) : Srt (plc i S) := List.Pairwise.sublist List.filter_sublist h
theorem set_cm {S : List En} {k : Nat} (hk : k < S.length) (m : Int) : (S.set k (stM (att S k) m)).map cmE = S.map cmE := by
 rw [set_at hk]
 conv => rhs; rw [split_at hk]
 rw [List.map_append, List.map_append, List.map_cons, List.map_cons]
 rfl
theorem Lm.setMs {w : World} {B p : Nat} {s : Lgs} {vs : Nat -> Value} (h : Lm w B p s vs) {k : Nat} (hk : k < s.S.length) (m : Int) (hm : 0 <= m /\ m < s.nr) {g j : Nat} (he : encL vs s.S k = .pointer (some ⟨g, j * 8, none⟩)) : Lm (w.setCell ⟨g, j * 8 + 7, none⟩ (.int .i64 m)) B p { s with S := s.S.set k (stM (att s.S k) m) } vs /\ Rw vs g := by
 obtain ⟨i, g', j', n, cap, hi, hf, hv, hj, ea, _, he'⟩ := h.ent hk
 rw [he] at he'
 injection he' with he'
 injection he' with he'
 injection he' with e1 e2 _
 obtain rfl : j' = j := by omega
 subst e1
 have hrw : Rw vs g := ⟨i, hi, by rw [hv]; rfl⟩
 have hfr : Fr (fun b => b = g) w (w.setCell ⟨g, j' * 8 + 7, none⟩ (.int .i64 m)) := (Fr.refl _ w).setCell _ _ (.inl rfl)
 have hpg : p ≠ g := fun e => h.pne (by rw [e]; exact hrw)
 obtain ⟨q1, q2, q3⟩ := plc_in hk hf (stM (att s.S k) m) rfl
 have ej : (plc i (s.S.take k)).length = j' := srt_inj (plc_srt h.ok.srt i) q2 hj (by rw [q3, ea])
 rw [ej] at q1
 refine ⟨⟨hfr.kept h.bk hpg, h.lo, fun i2 hi2 => ?_, h.sp, ?_⟩, hrw⟩
 ·by_cases e : i2 = i
  ·subst e
   show OwG KE enT _ B (vs i2) (plc i2 (s.S.set k (stM (att s.S k) m)))
   rw [q1, hv]
   have ho := h.ow i2 hi2
   rw [hv] at ho
   refine ho.put19 hj 7 (by decide) (.int .i64 m) _ ?_
   have : (plc i2 s.S).getD j' KE.d = att s.S k := ea
   rw [this]
   rfl
  ·show OwG KE enT _ B (vs i2) (plc i2 (s.S.set k (stM (att s.S k) m)))
   rw [plc_out hk (by omega) (stM (att s.S k) m) rfl]
   refine (h.ow i2 hi2).keep hfr (fun b hb e2 => ?_)
   subst hb
   exact h.sp i2 i hi2 hi e b e2 (by rw [hv]; rfl)
 ·refine h.ok.same (set_cm hk m) (fun x hx => ?_)
  rcases List.mem_or_eq_of_mem_set hx with h1 | h1
  ·exact h.ok.ms x h1
  ·rw [h1]; exact hm
def heE (r : Int) (x : En) : En := if x.ms <= r then stM x 0 else x
def heK (r : Int) (S : List En) (k : Nat) : List En := (S.take k).map (heE r) ++ S.drop k
theorem heE_cm (r : Int) (x : En) : cmE (heE r x) = cmE x := by unfold heE; split <;> rfl
theorem heK_cm (r : Int) (S : List En) (k : Nat) : (heK r S k).map cmE = S.map cmE := by
 unfold heK
 rw [List.map_append, List.map_map, show cmE ∘ heE r = cmE from funext (heE_cm r), <- List.map_append, List.take_append_drop]
theorem heK_len (r : Int) (S : List En) (k : Nat) : (heK r S k).length = S.length := by
 have := congrArg List.length (heK_cm r S k)
 simpa using this
theorem heK_att (r : Int) {S : List En} {k : Nat} (hk : k < S.length) : att (heK r S k) k = att S k := by
 unfold heK
 have hl : ((S.take k).map (heE r)).length = k := by simp; omega
 have := att_app_r (A := (S.take k).map (heE r)) (B := S.drop k) (k := 0)
 rw [hl, Nat.add_zero] at this
 rw [this]
 unfold att
 rw [List.getD_eq_getElem?_getD, List.getD_eq_getElem?_getD, List.getElem?_drop]
 rfl
theorem heK_next (r : Int) {S : List En} {k : Nat} (hk : k < S.length) : heK r S (k + 1) = (heK r S k).set k (heE r (att S k)) := by
 unfold heK
 have hl : ((S.take k).map (heE r)).length = k := by simp; omega
 rw [List.set_append_right _ _ (by omega), hl, Nat.sub_self, take_next hk, List.map_append, List.append_assoc]
 congr 1
 have : S.drop k = att S k :: S.drop (k + 1) := by
  rw [List.drop_eq_getElem_cons hk]
  congr 1
  unfold att; rw [List.getD_eq_getElem?_getD, List.getElem?_eq_getElem hk]; rfl
 rw [this, List.set_cons_zero]
 rfl
theorem heK_all (r : Int) (S : List En) : heK r S S.length = S.map (heE r) := by
 unfold heK
 rw [List.take_of_length_le (Nat.le_refl _), List.drop_eq_nil_of_le (Nat.le_refl _), List.append_nil]
theorem set_self {S : List En} {k : Nat} (hk : k < S.length) : S.set k (att S k) = S := by
 have : att S k = S[k] := by unfold att; rw [List.getD_eq_getElem?_getD, List.getElem?_eq_getElem hk]; rfl
 rw [this, List.set_getElem_self]
def heA (s : Lgs) (r : Int) : Lgs := { s with S := if inR r s.nr then s.S.map (heE r) else s.S }
theorem Fr.grown19 {X Y : World} {row : Option Nat} (hg : X.grownBy Y row) : Fr (fun k => row = some k) X Y := ⟨hg.os, hg.tape, hg.output, hg.size, fun k hk hn => hg.block k hk (fun e => hn e.symm)⟩
theorem Lm.grown {X Y : World} {B p : Nat} {s : Lgs} {vs : Nat -> Value} {row : Option Nat} (h : Lm X B p s vs) (hg : X.grownBy Y row) (hr : ∀ r, row = some r -> ∃ o : Obj, X.heap[r]? = some o /\ o.isCells = false) : Lm Y B p s vs := by
 refine h.keep (Fr.grown19 hg) (fun e => ?_) (fun k e hk => ?_)
 ·obtain ⟨o, ho, hc⟩ := hr p e
  rw [h.bk] at ho
  cases ho
  cases hc
 ·obtain ⟨o, ho, hc⟩ := hr k e
  obtain ⟨i, hi, ek⟩ := hk
  rcases (h.ow i hi).2 with ⟨hv, _⟩ | ⟨g, cap, cur, hv, _, hgb, _⟩
  ·rw [hv] at ek; cases ek
  ·rw [hv] at ek
   simp only [Value.ownBlock, Option.some.injEq] at ek
   subst ek
   rw [hgb] at ho
   cases ho
   cases hc
theorem fr_grown {F : Nat -> Prop} {w X Y : World} {row : Option Nat} (h : Fr F w X) (hg : X.grownBy Y row) (hr : ∀ r, row = some r -> w.heap.size <= r) : Fr F w Y :=
 Fr.trans h (Fr.grown19 hg) (fun k hk e => by have := hr k e; omega)
set_option maxHeartbeats 4000000 in
theorem cm_heal_yes (s : Lgs) (B p : Nat) (vs : Nat -> Value) (r : Int) (hr : inR r s.nr = true) (w : World) (h : Lm w B p s vs) : Calls Try.prog 16 #[.pointer (some ⟨p, 0, none⟩), .int .i64 r] w fun e w' => e = .returned (.tuple #[]) /\ Lm w' B p { s with S := s.S.map (heE r) } vs /\ Fr (Rw vs) w w' := by
 have HL := hid h
 have hlt := h.lt
 have hnr := h.ok.r
 have A0 := Still.alloc w (.cells #[.int .i64 r] 3)
 have HR := hid (cm_isRung s B p vs r _ (h.still A0))
 rw [hr] at HR
 have b0 := Boxed.new w 3 (.int .i64 r)
 have HE0 : Hid (heK r s.S 0 = s.S) := hid (by simp [heK])
 clear h hr
 refine (callsIn_wide (n := 0)).1 ?_
 refine callsIn_of_wp_marks Try.func16 rfl trivial ?_ rfl
 simp only [Try.ntmps16, List.size_toArray, List.length_cons, List.length_nil, Nat.reduceAdd, Nat.reduceSub, Array.replicate_succ, Array.replicate_zero, List.push_toArray, List.append_toArray, List.nil_append, List.cons_append]
 gi_wp2_with fail
 refine ⟨trivial, rfl, (callsIn_wide.2 HR.out).mono ?_⟩
 rintro e w1 ⟨he, hw⟩
 rw [he, hw]
 clear he hw w1 HR
 gi_wp2_with fail
 have hsz : (w.alloc (.cells #[.int .i64 r] 3)).heap.size = w.heap.size + 1 := by simp
 obtain ⟨V, eV⟩ : ∃ V, w.alloc (.cells #[.int .i64 r] 3) = V := ⟨_, rfl⟩
 rw [eV] at b0 A0 hsz ⊢
 clear eV
 refine range_n rfl enters_ent (cm_entries s B p vs _ (HL.out.still A0)) kpL_t (kpL_b (by omega)) (Below.refl _ _) rfl
  (fun k W => Lm W B p { s with S := heK r s.S k } vs /\ Boxed W w.heap.size 3 (.int .i64 r) /\ Fr (Rw vs) w W) (fun _ _ => False)
  (fun k X Y row hs hg hr => ⟨hs.1.grown hg (fun r e => (hr r e).2), boxed_row19 hs.2.1 hg hr, fr_grown hs.2.2 hg (fun r e => by have := (hr r e).1; omega)⟩) (fun _ _ _ _ hs _ _ => hs.elim)
  ⟨by rw [HE0.out]; exact HL.out.still A0, b0, A0.mono (fun _ _ e => e.elim)⟩
  (fun k => { tmps := #[.pointer (some ⟨p, 0, none⟩), .int .i64 r, undef, .pointer (some ⟨w.heap.size, 0, none⟩), encL vs s.S k, .pointer (some ⟨p, 0, none⟩), .int .i64 r, .bool true, .bool false, .pointer (some ⟨p, 0, none⟩), .func (.func 34) #[.pointer (some ⟨p, 0, none⟩)] #[], encL vs s.S k, undef, undef, undef, undef, undef, undef, undef, undef, undef], defers := [] }) ?assign ?body ?done ?stop
 case assign =>
  intro l x W K hK
  gi_wp2_with fail
  simpa using hK
 case body =>
  rintro l k W hk ⟨hL, k0, hF⟩
  have hk' : k < (heK r s.S k).length := by rw [heK_len]; exact hk
  obtain ⟨g, j, he, hg, _, _, _, _, _, _, _, c7, fz⟩ := hL.entry (k := k) hk'
  have HE := hid he
  rw [show encL vs ({ s with S := heK r s.S k } : Lgs).S k = encL vs s.S k from encL_cm (heK_cm r s.S k) vs k] at he
  rw [he]
  have ea : att ({ s with S := heK r s.S k } : Lgs).S k = att s.S k := heK_att r hk
  rw [ea] at c7
  have HN := hid (heK_next r hk)
  have HSf := hid (set_self hk')
  have HA := hid ea
  obtain ⟨x, ex⟩ : ∃ x, att s.S k = x := ⟨_, rfl⟩
  rw [ex] at c7 HN HA
  have e1 := Cl.cell k0.cell
  have e2 := Cl.cell c7
  have hne := Aft.here W
  have HL2 := hid hL
  have HK0 := hid k0
  have HF := hid hF
  have hgz : g < W.heap.size := (hL.rlt g hg).2
  have hgp : p ≠ g := fun e => hL.pne (by rw [e]; exact hg)
  have hgw : w.heap.size ≠ g := fun e => by
   have := (HL.out.rlt g hg).2
   omega
  have HG := hid hg
  have HZ := hid hF.size
  clear hL hF ex he k0 c7 hk' ea hg
  by_cases hx : x.ms <= r
  ·have HT : Hid (heK r s.S (k + 1) = (heK r s.S k).set k (stM (att (heK r s.S k) k) 0)) := hid (by rw [HN.out, show att (heK r s.S k) k = x from HA.out]; unfold heE; rw [if_pos hx])
   clear HN
   gi_wp2_with fail
   refine round_all (fun ⟨_, _, h⟩ => False.elim h) (by kernel_rfl) (by kernel_rfl) (by kernel_rfl) ?_
   repeat (go_big_quiet_step (rfl))
   refine wpQuiet_nil ?_
   intro W1 h1
   have HS1 := hid h1
   have hk2 : k < ({ s with S := heK r s.S k } : Lgs).S.length := by rw [show ({ s with S := heK r s.S k } : Lgs).S.length = s.S.length from heK_len r s.S k]; exact hk
   obtain ⟨g2, j2, he2, _, _, _, _, _, _, _, _, c7, fz2⟩ := (HL2.out.still h1).entry (k := k) hk2
   have he3 := he2
   rw [HE.out] at he3
   injection he3 with he3
   injection he3 with he3
   injection he3 with e4 e5 _
   obtain rfl : j = j2 := by omega
   subst e4
   have HM := hid ((HL2.out.still h1).setMs (k := k) hk2 0 (by show (0 : Int) <= 0 /\ 0 < s.nr; omega) he2)
   clear h1 e1 e2 hne he2 e5 fz hk2
   gi_wp2_with fail
   refine ⟨HS1.out.others.trans (KeepsOthers.setCell _ _ _), kpL_t (kpL_still HS1.out) (kpL_set hgp), ?_, (heap_setCell_other W1 _ _ _ hgw).trans (boxed_still HK0.out HS1.out), ?_⟩
   ·rw [HT.out]
    exact HM.out.1
   ·exact (Fr.trans HF.out HS1.out (fun _ _ e => e.elim)).setCell _ _ (.inl HG.out)
  ·have HT : Hid (heK r s.S (k + 1) = heK r s.S k) := hid (by rw [HN.out]; unfold heE; rw [if_neg hx, <- HA.out]; exact HSf.out)
   clear HN
   gi_wp2_with fail
   refine round_all (fun ⟨_, _, h⟩ => False.elim h) (by kernel_rfl) (by kernel_rfl) (by kernel_rfl) ?_
   repeat (go_big_quiet_step (rfl))
   refine wpQuiet_nil ?_
   intro W1 h1
   have HS1 := hid h1
   clear h1 e1 e2 hne
   gi_wp2_with fail
   refine ⟨HS1.out.others, kpL_still HS1.out, ?_, boxed_still HK0.out HS1.out, Fr.trans HF.out HS1.out (fun _ _ e => e.elim)⟩
   rw [HT.out]
   exact HL2.out.still HS1.out
 case done =>
  rintro D W hD ⟨hL, k0, hF⟩ hK
  rw [heK_all] at hL
  gi_wp2_with fail
  refine ⟨by simp, .inl ⟨_, _, rfl, run_takeDeferred hK, ?_⟩⟩
  exact ⟨_, results_none rfl _ _ _, rfl, hL.grown (grownBy_putObj' W D (.deferred none)) (fun r e => by cases e; exact ⟨_, hK, rfl⟩), fr_grown hF (grownBy_putObj' W D (.deferred none)) (fun r e => by cases e; omega)⟩
 case stop =>
  rintro D k W hD hk hf hK
  exact hf.elim
theorem cm_heal_no (s : Lgs) (B p : Nat) (vs : Nat -> Value) (r : Int) (hr : inR r s.nr = false) (w : World) (h : Lm w B p s vs) : Calls Try.prog 16 #[.pointer (some ⟨p, 0, none⟩), .int .i64 r] w fun e w' => e = .returned (.tuple #[]) /\ Still w w' := by
 have A0 := Still.alloc w (.cells #[.int .i64 r] 3)
 have HR := hid (cm_isRung s B p vs r _ (h.still A0))
 rw [hr] at HR
 have HS := hid A0
 clear h hr A0
 go_enter Try.func16, Try.ntmps16
 go_wp2_with fail
 refine HR.out.mono ?_
 rintro e w1 ⟨he, hw⟩
 rw [he, hw]
 clear he hw w1 HR
 go_wp2_with fail
 refine bodyPost_ret (results_none rfl _ _ _) rfl ?_
 exact ⟨rfl, HS.out⟩
theorem cm_heal (s : Lgs) (B p : Nat) (vs : Nat -> Value) (r : Int) (w : World) (h : Lm w B p s vs) : Calls Try.prog 16 #[.pointer (some ⟨p, 0, none⟩), .int .i64 r] w fun e w' => e = .returned (.tuple #[]) /\ Lm w' B p (heA s r) vs /\ Fr (Rw vs) w w' := by
 cases hr : inR r s.nr with
 | true =>
  rw [show heA s r = { s with S := s.S.map (heE r) } by unfold heA; rw [hr]; rfl]
  exact cm_heal_yes s B p vs r hr w h
 | false =>
  refine (cm_heal_no s B p vs r hr w h).mono ?_
  rintro e w' ⟨rfl, hs⟩
  rw [show heA s r = s by unfold heA; rw [hr]; rfl]
  exact ⟨rfl, h.still hs, hs.mono (fun _ _ e => e.elim)⟩
end Go.Proofs.Ytdmgalaajgebkaa
namespace Go.Proofs.Ytdmgalaajgebkaa
open Go.RowKit
set_option maxRecDepth 100000
theorem cntF_on (f p : Int) (S : List En) : (onF f S).countP (fun x => decide (x.pe = p)) = cntF f p S := by
 unfold onF cntF
 rw [List.countP_filter]
 congr 1
 funext x
 rw [<- Bool.decide_and]
 exact decide_eq_decide.2 (by omega)
theorem cnt_take {p : En -> Bool} {L : List En} {k : Nat} (hk : k < L.length) : (L.take (k + 1)).countP p = (L.take k).countP p + (if p (att L k) then 1 else 0) := by
 rw [take_next hk, List.countP_append, List.countP_cons, List.countP_nil, Nat.zero_add]
set_option maxHeartbeats 2000000 in
theorem cm_count (s : Lgs) (B p : Nat) (vs : Nat -> Value) (f a : Int) (w : World) (h : Lm w B p s vs) : Calls Try.prog 19 #[.pointer (some ⟨p, 0, none⟩), .int .i64 f, .int .i64 a] w fun e w' => e = .returned (.int .i64 (cntF f a s.S : Int)) /\ Still w w' := by
 have H := hid (cm_on s B p vs f w h)
 have hn := on_len h.ok f
 have HE := hid (cntF_on f a s.S)
 obtain ⟨L, eL⟩ : ∃ L, onF f s.S = L := ⟨_, rfl⟩
 rw [eL] at H hn HE
 clear h eL
 go_enter Try.func19, Try.ntmps19
 go_wp2_with fail
 refine H.out.mono ?_
 rintro e w1 ⟨v, he, ho, hs⟩
 rw [he]
 obtain ⟨ao, cap, ev', _⟩ := ho.slice
 subst ev'
 have HS1 := hid hs
 have HO := hid (ho.still hs)
 obtain ⟨n, en⟩ : ∃ n, L.length = n := ⟨_, rfl⟩
 have HN := hid en
 have HR : Hid (RdG KE w1 ao L.length L) := hid (OwG.rd (M := []) (by rw [List.append_nil]; exact ho.still hs) (by omega))
 rw [en] at HO hn HR ⊢
 clear he ho hs H en
 go_wp2_with fail
 go_loopw [14, 7] (fun u v wr => ∃ k : Nat, k <= n /\ u = .int .i64 (k : Int) /\ v = .int .i64 (((L.take k).countP fun x => decide (x.pe = a) : Nat) : Int) /\ Hid (Still w1 wr)) (fun u v _ => n - (intOf u).toNat)
 case atStart => exact ⟨0, by omega, rfl, rfl, hid (Fr.refl _ _)⟩
 case round =>
  obtain ⟨k, hk, rfl, rfl, HK⟩ := hrel
  have hcl : (L.take k).countP (fun x => decide (x.pe = a)) <= k := Nat.le_trans List.countP_le_length (by simp; omega)
  by_cases hkn : k < n
  ·have hlt : (k : Int) < (n : Int) := by omega
   obtain ⟨g, o, rfl⟩ := HR.out.at (by omega)
   obtain ⟨c0, c1, c2, c3, c4, c5, c6, c7⟩ := rdE (HR.out.still HK.out) hkn
   have HC := hid (cnt_take (p := fun x => decide (x.pe = a)) (L := L) (k := k) (by have := HN.out; omega))
   obtain ⟨x, ex⟩ : ∃ x, att L k = x := ⟨_, rfl⟩
   rw [ex] at c0 c1 c2 c3 c4 c5 c6 c7 HC
   obtain ⟨m, em⟩ : ∃ m, (L.take k).countP (fun x => decide (x.pe = a)) = m := ⟨_, rfl⟩
   rw [em] at HC hcl ⊢
   have A1 := Still.alloc wr (.cells (ecs x) enT)
   obtain ⟨d0, d1, d2, d3, d4, d5, d6, d7, df⟩ := (newE_eb wr x).cells
   have HS2 := hid (HK.out.trans A1)
   clear A1 HK ex em
   by_cases hx : x.pe = a
   ·have d : (x.pe == a) = true := beq_iff_eq.2 hx
    have HC2 : Hid ((L.take (k + 1)).countP (fun x => decide (x.pe = a)) = m + 1) := hid (by rw [HC.out, if_pos (by simpa using hx)])
    have hmw : (m : Int) < 9223372036854775807 := by omega
    clear hx HC
    go_wp2_with fail
    go_roundw
    case rel => exact ⟨k + 1, by omega, by go_num, by rw [HC2.out]; go_num, HS2⟩
    case measure => simp [intOf]; omega
   ·have d : (x.pe == a) = false := beq_eq_false_iff_ne.2 hx
    have HC2 : Hid ((L.take (k + 1)).countP (fun x => decide (x.pe = a)) = m) := hid (by rw [HC.out, if_neg (by simpa using hx)]; rfl)
    clear hx HC
    go_wp2_with fail
    go_roundw
    case rel => exact ⟨k + 1, by omega, by go_num, by rw [HC2.out], HS2⟩
    case measure => simp [intOf]; omega
  ·have hge : ¬ (k : Int) < (n : Int) := by omega
   have HF : Hid ((L.take k).countP (fun x => decide (x.pe = a)) = cntF f a s.S) := hid (by rw [List.take_of_length_le (by have := HN.out; omega), HE.out])
   have HS2 := hid (HS1.out.trans HK.out)
   clear HK
   go_wp2_with fail
   go_ret
   exact ⟨by rw [<- HF.out]; rfl, HS2.out⟩
theorem OwG.none19 (w : World) : OwG KE enT (w.alloc (.cells #[] enT)) w.heap.size (.slice (some ⟨w.heap.size, 0, none⟩) 0 0) [] := by
 have := World.ownsRow_lit (base := w.heap.size) (e := enT) (size := KE.k) w #[] 0 (Nat.le_refl _) (by unfold maxLen; omega) (by simp)
 exact this
theorem cm_clone (L : List En) (B : Nat) (v : Value) (hl : L.length <= 4096) (w : World) (ho : OwG KE enT w B v L) : Calls Try.prog 42 #[v] w fun e w' => ∃ v', e = .returned v' /\ OwG KE enT w' w.heap.size v' L /\ Still w w' := by
 have hnil := fun (W : World) ao n cap => Lib.run_eql_slice_nil (P := Try.prog) W 40 enT ao n cap 0 0 Try.underlying40
 rcases ho.2 with ⟨rfl, h0⟩ | ⟨g, cap, cur, rfl, hb, hg, hn, hm, hs, ht⟩
 ·obtain rfl : L = [] := List.eq_nil_of_length_eq_zero h0
  clear ho h0
  go_enter Try.func42, Try.ntmps42
  go_wp2_with fail
  go_ret
  exact ⟨_, rfl, OwG.nil _ _, Fr.refl _ _⟩
 ·have A1 := Still.alloc w (.cells #[] enT)
  have HO1 := hid (OwG.none19 w)
  have HS1 := hid A1
  have HNW := hid (World.ownsRow.cells (ho.still A1) (g := g) rfl)
  obtain ⟨i, hi, hz, h1, h2⟩ := infoE
  have HI := hid (And.intro hi (And.intro hz (And.intro h1 h2)))
  have HL := hid (show 0 + L.length <= maxLen /\ (0 + L.length) * 64 <= 140737488355328 from ⟨by unfold maxLen; omega, by omega⟩)
  have HB := hid (show w.heap.size <= (w.alloc (.cells #[] enT)).heap.size by simp)
  clear ho A1 hb hg hn hm hs ht hi hz h1 h2
  go_enter Try.func42, Try.ntmps42
  go_wp2_with (at_builtin; refine wpList_append_own (P := Try.prog) _ rfl _ _ _ rfl w.heap.size enT i (.agg (KE.f KE.d).toArray) KE.k 64 rfl HI.out.1 HI.out.2.1 HI.out.2.2.1 HI.out.2.2.2 (by simp [Value.cells, KE.len]) KE.pos (.slice (some ⟨w.heap.size, 0, none⟩) 0 0) 0 [] rfl HO1.out ⟨g, 0, none⟩ L.length cap (KE.row L) rfl (by rw [KE.row_len]) HNW.out (KE.row_one L) HL.out.1 HL.out.2 HB.out ?_; intro v' w' hown hgr _)
  have ho2 : OwG KE enT w' w.heap.size v' L := by
   unfold OwG
   rw [Nat.zero_add, List.nil_append] at hown
   exact hown
  have HO2 := hid ho2
  have HS2 : Hid (Still w w') := hid (Fr.trans HS1.out (F := fun _ => False) (G := fun k => k = w.heap.size) ⟨hgr.os, hgr.tape, hgr.output, hgr.size, fun k hk hn => hgr.block k hk (fun e => hn (by simpa [Value.ownBlock] using e))⟩ (fun k hk e => by omega))
  obtain ⟨ao2, cap2, e2, _⟩ := ho2.slice
  subst e2
  clear hown hgr ho2
  go_ret
  exact ⟨_, rfl, HO2.out, HS2.out⟩
theorem cm_At (s : Lgs) (B p : Nat) (vs : Nat -> Value) (f : Int) (w : World) (h : Lm w B p s vs) : Calls Try.prog 26 #[.pointer (some ⟨p, 0, none⟩), .int .i64 f] w fun e w' => ∃ v, e = .returned v /\ OwG KE enT w' w.heap.size v (onF f s.S) /\ Still w w' := by
 have H := hid (cm_on s B p vs f w h)
 have hn := on_len h.ok f
 obtain ⟨L, eL⟩ : ∃ L, onF f s.S = L := ⟨_, rfl⟩
 rw [eL] at H hn ⊢
 clear h eL
 go_enter Try.func26, Try.ntmps26
 go_wp2_with fail
 refine H.out.mono ?_
 rintro e w1 ⟨v, he, ho, hs⟩
 rw [he]
 have HC := hid (cm_clone L B v (by omega) w1 (ho.still hs))
 have HS := hid hs
 obtain ⟨ao, cap, ev', _⟩ := ho.slice
 subst ev'
 clear he ho hs H
 go_wp2_with fail
 refine HC.out.mono ?_
 rintro e w2 ⟨v2, he, ho, hs⟩
 rw [he]
 have HO := hid (ho.less HS.out.size)
 have HS2 := hid (HS.out.trans hs)
 obtain ⟨ao2, cap2, ev2, _⟩ := ho.slice
 subst ev2
 clear he ho hs HC
 go_wp2_with fail
 go_ret
 exact ⟨_, rfl, HO.out, HS2.out⟩
end Go.Proofs.Ytdmgalaajgebkaa
namespace Go.Proofs.Ytdmgalaajgebkaa
open Go.RowKit
set_option maxRecDepth 100000
theorem ring_cut (w : World) (p i : Nat) (hi : i < 112) : (Instr.sliceAt 73 (.pointer (some ⟨p, 3, none⟩)) (some (.int .i64 (i : Int))) (some (.int .i64 ((i : Int) + 1))) none).run Try.prog w = .ok (.slice (some ⟨p, 3 + i, none⟩) 1 (112 - i)) w := by
 have hal : Try.prog.arrayLen 73 = 112 := by kernel_rfl
 have hel : Try.prog.elem 73 = 40 := by kernel_rfl
 have hu : Try.prog.underlying 73 = some (.array (Try.prog.arrayLen 73) (Try.prog.elem 73)) := by kernel_rfl
 rw [run_sliceAt_array_lh w 73 ⟨p, 3, none⟩ hu .i64 .i64 (i : Int) ((i : Int) + 1) (by omega) (by omega) (by rw [hal]; omega), hel, hal]
 have hs : (sizeOf 40).run Try.prog w = .ok 1 w := by kernel_rfl
 rw [hs]
 have h1 : ((i : Int) + 1).toNat = i + 1 := by omega
 simp only [Result.andThen_ok, Int.toNat_natCast, h1]
 unfold slicedAt
 simp [add_plain]
 omega
theorem ring_clear (w : World) (ty : TypeId) (p i c : Nat) (cs : Array Value) (hb : w.heap[p]? = some (.cells cs lgT (0, 0))) (hi : 3 + i < cs.size) : (Builtin.clear_ #[87] ty #[.slice (some ⟨p, 3 + i, none⟩) 1 c]).run Try.prog w = .ok (.tuple #[]) (w.setCell ⟨p, 3 + i, none⟩ (.slice none 0 0)) := by
 have := Lib.run_clear_slice (P := Try.prog) w 87 40 ty (.slice none 0 0) (by kernel_rfl) (fun w => by kernel_rfl) (by kernel_rfl) rfl p (3 + i) 1 c (by omega) (fun j hj => by
  obtain rfl : j = 0 := by omega
  rw [Nat.add_zero, cell_of_row _ _ _ _ _ _ hb, Array.getElem?_eq_getElem hi]
  rfl) (fun j hj => frozen_of_row w p _ _ _ hb)
 exact this
theorem cm_forget (s : Lgs) (p : Nat) (vs : Nat -> Value) (f : Int) (i n cap : Nat) (ao : Option Addr) (hf : 0 <= f /\ f <= 9223372036854775807) (hi : f % 112 = (i : Int)) (hv : vs i = .slice ao n cap) (w : World) (hb : w.heap[p]? = some (.cells (lcs s vs) lgT (0, 0))) : Calls Try.prog 45 #[.pointer (some ⟨p, 3, none⟩), .int .i64 f] w fun e w' => e = .returned (.int .i64 (n : Int)) /\ w' = w.setCell ⟨p, 3 + i, none⟩ (.slice none 0 0) := by
 have hil : i < 112 := by omega
 have H := hid (fun w => cm_place f hf w)
 rw [hi] at H
 have c0 : w.cell? ⟨p, 3 + i, none⟩ = some (.slice ao n cap) := by rw [cell_of_row _ _ _ _ _ _ hb, lcs_at _ _ hil, hv]
 have h1 : (0 : Int) <= (i : Int) := by omega
 have h2 : (i : Int) < 112 := by omega
 have hcut := fun w => ring_cut w p i hil
 have hclr := fun ty => ring_clear w ty p i (112 - i) (lcs s vs) hb (by rw [lcs_size]; omega)
 clear hi hf hv hb
 go_enter Try.func45, Try.ntmps45
 go_wp2_with fail
 refine (H.out _).mono ?_
 rintro e w2 ⟨he, hw⟩
 rw [he, hw]
 clear he hw w2 H
 go_wp2_with fail
 go_ret
 exact ⟨rfl, rfl⟩
def offI (b : Int) (i : Nat) : Int := ((i : Int) - (b + 1)) % 112
def purV (b : Int) (j : Nat) (vs : Nat -> Value) : Nat -> Value := fun i => if offI b i < (j : Int) then .slice none 0 0 else vs i
theorem purV_zero (b : Int) (vs : Nat -> Value) : purV b 0 vs = vs := by
 funext i
 unfold purV offI
 rw [if_neg (by omega)]
theorem purV_next (b : Int) (vs : Nat -> Value) {j i : Nat} (hj : j < 112) (hi : (b + 1 + (j : Int)) % 112 = (i : Int)) : ∀ t, t < 112 -> upV (purV b j vs) i (.slice none 0 0) t = purV b (j + 1) vs t := by
 intro t ht
 unfold upV purV offI
 by_cases e : t = i
 ·subst e
  rw [if_pos rfl, if_pos (by omega)]
 ·rw [if_neg e]
  by_cases h : ((t : Int) - (b + 1)) % 112 < (j : Int)
  ·rw [if_pos h, if_pos (by omega)]
  ·rw [if_neg h, if_neg (by omega)]
theorem lcs_congr (s : Lgs) {vs vs' : Nat -> Value} (h : ∀ t, t < 112 -> vs t = vs' t) : lcs s vs = lcs s vs' := by
 unfold lcs
 congr 4
 exact List.map_congr_left (fun t ht => h t (List.mem_range.1 ht))
theorem purV_at (b : Int) (vs : Nat -> Value) {j i : Nat} (hj : j < 112) (hi : (b + 1 + (j : Int)) % 112 = (i : Int)) : purV b j vs i = vs i := by
 unfold purV offI
 rw [if_neg (by omega)]
def puS (f : Int) (S : List En) : List En := S.filter fun x => decide (f < x.fr)
def puN (f : Int) (S : List En) : Nat := S.countP fun x => decide (x.fr <= f)
def puB (s : Lgs) (f : Int) : Bool := decide (s.ba < f /\ f <= 1099511627776)
def puA (s : Lgs) (f : Int) : Lgs := if puB s f then ⟨s.np, s.nr, f, puS f s.S⟩ else s
def puR (s : Lgs) (f : Int) : Nat := if puB s f then puN f s.S else 0
theorem lo_pur {s : Lgs} (h : Lo s) {f : Int} (hf : s.ba < f /\ f <= 1099511627776) : Lo ⟨s.np, s.nr, f, puS f s.S⟩ := by
 have hb := h.b
 refine ⟨h.p, h.r, ⟨?_, hf.2⟩, List.Pairwise.sublist List.filter_sublist h.srt, fun x hx => ?_, fun x hx => h.pe x (List.mem_filter.1 hx).1, fun x hx => h.ms x (List.mem_filter.1 hx).1, fun f' p => ?_⟩
 ·show 0 <= f; omega
 ·have h1 := List.mem_filter.1 hx
  have h2 := h.fr x h1.1
  have h3 : f < x.fr := of_decide_eq_true h1.2
  show f < x.fr /\ x.fr <= f + 112
  omega
 ·exact Nat.le_trans (List.Sublist.countP_le List.filter_sublist) (h.few f' p)
theorem plc_pur {s : Lgs} (h : Lo s) {f : Int} (hf : s.ba < f) {j : Nat} (hj : j <= 112) (hjf : s.ba + (j : Int) = f \/ (j = 112 /\ s.ba + 112 <= f)) {i : Nat} : plc i (puS f s.S) = if offI s.ba i < (j : Int) then [] else plc i s.S := by
 have hb := h.b
 unfold plc puS offI
 rw [List.filter_filter]
 by_cases h1 : ((i : Int) - (s.ba + 1)) % 112 < (j : Int)
 ·rw [if_pos h1, List.filter_eq_nil_iff]
  intro x hx
  have := h.fr x hx
  simp only [Bool.and_eq_true, decide_eq_true_eq]
  omega
 ·rw [if_neg h1]
  apply List.filter_congr
  intro x hx
  have := h.fr x hx
  rw [<- Bool.decide_and]
  exact decide_eq_decide.2 (by omega)
theorem puN_low {s : Lgs} (h : Lo s) {f : Int} {j : Nat} (hjf : s.ba + (j : Int) = f \/ (j = 112 /\ s.ba + 112 <= f)) : lowN (s.ba + 1 + (j : Int)) s.S = puN f s.S := by
 unfold lowN puN
 apply List.countP_congr
 intro x hx
 have := h.fr x hx
 simp only [decide_eq_true_eq]
 omega
theorem Lm.pur {w w' : World} {B p : Nat} {s : Lgs} {vs : Nat -> Value} (h : Lm w B p s vs) {f : Int} (hf : s.ba < f /\ f <= 1099511627776) {j : Nat} (hj : j <= 112) (hjf : s.ba + (j : Int) = f \/ (j = 112 /\ s.ba + 112 <= f)) (hb : w'.heap[p]? = some (.cells (lcs ⟨s.np, s.nr, f, puS f s.S⟩ (purV s.ba j vs)) lgT (0, 0))) (hfr : Fr (fun k => k = p) w w') : Lm w' B p ⟨s.np, s.nr, f, puS f s.S⟩ (purV s.ba j vs) /\ ∀ k, Rw (purV s.ba j vs) k -> Rw vs k := by
 have hsub : ∀ i k, (purV s.ba j vs i).ownBlock = some k -> (vs i).ownBlock = some k := fun i k e => by
  unfold purV at e
  split at e
  ·cases e
  ·exact e
 refine ⟨⟨hb, h.lo, fun i hi => ?_, fun i i' hi hi' hne k e1 e2 => h.sp i i' hi hi' hne k (hsub i k e1) (hsub i' k e2), lo_pur h.ok hf⟩, fun k ⟨i, hi, e⟩ => ⟨i, hi, hsub i k e⟩⟩
 show OwG KE enT w' B (purV s.ba j vs i) (plc i (puS f s.S))
 rw [plc_pur h.ok hf.1 hj hjf]
 unfold purV
 split
 ·exact OwG.nil _ _
 ·exact (h.ow i hi).keep hfr (fun k hk e => by subst hk; exact h.pne ⟨i, hi, e⟩)
set_option maxHeartbeats 2000000 in
theorem cm_purge_yes (s : Lgs) (B p : Nat) (vs : Nat -> Value) (f : Int) (hf : s.ba < f /\ f <= 1099511627776) (w : World) (h : Lm w B p s vs) : Calls Try.prog 32 #[.pointer (some ⟨p, 0, none⟩), .int .i64 f] w fun e w' => e = .returned (.int .i64 (puN f s.S : Int)) /\ (∃ vs', Lm w' B p ⟨s.np, s.nr, f, puS f s.S⟩ vs' /\ ∀ k, Rw vs' k -> Rw vs k) /\ Fr (fun k => k = p) w w' := by
 obtain ⟨_, _, c0, _⟩ := h.cell
 have HL := hid h
 have hb := h.ok.b
 obtain ⟨J, hJ, hJf⟩ : ∃ J : Nat, J <= 112 /\ (s.ba + (J : Int) = f \/ (J = 112 /\ s.ba + 112 <= f)) := by
  by_cases h1 : f <= s.ba + 112
  ·exact ⟨(f - s.ba).toNat, by omega, .inl (by omega)⟩
  ·exact ⟨112, Nat.le_refl _, .inr ⟨rfl, by omega⟩⟩
 have hmin : min f (s.ba + 112) = s.ba + (J : Int) := by omega
 have HPur := hid (fun w' hb' hfr' => h.pur (w' := w') hf hJ hJf hb' hfr')
 have HN := hid (puN_low h.ok hJf)
 have HLast := hid (fun W vs' h' => cm_last0 s p vs' hb W h')
 have HLow : Hid (∀ m, lowN m s.S <= 2016) := hid (fun m => Nat.le_trans (lowN_le m s.S) (len_2016 h.ok))
 have HBk := hid h.bk
 have HF0 := hid (lowN_first h.ok)
 have HRow := hid (fun (j : Nat) (hj : j < 112) => h.row (f := s.ba + 1 + (j : Int)) (by omega))
 obtain ⟨b, eb⟩ : ∃ b, s.ba = b := ⟨_, rfl⟩
 have HEb := hid eb
 rw [eb] at c0 hb hmin hf HLast HRow HF0 HN
 rw [eb] at HPur
 have d1 : ¬ f <= b := by omega
 have d2 : ¬ f > 1099511627776 := by omega
 have hw1 : IntKind.i64.wrap (b + 1) = b + 1 := by rw [IntKind.wrap_i64]; omega
 have HJf := hid hJf
 clear h eb hJf hf
 go_enter Try.func32, Try.ntmps32
 go_wp2_with fail
 clear c0 hw1
 go_loopw [6, 5] (fun u v wr => ∃ j : Nat, j <= J /\ u = .int .i64 (b + 1 + (j : Int)) /\ v = .int .i64 ((lowN (b + 1 + (j : Int)) s.S : Nat) : Int) /\ Hid (wr.heap[p]? = some (.cells (lcs s (purV b j vs)) lgT (0, 0)) /\ Fr (fun k => k = p) w wr)) (fun u _ _ => (b + 114 - intOf u).toNat)
 case atStart => exact ⟨0, by omega, by simp, by simp [HF0.out], hid ⟨by rw [purV_zero]; exact HBk.out, Fr.refl _ _⟩⟩
 case round =>
  obtain ⟨j, hj, rfl, rfl, HK⟩ := hrel
  have HC := hid (HLast.out wr _ HK.out.1)
  by_cases hjn : j < J
  ·obtain ⟨i, ao, cap, hi, hfi, hv, ho, _⟩ := HRow.out j (by omega)
   have HFg := hid (cm_forget s p (purV b j vs) (b + 1 + (j : Int)) i _ cap ao (by omega) hfi (by rw [purV_at b vs (by omega) hfi]; exact hv) wr HK.out.1)
   have HNx := hid (lowN_next (b + 1 + (j : Int)) s.S)
   have HL1 := hid (HLow.out (b + 1 + (j : Int) + 1))
   have HBk2 : Hid ((wr.setCell ⟨p, 3 + i, none⟩ (.slice none 0 0)).heap[p]? = some (.cells (lcs s (purV b (j + 1) vs)) lgT (0, 0)) /\ Fr (fun k => k = p) w (wr.setCell ⟨p, 3 + i, none⟩ (.slice none 0 0))) := hid ⟨by
    rw [heap_setCell_same wr p (3 + i) _ _ _ HK.out.1, lcs_set _ _ hi, lcs_congr s (purV_next b vs (by omega) hfi)], HK.out.2.setCell _ _ (.inl rfl)⟩
   obtain ⟨n, en⟩ : ∃ n, (onF (b + 1 + (j : Int)) s.S).length = n := ⟨_, rfl⟩
   obtain ⟨g, eg⟩ : ∃ g, b + 1 + (j : Int) = g := ⟨_, rfl⟩
   rw [en] at HFg HNx
   rw [eg] at HFg HNx HL1 ⊢
   obtain ⟨m, em⟩ : ∃ m, lowN g s.S = m := ⟨_, rfl⟩
   obtain ⟨m2, em2⟩ : ∃ m, lowN (g + 1) s.S = m := ⟨_, rfl⟩
   rw [em2, em] at HNx
   rw [em2] at HL1
   rw [em]
   obtain ⟨y, ey⟩ : ∃ y, b + 112 = y := ⟨_, rfl⟩
   obtain ⟨z, ez⟩ : ∃ z, b + (J : Int) = z := ⟨_, rfl⟩
   rw [ey] at HC hmin
   rw [ez] at hmin
   have hgz : g <= z := by omega
   have HG : Hid (b + 1 + ((j + 1 : Nat) : Int) = g + 1) := hid (by omega)
   have HM2 := hid em2
   have HMs : Hid ((b + 114 - (g + 1)).toNat < (b + 114 - g).toNat) := hid (by omega)
   have hw1 : IntKind.i64.wrap (g + 1) = g + 1 := by rw [IntKind.wrap_i64]; omega
   have hw2 : IntKind.i64.wrap ((m : Int) + (n : Int)) = ((m2 : Nat) : Int) := by rw [IntKind.wrap_i64]; have := HNx.out; have := HL1.out; omega
   have HJ2 : Hid (j + 1 <= J) := hid (by omega)
   clear ez ey eg en em em2 hv ho hfi hjn HK hj hJ
   go_wp2_with fail
   refine HC.out.mono ?_
   rintro e w2 ⟨he, hw⟩
   rw [he, hw]
   clear he hw w2 HC
   go_wp2_with fail
   refine HFg.out.mono ?_
   rintro e w2 ⟨he, hw⟩
   rw [he, hw]
   clear he hw w2 HFg
   go_wp2_with fail
   go_roundw
   case rel => exact ⟨j + 1, HJ2.out, by rw [HG.out], by rw [HG.out, HM2.out], HBk2⟩
   case measure => simp only [intOf]; exact HMs.out
  ·obtain rfl : j = J := by omega
   obtain ⟨y, ey⟩ : ∃ y, b + 112 = y := ⟨_, rfl⟩
   obtain ⟨z, ez⟩ : ∃ z, b + (j : Int) = z := ⟨_, rfl⟩
   rw [ey] at HC hmin
   rw [ez] at hmin
   obtain ⟨g, eg⟩ : ∃ g, b + 1 + (j : Int) = g := ⟨_, rfl⟩
   have HM := HN
   rw [eg] at HM ⊢
   have hgz : ¬ g <= z := by omega
   obtain ⟨m, em⟩ : ∃ m, lowN g s.S = m := ⟨_, rfl⟩
   rw [em] at HM ⊢
   have fz : ∀ o, wr.frozen? ⟨p, o, none⟩ = false := fun o => frozen_of_row wr p o _ _ HK.out.1
   have c2 : wr.cell? ⟨p, 2, none⟩ = some (.int .i64 b) := by rw [cell_of_row _ _ _ _ _ _ HK.out.1, lcs_2, HEb.out]
   have HFin : Hid ((wr.setCell ⟨p, 2, none⟩ (.int .i64 f)).heap[p]? = some (.cells (lcs ⟨s.np, s.nr, f, puS f s.S⟩ (purV b j vs)) lgT (0, 0)) /\ Fr (fun k => k = p) w (wr.setCell ⟨p, 2, none⟩ (.int .i64 f))) := hid ⟨by
    rw [heap_setCell_same wr p 2 _ _ _ HK.out.1, lcs_setb]; rfl, HK.out.2.setCell _ _ (.inl rfl)⟩
   clear ez ey eg em hjn HK hj hJ
   go_wp2_with fail
   refine HC.out.mono ?_
   rintro e w2 ⟨he, hw⟩
   rw [he, hw]
   clear he hw w2 HC
   go_wp2_with fail
   go_ret
   exact ⟨by rw [<- HM.out]; rfl, ⟨_, HPur.out _ HFin.out.1 HFin.out.2⟩, HFin.out.2⟩
theorem cm_purge_no (s : Lgs) (B p : Nat) (vs : Nat -> Value) (f : Int) (hf : ¬ (s.ba < f /\ f <= 1099511627776)) (w : World) (h : Lm w B p s vs) : Calls Try.prog 32 #[.pointer (some ⟨p, 0, none⟩), .int .i64 f] w fun e w' => e = .returned (.int .i64 0) /\ w' = w := by
 obtain ⟨_, _, c0, _⟩ := h.cell
 obtain ⟨b, eb⟩ : ∃ b, s.ba = b := ⟨_, rfl⟩
 rw [eb] at c0 hf
 clear h eb
 by_cases h1 : f <= b
 ·clear hf
  go_enter Try.func32, Try.ntmps32
  go_wp2_with fail
  go_ret
  exact ⟨rfl, rfl⟩
 ·have h2 : f > 1099511627776 := by omega
  clear hf
  go_enter Try.func32, Try.ntmps32
  go_wp2_with fail
  go_ret
  exact ⟨rfl, rfl⟩
theorem cm_purge (s : Lgs) (B p : Nat) (vs : Nat -> Value) (f : Int) (w : World) (h : Lm w B p s vs) : Calls Try.prog 32 #[.pointer (some ⟨p, 0, none⟩), .int .i64 f] w fun e w' => e = .returned (.int .i64 (puR s f : Int)) /\ (∃ vs', Lm w' B p (puA s f) vs' /\ ∀ k, Rw vs' k -> Rw vs k) /\ Fr (fun k => k = p) w w' := by
 unfold puA puR
 cases hb : puB s f with
 | true => exact cm_purge_yes s B p vs f (of_decide_eq_true hb) w h
 | false =>
  refine (cm_purge_no s B p vs f (of_decide_eq_false hb) w h).mono ?_
  rintro e w' ⟨rfl, hw⟩
  subst hw
  exact ⟨rfl, ⟨vs, h, fun _ hk => hk⟩, Fr.refl _ _⟩
end Go.Proofs.Ytdmgalaajgebkaa
