/- Parts of the proof, laid end to end. -/
import Derived.Test.YtkgbmefaphhcnaaGreatDoorZU13
import Derived.Test.YtkgbmefaphhcnaaGreatDoorZU15
namespace Go.Proofs.YtkgbmefaphhcnaaGreatDoor
open Go.RowKit
open Np Za Ka Ja Ea Ha Wp
set_option maxRecDepth 100000
set_option linter.unusedVariables false
set_option linter.unusedSimpArgs false
theorem Tc.grow {α : Type} {K : Kd α} {e : TypeId} {w u V : World} {q p B : Nat} {s : Rs} {v : Value} {L : List α} (hT : Tc w u q p s) (hl : q < B /\ p < B) (ho : OwG K e u B v L) (he : e ≠ 5) (hB : w.heap.size <= B) (hf : Fr (fun k => v.ownBlock = some k) u V) : Tc w V q p s := by
 obtain ⟨ao, n, cap, h1, h2⟩ := hT.r.rd
 have hn : ∀ a, ao = some a -> ¬ v.ownBlock = some a.block := fun a ha hk => by
  obtain ⟨cur, hc⟩ := ho.ty hk
  exact h2.ne hc he a ha rfl
 refine ⟨⟨hf.kept hT.r.box (fun hk => ?_), ⟨ao, n, cap, h1.kept hf (fun hk => ?_) (fun a ha _ => hn a ha), h2.kept hf hn⟩, hT.r.nq⟩, hT.f.trans hf (fun k hk hb => ?_)⟩
 ·have := (ho.block hk).1; omega
 ·have := (ho.block hk).1; omega
 ·have := (ho.block hb).1; omega
section
variable {α : Type}
theorem maM_succ (f : Mch α) (k : Nat) (s : Rs) : maM f (k + 1) s = ((f s).1 :: (maM f k (f s).2).1, (maM f k (f s).2).2) := rfl
theorem maM_step {f : Mch α} {N i : Nat} {s s1 : Rs} {l : List α} (hi : i < N) (h : maM f N s = (l ++ (maM f (N - i) s1).1, (maM f (N - i) s1).2)) : maM f N s = ((l ++ [(f s1).1]) ++ (maM f (N - (i + 1)) (f s1).2).1, (maM f (N - (i + 1)) (f s1).2).2) := by
 rw [h, show N - i = (N - (i + 1)) + 1 by omega, maM_succ, List.append_assoc]
 rfl
theorem maM_end {f : Mch α} {N : Nat} {s s1 : Rs} {l : List α} (h : maM f N s = (l ++ (maM f (N - N) s1).1, (maM f (N - N) s1).2)) : maM f N s = (l, s1) := by
 rw [h, Nat.sub_self]
 show (l ++ [], s1) = (l, s1)
 rw [List.append_nil]
end
set_option maxHeartbeats 4000000 in
theorem zcount8_any (q p : Nat) (s : Rs) (w : World) (h : Rc w q p s) : Calls Tryz.prog 127 #[.pointer (some ⟨q, 0, none⟩), .int .i64 8] w fun r w' => r = .returned (.int .i64 ((cnM 8 s).1 : Int)) /\ Tc w w' q p (cnM 8 s).2 := by
 have c0 := h.ptr
 have HC := hid (zuint_any q p s w h)
 have HE : Hid (cnM 8 s = cgM 8 (unM s).1 (unM s).2) := hid rfl
 have hN := unM_lt14 s
 obtain ⟨N, S, eN⟩ : ∃ N S, unM s = (N, S) := ⟨_, _, rfl⟩
 rw [eN] at HC HE hN
 dsimp only at HC HE hN
 clear h eN
 unfold cgM at HE
 go_enter Tryz.func127, Tryz.ntmps127
 go_wp2_with fail
 refine HC.out.mono ?_
 rintro e w1 ⟨he, h1⟩
 rw [he]
 have HT := hid h1
 have c0 := h1.r.ptr
 have g1 := h1.r.fro
 have g2 := h1.r.spo
 have HP := hid h1.r.spoil
 clear he h1 HC
 by_cases h1 : N <= 2147483647
 ·have hlt : ¬ (2147483647 : Int) < (N : Int) := by omega
  have HC := hid (zleft_any q p S w1 HT.out.r)
  have hL := zlen q p S w1 HT.out.r
  obtain ⟨L, eL⟩ : ∃ L, S.bs.length = L := ⟨_, rfl⟩
  rw [eL] at HC HE hL
  have hq1 : Int.tdiv (L : Int) 8 = ((L / 8 : Nat) : Int) := rfl
  obtain ⟨D, eD⟩ : ∃ D, L / 8 = D := ⟨_, rfl⟩
  have hD : D <= L := by rw [<- eD]; exact Nat.div_le_self _ _
  rw [eD] at hq1 HE
  have hw1 : IntKind.i64.wrap (D : Int) = (D : Int) := by rw [IntKind.wrap_i64]; omega
  have hw2 : IntKind.u64.wrap (D : Int) = (D : Int) := by rw [IntKind.wrap_u64]; omega
  have hw3 : IntKind.i64.wrap (N : Int) = (N : Int) := by rw [IntKind.wrap_i64]; omega
  clear eL eD
  by_cases h2 : N <= D
  ·have hlt2 : ¬ (D : Int) < (N : Int) := by omega
   rw [if_pos ⟨h1, h2⟩] at HE
   clear HP
   go_wp2_with fail
   refine HC.out.mono ?_
   rintro e w2 ⟨he, e2⟩
   rw [he, e2]
   clear he e2 HC
   go_wp2_with fail
   go_ret
   exact ⟨by rw [HE.out]; rfl, by rw [HE.out]; exact HT.out⟩
  ·have hlt2 : (D : Int) < (N : Int) := by omega
   rw [if_neg (fun h => h2 h.2)] at HE
   go_wp2_with fail
   refine HC.out.mono ?_
   rintro e w2 ⟨he, e2⟩
   rw [he, e2]
   clear he e2 HC
   go_wp2_with fail
   go_ret
   exact ⟨by rw [HE.out]; rfl, by rw [HE.out]; exact HT.out.trans HP.out⟩
 ·have hlt : (2147483647 : Int) < (N : Int) := by omega
  rw [if_neg (fun h => h1 h.1)] at HE
  go_wp2_with fail
  go_ret
  exact ⟨by rw [HE.out]; rfl, by rw [HE.out]; exact HT.out.trans HP.out⟩
theorem cnM8_le (s : Rs) : (cnM 8 s).1 <= 2147483647 := by
 show (cgM 8 (unM s).1 (unM s).2).1 <= 2147483647
 unfold cgM
 split
 ·rename_i h; exact h.1
 ·exact Nat.zero_le _
set_option maxHeartbeats 4000000 in
theorem zcount3_any (q p : Nat) (s : Rs) (w : World) (h : Rc w q p s) : Calls Tryz.prog 127 #[.pointer (some ⟨q, 0, none⟩), .int .i64 3] w fun r w' => r = .returned (.int .i64 ((cnM 3 s).1 : Int)) /\ Tc w w' q p (cnM 3 s).2 := by
 have c0 := h.ptr
 have HC := hid (zuint_any q p s w h)
 have HE : Hid (cnM 3 s = cgM 3 (unM s).1 (unM s).2) := hid rfl
 have hN := unM_lt14 s
 obtain ⟨N, S, eN⟩ : ∃ N S, unM s = (N, S) := ⟨_, _, rfl⟩
 rw [eN] at HC HE hN
 dsimp only at HC HE hN
 clear h eN
 unfold cgM at HE
 go_enter Tryz.func127, Tryz.ntmps127
 go_wp2_with fail
 refine HC.out.mono ?_
 rintro e w1 ⟨he, h1⟩
 rw [he]
 have HT := hid h1
 have c0 := h1.r.ptr
 have g1 := h1.r.fro
 have g2 := h1.r.spo
 have HP := hid h1.r.spoil
 clear he h1 HC
 by_cases h1 : N <= 2147483647
 ·have hlt : ¬ (2147483647 : Int) < (N : Int) := by omega
  have HC := hid (zleft_any q p S w1 HT.out.r)
  have hL := zlen q p S w1 HT.out.r
  obtain ⟨L, eL⟩ : ∃ L, S.bs.length = L := ⟨_, rfl⟩
  rw [eL] at HC HE hL
  have hq1 : Int.tdiv (L : Int) 3 = ((L / 3 : Nat) : Int) := rfl
  obtain ⟨D, eD⟩ : ∃ D, L / 3 = D := ⟨_, rfl⟩
  have hD : D <= L := by rw [<- eD]; exact Nat.div_le_self _ _
  rw [eD] at hq1 HE
  have hw1 : IntKind.i64.wrap (D : Int) = (D : Int) := by rw [IntKind.wrap_i64]; omega
  have hw2 : IntKind.u64.wrap (D : Int) = (D : Int) := by rw [IntKind.wrap_u64]; omega
  have hw3 : IntKind.i64.wrap (N : Int) = (N : Int) := by rw [IntKind.wrap_i64]; omega
  clear eL eD
  by_cases h2 : N <= D
  ·have hlt2 : ¬ (D : Int) < (N : Int) := by omega
   rw [if_pos ⟨h1, h2⟩] at HE
   clear HP
   go_wp2_with fail
   refine HC.out.mono ?_
   rintro e w2 ⟨he, e2⟩
   rw [he, e2]
   clear he e2 HC
   go_wp2_with fail
   go_ret
   exact ⟨by rw [HE.out]; rfl, by rw [HE.out]; exact HT.out⟩
  ·have hlt2 : (D : Int) < (N : Int) := by omega
   rw [if_neg (fun h => h2 h.2)] at HE
   go_wp2_with fail
   refine HC.out.mono ?_
   rintro e w2 ⟨he, e2⟩
   rw [he, e2]
   clear he e2 HC
   go_wp2_with fail
   go_ret
   exact ⟨by rw [HE.out]; rfl, by rw [HE.out]; exact HT.out.trans HP.out⟩
 ·have hlt : (2147483647 : Int) < (N : Int) := by omega
  rw [if_neg (fun h => h1 h.1)] at HE
  go_wp2_with fail
  go_ret
  exact ⟨by rw [HE.out]; rfl, by rw [HE.out]; exact HT.out.trans HP.out⟩
theorem cnM3_le (s : Rs) : (cnM 3 s).1 <= 2147483647 := by
 show (cgM 3 (unM s).1 (unM s).2).1 <= 2147483647
 unfold cgM
 split
 ·rename_i h; exact h.1
 ·exact Nat.zero_le _
set_option maxHeartbeats 4000000 in
theorem zsomeM_any (q p N : Nat) (hN : N <= 2147483647) (s : Rs) (w : World) (h : Rc w q p s) : Calls Tryz.prog 122 #[.int .i64 (N : Int), .func (.func 123) #[.pointer (some ⟨q, 0, none⟩)] #[]] w fun r w' => ∃ v, r = .returned v /\ OwG KM 55 w' w.heap.size v (maM mvM N s).1 /\ Tc w w' q p (maM mvM N s).2 := by
 have HL := hid h.lt
 have HR := hid h
 clear h
 go_enter Tryz.func122, Tryz.ntmps122
 go_wp2_with fail
 go_loopw [5, 7] (fun u5 u7 wr => ∃ (i : Nat) (l : List Mv) (v : Value) (s1 : Rs), i <= N /\ u5 = v /\ u7 = .int .i64 (i : Int) /\ Hid (Tc w wr q p s1 /\ l.length = i /\ maM mvM N s = (l ++ (maM mvM (N - i) s1).1, (maM mvM (N - i) s1).2) /\ OwG KM 55 wr w.heap.size v l)) (fun _ u7 _ => N - (intOf u7).toNat)
 case atStart => exact ⟨0, [], .slice none 0 0, s, by omega, rfl, rfl, hid ⟨Tc.same HR.out (Fr.refl _ _), rfl, rfl, OwG.nil _ _⟩⟩
 case round =>
  obtain ⟨i, l, v, s1, hi, rfl, rfl, HI⟩ := hrel
  by_cases hin : i < N
  ·have hlt : (i : Int) < (N : Int) := by omega
   have HF := hid (maM_step hin HI.out.2.2.1)
   have HC := hid (zmover_any q p s1 wr HI.out.1.r)
   obtain ⟨x, S, ex⟩ : ∃ a b, mvM s1 = (a, b) := ⟨_, _, rfl⟩
   rw [ex] at HF HC
   dsimp only at HF HC
   clear ex
   go_wp2_with fail
   refine HC.out.mono ?_
   rintro e w1 ⟨he, h1⟩
   rw [he]
   have HO1 : Hid (OwG KM 55 w1 w.heap.size u5 l) := hid (HI.out.2.2.2.keep h1.f (fun k hk e => by
    have h4 := (HI.out.2.2.2.block e).1
    have h5 := HL.out
    rcases hk with hk | hk <;> omega))
   have HT1 := hid (HI.out.1.trans h1)
   have HZ1 : Hid (w.heap.size <= w1.heap.size) := hid HT1.out.f.size
   have HN : Hid (l.length = i) := hid HI.out.2.1
   clear he h1 HC HI
   have A1 := Still.alloc w1 (.cells (KM.f x).toArray 55)
   have HO2 := hid (HO1.out.still A1)
   have HT2 := hid (HT1.out.still A1)
   clear A1
   go_wp2_with (at_builtin; refine wpList_appH KM _ rfl _ _ 22 rfl Tryz.underlying22 104 infoM w.heap.size w1.heap.size u5 l x rfl rfl HO2.out (heap_alloc_new w1 _) (by have := HN.out; omega) (by have := HN.out; omega) (by rw [size_alloc]; have := HZ1.out; omega) ?_; intro v' w2 ho2 hf2)
   have HE : Hid (Tc w w2 q p S /\ (l ++ [x]).length = i + 1 /\ maM mvM N s = ((l ++ [x]) ++ (maM mvM (N - (i + 1)) S).1, (maM mvM (N - (i + 1)) S).2) /\ OwG KM 55 w2 w.heap.size v' (l ++ [x])) := hid ⟨HT2.out.grow HL.out HO2.out (by decide) (Nat.le_refl _) hf2, by simp [HN.out], HF.out, ho2⟩
   clear ho2 hf2 HO1 HO2 HT1 HT2 HF HN HZ1
   go_wp2_with fail
   go_roundw
   case rel => exact ⟨i + 1, l ++ [x], v', S, by omega, rfl, by go_num, HE⟩
   case measure => simp [intOf]; omega
  ·obtain rfl : i = N := by omega
   have HE := hid (maM_end HI.out.2.2.1)
   have HT := hid (And.intro HI.out.2.2.2 HI.out.1)
   clear HI
   go_wp2_with fail
   go_ret
   rw [HE.out]
   exact ⟨u5, rfl, HT.out⟩
set_option maxHeartbeats 4000000 in
theorem zsomeC_any (q p N : Nat) (hN : N <= 2147483647) (s : Rs) (w : World) (h : Rc w q p s) : Calls Tryz.prog 124 #[.int .i64 (N : Int), .func (.func 125) #[.pointer (some ⟨q, 0, none⟩)] #[]] w fun r w' => ∃ v, r = .returned v /\ OwG KC 57 w' w.heap.size v (maM scM N s).1 /\ Tc w w' q p (maM scM N s).2 := by
 have HL := hid h.lt
 have HR := hid h
 clear h
 go_enter Tryz.func124, Tryz.ntmps124
 go_wp2_with fail
 go_loopw [5, 7] (fun u5 u7 wr => ∃ (i : Nat) (l : List Scr) (v : Value) (s1 : Rs), i <= N /\ u5 = v /\ u7 = .int .i64 (i : Int) /\ Hid (Tc w wr q p s1 /\ l.length = i /\ maM scM N s = (l ++ (maM scM (N - i) s1).1, (maM scM (N - i) s1).2) /\ OwG KC 57 wr w.heap.size v l)) (fun _ u7 _ => N - (intOf u7).toNat)
 case atStart => exact ⟨0, [], .slice none 0 0, s, by omega, rfl, rfl, hid ⟨Tc.same HR.out (Fr.refl _ _), rfl, rfl, OwG.nil _ _⟩⟩
 case round =>
  obtain ⟨i, l, v, s1, hi, rfl, rfl, HI⟩ := hrel
  by_cases hin : i < N
  ·have hlt : (i : Int) < (N : Int) := by omega
   have HF := hid (maM_step hin HI.out.2.2.1)
   have HC := hid (zscore_any q p s1 wr HI.out.1.r)
   obtain ⟨x, S, ex⟩ : ∃ a b, scM s1 = (a, b) := ⟨_, _, rfl⟩
   rw [ex] at HF HC
   dsimp only at HF HC
   clear ex
   go_wp2_with fail
   refine HC.out.mono ?_
   rintro e w1 ⟨he, h1⟩
   rw [he]
   have HO1 : Hid (OwG KC 57 w1 w.heap.size u5 l) := hid (HI.out.2.2.2.keep h1.f (fun k hk e => by
    have h4 := (HI.out.2.2.2.block e).1
    have h5 := HL.out
    rcases hk with hk | hk <;> omega))
   have HT1 := hid (HI.out.1.trans h1)
   have HZ1 : Hid (w.heap.size <= w1.heap.size) := hid HT1.out.f.size
   have HN : Hid (l.length = i) := hid HI.out.2.1
   clear he h1 HC HI
   have A1 := Still.alloc w1 (.cells (KC.f x).toArray 57)
   have HO2 := hid (HO1.out.still A1)
   have HT2 := hid (HT1.out.still A1)
   clear A1
   go_wp2_with (at_builtin; refine wpList_appH KC _ rfl _ _ 23 rfl Tryz.underlying23 32 infoC w.heap.size w1.heap.size u5 l x rfl rfl HO2.out (heap_alloc_new w1 _) (by have := HN.out; omega) (by have := HN.out; omega) (by rw [size_alloc]; have := HZ1.out; omega) ?_; intro v' w2 ho2 hf2)
   have HE : Hid (Tc w w2 q p S /\ (l ++ [x]).length = i + 1 /\ maM scM N s = ((l ++ [x]) ++ (maM scM (N - (i + 1)) S).1, (maM scM (N - (i + 1)) S).2) /\ OwG KC 57 w2 w.heap.size v' (l ++ [x])) := hid ⟨HT2.out.grow HL.out HO2.out (by decide) (Nat.le_refl _) hf2, by simp [HN.out], HF.out, ho2⟩
   clear ho2 hf2 HO1 HO2 HT1 HT2 HF HN HZ1
   go_wp2_with fail
   go_roundw
   case rel => exact ⟨i + 1, l ++ [x], v', S, by omega, rfl, by go_num, HE⟩
   case measure => simp [intOf]; omega
  ·obtain rfl : i = N := by omega
   have HE := hid (maM_end HI.out.2.2.1)
   have HT := hid (And.intro HI.out.2.2.2 HI.out.1)
   clear HI
   go_wp2_with fail
   go_ret
   rw [HE.out]
   exact ⟨u5, rfl, HT.out⟩
set_option maxHeartbeats 4000000 in
theorem zsomeS_any (q p N : Nat) (hN : N <= 2147483647) (s : Rs) (w : World) (h : Rc w q p s) : Calls Tryz.prog 126 #[.int .i64 (N : Int), .func (.func 128) #[.pointer (some ⟨q, 0, none⟩)] #[]] w fun r w' => ∃ v, r = .returned v /\ OwG KS 59 w' w.heap.size v (maM shM N s).1 /\ Tc w w' q p (maM shM N s).2 := by
 have HL := hid h.lt
 have HR := hid h
 clear h
 go_enter Tryz.func126, Tryz.ntmps126
 go_wp2_with fail
 go_loopw [5, 7] (fun u5 u7 wr => ∃ (i : Nat) (l : List Sh) (v : Value) (s1 : Rs), i <= N /\ u5 = v /\ u7 = .int .i64 (i : Int) /\ Hid (Tc w wr q p s1 /\ l.length = i /\ maM shM N s = (l ++ (maM shM (N - i) s1).1, (maM shM (N - i) s1).2) /\ OwG KS 59 wr w.heap.size v l)) (fun _ u7 _ => N - (intOf u7).toNat)
 case atStart => exact ⟨0, [], .slice none 0 0, s, by omega, rfl, rfl, hid ⟨Tc.same HR.out (Fr.refl _ _), rfl, rfl, OwG.nil _ _⟩⟩
 case round =>
  obtain ⟨i, l, v, s1, hi, rfl, rfl, HI⟩ := hrel
  by_cases hin : i < N
  ·have hlt : (i : Int) < (N : Int) := by omega
   have HF := hid (maM_step hin HI.out.2.2.1)
   have HC := hid (zshot_any q p s1 wr HI.out.1.r)
   obtain ⟨x, S, ex⟩ : ∃ a b, shM s1 = (a, b) := ⟨_, _, rfl⟩
   rw [ex] at HF HC
   dsimp only at HF HC
   clear ex
   go_wp2_with fail
   refine HC.out.mono ?_
   rintro e w1 ⟨he, h1⟩
   rw [he]
   have HO1 : Hid (OwG KS 59 w1 w.heap.size u5 l) := hid (HI.out.2.2.2.keep h1.f (fun k hk e => by
    have h4 := (HI.out.2.2.2.block e).1
    have h5 := HL.out
    rcases hk with hk | hk <;> omega))
   have HT1 := hid (HI.out.1.trans h1)
   have HZ1 : Hid (w.heap.size <= w1.heap.size) := hid HT1.out.f.size
   have HN : Hid (l.length = i) := hid HI.out.2.1
   clear he h1 HC HI
   have A1 := Still.alloc w1 (.cells (KS.f x).toArray 59)
   have HO2 := hid (HO1.out.still A1)
   have HT2 := hid (HT1.out.still A1)
   clear A1
   go_wp2_with (at_builtin; refine wpList_appH KS _ rfl _ _ 24 rfl Tryz.underlying24 64 infoS w.heap.size w1.heap.size u5 l x rfl rfl HO2.out (heap_alloc_new w1 _) (by have := HN.out; omega) (by have := HN.out; omega) (by rw [size_alloc]; have := HZ1.out; omega) ?_; intro v' w2 ho2 hf2)
   have HE : Hid (Tc w w2 q p S /\ (l ++ [x]).length = i + 1 /\ maM shM N s = ((l ++ [x]) ++ (maM shM (N - (i + 1)) S).1, (maM shM (N - (i + 1)) S).2) /\ OwG KS 59 w2 w.heap.size v' (l ++ [x])) := hid ⟨HT2.out.grow HL.out HO2.out (by decide) (Nat.le_refl _) hf2, by simp [HN.out], HF.out, ho2⟩
   clear ho2 hf2 HO1 HO2 HT1 HT2 HF HN HZ1
   go_wp2_with fail
   go_roundw
   case rel => exact ⟨i + 1, l ++ [x], v', S, by omega, rfl, by go_num, HE⟩
   case measure => simp [intOf]; omega
  ·obtain rfl : i = N := by omega
   have HE := hid (maM_end HI.out.2.2.1)
   have HT := hid (And.intro HI.out.2.2.2 HI.out.1)
   clear HI
   go_wp2_with fail
   go_ret
   rw [HE.out]
   exact ⟨u5, rfl, HT.out⟩
set_option maxHeartbeats 4000000 in
theorem zsomeQ_any (q p N : Nat) (hN : N <= 2147483647) (s : Rs) (w : World) (h : Rc w q p s) : Calls Tryz.prog 129 #[.int .i64 (N : Int), .func (.func 130) #[.pointer (some ⟨q, 0, none⟩)] #[]] w fun r w' => ∃ v, r = .returned v /\ OwG KQ 61 w' w.heap.size v (maM pkM N s).1 /\ Tc w w' q p (maM pkM N s).2 := by
 have HL := hid h.lt
 have HR := hid h
 clear h
 go_enter Tryz.func129, Tryz.ntmps129
 go_wp2_with fail
 go_loopw [5, 7] (fun u5 u7 wr => ∃ (i : Nat) (l : List Pk) (v : Value) (s1 : Rs), i <= N /\ u5 = v /\ u7 = .int .i64 (i : Int) /\ Hid (Tc w wr q p s1 /\ l.length = i /\ maM pkM N s = (l ++ (maM pkM (N - i) s1).1, (maM pkM (N - i) s1).2) /\ OwG KQ 61 wr w.heap.size v l)) (fun _ u7 _ => N - (intOf u7).toNat)
 case atStart => exact ⟨0, [], .slice none 0 0, s, by omega, rfl, rfl, hid ⟨Tc.same HR.out (Fr.refl _ _), rfl, rfl, OwG.nil _ _⟩⟩
 case round =>
  obtain ⟨i, l, v, s1, hi, rfl, rfl, HI⟩ := hrel
  by_cases hin : i < N
  ·have hlt : (i : Int) < (N : Int) := by omega
   have HF := hid (maM_step hin HI.out.2.2.1)
   have HC := hid (zpickup_any q p s1 wr HI.out.1.r)
   obtain ⟨x, S, ex⟩ : ∃ a b, pkM s1 = (a, b) := ⟨_, _, rfl⟩
   rw [ex] at HF HC
   dsimp only at HF HC
   clear ex
   go_wp2_with fail
   refine HC.out.mono ?_
   rintro e w1 ⟨he, h1⟩
   rw [he]
   have HO1 : Hid (OwG KQ 61 w1 w.heap.size u5 l) := hid (HI.out.2.2.2.keep h1.f (fun k hk e => by
    have h4 := (HI.out.2.2.2.block e).1
    have h5 := HL.out
    rcases hk with hk | hk <;> omega))
   have HT1 := hid (HI.out.1.trans h1)
   have HZ1 : Hid (w.heap.size <= w1.heap.size) := hid HT1.out.f.size
   have HN : Hid (l.length = i) := hid HI.out.2.1
   clear he h1 HC HI
   have A1 := Still.alloc w1 (.cells (KQ.f x).toArray 61)
   have HO2 := hid (HO1.out.still A1)
   have HT2 := hid (HT1.out.still A1)
   clear A1
   go_wp2_with (at_builtin; refine wpList_appH KQ _ rfl _ _ 25 rfl Tryz.underlying25 24 infoQ w.heap.size w1.heap.size u5 l x rfl rfl HO2.out (heap_alloc_new w1 _) (by have := HN.out; omega) (by have := HN.out; omega) (by rw [size_alloc]; have := HZ1.out; omega) ?_; intro v' w2 ho2 hf2)
   have HE : Hid (Tc w w2 q p S /\ (l ++ [x]).length = i + 1 /\ maM pkM N s = ((l ++ [x]) ++ (maM pkM (N - (i + 1)) S).1, (maM pkM (N - (i + 1)) S).2) /\ OwG KQ 61 w2 w.heap.size v' (l ++ [x])) := hid ⟨HT2.out.grow HL.out HO2.out (by decide) (Nat.le_refl _) hf2, by simp [HN.out], HF.out, ho2⟩
   clear ho2 hf2 HO1 HO2 HT1 HT2 HF HN HZ1
   go_wp2_with fail
   go_roundw
   case rel => exact ⟨i + 1, l ++ [x], v', S, by omega, rfl, by go_num, HE⟩
   case measure => simp [intOf]; omega
  ·obtain rfl : i = N := by omega
   have HE := hid (maM_end HI.out.2.2.1)
   have HT := hid (And.intro HI.out.2.2.2 HI.out.1)
   clear HI
   go_wp2_with fail
   go_ret
   rw [HE.out]
   exact ⟨u5, rfl, HT.out⟩
end Go.Proofs.YtkgbmefaphhcnaaGreatDoor
namespace Go.Proofs.YtkgbmefaphhcnaaGreatDoor
open Go.RowKit
open Np Za Ka Ja Ea Ha Wp
set_option maxRecDepth 100000
set_option linter.unusedVariables false
set_option linter.unusedSimpArgs false
theorem OwG.zon {α : Type} {K : Kd α} {e : TypeId} {w w' : World} {q p B : Nat} {s : Rs} {v : Value} {L : List α} (h : OwG K e w B v L) (hT : Tc w w' q p s) (hl : q < B /\ p < B) : OwG K e w' B v L := h.keep hT.f (fun k hk e => by
 have h4 := (h.block e).1
 rcases hk with hk | hk <;> omega)
set_option maxHeartbeats 8000000 in
theorem zworld_any (q p k : Nat) (hk : k <= 2147483647) (s : Rs) (w : World) (h : Rc w q p s) : Calls Tryz.prog 75 #[.pointer (some ⟨q, 0, none⟩), .int .i64 (k : Int)] w fun r w' => ∃ v, r = .returned v /\ OwW w' w.heap.size v (wdM k s).1 /\ Tc w w' q p (wdM k s).2 := by
 have A0 := Still.alloc w (.cells (wdcs 0 0 (.slice none 0 0) (.slice none 0 0) (.slice none 0 0) (.slice none 0 0)) 27)
 have B0 : Wdb (w.alloc (.cells (wdcs 0 0 (.slice none 0 0) (.slice none 0 0) (.slice none 0 0) (.slice none 0 0)) 27)) w.heap.size 0 0 (.slice none 0 0) (.slice none 0 0) (.slice none 0 0) (.slice none 0 0) := heap_alloc_new w _
 have h0 := h.still A0
 have hlt := h.lt
 have HL := hid h.lt
 obtain ⟨W, eW⟩ : ∃ W, w.alloc (.cells (wdcs 0 0 (.slice none 0 0) (.slice none 0 0) (.slice none 0 0) (.slice none 0 0)) 27) = W := ⟨_, rfl⟩
 obtain ⟨g, eg⟩ : ∃ g, w.heap.size = g := ⟨_, rfl⟩
 rw [eW] at A0 B0 h0
 rw [eg] at B0 hlt
 have HA := hid A0
 have HG : Hid (¬ RF q p g /\ w.heap.size <= g) := hid ⟨by rintro (e | e) <;> omega, by omega⟩
 have HZ0 : Hid (w.heap.size <= W.heap.size) := hid A0.size
 have HT0 : Hid (Tc W W q p s) := hid (Tc.same h0 (Fr.refl _ _))
 have HB0 := hid B0
 obtain ⟨c, Sa, ea⟩ : ∃ a b, byM s = (a, b) := ⟨_, _, rfl⟩
 obtain ⟨uu, S1, e1⟩ : ∃ a b, mG (c == 87) Sa = (a, b) := ⟨_, _, rfl⟩
 obtain ⟨fr, S2, e2⟩ : ∃ a b, inM S1 = (a, b) := ⟨_, _, rfl⟩
 obtain ⟨ms, S3, e3⟩ : ∃ a b, maM mvM k S2 = (a, b) := ⟨_, _, rfl⟩
 obtain ⟨cs, S4, e4⟩ : ∃ a b, maM scM k S3 = (a, b) := ⟨_, _, rfl⟩
 obtain ⟨na, S5, e5⟩ : ∃ a b, cnM 8 S4 = (a, b) := ⟨_, _, rfl⟩
 obtain ⟨hs, S6, e6⟩ : ∃ a b, maM shM na S5 = (a, b) := ⟨_, _, rfl⟩
 obtain ⟨nb, S7, e7⟩ : ∃ a b, cnM 3 S6 = (a, b) := ⟨_, _, rfl⟩
 obtain ⟨ks, S8, e8⟩ : ∃ a b, maM pkM nb S7 = (a, b) := ⟨_, _, rfl⟩
 obtain ⟨nx, S9, e9⟩ : ∃ a b, inM S8 = (a, b) := ⟨_, _, rfl⟩
 have HE : Hid (wdM k s = (⟨fr, ms, cs, hs, ks, nx⟩, S9)) := hid (by simp only [wdM, Wp.mB, Wp.mR, ea, e1, e2, e3, e4, e5, e6, e7, e8, e9])
 have hna : na <= 2147483647 := by have := cnM8_le S4; rw [e5] at this; exact this
 have hnb : nb <= 2147483647 := by have := cnM3_le S6; rw [e7] at this; exact this
 have HC1 : Hid (∀ u, Rc u q p s -> Calls Tryz.prog 120 #[.pointer (some ⟨q, 0, none⟩)] u fun r w' => r = .returned (.tuple #[]) /\ Tc u w' q p S1) := hid (fun u hu => by
  have := zhead_any q p s u hu
  rw [ea] at this
  dsimp only at this
  rw [e1] at this
  exact this)
 have HC2 : Hid (∀ u, Rc u q p S1 -> Calls Tryz.prog 121 #[.pointer (some ⟨p, 0, none⟩)] u fun r w' => r = .returned (.int .i64 fr) /\ Tc u w' q p S2) := hid (fun u hu => by
  have := zint_any q p S1 u hu
  rw [e2] at this
  exact this)
 have HC3 : Hid (∀ u, Rc u q p S2 -> Calls Tryz.prog 122 #[.int .i64 (k : Int), .func (.func 123) #[.pointer (some ⟨q, 0, none⟩)] #[]] u fun r w' => ∃ v, r = .returned v /\ OwG KM 55 w' u.heap.size v ms /\ Tc u w' q p S3) := hid (fun u hu => by
  have := zsomeM_any q p k hk S2 u hu
  rw [e3] at this
  exact this)
 have HC4 : Hid (∀ u, Rc u q p S3 -> Calls Tryz.prog 124 #[.int .i64 (k : Int), .func (.func 125) #[.pointer (some ⟨q, 0, none⟩)] #[]] u fun r w' => ∃ v, r = .returned v /\ OwG KC 57 w' u.heap.size v cs /\ Tc u w' q p S4) := hid (fun u hu => by
  have := zsomeC_any q p k hk S3 u hu
  rw [e4] at this
  exact this)
 have HC5 : Hid (∀ u, Rc u q p S4 -> Calls Tryz.prog 127 #[.pointer (some ⟨q, 0, none⟩), .int .i64 8] u fun r w' => r = .returned (.int .i64 (na : Int)) /\ Tc u w' q p S5) := hid (fun u hu => by
  have := zcount8_any q p S4 u hu
  rw [e5] at this
  exact this)
 have HC6 : Hid (∀ u, Rc u q p S5 -> Calls Tryz.prog 126 #[.int .i64 (na : Int), .func (.func 128) #[.pointer (some ⟨q, 0, none⟩)] #[]] u fun r w' => ∃ v, r = .returned v /\ OwG KS 59 w' u.heap.size v hs /\ Tc u w' q p S6) := hid (fun u hu => by
  have := zsomeS_any q p na hna S5 u hu
  rw [e6] at this
  exact this)
 have HC7 : Hid (∀ u, Rc u q p S6 -> Calls Tryz.prog 127 #[.pointer (some ⟨q, 0, none⟩), .int .i64 3] u fun r w' => r = .returned (.int .i64 (nb : Int)) /\ Tc u w' q p S7) := hid (fun u hu => by
  have := zcount3_any q p S6 u hu
  rw [e7] at this
  exact this)
 have HC8 : Hid (∀ u, Rc u q p S7 -> Calls Tryz.prog 129 #[.int .i64 (nb : Int), .func (.func 130) #[.pointer (some ⟨q, 0, none⟩)] #[]] u fun r w' => ∃ v, r = .returned v /\ OwG KQ 61 w' u.heap.size v ks /\ Tc u w' q p S8) := hid (fun u hu => by
  have := zsomeQ_any q p nb hnb S7 u hu
  rw [e8] at this
  exact this)
 have HC9 : Hid (∀ u, Rc u q p S8 -> Calls Tryz.prog 131 #[.pointer (some ⟨q, 0, none⟩)] u fun r w' => r = .returned (.int .i64 nx) /\ Tc u w' q p S9) := hid (fun u hu => by
  have := znum_any q p S8 u hu
  rw [e9] at this
  exact this)
 rw [HE.out]
 clear h h0 A0 B0 hlt HE ea e1 e2 e3 e4 e5 e6 e7 e8 e9
 go_enter Tryz.func75, Tryz.ntmps75
 go_wp2_with fail
 refine (HC1.out _ HT0.out.r).mono ?_
 rintro e w1 ⟨he, h1⟩
 rw [he]
 have HT1 := hid (HT0.out.trans h1)
 have HZ1 : Hid (w.heap.size <= w1.heap.size) := hid (Nat.le_trans HZ0.out HT1.out.f.size)
 have HB1 : Hid (Wdb w1 g 0 0 (.slice none 0 0) (.slice none 0 0) (.slice none 0 0) (.slice none 0 0)) := hid (h1.f.kept HB0.out HG.out.1)
 clear he h1 HC1 HT0 HB0 eW
 have c0 := HT1.out.r.ptr
 go_wp2_with fail
 refine (HC2.out _ HT1.out.r).mono ?_
 rintro e w2 ⟨he, h2⟩
 rw [he]
 have HT2 := hid (HT1.out.trans h2)
 have HZ2 : Hid (w.heap.size <= w2.heap.size) := hid (Nat.le_trans HZ0.out HT2.out.f.size)
 have HB2 : Hid (Wdb w2 g 0 0 (.slice none 0 0) (.slice none 0 0) (.slice none 0 0) (.slice none 0 0)) := hid (h2.f.kept HB1.out HG.out.1)
 clear he h2 HC2 HT1 HB1 c0 HZ1
 go_wp2_with fail
 refine (HC3.out _ HT2.out.r).mono ?_
 rintro e w3 ⟨v3, he, ho, h3⟩
 obtain ⟨a3, b3, hv, _⟩ := ho.slice
 rw [hv] at he ho
 rw [he]
 have HT3 := hid (HT2.out.trans h3)
 have HZ3 : Hid (w.heap.size <= w3.heap.size) := hid (Nat.le_trans HZ0.out HT3.out.f.size)
 have HB3 : Hid (Wdb w3 g 0 0 (.slice none 0 0) (.slice none 0 0) (.slice none 0 0) (.slice none 0 0)) := hid (h3.f.kept HB2.out HG.out.1)
 have HO3_3 : Hid (OwG KM 55 w3 w.heap.size (.slice a3 ms.length b3) ms) := hid (ho.less HZ2.out)
 clear he h3 HC3 HT2 HB2 ho hv HZ2
 go_wp2_with fail
 refine (HC4.out _ HT3.out.r).mono ?_
 rintro e w4 ⟨v4, he, ho, h4⟩
 obtain ⟨a4, b4, hv, _⟩ := ho.slice
 rw [hv] at he ho
 rw [he]
 have HT4 := hid (HT3.out.trans h4)
 have HZ4 : Hid (w.heap.size <= w4.heap.size) := hid (Nat.le_trans HZ0.out HT4.out.f.size)
 have HB4 : Hid (Wdb w4 g 0 0 (.slice none 0 0) (.slice none 0 0) (.slice none 0 0) (.slice none 0 0)) := hid (h4.f.kept HB3.out HG.out.1)
 have HO3_4 : Hid (OwG KM 55 w4 w.heap.size (.slice a3 ms.length b3) ms) := hid (HO3_3.out.zon h4 HL.out)
 have HO4_4 : Hid (OwG KC 57 w4 w.heap.size (.slice a4 cs.length b4) cs) := hid (ho.less HZ3.out)
 clear he h4 HC4 HT3 HB3 ho hv HO3_3 HZ3
 go_wp2_with fail
 refine (HC5.out _ HT4.out.r).mono ?_
 rintro e w5 ⟨he, h5⟩
 rw [he]
 have HT5 := hid (HT4.out.trans h5)
 have HZ5 : Hid (w.heap.size <= w5.heap.size) := hid (Nat.le_trans HZ0.out HT5.out.f.size)
 have HB5 : Hid (Wdb w5 g 0 0 (.slice none 0 0) (.slice none 0 0) (.slice none 0 0) (.slice none 0 0)) := hid (h5.f.kept HB4.out HG.out.1)
 have HO3_5 : Hid (OwG KM 55 w5 w.heap.size (.slice a3 ms.length b3) ms) := hid (HO3_4.out.zon h5 HL.out)
 have HO4_5 : Hid (OwG KC 57 w5 w.heap.size (.slice a4 cs.length b4) cs) := hid (HO4_4.out.zon h5 HL.out)
 clear he h5 HC5 HT4 HB4 HO3_4 HO4_4 HZ4
 go_wp2_with fail
 refine (HC6.out _ HT5.out.r).mono ?_
 rintro e w6 ⟨v6, he, ho, h6⟩
 obtain ⟨a6, b6, hv, _⟩ := ho.slice
 rw [hv] at he ho
 rw [he]
 have HT6 := hid (HT5.out.trans h6)
 have HZ6 : Hid (w.heap.size <= w6.heap.size) := hid (Nat.le_trans HZ0.out HT6.out.f.size)
 have HB6 : Hid (Wdb w6 g 0 0 (.slice none 0 0) (.slice none 0 0) (.slice none 0 0) (.slice none 0 0)) := hid (h6.f.kept HB5.out HG.out.1)
 have HO3_6 : Hid (OwG KM 55 w6 w.heap.size (.slice a3 ms.length b3) ms) := hid (HO3_5.out.zon h6 HL.out)
 have HO4_6 : Hid (OwG KC 57 w6 w.heap.size (.slice a4 cs.length b4) cs) := hid (HO4_5.out.zon h6 HL.out)
 have HO6_6 : Hid (OwG KS 59 w6 w.heap.size (.slice a6 hs.length b6) hs) := hid (ho.less HZ5.out)
 clear he h6 HC6 HT5 HB5 ho hv HO3_5 HO4_5 HZ5
 go_wp2_with fail
 refine (HC7.out _ HT6.out.r).mono ?_
 rintro e w7 ⟨he, h7⟩
 rw [he]
 have HT7 := hid (HT6.out.trans h7)
 have HZ7 : Hid (w.heap.size <= w7.heap.size) := hid (Nat.le_trans HZ0.out HT7.out.f.size)
 have HB7 : Hid (Wdb w7 g 0 0 (.slice none 0 0) (.slice none 0 0) (.slice none 0 0) (.slice none 0 0)) := hid (h7.f.kept HB6.out HG.out.1)
 have HO3_7 : Hid (OwG KM 55 w7 w.heap.size (.slice a3 ms.length b3) ms) := hid (HO3_6.out.zon h7 HL.out)
 have HO4_7 : Hid (OwG KC 57 w7 w.heap.size (.slice a4 cs.length b4) cs) := hid (HO4_6.out.zon h7 HL.out)
 have HO6_7 : Hid (OwG KS 59 w7 w.heap.size (.slice a6 hs.length b6) hs) := hid (HO6_6.out.zon h7 HL.out)
 clear he h7 HC7 HT6 HB6 HO3_6 HO4_6 HO6_6 HZ6
 go_wp2_with fail
 refine (HC8.out _ HT7.out.r).mono ?_
 rintro e w8 ⟨v8, he, ho, h8⟩
 obtain ⟨a8, b8, hv, _⟩ := ho.slice
 rw [hv] at he ho
 rw [he]
 have HT8 := hid (HT7.out.trans h8)
 have HZ8 : Hid (w.heap.size <= w8.heap.size) := hid (Nat.le_trans HZ0.out HT8.out.f.size)
 have HB8 : Hid (Wdb w8 g 0 0 (.slice none 0 0) (.slice none 0 0) (.slice none 0 0) (.slice none 0 0)) := hid (h8.f.kept HB7.out HG.out.1)
 have HO3_8 : Hid (OwG KM 55 w8 w.heap.size (.slice a3 ms.length b3) ms) := hid (HO3_7.out.zon h8 HL.out)
 have HO4_8 : Hid (OwG KC 57 w8 w.heap.size (.slice a4 cs.length b4) cs) := hid (HO4_7.out.zon h8 HL.out)
 have HO6_8 : Hid (OwG KS 59 w8 w.heap.size (.slice a6 hs.length b6) hs) := hid (HO6_7.out.zon h8 HL.out)
 have HO8_8 : Hid (OwG KQ 61 w8 w.heap.size (.slice a8 ks.length b8) ks) := hid (ho.less HZ7.out)
 clear he h8 HC8 HT7 HB7 ho hv HO3_7 HO4_7 HO6_7 HZ7
 go_wp2_with fail
 refine (HC9.out _ HT8.out.r).mono ?_
 rintro e w9 ⟨he, h9⟩
 rw [he]
 have HT9 := hid (HT8.out.trans h9)
 have HZ9 : Hid (w.heap.size <= w9.heap.size) := hid (Nat.le_trans HZ0.out HT9.out.f.size)
 have HB9 : Hid (Wdb w9 g 0 0 (.slice none 0 0) (.slice none 0 0) (.slice none 0 0) (.slice none 0 0)) := hid (h9.f.kept HB8.out HG.out.1)
 have HO3_9 : Hid (OwG KM 55 w9 w.heap.size (.slice a3 ms.length b3) ms) := hid (HO3_8.out.zon h9 HL.out)
 have HO4_9 : Hid (OwG KC 57 w9 w.heap.size (.slice a4 cs.length b4) cs) := hid (HO4_8.out.zon h9 HL.out)
 have HO6_9 : Hid (OwG KS 59 w9 w.heap.size (.slice a6 hs.length b6) hs) := hid (HO6_8.out.zon h9 HL.out)
 have HO8_9 : Hid (OwG KQ 61 w9 w.heap.size (.slice a8 ks.length b8) ks) := hid (HO8_8.out.zon h9 HL.out)
 clear he h9 HC9 HT8 HB8 HO3_8 HO4_8 HO6_8 HO8_8 HZ8
 obtain ⟨c0, c1, c2, c3, c4, c5, cf⟩ := HB9.out.cells
 have f0 := cf 0
 have f1 := cf 1
 have f2 := cf 2
 have f3 := cf 3
 have f4 := cf 4
 have f5 := cf 5
 go_wp2_with fail
 refine bodyPost_ret (Wdb.res1 (HB9.out.put fr nx _ _ _ _) rfl _ rfl) rfl ⟨_, rfl, ⟨_, _, _, _, rfl, ?_, ?_, ?_, ?_⟩, ?_⟩
 ·exact HO3_9.out.set6 HB9.out.ty (by decide) _ _ _ _ _ _
 ·exact HO4_9.out.set6 HB9.out.ty (by decide) _ _ _ _ _ _
 ·exact HO6_9.out.set6 HB9.out.ty (by decide) _ _ _ _ _ _
 ·exact HO8_9.out.set6 HB9.out.ty (by decide) _ _ _ _ _ _
 ·exact Tc.fin HA.out HT9.out HB9.out (by decide) HG.out.1 HG.out.2 (Fr.setCell (Fr.setCell (Fr.setCell (Fr.setCell (Fr.setCell (Fr.setCell (Fr.refl (fun k => k = g) _) ⟨g, 0, none⟩ _ (.inl rfl)) ⟨g, 1, none⟩ _ (.inl rfl)) ⟨g, 2, none⟩ _ (.inl rfl)) ⟨g, 3, none⟩ _ (.inl rfl)) ⟨g, 4, none⟩ _ (.inl rfl)) ⟨g, 5, none⟩ _ (.inl rfl))
end Go.Proofs.YtkgbmefaphhcnaaGreatDoor
