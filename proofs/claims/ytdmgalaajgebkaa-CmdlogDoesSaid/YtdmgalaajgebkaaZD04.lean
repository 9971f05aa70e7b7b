/- Parts of the proof, laid end to end. -/
import Derived.Test.YtdmgalaajgebkaaZD00
import Derived.Test.YtdmgalaajgebkaaZD03
import Derived.Test.YtdmgalaajgebkaaZD02
import Derived.Deep.DeepCutAuto
import Derived.Deep.RegionHeld3
import Derived.BigRegion
import Derived.Laws.StructEq
import Derived.Lib.SliceRun
namespace Go.Proofs.Ytdmgalaajgebkaa
open Go.RowKit
set_option maxRecDepth 100000
abbrev ecs (x : En) : Array Value := #[.int .i64 x.fr, .int .i64 x.pe, .int .i64 x.se, .int .i64 x.vb, .int .i64 x.a, .int .i64 x.b, .int .i64 x.c, .int .i64 x.ms]
abbrev ev (x : En) : Value := .agg (ecs x)
def Eb (w : World) (g : Nat) (x : En) : Prop := w.heap[g]? = some (.cells (ecs x) 44 (0, 0))
theorem Eb.still {w w' : World} {g : Nat} {x : En} (h : Eb w g x) (hs : Still w w') : Eb w' g x := hs.kept_still h
theorem Eb.lt {w : World} {g : Nat} {x : En} (h : Eb w g x) : g < w.heap.size := block_lt h
theorem Eb.cells {w : World} {g : Nat} {x : En} (h : Eb w g x) : w.cell? ⟨g, 0, none⟩ = some (.int .i64 x.fr) /\ w.cell? ⟨g, 1, none⟩ = some (.int .i64 x.pe) /\ w.cell? ⟨g, 2, none⟩ = some (.int .i64 x.se) /\ w.cell? ⟨g, 3, none⟩ = some (.int .i64 x.vb) /\ w.cell? ⟨g, 4, none⟩ = some (.int .i64 x.a) /\ w.cell? ⟨g, 5, none⟩ = some (.int .i64 x.b) /\ w.cell? ⟨g, 6, none⟩ = some (.int .i64 x.c) /\ w.cell? ⟨g, 7, none⟩ = some (.int .i64 x.ms) /\ ∀ o, w.frozen? ⟨g, o, none⟩ = false := by
 refine ⟨?_, ?_, ?_, ?_, ?_, ?_, ?_, ?_, fun o => frozen_of_row w g o _ _ h⟩ <;> (rw [cell_of_row _ _ _ _ _ _ h]; rfl)
abbrev newE (w : World) (x : En) : World := w.alloc (.cells (ecs x) 44)
theorem newE_eb (w : World) (x : En) : Eb (newE w x) w.heap.size x := heap_alloc_new w _
def KE : Kd En := ⟨fun m => (ecs m).toList, 8, zE, fun _ => rfl, fun m u hu => by
 simp at hu
 rcases hu with rfl | rfl | rfl | rfl | rfl | rfl | rfl | rfl <;> rfl, by decide⟩
theorem infoE : ∃ i, Try.prog.info? 44 = some i /\ i.zero = some (.agg (KE.f KE.d).toArray) /\ i.size = KE.k /\ i.bytes = 64 := ⟨_, rfl, rfl, rfl, rfl⟩
theorem rdE {w : World} {B o n : Nat} {L : List En} (h : RdG KE w (some ⟨B, o, none⟩) n L) {i : Nat} (hi : i < n) : w.cell? ⟨B, o + i * 8, none⟩ = some (.int .i64 (att L i).fr) /\ w.cell? ⟨B, o + i * 8 + 1, none⟩ = some (.int .i64 (att L i).pe) /\ w.cell? ⟨B, o + i * 8 + 2, none⟩ = some (.int .i64 (att L i).se) /\ w.cell? ⟨B, o + i * 8 + 3, none⟩ = some (.int .i64 (att L i).vb) /\ w.cell? ⟨B, o + i * 8 + 4, none⟩ = some (.int .i64 (att L i).a) /\ w.cell? ⟨B, o + i * 8 + 5, none⟩ = some (.int .i64 (att L i).b) /\ w.cell? ⟨B, o + i * 8 + 6, none⟩ = some (.int .i64 (att L i).c) /\ w.cell? ⟨B, o + i * 8 + 7, none⟩ = some (.int .i64 (att L i).ms) :=
 ⟨h.get hi 0 _ rfl, h.get hi 1 _ rfl, h.get hi 2 _ rfl, h.get hi 3 _ rfl, h.get hi 4 _ rfl, h.get hi 5 _ rfl, h.get hi 6 _ rfl, h.get hi 7 _ rfl⟩
theorem owE {e : TypeId} {w : World} {B g n cap : Nat} {L : List En} (h : OwG KE e w B (.slice (some ⟨g, 0, none⟩) n cap) L) {i : Nat} (hi : i < L.length) : w.cell? ⟨g, i * 8, none⟩ = some (.int .i64 (att L i).fr) /\ w.cell? ⟨g, i * 8 + 1, none⟩ = some (.int .i64 (att L i).pe) /\ w.cell? ⟨g, i * 8 + 2, none⟩ = some (.int .i64 (att L i).se) /\ w.cell? ⟨g, i * 8 + 3, none⟩ = some (.int .i64 (att L i).vb) /\ w.cell? ⟨g, i * 8 + 4, none⟩ = some (.int .i64 (att L i).a) /\ w.cell? ⟨g, i * 8 + 5, none⟩ = some (.int .i64 (att L i).b) /\ w.cell? ⟨g, i * 8 + 6, none⟩ = some (.int .i64 (att L i).c) /\ w.cell? ⟨g, i * 8 + 7, none⟩ = some (.int .i64 (att L i).ms) /\ ∀ o, w.frozen? ⟨g, o, none⟩ = false :=
 ⟨h.get hi 0 _ rfl, h.get hi 1 _ rfl, h.get hi 2 _ rfl, h.get hi 3 _ rfl, h.get hi 4 _ rfl, h.get hi 5 _ rfl, h.get hi 6 _ rfl, h.get hi 7 _ rfl, h.frozen⟩
theorem cnan64_any (x : Int) (w : World) : Calls Try.prog 75 #[.int .i64 x] w fun e w' => e = .returned (.bool false) /\ w' = w := by
 have h : (x != x) = false := by simp
 go_enter Try.func75, Try.ntmps75
 go_wp2_with fail
 go_ret
 exact ⟨by simp, rfl⟩
theorem cnan_any (x : Int) (w : World) : Calls Try.prog 76 #[.int .i64 x] w fun e w' => e = .returned (.bool false) /\ w' = w := by
 have h : (x != x) = false := by simp
 go_enter Try.func76, Try.ntmps76
 go_wp2_with fail
 go_ret
 exact ⟨by simp, rfl⟩
theorem ccmp_any (x y : Int) (w : World) : Calls Try.prog 63 #[.int .i64 x, .int .i64 y] w fun e w' => e = .returned (.int .i64 (cI x y)) /\ w' = w := by
 have H1 := hid (fun w => cnan_any x w)
 have H2 := hid (fun w => cnan_any y w)
 by_cases h1 : x < y
 ·have HE : Hid (cI x y = -1) := hid (by unfold cI; rw [if_pos h1])
  go_enter Try.func63, Try.ntmps63
  go_wp2_with fail
  refine (H1.out _).mono ?_
  rintro e w1 ⟨rfl, rfl⟩
  go_wp2_with fail
  refine (H2.out _).mono ?_
  rintro e w1 ⟨rfl, rfl⟩
  go_wp2_with fail
  go_ret
  exact ⟨by rw [HE.out]; rfl, rfl⟩
 ·by_cases h2 : x > y
  ·have HE : Hid (cI x y = 1) := hid (by unfold cI; rw [if_neg h1, if_pos h2])
   go_enter Try.func63, Try.ntmps63
   go_wp2_with fail
   refine (H1.out _).mono ?_
   rintro e w1 ⟨rfl, rfl⟩
   go_wp2_with fail
   refine (H2.out _).mono ?_
   rintro e w1 ⟨rfl, rfl⟩
   go_wp2_with fail
   go_ret
   exact ⟨by rw [HE.out]; rfl, rfl⟩
  ·have HE : Hid (cI x y = 0) := hid (by unfold cI; rw [if_neg h1, if_neg h2])
   go_enter Try.func63, Try.ntmps63
   go_wp2_with fail
   refine (H1.out _).mono ?_
   rintro e w1 ⟨rfl, rfl⟩
   go_wp2_with fail
   refine (H2.out _).mono ?_
   rintro e w1 ⟨rfl, rfl⟩
   go_wp2_with fail
   go_ret
   exact ⟨by rw [HE.out]; rfl, rfl⟩
theorem ccmp64_any (x y : Int) (w : World) : Calls Try.prog 62 #[.int .i64 x, .int .i64 y] w fun e w' => e = .returned (.int .i64 (cI x y)) /\ w' = w := by
 have H1 := hid (fun w => cnan64_any x w)
 have H2 := hid (fun w => cnan64_any y w)
 by_cases h1 : x < y
 ·have HE : Hid (cI x y = -1) := hid (by unfold cI; rw [if_pos h1])
  go_enter Try.func62, Try.ntmps62
  go_wp2_with fail
  refine (H1.out _).mono ?_
  rintro e w1 ⟨rfl, rfl⟩
  go_wp2_with fail
  refine (H2.out _).mono ?_
  rintro e w1 ⟨rfl, rfl⟩
  go_wp2_with fail
  go_ret
  exact ⟨by rw [HE.out]; rfl, rfl⟩
 ·by_cases h2 : x > y
  ·have HE : Hid (cI x y = 1) := hid (by unfold cI; rw [if_neg h1, if_pos h2])
   go_enter Try.func62, Try.ntmps62
   go_wp2_with fail
   refine (H1.out _).mono ?_
   rintro e w1 ⟨rfl, rfl⟩
   go_wp2_with fail
   refine (H2.out _).mono ?_
   rintro e w1 ⟨rfl, rfl⟩
   go_wp2_with fail
   go_ret
   exact ⟨by rw [HE.out]; rfl, rfl⟩
  ·have HE : Hid (cI x y = 0) := hid (by unfold cI; rw [if_neg h1, if_neg h2])
   go_enter Try.func62, Try.ntmps62
   go_wp2_with fail
   refine (H1.out _).mono ?_
   rintro e w1 ⟨rfl, rfl⟩
   go_wp2_with fail
   refine (H2.out _).mono ?_
   rintro e w1 ⟨rfl, rfl⟩
   go_wp2_with fail
   go_ret
   exact ⟨by rw [HE.out]; rfl, rfl⟩
theorem cor_any (l : List Int) (B n cap : Nat) (w : World) (hl : l.length = n) (hn : n <= 100) (hr : ∀ k (h : k < l.length), w.cell? ⟨B, k, none⟩ = some (.int .i64 l[k])) : Calls Try.prog 61 #[.slice (some ⟨B, 0, none⟩) n cap] w fun e w' => e = .returned (.int .i64 (orI l)) /\ w' = w := by
 have HR := hid hr
 clear hr
 go_enter Try.func61, Try.ntmps61
 go_wp2_with fail
 go_loopw [8] (fun u wr => ∃ k : Nat, k <= n /\ u = .int .i64 (k : Int) /\ Hid (orI l = orI (l.drop k)) /\ wr = w) (fun u _ => n - (intOf u).toNat)
 case atStart => exact ⟨0, by omega, rfl, hid (by simp), rfl⟩
 case round =>
  obtain ⟨k, hk, rfl, HE, rfl⟩ := hrel
  by_cases hkn : k < n
  ·have hlt : (k : Int) < (n : Int) := by omega
   have c0 := HR.out k (by omega)
   have HD : Hid (orI (l.drop k) = if l[k]'(by omega) ≠ 0 then l[k]'(by omega) else orI (l.drop (k + 1))) := hid (by rw [List.drop_eq_getElem_cons (by omega)]; rfl)
   obtain ⟨x, ex⟩ : ∃ x, l[k]'(by omega) = x := ⟨_, rfl⟩
   rw [ex] at c0 HD
   clear ex
   by_cases hx : x = 0
   ·have HE2 : Hid (orI l = orI (l.drop (k + 1))) := hid (by rw [HE.out, HD.out, if_neg (by simpa using hx)])
    subst hx
    clear HE HD
    go_wp2_with fail
    go_roundw
    case rel => exact ⟨k + 1, by omega, by go_num, HE2, by trivial⟩
    case measure => simp [intOf]; omega
   ·have HE2 : Hid (orI l = x) := hid (by rw [HE.out, HD.out, if_pos (by simpa using hx)])
    have hx' : (x != 0) = true := by simpa using hx
    clear HE HD hx
    go_wp2_with fail
    (first | rw [Exit.noGoto_ret] | skip)
    go_ret
    exact ⟨by rw [HE2.out]; rfl, rfl⟩
  ·have hge : ¬ (k : Int) < (n : Int) := by omega
   have HE2 : Hid (orI l = 0) := hid (by rw [HE.out, List.drop_eq_nil_of_le (by omega)]; rfl)
   clear HE
   go_wp2_with fail
   go_ret
   exact ⟨by rw [HE2.out]; rfl, rfl⟩
theorem rd_three (w : World) (a b c : Int) : ∀ k (h : k < [a, b, c].length), (w.alloc (.cells #[.int .i64 a, .int .i64 b, .int .i64 c] 3)).cell? ⟨w.heap.size, k, none⟩ = some (.int .i64 [a, b, c][k]) := by
 intro k h
 have hb := heap_alloc_new w (.cells #[.int .i64 a, .int .i64 b, .int .i64 c] 3)
 rw [cell_of_row _ _ _ _ _ _ hb]
 simp at h
 have : k = 0 \/ k = 1 \/ k = 2 := by omega
 rcases this with rfl | rfl | rfl <;> rfl
set_option maxHeartbeats 2000000 in
theorem qcmp_any (x y : En) (w : World) : Calls Try.prog 55 #[ev x, ev y] w fun e w' => e = .returned (.int .i64 (kc x y)) /\ Still w w' := by
 have A0 := Still.alloc w (.cells (ecs x) 44)
 have A1 := Still.alloc (newE w x) (.cells (ecs y) 44)
 have p0 := (newE_eb w x).still A1
 have q0 := newE_eb (newE w x) y
 simp only [size_alloc] at q0
 obtain ⟨W, eW⟩ : ∃ W, W = newE (newE w x) y := ⟨_, rfl⟩
 have HS0 : Hid (Still w W) := hid (by rw [eW]; exact A0.trans A1)
 have p0 : Eb W w.heap.size x := by rw [eW]; exact p0
 rw [<- eW] at q0
 have HU : Hid (kc x y = orI [cI x.fr y.fr, cI x.pe y.pe, cI x.se y.se]) := hid rfl
 obtain ⟨c0, c1, c2, _, _, _, _, _, _⟩ := p0.cells
 obtain ⟨d0, d1, d2, _, _, _, _, _, _⟩ := q0.cells
 have H0 := hid (fun w => ccmp64_any x.fr y.fr w)
 have H1 := hid (fun w => ccmp_any x.pe y.pe w)
 have H2 := hid (fun w => ccmp_any x.se y.se w)
 obtain ⟨r0, e0⟩ : ∃ r, cI x.fr y.fr = r := ⟨_, rfl⟩
 obtain ⟨r1, e1⟩ : ∃ r, cI x.pe y.pe = r := ⟨_, rfl⟩
 obtain ⟨r2, e2⟩ : ∃ r, cI x.se y.se = r := ⟨_, rfl⟩
 rw [e0, e1, e2] at HU
 rw [e0] at H0
 rw [e1] at H1
 rw [e2] at H2
 obtain ⟨v, ev'⟩ : ∃ v, kc x y = v := ⟨_, rfl⟩
 rw [ev'] at HU ⊢
 clear e0 e1 e2 ev'
 have s0 := Cl.cell c0
 have s1 := Cl.cell c1
 have s2 := Cl.cell c2
 have t0 := Cl.cell d0
 have t1 := Cl.cell d1
 have t2 := Cl.cell d2
 have hne := Aft.here W
 have HW := hid eW
 clear A0 A1 p0 q0 eW c0 c1 c2 d0 d1 d2
 go_enter Try.func55, Try.ntmps55
 go_wp2_with fail
 have e := HW.out
 simp only [newE] at e
 rw [<- e]
 clear e HW
 refine region_rest 21 (by kernel_rfl) (by kernel_rfl) ?_
 simp only [List.take_succ_cons, List.take_zero, List.drop_succ_cons, List.drop_zero]
 repeat (go_big_quiet_step ((first | (go_at_call 62; with_reducible exact Calls.cl_same (H0.out _)) | (go_at_call 63; with_reducible exact Calls.cl_same (H1.out _)) | (go_at_call 63; with_reducible exact Calls.cl_same (H2.out _)))))
 refine wpQuiet_nil ?_
 intro w1 h1
 have HS1 := hid ((HS0.out.trans h1).trans (Still.alloc w1 (.cells #[.int .i64 r0, .int .i64 r1, .int .i64 r2] 3)))
 have HO := hid (cor_any [r0, r1, r2] w1.heap.size 3 3 _ rfl (by omega) (rd_three w1 r0 r1 r2))
 rw [<- HU.out] at HO
 clear HU h1 s0 s1 s2 t0 t1 t2 hne H0 H1 H2 HS0
 go_wp2_with fail
 refine HO.out.mono ?_
 rintro e w2 ⟨he, hw⟩
 rw [he, hw]
 clear he hw w2 HO
 go_wp2_with fail
 (try simp only [Exit.inBlock, Exit.then])
 go_ret
 exact ⟨rfl, HS1.out⟩
end Go.Proofs.Ytdmgalaajgebkaa
namespace Go.Proofs.Ytdmgalaajgebkaa
open Go.RowKit
set_option maxRecDepth 100000
theorem OwG.rdE {e : TypeId} {w : World} {B : Nat} {ao : Option Addr} {n cap : Nat} {L : List En} (h : OwG KE e w B (.slice ao n cap) L) (hl : L.length = n) (hm : n <= 281474976710656) : RdG KE w ao n L := by
 have := OwG.rd (M := []) (L := L) (by simpa using h) (by omega)
 rwa [hl] at this
theorem qlen_any (ao : Option Addr) (n cap : Nat) (w : World) : Calls Try.prog 100 #[.slice ao n cap] w fun e w' => e = .returned (.int .i64 (n : Int)) /\ w' = w := by
 go_enter Try.func100, Try.ntmps100
 go_wp2_with fail
 go_ret
 exact ⟨rfl, rfl⟩
set_option maxHeartbeats 2000000 in
theorem qless_any (L : List En) (B o n cap i j : Nat) (hi : i < n) (hj : j < n) (w : World) (hr : RdG KE w (some ⟨B, o, none⟩) n L) : Calls Try.prog 101 #[.slice (some ⟨B, o, none⟩) n cap, .int .i64 (i : Int), .int .i64 (j : Int)] w fun e w' => e = .returned (.bool (decide (kc (att L i) (att L j) < 0))) /\ Still w w' := by
 have h47 : n <= 281474976710656 := hr.2.1
 obtain ⟨c0, c1, c2, c3, c4, c5, c6, c7⟩ := rdE hr hi
 obtain ⟨d0, d1, d2, d3, d4, d5, d6, d7⟩ := rdE hr hj
 have H0 := hid (fun w => qcmp_any (att L i) (att L j) w)
 obtain ⟨x, ex⟩ : ∃ x, att L i = x := ⟨_, rfl⟩
 obtain ⟨y, ey⟩ : ∃ x, att L j = x := ⟨_, rfl⟩
 rw [ex] at c0 c1 c2 c3 c4 c5 c6 c7
 rw [ey] at d0 d1 d2 d3 d4 d5 d6 d7
 rw [ex, ey] at H0
 rw [ex, ey]
 clear ex ey hr
 obtain ⟨v, ev'⟩ : ∃ v, kc x y = v := ⟨_, rfl⟩
 rw [ev'] at H0 ⊢
 clear ev'
 have hi' : (i : Int) < (n : Int) := by omega
 have hj' : (j : Int) < (n : Int) := by omega
 have q0 := Cl.cell c0
 have q1 := Cl.cell c1
 have q2 := Cl.cell c2
 have q3 := Cl.cell c3
 have q4 := Cl.cell c4
 have q5 := Cl.cell c5
 have q6 := Cl.cell c6
 have q7 := Cl.cell c7
 have s0 := Cl.cell d0
 have s1 := Cl.cell d1
 have s2 := Cl.cell d2
 have s3 := Cl.cell d3
 have s4 := Cl.cell d4
 have s5 := Cl.cell d5
 have s6 := Cl.cell d6
 have s7 := Cl.cell d7
 have hne := Aft.here w
 clear c0 c1 c2 c3 c4 c5 c6 c7 d0 d1 d2 d3 d4 d5 d6 d7
 go_enter Try.func101, Try.ntmps101
 go_wp2_with fail
 refine region_rest 9 (by kernel_rfl) (by kernel_rfl) ?_
 simp only [List.take_succ_cons, List.take_zero, List.drop_succ_cons, List.drop_zero]
 repeat (go_big_quiet_step ((go_at_call 55; with_reducible exact Calls.cl (H0.out _))))
 refine wpQuiet_nil ?_
 intro w1 h1
 have HS := hid h1
 clear h1 q0 q1 q2 q3 q4 q5 q6 q7 s0 s1 s2 s3 s4 s5 s6 s7 hne H0
 by_cases hv : v < 0
 ·go_wp2_with fail
  (try simp only [Exit.inBlock, Exit.then])
  go_ret
  exact ⟨by simp [hv], HS.out⟩
 ·go_wp2_with fail
  (try simp only [Exit.inBlock, Exit.then])
  go_ret
  exact ⟨by simp [hv], HS.out⟩
theorem wpList_idx {P : Program} {ops : Array Oper} {rest : List Oper} {o : Oper} {a : Act} {Q : Exit -> Act -> World -> Prop} {w w' : World} (hgd : o.guard = none) {t : TypeId} {s x : Operand} (hop : o.op = .indexAddr t s x) {sv xv v : Value} (hs : a.eval s = sv) (hx : a.eval x = xv) (hr : (Instr.indexAt t sv xv).run P w = .ok v w') (h : wpList P ops Q rest (a.put o.dst v) w') : wpList P ops Q (o :: rest) a w :=
 wpList_plain hgd fun K hK => by
  unfold Oper.wp execOp
  simp only [hop, hs, hx, Sem.run_bind, Sem.run_pure, hr, Result.andThen_ok]
  exact hK _ _ h
theorem wpList_sto {P : Program} {ops : Array Oper} {rest : List Oper} {o : Oper} {a : Act} {Q : Exit -> Act -> World -> Prop} {w w' : World} (hgd : o.guard = none) {t : TypeId} {s x : Operand} (hop : o.op = .store t s x) {sv xv : Value} (hs : a.eval s = sv) (hx : a.eval x = xv) (hr : (Instr.storeAt t sv xv).run P w = .ok () w') (h : wpList P ops Q rest (a.put o.dst undef) w') : wpList P ops Q (o :: rest) a w :=
 wpList_plain hgd fun K hK => by
  unfold Oper.wp execOp
  simp only [hop, hs, hx, Sem.run_bind, Sem.run_pure, hr, Result.andThen_ok]
  exact hK _ _ h
theorem wpList_mv {P : Program} {ops : Array Oper} {rest : List Oper} {o : Oper} {a : Act} {Q : Exit -> Act -> World -> Prop} {w : World} (hgd : o.guard = none) {x : Operand} (hop : o.op = .move x) {xv : Value} (hx : a.eval x = xv) (h : wpList P ops Q rest (a.put o.dst xv) w) : wpList P ops Q (o :: rest) a w :=
 wpList_plain hgd fun K hK => by
  unfold Oper.wp execOp
  simp only [hop, hx, Sem.run_pure]
  exact hK _ _ h
theorem wpList_ld {P : Program} {ops : Array Oper} {rest : List Oper} {o : Oper} {a : Act} {Q : Exit -> Act -> World -> Prop} {w w' : World} (hgd : o.guard = none) {t : TypeId} {s : Operand} (hop : o.op = .load t s) {sv v : Value} (hs : a.eval s = sv) (hr : (Instr.loadAt t sv).run P w = .ok v w') (h : wpList P ops Q rest (a.put o.dst v) w') : wpList P ops Q (o :: rest) a w :=
 wpList_plain hgd fun K hK => by
  unfold Oper.wp execOp
  simp only [hop, hs, Sem.run_bind, Sem.run_pure, hr, Result.andThen_ok]
  exact hK _ _ h
theorem run_getE {B g n cap i : Nat} {w : World} {L : List En} (ho : OwG KE 44 w B (.slice (some ⟨g, 0, none⟩) n cap) L) (hi : i < L.length) : (Instr.loadAt 44 (.pointer (some ⟨g, i * 8, none⟩))).run Try.prog w = .ok (ev (att L i)) w := by
 obtain ⟨c0, c1, c2, c3, c4, c5, c6, c7, cf⟩ := owE ho hi
 go_simp
theorem run_idxE (w : World) (g n cap i : Nat) (hi : i < n) : (Instr.indexAt 88 (.slice (some ⟨g, 0, none⟩) n cap) (.int .i64 (i : Int))).run Try.prog w = .ok (.pointer (some ⟨g, i * 8, none⟩)) w := by
 have hi' : (i : Int) < (n : Int) := by omega
 go_simp
theorem run_putE {B g n cap i : Nat} {w : World} {L : List En} (ho : OwG KE 44 w B (.slice (some ⟨g, 0, none⟩) n cap) L) (hi : i < L.length) (y : En) : (Instr.storeAt 44 (.pointer (some ⟨g, i * 8, none⟩)) (ev y)).run Try.prog w = .ok () (w.setCells g (i * 8) (KE.f y)) := by
 obtain ⟨c0, c1, c2, c3, c4, c5, c6, c7, cf⟩ := owE ho hi
 have e : w.setCells g (i * 8) (KE.f y) = (((((((w.setCell ⟨g, i * 8, none⟩ (.int .i64 y.fr)).setCell ⟨g, i * 8 + 1, none⟩ (.int .i64 y.pe)).setCell ⟨g, i * 8 + 2, none⟩ (.int .i64 y.se)).setCell ⟨g, i * 8 + 3, none⟩ (.int .i64 y.vb)).setCell ⟨g, i * 8 + 4, none⟩ (.int .i64 y.a)).setCell ⟨g, i * 8 + 5, none⟩ (.int .i64 y.b)).setCell ⟨g, i * 8 + 6, none⟩ (.int .i64 y.c)).setCell ⟨g, i * 8 + 7, none⟩ (.int .i64 y.ms) := rfl
 rw [e]
 go_simp
set_option maxHeartbeats 2000000 in
theorem qswap_any (L : List En) (B g n cap i j : Nat) (hi : i < n) (hj : j < n) (w : World) (ho : OwG KE 44 w B (.slice (some ⟨g, 0, none⟩) n cap) L) (hl : L.length = n) : Calls Try.prog 102 #[.slice (some ⟨g, 0, none⟩) n cap, .int .i64 (i : Int), .int .i64 (j : Int)] w fun e w' => e = .returned (.tuple #[]) /\ OwG KE 44 w' B (.slice (some ⟨g, 0, none⟩) n cap) (sw L i j) /\ Fr (fun k => k = g) w w' := by
 obtain ⟨c0, c1, c2, c3, c4, c5, c6, c7, cf⟩ := owE ho (i := i) (by omega)
 obtain ⟨d0, d1, d2, d3, d4, d5, d6, d7, _⟩ := owE ho (i := j) (by omega)
 have HE : Hid (sw L i j = (L.set i (att L j)).set j (att L i)) := hid rfl
 obtain ⟨x, ex⟩ : ∃ x, att L i = x := ⟨_, rfl⟩
 obtain ⟨y, ey⟩ : ∃ x, att L j = x := ⟨_, rfl⟩
 rw [ex] at c0 c1 c2 c3 c4 c5 c6 c7
 rw [ey] at d0 d1 d2 d3 d4 d5 d6 d7
 rw [ex, ey] at HE
 rw [HE.out]
 have HX := hid ex
 have HY := hid ey
 clear ex ey HE
 have hi' : (i : Int) < (n : Int) := by omega
 have hj' : (j : Int) < (n : Int) := by omega
 have HO := hid ho
 clear ho c0 c1 c2 c3 c4 c5 c6 c7 cf d0 d1 d2 d3 d4 d5 d6 d7
 go_enter Try.func102, Try.ntmps102
 go_upto_region 0 with fail
 refine region_late 12 (by kernel_rfl) (by kernel_rfl) (by kernel_rfl) ?_
 apply Exists.intro
 refine And.intro ?_ ?_
 ·intro u hu
  obtain ⟨c0, c1, c2, c3, c4, c5, c6, c7, cf⟩ := owE (HO.out.still hu) (i := i) (by omega)
  obtain ⟨d0, d1, d2, d3, d4, d5, d6, d7, _⟩ := owE (HO.out.still hu) (i := j) (by omega)
  rw [HX.out] at c0 c1 c2 c3 c4 c5 c6 c7
  rw [HY.out] at d0 d1 d2 d3 d4 d5 d6 d7
  have q0 := Cl.cell c0
  have q1 := Cl.cell c1
  have q2 := Cl.cell c2
  have q3 := Cl.cell c3
  have q4 := Cl.cell c4
  have q5 := Cl.cell c5
  have q6 := Cl.cell c6
  have q7 := Cl.cell c7
  have s0 := Cl.cell d0
  have s1 := Cl.cell d1
  have s2 := Cl.cell d2
  have s3 := Cl.cell d3
  have s4 := Cl.cell d4
  have s5 := Cl.cell d5
  have s6 := Cl.cell d6
  have s7 := Cl.cell d7
  have hne := Aft.here u
  clear c0 c1 c2 c3 c4 c5 c6 c7 cf d0 d1 d2 d3 d4 d5 d6 d7
  simp only [List.take_succ_cons, List.take_zero]
  repeat (go_big_quiet_step (fail))
  exact wpQuiet_nil rfl
 intro w1 h1
 have ho := HO.out.still h1
 have ho2 := ho.put (i := i) (by omega) y
 have f2 := fr_setCells (F := fun k => k = g) g (KE.f y) (i * KE.k) w1 (Still.to h1) (.inl rfl)
 have f3 := fr_setCells (F := fun k => k = g) g (KE.f x) (j * KE.k) _ f2 (.inl rfl)
 have ho3 := ho2.put (i := j) (by rw [List.length_set]; omega) x
 have r1 := run_idxE w1 g n cap i hi
 have r2 := run_putE ho (i := i) (by omega) y
 have r3 := run_idxE (w1.setCells g (i * 8) (KE.f y)) g n cap j hj
 have r4 := run_putE ho2 (i := j) (by rw [List.length_set]; omega) x
 simp only [List.drop_succ_cons, List.drop_zero]
 refine wpList_idx rfl rfl rfl rfl r1 ?_
 refine wpList_sto rfl rfl rfl rfl r2 ?_
 refine wpList_idx rfl rfl rfl rfl r3 ?_
 refine wpList_sto rfl rfl rfl rfl r4 ?_
 have HO3 := hid (And.intro ho3 f3)
 obtain ⟨W, eW⟩ : ∃ W, (w1.setCells g (i * KE.k) (KE.f y)).setCells g (j * 8) (KE.f x) = W := ⟨_, rfl⟩
 have HO4 : Hid (OwG KE 44 W B (.slice (some ⟨g, 0, none⟩) n cap) ((L.set i y).set j x) /\ Fr (fun k => k = g) w W) := by rw [<- eW]; exact HO3
 rw [eW]
 clear eW HO3 ho ho2 ho3 f2 f3 r1 r2 r3 r4 h1
 go_wp2_with fail
 (try simp only [Exit.inBlock, Exit.then])
 refine ⟨rfl, ?_⟩
 go_end0
 exact ⟨rfl, HO4.out⟩
end Go.Proofs.Ytdmgalaajgebkaa
namespace Go.Proofs.Ytdmgalaajgebkaa
open Go.RowKit
set_option maxRecDepth 100000
theorem app_block {P : Program} {α : Type} {K : Kd α} {e : TypeId} {w : World} {B : Nat} {v : Value} {L : List α} (ho : OwG K e w B v L) {t ty : TypeId} (hu : P.underlying t = some (.slice e)) (bytes : Nat) (hinfo : ∃ i, P.info? e = some i /\ i.zero = some (.agg (K.f K.d).toArray) /\ i.size = K.k /\ i.bytes = bytes) (p : α) {g : Nat} (hr : w.heap[g]? = some (.cells (K.f p).toArray e (0, 0))) (h47 : (L.length + 1) * bytes <= 140737488355328) (h63 : L.length <= 281474976710656) {v' : Value} {w' : World}
  (hrun : (Builtin.append_ #[t, t] ty #[v, .slice (some ⟨g, 0, none⟩) 1 1]).run P w = .ok v' w') : ∀ k, v'.ownBlock = some k -> v.ownBlock = some k \/ w.heap.size <= k := by
 obtain ⟨i, hi, hz, h1, h2⟩ := hinfo
 subst h2
 have hl : (K.f p).length = 1 * i.size := by rw [K.len, h1, Nat.one_mul]
 have hnews : ∀ j u, (K.f p)[j]? = some u -> w.cell? ((⟨g, 0, none⟩ : Addr).add j) = some u := by
  intro j u hj
  rw [add_plain, Nat.zero_add, cell_of_row _ _ _ _ _ _ hr]
  simpa using hj
 rcases ho.2 with ⟨rfl, hn⟩ | ⟨g', cap, cur, rfl, hbg, hg, hnc, hcm, hcs, htake⟩
 ·have := run_append_nil (P := P) w t ty e i _ hu hi hz ⟨g, 0, none⟩ 1 1 (K.f p) hl hnews (by omega) (by omega) (by rw [hn] at h47; simp only [Nat.zero_add] at h47; omega)
  rw [this] at hrun
  injection hrun with hv _
  intro k hk
  rw [<- hv] at hk
  simp [Value.ownBlock] at hk
  right; omega
 ·by_cases hroom : L.length + 1 <= cap
  ·have := run_append_room (P := P) w t ty e i hu hi g' L.length cap cur hg ⟨g, 0, none⟩ 1 1 (K.f p) hl hnews (K.one p) hroom (by rw [hl, hcs, <- h1, <- Nat.add_mul]; exact Nat.mul_le_mul_right _ hroom)
   rw [this] at hrun
   injection hrun with hv _
   intro k hk
   rw [<- hv] at hk
   left
   simpa [Value.ownBlock] using hk
  ·have holds := World.ownsRow.cells ho (g := g') rfl
   have := run_append_grow (P := P) w t ty e i _ hu hi hz ⟨g', 0, none⟩ L.length cap (K.row L) (by rw [K.row_len, h1]) holds ⟨g, 0, none⟩ 1 1 (K.f p) hl hnews (by omega) (by omega) (growslice_fits (by omega) h47)
   rw [this] at hrun
   injection hrun with hv _
   intro k hk
   rw [<- hv] at hk
   simp [Value.ownBlock] at hk
   right; omega
theorem wpList_appQ {P : Program} {α : Type} {e : TypeId} (K : Kd α) (w : World) {ops : Array Oper} {rest : List Oper} {o : Oper} {a : Act} {Q : Exit -> Act -> World -> Prop} (hgd : o.guard = none) (s x : Operand) (t : TypeId)
  (hop : o.op = .call { callee := .builtin .append, args := #[s, x], argTypes := #[t, t] })
  (hu : P.underlying t = some (.slice e)) (bytes : Nat) (hinfo : ∃ i, P.info? e = some i /\ i.zero = some (.agg (K.f K.d).toArray) /\ i.size = K.k /\ i.bytes = bytes)
  (B g : Nat) (v : Value) (L : List α) (p : α) (hs : a.eval s = v) (hx : a.eval x = .slice (some ⟨g, 0, none⟩) 1 1) (ho : OwG K e w B v L) (hr : w.heap[g]? = some (.cells (K.f p).toArray e (0, 0))) (h47 : (L.length + 1) * bytes <= 140737488355328) (h63 : L.length <= 281474976710656) (hB : B <= w.heap.size)
  (h : ∀ v' w', OwG K e w' B v' (L ++ [p]) -> Fr (fun k => v.ownBlock = some k) w w' -> (∀ k, v'.ownBlock = some k -> v.ownBlock = some k \/ w.heap.size <= k) -> wpList P ops Q rest (a.put o.dst v') w') : wpList P ops Q (o :: rest) a w := by
 obtain ⟨i, hi, hz, h1, h2⟩ := hinfo
 have hnews : ∀ j u, (K.f p)[j]? = some u -> w.cell? ((⟨g, 0, none⟩ : Addr).add j) = some u := by
  intro j u hj
  rw [add_plain, Nat.zero_add, cell_of_row _ _ _ _ _ _ hr]
  simpa using hj
 obtain ⟨v', w', hrun, h2', h3, _⟩ := run_append_own (P := P) w B t o.type e i (.agg (K.f K.d).toArray) K.k bytes hu hi hz h1 h2 (by simp [Value.cells, K.len]) K.pos v L.length (K.row L) ho ⟨g, 0, none⟩ 1 1 (K.f p) (by rw [K.len, Nat.one_mul]) hnews (K.one p) (by unfold maxLen; omega) h47 hB
 refine wpList_plain hgd fun Kc hK => ?_
 unfold Oper.wp execOp
 simp only [hop, resolve, invoke, builtin, Sem.run_bind, Sem.run_pure, Result.andThen_ok, List.map_toArray, List.map_cons, List.map_nil, hs, hx, hrun]
 refine hK _ _ (h v' w' ?_ ⟨h3.os, h3.tape, h3.output, h3.size, fun k hk hn => h3.block k hk (fun e => hn e.symm)⟩ (app_block ho hu bytes ⟨i, hi, hz, h1, h2⟩ p hr h47 h63 hrun))
 unfold OwG
 rw [K.row_app, List.length_append, show K.row [p] = K.f p by simp [Kd.row]]
 exact h2'
structure Qk (w : World) (B p : Nat) (v : Value) (L : List En) : Prop where
 bk : w.heap[p]? = some (.cells #[v] 90 (0, 0))
 ow : OwG KE 44 w B v L
 lo : B <= p
theorem Qk.still {w w' : World} {B p : Nat} {v : Value} {L : List En} (h : Qk w B p v L) (hs : Still w w') : Qk w' B p v L := ⟨hs.kept_still h.bk, h.ow.still hs, h.lo⟩
theorem Qk.keep {F : Nat -> Prop} {w w' : World} {B p : Nat} {v : Value} {L : List En} (h : Qk w B p v L) (hf : Fr F w w') (hp : ¬ F p) (hv : ∀ k, F k -> v.ownBlock ≠ some k) : Qk w' B p v L := ⟨hf.kept h.bk hp, h.ow.keep hf hv, h.lo⟩
theorem Qk.cell {w : World} {B p : Nat} {v : Value} {L : List En} (h : Qk w B p v L) : w.cell? ⟨p, 0, none⟩ = some v /\ ∀ o, w.frozen? ⟨p, o, none⟩ = false := by
 refine ⟨?_, fun o => frozen_of_row w p o _ _ h.bk⟩
 rw [cell_of_row _ _ _ _ _ _ h.bk]; rfl
theorem Qk.apart {w : World} {B p : Nat} {v : Value} {L : List En} (h : Qk w B p v L) : v.ownBlock ≠ some p := by
 intro e
 rcases h.ow.2 with ⟨rfl, _⟩ | ⟨g, cap, cur, rfl, _, hg, _⟩
 ·cases e
 ·simp [Value.ownBlock] at e
  subst e
  have := hg.symm.trans h.bk
  simp at this
theorem Qk.set {w : World} {B p : Nat} {v v' : Value} {L L' : List En} (h : Qk w B p v L) (ho : OwG KE 44 w B v' L') (hp : v'.ownBlock ≠ some p) : Qk (w.setCell ⟨p, 0, none⟩ v') B p v' L' := by
 refine ⟨(heap_setCell_same w p 0 _ _ v' h.bk).trans (by rfl), ho.keep (F := fun k => k = p) ((Fr.refl _ w).setCell _ _ (.inl rfl)) (fun k hk => by subst hk; exact hp), h.lo⟩
theorem Qk.put {w : World} {B p : Nat} {v v' : Value} {L' : List En} (hb : w.heap[p]? = some (.cells #[v] 90 (0, 0))) (lo : B <= p) (ho : OwG KE 44 w B v' L') (hp : v'.ownBlock ≠ some p) : Qk (w.setCell ⟨p, 0, none⟩ v') B p v' L' := by
 refine ⟨(heap_setCell_same w p 0 _ _ v' hb).trans (by rfl), ho.keep (F := fun k => k = p) ((Fr.refl _ w).setCell _ _ (.inl rfl)) (fun k hk => by subst hk; exact hp), lo⟩
end Go.Proofs.Ytdmgalaajgebkaa
namespace Go.Proofs.Ytdmgalaajgebkaa
open Go.RowKit
set_option maxRecDepth 100000
theorem ta_E (x : En) (w : World) : (Instr.typeAssert (.iface 44 (ev x)) 20 44 false).run Try.prog w = .ok (ev x) w := by kernel_rfl
theorem wpQuiet_ta {ops : Array Oper} {C : World -> Prop} {Q : Act -> Prop} {a : Act} {o : Oper} {rest : List Oper} (hgd : o.guard = none) {s : Operand} (hop : o.op = .typeAssert s 20 44 false) (x : En) (hs : a.eval s = .iface 44 (ev x)) (h : wpQuiet Try.prog ops C Q rest (a.put o.dst (ev x))) : wpQuiet Try.prog ops C Q (o :: rest) a :=
 BigFrame.wpQuiet_want (by simp [Region.wanted, hgd]) fun K hK => ⟨ev x, fun w _ => by
  unfold Oper.quietAt execOp
  simp only [hop, hs, Sem.run_bind, Sem.run_pure, ta_E, Result.andThen_ok]
  exact ⟨rfl, rfl⟩, hK _ h⟩
theorem bs_E {o : Oper} {ρ : Operand -> Value} {s : Operand} {x : En} (ho : o.op = .buildSlice 88 1 #[(0, s)]) (hs : ρ s = ev x) (u : World) : (execOp ρ o).run Try.prog u = .ok (.value (.slice (some ⟨u.heap.size, 0, none⟩) 1 1)) (newE u x) := by
 unfold execOp
 rw [ho]
 simp only [List.map_toArray, List.map_cons, List.map_nil, hs]
 go_simp
theorem Qk.own {w : World} {B p : Nat} {v : Value} {L : List En} (h : Qk w B p v L) : ∃ ao cap, v = .slice ao L.length cap := by
 obtain ⟨ao, cap, e, _⟩ := h.ow.slice
 exact ⟨ao, cap, e⟩
set_option maxHeartbeats 2000000 in
theorem qpush_any (x : En) (B p : Nat) (v : Value) (L : List En) (hl : L.length <= 4096) (w : World) (hq : Qk w B p v L) (hB : B <= w.heap.size) : Calls Try.prog 103 #[.pointer (some ⟨p, 0, none⟩), .iface 44 (ev x)] w fun e w' => e = .returned (.tuple #[]) /\ ∃ v', Qk w' B p v' (L ++ [x]) /\ Fr (fun k => k = p \/ v.ownBlock = some k) w w' /\ ∀ k, v'.ownBlock = some k -> v.ownBlock = some k \/ w.heap.size <= k := by
 obtain ⟨ao, cap, rfl⟩ := hq.own
 have HQ := hid hq
 have hpl := block_lt hq.bk
 clear hq
 go_enter Try.func103, Try.ntmps103
 go_upto_region 0 with fail
 refine region_laid 6 1 (by kernel_rfl) (by kernel_rfl) (by kernel_rfl) ?_
 apply Exists.intro
 refine And.intro ?_ (And.intro ?_ ?_)
 ·intro u hu
  have q0 := Cl.cell (HQ.out.still hu).cell.1
  have hne := Aft.here u
  simp only [List.take_succ_cons, List.take_zero]
  repeat (go_big_quiet_step (fail))
  refine wpQuiet_ta rfl rfl x rfl ?_
  exact wpQuiet_nil rfl
 ·intro _ o ho u hu
  obtain rfl := Option.some.inj ho
  exact ⟨_, _, bs_E rfl rfl u, Still.alloc u _⟩
 intro w1 h1
 simp only [List.drop_succ_cons, List.drop_zero]
 have A4 := Still.alloc w1 (.cells (ecs x) 44)
 have hq4 := (HQ.out.still h1).still A4
 have HQ4 := hid hq4
 have HS4 := hid (h1.trans A4)
 have HX4 := hid (newE_eb w1 x)
 have HB4 := hid (show B <= (newE w1 x).heap.size by rw [size_alloc]; have := h1.size; omega)
 have HL4 := hid (show (L.length + 1) * 64 <= 140737488355328 /\ L.length <= 281474976710656 by omega)
 have HO4 := hid hq4.ow
 have hp4 : p < (newE w1 x).heap.size := block_lt hq4.bk
 clear A4 hq4 h1
 go_wp2_with (
  at_builtin
  refine wpList_appQ KE _ rfl _ _ _ rfl rfl 64 infoE B w1.heap.size (.slice ao L.length cap) L x rfl rfl HO4.out HX4.out HL4.out.1 HL4.out.2 HB4.out ?_
  intro v' w' ho' hf' hb'
  have hk := hf'.kept HQ4.out.bk HQ4.out.apart
  have HK := hid hk
  have c0 : w'.cell? ⟨p, 0, none⟩ = some (.slice ao L.length cap) := by rw [cell_of_row _ _ _ _ _ _ hk]; rfl
  have cf : ∀ o, w'.frozen? ⟨p, o, none⟩ = false := fun o => frozen_of_row w' p o _ _ hk
  have HO' := hid ho'
  have HF' : Hid (Fr (fun k => (Value.slice ao L.length cap).ownBlock = some k) (newE w1 x) w') := hid hf'
  have HB' := hid hb'
  obtain ⟨g', cap', rfl, _, _⟩ := ho'.head (by simp)
  clear ho' hf' hb' hk)
 refine ⟨rfl, ?_⟩
 have HB5 : Hid (∀ k, (Value.slice (some ⟨g', 0, none⟩) (L ++ [x]).length cap').ownBlock = some k -> (Value.slice ao L.length cap).ownBlock = some k \/ w.heap.size <= k) := hid (fun k hk => by
  rcases HB'.out k hk with h | h
  ·exact .inl h
  ·have h1 : (newE w1 x).heap.size <= k := h
   have h2 : w.heap.size <= (newE w1 x).heap.size := HS4.out.size
   exact .inr (by omega))
 have hpp : (Value.slice (some ⟨g', 0, none⟩) (L ++ [x]).length cap').ownBlock ≠ some p := fun e => by
  rcases HB5.out p e with h | h
  ·exact HQ.out.apart h
  ·omega
 have HQ5 := hid (Qk.put HK.out HQ4.out.lo HO'.out hpp)
 have el : (L ++ [x]).length = L.length + 1 := by simp
 have HF5 : Hid (Fr (fun k => k = p \/ (Value.slice ao L.length cap).ownBlock = some k) w (w'.setCell ⟨p, 0, none⟩ (.slice (some ⟨g', 0, none⟩) (L ++ [x]).length cap'))) := hid ((Fr.trans (Still.to HS4.out) HF'.out (fun k _ h => .inr h)).setCell _ _ (.inl (.inl rfl)))
 rw [el] at HQ5 HF5 HB5
 clear el
 go_end0
 exact ⟨rfl, _, HQ5.out, HF5.out, HB5.out⟩
theorem run_cutE (w : World) (ao : Option Addr) (n cap m : Nat) (hm : m <= cap) : (Instr.slice 88 (.slice ao n cap) none (some (.int .i64 (m : Int))) none).run Try.prog w = .ok (.slice ao m cap) w := by
 have := run_uptoG (P := Try.prog) (e := 44) (t := 88) rfl ⟨_, rfl⟩ w ao n cap (m : Int) (by omega) (by omega)
 rwa [Int.toNat_natCast] at this
theorem OwG.cutE {w : World} {B g n cap : Nat} {L : List En} {x : En} (h : OwG KE 44 w B (.slice (some ⟨g, 0, none⟩) n cap) (L ++ [x])) : OwG KE 44 w B (.slice (some ⟨g, 0, none⟩) L.length cap) L := by
 rcases h.2 with ⟨hv, _⟩ | ⟨g', cap', cur, hv, hb, hg, hn, hm, hs, ht⟩
 ·cases hv
 ·cases hv
  refine ⟨KE.row_len L, .inr ⟨g, cap, cur, rfl, hb, hg, by rw [List.length_append] at hn; omega, hm, hs, ?_⟩⟩
  have e : (L ++ [x]).length * KE.k = L.length * KE.k + KE.k := by rw [List.length_append, Nat.add_mul]; simp
  have := congrArg (List.take (L.length * KE.k)) ht
  rw [List.take_take, Nat.min_eq_left (by omega), KE.row_app, List.take_append_of_le_length (by rw [KE.row_len]; exact Nat.le_refl _), List.take_of_length_le (l := KE.row L) (by rw [KE.row_len]; exact Nat.le_refl _)] at this
  exact this
end Go.Proofs.Ytdmgalaajgebkaa
namespace Go.Proofs.Ytdmgalaajgebkaa
open Go.RowKit
set_option maxRecDepth 100000
theorem wrapnil (t : TypeId) (a : Addr) (s : String) (w : World) : (Builtin.ssaWrapNilChk_ #[t] t #[.pointer (some a), strVal "", strVal s]).run Try.prog w = .ok (.pointer (some a)) w := rfl
theorem m_row (nm : String) (f : Nat) (m : Method) (h1 : Array.find? (fun x => x.name == nm) Try.t93.methods = some m) (h2 : m.path = #[]) (h3 : m.func = some (f, false)) (p : Nat) (w : World) (ao : Option Addr) (n cap : Nat) (hc : w.cell? ⟨p, 0, none⟩ = some (.slice ao n cap)) : Sem.run Try.prog (method 246 93 (.pointer (some ⟨p, 0, none⟩)) nm) w = .ok (f, .slice ao n cap) w := by
 unfold method
 go_simp
 simp only [follow, receiverAt, Place.get]
 go_simp
 rw [wrapnil]
 go_simp
theorem m_ptr (nm : String) (f : Nat) (m : Method) (h1 : Array.find? (fun x => x.name == nm) Try.t93.methods = some m) (h2 : m.path = #[]) (h3 : m.func = some (f, true)) (p : Nat) (w : World) : Sem.run Try.prog (method 246 93 (.pointer (some ⟨p, 0, none⟩)) nm) w = .ok (f, .pointer (some ⟨p, 0, none⟩)) w := by
 unfold method
 go_simp
 simp only [follow, receiverAt, Place.get]
 go_simp
end Go.Proofs.Ytdmgalaajgebkaa
namespace Go.Proofs.Ytdmgalaajgebkaa
open Go.RowKit
set_option maxRecDepth 100000
abbrev qif (p : Nat) : Value := .iface 93 (.pointer (some ⟨p, 0, none⟩))
theorem m_less {p : Nat} {w : World} {ao : Option Addr} {n cap : Nat} (hc : w.cell? ⟨p, 0, none⟩ = some (.slice ao n cap)) : Sem.run Try.prog (method 246 93 (.pointer (some ⟨p, 0, none⟩)) "Less") w = .ok (101, .slice ao n cap) w := by
 obtain ⟨m, h1, h2, h3⟩ : ∃ m, Array.find? (fun x => x.name == "Less") Try.t93.methods = some m /\ m.path = #[] /\ m.func = some (101, false) := ⟨_, rfl, rfl, rfl⟩
 exact m_row "Less" _ m h1 h2 h3 p w ao n cap hc
theorem m_swap {p : Nat} {w : World} {ao : Option Addr} {n cap : Nat} (hc : w.cell? ⟨p, 0, none⟩ = some (.slice ao n cap)) : Sem.run Try.prog (method 246 93 (.pointer (some ⟨p, 0, none⟩)) "Swap") w = .ok (102, .slice ao n cap) w := by
 obtain ⟨m, h1, h2, h3⟩ : ∃ m, Array.find? (fun x => x.name == "Swap") Try.t93.methods = some m /\ m.path = #[] /\ m.func = some (102, false) := ⟨_, rfl, rfl, rfl⟩
 exact m_row "Swap" _ m h1 h2 h3 p w ao n cap hc
theorem m_len {p : Nat} {w : World} {ao : Option Addr} {n cap : Nat} (hc : w.cell? ⟨p, 0, none⟩ = some (.slice ao n cap)) : Sem.run Try.prog (method 246 93 (.pointer (some ⟨p, 0, none⟩)) "Len") w = .ok (100, .slice ao n cap) w := by
 obtain ⟨m, h1, h2, h3⟩ : ∃ m, Array.find? (fun x => x.name == "Len") Try.t93.methods = some m /\ m.path = #[] /\ m.func = some (100, false) := ⟨_, rfl, rfl, rfl⟩
 exact m_row "Len" _ m h1 h2 h3 p w ao n cap hc
theorem m_push {p : Nat} {w : World} : Sem.run Try.prog (method 246 93 (.pointer (some ⟨p, 0, none⟩)) "Push") w = .ok (103, .pointer (some ⟨p, 0, none⟩)) w := by
 obtain ⟨m, h1, h2, h3⟩ : ∃ m, Array.find? (fun x => x.name == "Push") Try.t93.methods = some m /\ m.path = #[] /\ m.func = some (103, true) := ⟨_, rfl, rfl, rfl⟩
 exact m_ptr "Push" _ m h1 h2 h3 p w
set_option maxHeartbeats 2000000 in
theorem hup_any (L : List En) (B p g n cap j : Nat) (hn : n <= 4097) (hl : L.length = n) (hj : j < n) (hu : Up L j) (w : World) (hq : Qk w B p (.slice (some ⟨g, 0, none⟩) n cap) L) : Calls Try.prog 58 #[.iface 93 (.pointer (some ⟨p, 0, none⟩)), .int .i64 (j : Int)] w fun e w' => e = .returned (.tuple #[]) /\ ∃ L', L'.Perm L /\ Hp L' L'.length /\ Qk w' B p (.slice (some ⟨g, 0, none⟩) n cap) L' /\ Fr (fun k => k = g) w w' := by
 have HQ := hid hq
 have HU := hid hu
 have hpg : p ≠ g := fun e => hq.apart (by rw [e]; rfl)
 clear hq hu
 go_enter Try.func58, Try.ntmps58
 go_wp2_with fail
 go_loopw [1] (fun u wr => ∃ (k : Nat) (M : List En), k < n /\ u = .int .i64 (k : Int) /\ Hid (M.Perm L /\ Up M k /\ Qk wr B p (.slice (some ⟨g, 0, none⟩) n cap) M /\ Fr (fun k => k = g) w wr)) (fun u _ => (intOf u).toNat)
 case atStart => exact ⟨j, L, hj, rfl, hid ⟨List.Perm.refl _, HU.out, HQ.out, Fr.refl _ _⟩⟩
 case round =>
  obtain ⟨k, M, hk, rfl, HM⟩ := hrel
  have hMl : M.length = n := by rw [HM.out.1.length_eq]; exact hl
  cases k with
  | zero =>
   have HD := hid (HM.out.2.1.done (.inl rfl))
   go_wp2_with fail
   go_end0
   exact ⟨rfl, M, HM.out.1, HD.out, HM.out.2.2⟩
  | succ m =>
   have c0 := HM.out.2.2.1.cell.1
   have hm := m_less c0
   have hr := HM.out.2.2.1.ow.rdE hMl (by omega)
   have HC := hid (qless_any M g 0 n cap (m + 1) (m / 2) hk (by omega) wr hr)
   have e1 : ((m + 1 : Nat) : Int) = (m : Int) + 1 := by omega
   have e2 : ((m / 2 : Nat) : Int) = (m : Int) / 2 := by omega
   have hb : ((m : Int) / 2 == (m : Int) + 1) = false := by simp; omega
   rw [e1, e2] at HC
   clear hr
   go_wp2_with fail
   refine HC.out.mono ?_
   rintro e w2 ⟨he, h2⟩
   rw [he]
   clear he HC hm c0
   by_cases hlt : kc (att M (m + 1)) (att M (m / 2)) < 0
   ·have hdt : decide (kc (att M (m + 1)) (att M (m / 2)) < 0) = true := decide_eq_true hlt
    rw [hdt]
    have hq2 := HM.out.2.2.1.still h2
    have c0 := hq2.cell.1
    have hm := m_swap c0
    have HC := hid (qswap_any M B g n cap (m / 2) (m + 1) (by omega) hk w2 hq2.ow hMl)
    rw [e1, e2] at HC
    have HU2 := hid (show Up (sw M (m / 2) (m + 1)) (m / 2) from HM.out.2.1.step (by omega) (by omega) hlt)
    have HP2 := hid ((perm_sw M (m / 2) (m + 1) (by omega) (by omega)).trans HM.out.1)
    have HQ2 := hid hq2
    have HF2 := hid (Fr.trans HM.out.2.2.2 h2 (fun _ _ e => e.elim))
    clear hq2 hdt h2 hlt
    go_wp2_with fail
    refine HC.out.mono ?_
    rintro e w3 ⟨he, ho3, hf3⟩
    rw [he]
    have HM3 : Hid ((sw M (m / 2) (m + 1)).Perm L /\ Up (sw M (m / 2) (m + 1)) (m / 2) /\ Qk w3 B p (.slice (some ⟨g, 0, none⟩) n cap) (sw M (m / 2) (m + 1)) /\ Fr (fun k => k = g) w w3) := hid ⟨HP2.out, HU2.out, ⟨hf3.kept HQ2.out.bk hpg, ho3, HQ2.out.lo⟩, Fr.trans HF2.out hf3 (fun _ _ e => e)⟩
    clear he HC hm c0 ho3 hf3 HQ2 HP2 HU2 HF2 HM
    go_wp2_with fail
    go_roundw
    case rel => exact ⟨m / 2, _, by omega, by rw [e2], HM3⟩
    case measure => simp [intOf]; omega
   ·have hdt : decide (kc (att M (m + 1)) (att M (m / 2)) < 0) = false := decide_eq_false hlt
    rw [hdt]
    have HD := hid (HM.out.2.1.done (.inr hlt))
    have HQ2 := hid (HM.out.2.2.1.still h2)
    have HF2 := hid (Fr.trans HM.out.2.2.2 h2 (fun _ _ e => e.elim))
    clear hdt h2 hlt
    go_wp2_with fail
    go_end0
    exact ⟨rfl, M, HM.out.1, HD.out, HQ2.out, HF2.out⟩
end Go.Proofs.Ytdmgalaajgebkaa
namespace Go.Proofs.Ytdmgalaajgebkaa
open Go.RowKit
set_option maxRecDepth 100000
end Go.Proofs.Ytdmgalaajgebkaa
namespace Go.Proofs.Ytdmgalaajgebkaa
open Go.RowKit
set_option maxRecDepth 100000
theorem att_app {L : List En} {x : En} {k : Nat} (hk : k < L.length) : att (L ++ [x]) k = att L k := by
 unfold att; rw [List.getD_eq_getElem?_getD, List.getD_eq_getElem?_getD, List.getElem?_append_left hk]
theorem att_last (L : List En) (x : En) : att (L ++ [x]) L.length = x := by simp [att, List.getD_eq_getElem?_getD]
set_option maxHeartbeats 2000000 in
theorem hpush_any (x : En) (L : List En) (B p : Nat) (v : Value) (hl : L.length <= 4096) (hh : Hp L L.length) (w : World) (hB : B <= w.heap.size) (hq : Qk w B p v L) : Calls Try.prog 52 #[.iface 93 (.pointer (some ⟨p, 0, none⟩)), .iface 44 (ev x)] w fun e w' => e = .returned (.tuple #[]) /\ ∃ v' L', L'.Perm (L ++ [x]) /\ Hp L' L'.length /\ Qk w' B p v' L' /\ Fr (fun k => k = p \/ v.ownBlock = some k) w w' /\ ∀ k, v'.ownBlock = some k -> v.ownBlock = some k \/ w.heap.size <= k := by
 have HC := hid (qpush_any x B p v L hl w hq hB)
 have hm := fun w => m_push (p := p) (w := w)
 have HH := hid hh
 clear hh hq
 go_enter Try.func52, Try.ntmps52
 go_wp2_with fail
 refine HC.out.mono ?_
 rintro e w1 ⟨he, v1, hq1, hf1, hb1⟩
 rw [he]
 clear he HC hm
 obtain ⟨g, cap, rfl, _, _⟩ := hq1.ow.head (by simp)
 have c0 := hq1.cell.1
 have hm := m_len c0
 have HL := hid (fun w => qlen_any (some ⟨g, 0, none⟩) (L ++ [x]).length cap w)
 have HC := hid (hup_any (L ++ [x]) B p g (L ++ [x]).length cap L.length (by simp; omega) rfl (by simp) (Up.app x HH.out) w1 hq1)
 have eN : (L ++ [x]).length = L.length + 1 := by simp
 have HF1 := hid hf1
 have HB1 := hid hb1
 rw [eN] at c0 hm HL HC HB1
 clear hq1 hf1 hb1 eN
 obtain ⟨N, eN⟩ : ∃ N, L.length = N := ⟨_, rfl⟩
 have HN := hid eN
 rw [eN] at c0 hm HL HC HB1 hl
 clear eN
 go_wp2_with fail
 refine (HL.out _).mono ?_
 rintro e w2 ⟨he, hw⟩
 rw [he, hw]
 clear he hw w2 HL hm c0
 have e1 : ((N + 1 : Nat) : Int) - 1 = (N : Int) := by omega
 go_wp2_with fail
 refine HC.out.mono ?_
 rintro e w3 ⟨he, L3, hp3, hh3, hq3, hf3⟩
 rw [he]
 have HF3 : Hid (Fr (fun k => k = p \/ v.ownBlock = some k) w w3) := hid (Fr.trans HF1.out hf3 (fun k hk e => by
  rcases HB1.out k (by rw [e]; rfl) with h | h
  ·exact .inr h
  ·omega))
 have HR := hid (And.intro hp3 (And.intro hh3 hq3))
 clear he HC hp3 hh3 hq3 hf3
 go_wp2_with fail
 go_end0
 exact ⟨rfl, _, L3, HR.out.1, HR.out.2.1, HR.out.2.2, HF3.out, HB1.out⟩
end Go.Proofs.Ytdmgalaajgebkaa
namespace Go.Proofs.Ytdmgalaajgebkaa
open Go.RowKit
set_option maxRecDepth 100000
def idx (x : En) : List En -> Nat -> Int
 | [], _ => -1
 | y :: l, k => if kc x y = 0 then (k : Int) else idx x l (k + 1)
def hasK (x : En) (L : List En) : Bool := L.any fun y => decide (kc x y = 0)
theorem idx_has (x : En) : ∀ (L : List En) (k : Nat), decide (idx x L k ≥ 0) = hasK x L
 | [], k => by simp [idx, hasK]
 | y :: l, k => by
  by_cases h : kc x y = 0
  ·simp only [idx, if_pos h, hasK, List.any_cons, decide_eq_true h, Bool.true_or]
   exact decide_eq_true (by omega)
  ·have := idx_has x l (k + 1)
   simp only [idx, if_neg h, hasK, List.any_cons, decide_eq_false h, Bool.false_or]
   exact this
theorem idx_drop (x : En) (L : List En) (k : Nat) (hk : k < L.length) : idx x (L.drop k) k = if kc x (att L k) = 0 then (k : Int) else idx x (L.drop (k + 1)) (k + 1) := by
 rw [List.drop_eq_getElem_cons hk]
 have : att L k = L[k] := by unfold att; rw [List.getD_eq_getElem?_getD, List.getElem?_eq_getElem hk]; rfl
 rw [this]; rfl
abbrev fvE (g : Nat) : Value := .func (.func 57) #[] #[.pointer (some ⟨g, 0, none⟩)]
theorem qask_any (x y : En) (g : Nat) (w : World) (hx : Eb w g x) : Calls Try.prog 57 #[ev y, .pointer (some ⟨g, 0, none⟩)] w fun e w' => e = .returned (.bool (decide (kc x y = 0))) /\ Still w w' := by
 have A0 := Still.alloc w (.cells (ecs y) 44)
 have p0 := hx.still A0
 have q0 := newE_eb w y
 obtain ⟨c0, c1, c2, c3, c4, c5, c6, c7, _⟩ := p0.cells
 obtain ⟨d0, d1, d2, d3, d4, d5, d6, d7, _⟩ := q0.cells
 have HC := hid (qcmp_any x y (newE w y))
 have HS := hid A0
 obtain ⟨r, er⟩ : ∃ r, kc x y = r := ⟨_, rfl⟩
 rw [er] at HC ⊢
 clear A0 p0 q0 hx er
 by_cases hr : r = 0
 ·subst hr
  go_enter Try.func57, Try.ntmps57
  go_wp2_with fail
  refine HC.out.mono ?_
  rintro e w2 ⟨he, h2⟩
  rw [he]
  have HS2 := hid (HS.out.trans h2)
  clear he h2 HC HS c0 c1 c2 c3 c4 c5 c6 c7 d0 d1 d2 d3 d4 d5 d6 d7
  go_wp2_with fail
  go_ret
  exact ⟨by simp, HS2.out⟩
 ·have hr' : (r == 0) = false := by simpa using hr
  go_enter Try.func57, Try.ntmps57
  go_wp2_with fail
  refine HC.out.mono ?_
  rintro e w2 ⟨he, h2⟩
  rw [he]
  have HS2 := hid (HS.out.trans h2)
  clear he h2 HC HS c0 c1 c2 c3 c4 c5 c6 c7 d0 d1 d2 d3 d4 d5 d6 d7
  go_wp2_with fail
  go_ret
  exact ⟨by simp [hr], HS2.out⟩
set_option maxHeartbeats 2000000 in
theorem qidx_any (x : En) (L : List En) (ao : Option Addr) (n cap g : Nat) (w : World) (hr : RdG KE w ao n L) (hx : Eb w g x) : Calls Try.prog 64 #[.slice ao n cap, fvE g] w fun e w' => e = .returned (.int .i64 (idx x L 0)) /\ Still w w' := by
 have hl := hr.1
 have h47 := hr.2.1
 have HR := hid hr
 have HX := hid hx
 clear hr hx
 go_enter Try.func64, Try.ntmps64
 go_wp2_with fail
 go_loopw [8] (fun u wr => ∃ k : Nat, k <= n /\ u = .int .i64 (k : Int) /\ Hid (idx x L 0 = idx x (L.drop k) k /\ Still w wr)) (fun u _ => n - (intOf u).toNat)
 case atStart => exact ⟨0, by omega, rfl, hid ⟨by simp, Fr.refl _ _⟩⟩
 case round =>
  obtain ⟨k, hk, rfl, HE⟩ := hrel
  by_cases hkn : k < n
  ·have hlt : (k : Int) < (n : Int) := by omega
   obtain ⟨B, o, rfl⟩ := HR.out.at (by omega)
   obtain ⟨c0, c1, c2, c3, c4, c5, c6, c7⟩ := rdE (HR.out.still HE.out.2) hkn
   have HD := hid (idx_drop x L k (by omega))
   have HC := hid (qask_any x (att L k) g wr (HX.out.still HE.out.2))
   obtain ⟨y, ey⟩ : ∃ y, att L k = y := ⟨_, rfl⟩
   rw [ey] at c0 c1 c2 c3 c4 c5 c6 c7 HD HC
   clear ey
   by_cases hy : kc x y = 0
   ·rw [decide_eq_true hy] at HC
    have HE2 : Hid (idx x L 0 = (k : Int)) := hid (by rw [HE.out.1, HD.out, if_pos hy])
    clear hy HD
    go_wp2_with fail
    refine HC.out.mono ?_
    rintro e w2 ⟨he, h2⟩
    rw [he]
    have HS2 := hid (HE.out.2.trans h2)
    clear he h2 HC HE c0 c1 c2 c3 c4 c5 c6 c7
    go_wp2_with fail
    (first | rw [Exit.noGoto_ret] | skip)
    go_ret
    exact ⟨by rw [HE2.out]; rfl, HS2.out⟩
   ·rw [decide_eq_false hy] at HC
    have HE2 : Hid (idx x L 0 = idx x (L.drop (k + 1)) (k + 1)) := hid (by rw [HE.out.1, HD.out, if_neg hy])
    clear hy HD
    go_wp2_with fail
    refine HC.out.mono ?_
    rintro e w2 ⟨he, h2⟩
    rw [he]
    have HS2 := hid (HE.out.2.trans h2)
    clear he h2 HC HE c0 c1 c2 c3 c4 c5 c6 c7
    go_wp2_with fail
    go_roundw
    case rel => exact ⟨k + 1, by omega, by go_num, hid ⟨HE2.out, HS2.out⟩⟩
    case measure => simp [intOf]; omega
  ·have hge : ¬ (k : Int) < (n : Int) := by omega
   have HE2 : Hid (idx x L 0 = -1) := hid (by rw [HE.out.1, List.drop_eq_nil_of_le (by omega)]; rfl)
   go_wp2_with fail
   go_ret
   exact ⟨by rw [HE2.out]; rfl, HE.out.2⟩
theorem qhas_any (x : En) (L : List En) (ao : Option Addr) (n cap : Nat) (w : World) (hr : RdG KE w ao n L) : Calls Try.prog 51 #[.slice ao n cap, ev x] w fun e w' => e = .returned (.bool (hasK x L)) /\ Still w w' := by
 have A0 := Still.alloc w (.cells (ecs x) 44)
 have H1 : ∀ w1 g, RdG KE w1 ao n L -> Eb w1 g x -> Calls Try.prog 56 #[.slice ao n cap, fvE g] w1 fun e w' => e = .returned (.bool (hasK x L)) /\ Still w1 w' := by
  intro w1 g h1 h2
  have HC := hid (qidx_any x L ao n cap g w1 h1 h2)
  have HI := hid (idx_has x L 0)
  obtain ⟨r, er⟩ : ∃ r, idx x L 0 = r := ⟨_, rfl⟩
  rw [er] at HC HI
  clear er h1 h2 hr A0
  by_cases hr : r ≥ 0
  ·rw [decide_eq_true hr] at HI
   go_enter Try.func56, Try.ntmps56
   go_wp2_with fail
   refine HC.out.mono ?_
   rintro e w2 ⟨he, h2⟩
   rw [he]
   have HS := hid h2
   clear he h2 HC
   go_wp2_with fail
   go_ret
   exact ⟨by rw [<- HI.out]; simp, HS.out⟩
  ·rw [decide_eq_false hr] at HI
   go_enter Try.func56, Try.ntmps56
   go_wp2_with fail
   refine HC.out.mono ?_
   rintro e w2 ⟨he, h2⟩
   rw [he]
   have HS := hid h2
   clear he h2 HC
   go_wp2_with fail
   go_ret
   exact ⟨by rw [<- HI.out]; simp; omega, HS.out⟩
 have HC := hid (H1 (newE w x) w.heap.size (hr.still A0) (newE_eb w x))
 have HS := hid A0
 clear H1 hr A0
 go_enter Try.func51, Try.ntmps51
 go_wp2_with fail
 refine HC.out.mono ?_
 rintro e w2 ⟨he, h2⟩
 rw [he]
 have HS2 := hid (HS.out.trans h2)
 clear he h2 HC HS
 go_wp2_with fail
 go_ret
 exact ⟨rfl, HS2.out⟩
end Go.Proofs.Ytdmgalaajgebkaa
namespace Go.Proofs.Ytdmgalaajgebkaa
open Go.RowKit
set_option maxRecDepth 100000
def Psh (x : En) (L L' : List En) (c : Int) : Prop := Qu L' /\ ((hasK x L = true /\ c = 151 /\ L' = L) \/ (hasK x L = false /\ 4096 <= L.length /\ c = 150 /\ L' = L) \/ (hasK x L = false /\ L.length < 4096 /\ c = 0 /\ L'.Perm (L ++ [x])))
theorem hasK_false {x : En} {L : List En} (h : hasK x L = false) : ∀ y ∈ L, kc y x ≠ 0 := fun y hy e => by
 have : hasK x L = true := List.any_eq_true.2 ⟨y, hy, decide_eq_true (by rw [kc_eq] at *; omega)⟩
 rw [h] at this
 cases this
theorem Unl.app {x : En} {L : List En} (h : Unl L) (hx : hasK x L = false) : Unl (L ++ [x]) := by
 refine List.pairwise_append.2 ⟨h, List.pairwise_singleton _ _, fun a ha b hb => ?_⟩
 rw [List.mem_singleton] at hb
 subst hb
 exact hasK_false hx a ha
abbrev newQ (w : World) : World := w.alloc (.cells #[.slice none 0 0] 90)
theorem newQ_qk (w : World) (B : Nat) (hB : B <= w.heap.size) : Qk (newQ w) B w.heap.size (.slice none 0 0) [] := ⟨heap_alloc_new w _, OwG.nil _ _, hB⟩
theorem qnew_any (w : World) : Calls Try.prog 47 #[] w fun e w' => e = .returned (.pointer (some ⟨w.heap.size, 0, none⟩)) /\ w' = newQ w := by
 go_enter Try.func47, Try.ntmps47
 go_wp2_with fail
 go_ret
 exact ⟨rfl, rfl⟩
theorem qLen_any (B p : Nat) (v : Value) (L : List En) (w : World) (hq : Qk w B p v L) : Calls Try.prog 99 #[.pointer (some ⟨p, 0, none⟩)] w fun e w' => e = .returned (.int .i64 (L.length : Int)) /\ w' = w := by
 obtain ⟨ao, cap, rfl⟩ := hq.own
 have c0 := hq.cell.1
 clear hq
 go_enter Try.func99, Try.ntmps99
 go_wp2_with fail
 go_ret
 exact ⟨rfl, rfl⟩
set_option maxHeartbeats 2000000 in
theorem qPush_any (x : En) (L : List En) (B p : Nat) (v : Value) (hL : Qu L) (w : World) (hB : B <= w.heap.size) (hq : Qk w B p v L) : Calls Try.prog 48 #[.pointer (some ⟨p, 0, none⟩), ev x] w fun e w' => ∃ c v' L', e = .returned (.int .i64 c) /\ Psh x L L' c /\ Qk w' B p v' L' /\ Fr (fun k => k = p \/ v.ownBlock = some k) w w' /\ ∀ k, v'.ownBlock = some k -> v.ownBlock = some k \/ w.heap.size <= k := by
 obtain ⟨ao, cap, rfl⟩ := hq.own
 have A0 := Still.alloc w (.cells (ecs x) 44)
 obtain ⟨W, eW⟩ : ∃ W, W = newE w x := ⟨_, rfl⟩
 have hq0 : Qk W B p (.slice ao L.length cap) L := by rw [eW]; exact hq.still A0
 have hx0 : Eb W w.heap.size x := by rw [eW]; exact newE_eb w x
 have HS0 : Hid (Still w W) := hid (by rw [eW]; exact A0)
 have HB : Hid (B <= W.heap.size) := hid (by have := HS0.out.size; omega)
 have h4 := hL.le
 have HL := hid hL
 have HC := hid (fun z : Aft W => qhas_any x L ao L.length cap z.u ((hq0.ow.rdE rfl (by omega)).still z.s))
 have HQ0 := hid hq0
 have HX0 := hid hx0
 obtain ⟨b, eb⟩ : ∃ b, hasK x L = b := ⟨_, rfl⟩
 have HE := hid eb
 rw [eb] at HC
 have q0 := Cl.cell hq0.cell.1
 obtain ⟨c0, c1, c2, c3, c4, c5, c6, c7, _⟩ := hx0.cells
 have s0 := Cl.cell c0
 have s1 := Cl.cell c1
 have s2 := Cl.cell c2
 have s3 := Cl.cell c3
 have s4 := Cl.cell c4
 have s5 := Cl.cell c5
 have s6 := Cl.cell c6
 have s7 := Cl.cell c7
 have hne := Aft.here W
 have HW := hid eW
 have hpl : p < w.heap.size := block_lt hq.bk
 obtain ⟨N, eN⟩ : ∃ N, L.length = N := ⟨_, rfl⟩
 rw [eN] at HC q0 h4
 have HN := hid eN
 clear A0 eW hq0 hx0 hq hL eb c0 c1 c2 c3 c4 c5 c6 c7 eN
 go_enter Try.func48, Try.ntmps48
 go_upto_region 1 with fail
 have e := HW.out
 simp only [newE] at e
 rw [<- e]
 clear e HW
 refine region_all (by kernel_rfl) (by kernel_rfl) ?_
 repeat (go_big_quiet_step ((go_at_call 51; with_reducible exact Calls.cl (HC.out _))))
 refine wpQuiet_nil ?_
 intro w1 h1
 have HQ1 := hid (HQ0.out.still h1)
 have HX1 := hid (HX0.out.still h1)
 have HS1 := hid (HS0.out.trans h1)
 have HB1 : Hid (B <= w1.heap.size) := hid (by have := HS1.out.size; omega)
 clear h1 hne q0 s0 s1 s2 s3 s4 s5 s6 s7 HC HQ0 HX0 HS0 HB
 cases b with
 | true =>
  go_wp2_with fail
  (try simp only [Exit.inBlock, Exit.then])
  go_ret
  exact ⟨151, _, L, rfl, ⟨HL.out, .inl ⟨HE.out, rfl, rfl⟩⟩, HQ1.out, Still.to HS1.out, fun k hk => .inl hk⟩
 | false =>
  have c0 := HQ1.out.cell.1
  rw [HN.out] at c0
  by_cases h5 : N < 4096
  ·have h5' : ¬ (4096 : Int) <= (N : Int) := by omega
   go_upto_region 5 with fail
   clear c0
   obtain ⟨c0, c1, c2, c3, c4, c5, c6, c7, _⟩ := HX1.out.cells
   have s0 := Cl.cell c0
   have s1 := Cl.cell c1
   have s2 := Cl.cell c2
   have s3 := Cl.cell c3
   have s4 := Cl.cell c4
   have s5 := Cl.cell c5
   have s6 := Cl.cell c6
   have s7 := Cl.cell c7
   have hne := Aft.here w1
   clear c0 c1 c2 c3 c4 c5 c6 c7
   refine region_rest 6 (by kernel_rfl) (by kernel_rfl) ?_
   simp only [List.take_succ_cons, List.take_zero, List.drop_succ_cons, List.drop_zero]
   repeat (go_big_quiet_step (fail))
   refine wpQuiet_nil ?_
   intro w2 h2
   have HS2 := hid (HS1.out.trans h2)
   have HC := hid (hpush_any x L B p (.slice ao L.length cap) (by have := HN.out; omega) HL.out.hp w2 (by have := h2.size; have := HB1.out; omega) (HQ1.out.still h2))
   clear h2 s0 s1 s2 s3 s4 s5 s6 s7 hne HQ1 HX1 HS1 HB1
   go_wp2_with fail
   refine HC.out.mono ?_
   rintro e w3 ⟨he, v3, L3, hp3, hh3, hq3, hf3, hb3⟩
   rw [he]
   have hlen : L3.length = N + 1 := by rw [hp3.length_eq]; simp; exact HN.out
   have HP : Hid (Psh x L L3 0) := hid ⟨⟨hh3, (HL.out.un.app HE.out).perm hp3.symm, by omega⟩, .inr (.inr ⟨HE.out, by have := HN.out; omega, rfl, hp3⟩)⟩
   have HF : Hid (Fr (fun k => k = p \/ (Value.slice ao L.length cap).ownBlock = some k) w w3) := hid (Fr.trans (Still.to HS2.out) hf3 (fun _ _ e => e))
   have HB3 : Hid (∀ k, v3.ownBlock = some k -> (Value.slice ao L.length cap).ownBlock = some k \/ w.heap.size <= k) := hid (fun k hk => by
    rcases hb3 k hk with h | h
    ·exact .inl h
    ·have := HS2.out.size
     exact .inr (by omega))
   have HQ3 := hid hq3
   clear he HC hp3 hh3 hq3 hf3 hb3 HS2
   go_wp2_with fail
   (try simp only [Exit.inBlock, Exit.then])
   go_ret
   exact ⟨0, v3, L3, rfl, HP.out, HQ3.out, HF.out, HB3.out⟩
  ·obtain rfl : N = 4096 := by omega
   go_wp2_with fail
   (try simp only [Exit.inBlock, Exit.then])
   go_ret
   exact ⟨150, _, L, rfl, ⟨HL.out, .inr (.inl ⟨HE.out, by have := HN.out; omega, rfl, rfl⟩)⟩, HQ1.out, Still.to HS1.out, fun k hk => .inl hk⟩
theorem Eb.load {w : World} {g : Nat} {x : En} (h : Eb w g x) : (loadVar 44 ⟨g, 0, none⟩).run Try.prog w = .ok (ev x) w := by
 obtain ⟨c0, c1, c2, c3, c4, c5, c6, c7, cf⟩ := h.cells
 go_simp
theorem Eb.rest {fn : Func} {p q : Tmp} {w : World} {g : Nat} {x : En} (hb : Eb w g x) (h : fn.results = #[.cell p 44, .tmp q]) (tmps : Array Value) (t : Value) (hp : tmps.getD p undef = .pointer (some ⟨g, 0, none⟩)) (hq : tmps.getD q undef = t) :
  (results fn tmps).run Try.prog w = .ok (.tuple #[ev x, t]) w := by
 have hp' : tmps[p]?.getD undef = .pointer (some ⟨g, 0, none⟩) := by simpa using hp
 have hq' : tmps[q]?.getD undef = t := by simpa using hq
 simp [results, h, hp', hq', asAddr, hb.load]
theorem Eb.res {fn : Func} {p : Tmp} {w : World} {g : Nat} {x : En} (hb : Eb w g x) (h : fn.results = #[.cell p 44]) (tmps : Array Value) (hp : tmps.getD p undef = .pointer (some ⟨g, 0, none⟩)) :
  (results fn tmps).run Try.prog w = .ok (ev x) w := by
 have hp' : tmps[p]?.getD undef = .pointer (some ⟨g, 0, none⟩) := by simpa using hp
 simp [results, h, hp', asAddr, hb.load]
abbrev setE (w : World) (g : Nat) (x : En) : World := (((((((w.setCell ⟨g, 0, none⟩ (.int .i64 x.fr)).setCell ⟨g, 1, none⟩ (.int .i64 x.pe)).setCell ⟨g, 2, none⟩ (.int .i64 x.se)).setCell ⟨g, 3, none⟩ (.int .i64 x.vb)).setCell ⟨g, 4, none⟩ (.int .i64 x.a)).setCell ⟨g, 5, none⟩ (.int .i64 x.b)).setCell ⟨g, 6, none⟩ (.int .i64 x.c)).setCell ⟨g, 7, none⟩ (.int .i64 x.ms)
theorem Eb.put {w : World} {g : Nat} {y : En} (h0 : Eb w g y) (x : En) : Eb (setE w g x) g x := by
 unfold Eb at h0 ⊢
 have h1 := heap_setCell_same _ g 0 _ _ (.int .i64 x.fr) h0
 have h2 := heap_setCell_same _ g 1 _ _ (.int .i64 x.pe) h1
 have h3 := heap_setCell_same _ g 2 _ _ (.int .i64 x.se) h2
 have h4 := heap_setCell_same _ g 3 _ _ (.int .i64 x.vb) h3
 have h5 := heap_setCell_same _ g 4 _ _ (.int .i64 x.a) h4
 have h6 := heap_setCell_same _ g 5 _ _ (.int .i64 x.b) h5
 have h7 := heap_setCell_same _ g 6 _ _ (.int .i64 x.c) h6
 have h8 := heap_setCell_same _ g 7 _ _ (.int .i64 x.ms) h7
 exact h8.trans (by kernel_rfl)
theorem setE_fr {F : Nat -> Prop} {a w : World} (h : Fr F a w) (g : Nat) (x : En) (hg : F g \/ a.heap.size <= g) : Fr F a (setE w g x) :=
 (((((((h.setCell _ _ hg).setCell _ _ hg).setCell _ _ hg).setCell _ _ hg).setCell _ _ hg).setCell _ _ hg).setCell _ _ hg).setCell _ _ hg
end Go.Proofs.Ytdmgalaajgebkaa
namespace Go.Proofs.Ytdmgalaajgebkaa
open Go.RowKit
set_option maxRecDepth 100000
def Pp (L M : List En) (x : En) (b : Bool) : Prop := Qu M /\ ((L = [] /\ M = [] /\ x = zE /\ b = false) \/ (0 < L.length /\ b = true /\ x = att L 0 /\ L.Perm (x :: M)))
theorem Qk.setE {w : World} {B p g : Nat} {v : Value} {L : List En} (h : Qk w B p v L) (hp : p ≠ g) (hv : v.ownBlock ≠ some g) (x : En) : Qk (setE w g x) B p v L :=
 h.keep (F := fun k => k = g) (setE_fr (Fr.refl _ w) g x (.inl rfl)) hp (fun k hk e => hv (by rw [<- hk]; exact e))
theorem fun_un {L M : List En} {x : En} (hp : L.Perm (x :: M)) (h : Qu L) : Unl M := (List.pairwise_cons.1 (h.un.perm hp)).2
end Go.Proofs.Ytdmgalaajgebkaa
namespace Go.Proofs.Ytdmgalaajgebkaa
open Go.RowKit
set_option maxRecDepth 100000
def Srt (L : List En) : Prop := L.Pairwise (fun x y => kc x y < 0)
structure Cm (L O M : List En) : Prop where
 pm : L.Perm (O ++ M)
 sr : Srt O
 ah : ∀ x ∈ O, ∀ y ∈ M, kc x y < 0
theorem Cm.start (L : List En) : Cm L [] L := ⟨List.Perm.refl _, List.Pairwise.nil, fun x h => by cases h⟩
theorem Cm.step {L O M M' : List En} {x : En} (h : Cm L O M) (hp : M.Perm (x :: M')) (hx : ∀ y ∈ M', kc x y < 0) : Cm L (O ++ [x]) M' := by
 refine ⟨?_, ?_, ?_⟩
 ·refine h.pm.trans ?_
  rw [List.append_assoc]
  exact List.Perm.append_left O hp
 ·refine List.pairwise_append.2 ⟨h.sr, List.pairwise_singleton _ _, fun a ha b hb => ?_⟩
  rw [List.mem_singleton] at hb
  subst hb
  exact h.ah a ha b (hp.mem_iff.2 (List.mem_cons_self ..))
 ·intro a ha y hy
  rcases List.mem_append.1 ha with h' | h'
  ·exact h.ah a h' y (hp.mem_iff.2 (List.mem_cons_of_mem _ hy))
  ·rw [List.mem_singleton] at h'
   subst h'
   exact hx y hy
def slN : Value -> Nat
 | .slice _ n _ => n
 | _ => 0
theorem least_fr {M : List En} (h : Hp M M.length) {f : Int} (hf : f < (att M 0).fr) : ∀ y ∈ M, f < y.fr := by
 intro y hy
 obtain ⟨k, hk, e⟩ := List.getElem_of_mem hy
 have h1 := h.least k hk
 have e2 : att M k = y := by unfold att; rw [List.getD_eq_getElem?_getD, List.getElem?_eq_getElem hk, e]; rfl
 rw [e2] at h1
 unfold le at h1
 rw [kc_lt] at h1
 omega
end Go.Proofs.Ytdmgalaajgebkaa
namespace Go.Proofs.Ytdmgalaajgebkaa
open Go.RowKit
set_option maxRecDepth 100000
abbrev hcs (x : En) : Array Value := #[.int .i64 x.fr, .int .i64 x.pe, .int .i64 x.se, .int .i64 x.vb, .int .i64 x.a, .int .i64 x.b, .int .i64 x.c]
def Hb (w : World) (g : Nat) (x : En) : Prop := w.heap[g]? = some (.cells (hcs x) 30 (0, 0))
theorem Hb.cells {w : World} {g : Nat} {x : En} (h : Hb w g x) : w.cell? ⟨g, 0, none⟩ = some (.int .i64 x.fr) /\ w.cell? ⟨g, 1, none⟩ = some (.int .i64 x.pe) /\ w.cell? ⟨g, 2, none⟩ = some (.int .i64 x.se) /\ w.cell? ⟨g, 3, none⟩ = some (.int .i64 x.vb) /\ w.cell? ⟨g, 4, none⟩ = some (.int .i64 x.a) /\ w.cell? ⟨g, 5, none⟩ = some (.int .i64 x.b) /\ w.cell? ⟨g, 6, none⟩ = some (.int .i64 x.c) /\ ∀ o, w.frozen? ⟨g, o, none⟩ = false := by
 refine ⟨?_, ?_, ?_, ?_, ?_, ?_, ?_, fun o => frozen_of_row w g o _ _ h⟩ <;> (rw [cell_of_row _ _ _ _ _ _ h]; rfl)
theorem Hb.put {w : World} {g : Nat} {y : En} (h0 : Hb w g y) (x : En) : Hb (((((((w.setCell ⟨g, 0, none⟩ (.int .i64 x.fr)).setCell ⟨g, 1, none⟩ (.int .i64 x.pe)).setCell ⟨g, 2, none⟩ (.int .i64 x.se)).setCell ⟨g, 3, none⟩ (.int .i64 x.vb)).setCell ⟨g, 4, none⟩ (.int .i64 x.a)).setCell ⟨g, 5, none⟩ (.int .i64 x.b)).setCell ⟨g, 6, none⟩ (.int .i64 x.c)) g x := by
 unfold Hb at h0 ⊢
 have h1 := heap_setCell_same _ g 0 _ _ (.int .i64 x.fr) h0
 have h2 := heap_setCell_same _ g 1 _ _ (.int .i64 x.pe) h1
 have h3 := heap_setCell_same _ g 2 _ _ (.int .i64 x.se) h2
 have h4 := heap_setCell_same _ g 3 _ _ (.int .i64 x.vb) h3
 have h5 := heap_setCell_same _ g 4 _ _ (.int .i64 x.a) h4
 have h6 := heap_setCell_same _ g 5 _ _ (.int .i64 x.b) h5
 have h7 := heap_setCell_same _ g 6 _ _ (.int .i64 x.c) h6
 exact h7.trans (by kernel_rfl)
theorem st_hv {o : Oper} {ρ : Operand -> Value} {x y : Operand} {u : World} {g : Nat} {m : En} (ho : o.op = .store 30 x y) (hx : ρ x = .pointer (some ⟨g, 0, none⟩)) (hy : ρ y = .agg (hcs m)) (hh : u.heap[g]? = some (.cells (hcs zE) 30 (0, 0))) :
  ∃ u', (execOp ρ o).run Try.prog u = .ok .skip u' /\ u'.heap[g]? = some (.cells (hcs m) 30 (0, 0)) /\ Fr (fun i => i = g) u u' := by
 have hb : Hb u g zE := hh
 obtain ⟨d0, d1, d2, d3, d4, d5, d6, df⟩ := hb.cells
 have hput := hb.put m
 refine ⟨_, ?_, hput, (((((((((Fr.refl (fun i => i = g) u).setCell ⟨g, 0, none⟩ (.int .i64 m.fr) (.inl rfl)).setCell ⟨g, 1, none⟩ (.int .i64 m.pe) (.inl rfl)).setCell ⟨g, 2, none⟩ (.int .i64 m.se) (.inl rfl)).setCell ⟨g, 3, none⟩ (.int .i64 m.vb) (.inl rfl)).setCell ⟨g, 4, none⟩ (.int .i64 m.a) (.inl rfl)).setCell ⟨g, 5, none⟩ (.int .i64 m.b) (.inl rfl)).setCell ⟨g, 6, none⟩ (.int .i64 m.c) (.inl rfl)))⟩
 clear hput hb hh
 unfold execOp
 rw [ho]
 simp only [hx, hy]
 go_simp
theorem nw_hv {o : Oper} {ρ : Operand -> Value} (ho : o.op = .alloc 30) (u : World) : (execOp ρ o).run Try.prog u = .ok (.value (.pointer (some ⟨u.heap.size, 0, none⟩))) (u.alloc (.cells (hcs zE) 30 (0, 0))) := by
 unfold execOp
 rw [ho]
 go_simp
 try rfl
set_option maxHeartbeats 2000000 in
theorem rord_any (x y : En) (w : World) : Calls Try.prog 20 #[ev x, ev y] w fun e w' => e = .returned (.int .i64 (kc x y)) /\ Still w w' := by
 have A0 := Still.alloc w (.cells (ecs x) 44)
 have A1 := Still.alloc (newE w x) (.cells (ecs y) 44)
 obtain ⟨W, eW⟩ : ∃ W, W = newE (newE w x) y := ⟨_, rfl⟩
 have p0 : Eb W w.heap.size x := by rw [eW]; exact (newE_eb w x).still A1
 have q0 : Eb W (w.heap.size + 1) y := by rw [eW]; have := newE_eb (newE w x) y; rw [size_alloc] at this; exact this
 have HS0 : Hid (Still w W) := hid (by rw [eW]; exact A0.trans A1)
 have HP := hid p0
 have HQ := hid q0
 have HW := hid eW
 clear A0 A1 eW p0 q0
 go_enter Try.func20, Try.ntmps20
 go_upto_region 1 with fail
 have e := HW.out
 simp only [newE] at e
 rw [<- e]
 clear e HW
 refine region_mk2 4 5 6 (.cells (hcs zE) 30 (0, 0)) (.cells (hcs x) 30 (0, 0)) (.cells (hcs y) 30 (0, 0)) (by kernel_rfl) (by kernel_rfl) (by kernel_rfl) (by kernel_rfl) ⟨rfl, rfl⟩ ⟨rfl, rfl⟩ (fun u b => ⟨nw_hv rfl u, nw_hv rfl u⟩) (fun u => heap_alloc_new u _) ?_
 apply Exists.intro
 refine And.intro ?_ (And.intro ?_ (And.intro ?_ ?_))
 ·intro u hu
  obtain ⟨c0, c1, c2, c3, c4, c5, c6, c7, _⟩ := (HP.out.still hu).cells
  obtain ⟨d0, d1, d2, d3, d4, d5, d6, d7, _⟩ := (HQ.out.still hu).cells
  have k0 := Cl.cell c0
  have k1 := Cl.cell c1
  have k2 := Cl.cell c2
  have k3 := Cl.cell c3
  have k4 := Cl.cell c4
  have k5 := Cl.cell c5
  have k6 := Cl.cell c6
  have l0 := Cl.cell d0
  have l1 := Cl.cell d1
  have l2 := Cl.cell d2
  have l3 := Cl.cell d3
  have l4 := Cl.cell d4
  have l5 := Cl.cell d5
  have l6 := Cl.cell d6
  have hne := Aft.here u
  clear c0 c1 c2 c3 c4 c5 c6 c7 d0 d1 d2 d3 d4 d5 d6 d7
  simp only [qlist, List.take_succ_cons, List.take_zero, List.drop_succ_cons, List.drop_zero, List.cons_append, List.nil_append, Nat.reduceMul, Nat.reduceAdd]
  repeat (go_big_quiet_step (fail))
  exact wpQuiet_nil rfl
 ·exact fun u h hh => st_hv rfl rfl rfl hh
 ·exact fun u h hh => st_hv rfl rfl rfl hh
 intro w6 g1 g2 h6 _ _ _ hm2 hm3
 have hx : Hb w6 g1 x := hm2
 have hy : Hb w6 g2 y := hm3
 have HS := hid (HS0.out.trans h6)
 obtain ⟨c0, c1, c2, _, _, _, _, _⟩ := hx.cells
 obtain ⟨d0, d1, d2, _, _, _, _, _⟩ := hy.cells
 have HK : Hid (kc x y = orI [cI x.fr y.fr, cI x.pe y.pe, cI x.se y.se]) := hid rfl
 obtain ⟨a1, ea⟩ : ∃ a, x.fr = a := ⟨_, rfl⟩
 obtain ⟨a2, eb⟩ : ∃ a, x.pe = a := ⟨_, rfl⟩
 obtain ⟨a3, ec⟩ : ∃ a, x.se = a := ⟨_, rfl⟩
 obtain ⟨b1, ed⟩ : ∃ a, y.fr = a := ⟨_, rfl⟩
 obtain ⟨b2, ee⟩ : ∃ a, y.pe = a := ⟨_, rfl⟩
 obtain ⟨b3, ef⟩ : ∃ a, y.se = a := ⟨_, rfl⟩
 rw [ea, eb, ec, ed, ee, ef] at HK
 rw [ea] at c0
 rw [eb] at c1
 rw [ec] at c2
 rw [ed] at d0
 rw [ee] at d1
 rw [ef] at d2
 clear ea eb ec ed ee ef hx hy hm2 hm3 h6 HS0 HP HQ
 by_cases t1 : a1 < b1
 ·have HV : Hid (orI [cI a1 b1, cI a2 b2, cI a3 b3] = -1) := hid (by simp [orI, cI, t1])
  go_wp2_with fail
  (try simp only [Exit.inBlock, Exit.then])
  go_ret
  exact ⟨by rw [HK.out, HV.out]; rfl, HS.out⟩
 by_cases t2 : a1 = b1
 ·subst t2
  by_cases t3 : a2 < b2
  ·have HV : Hid (orI [cI a1 a1, cI a2 b2, cI a3 b3] = -1) := hid (by simp [orI, cI, t3])
   go_wp2_with fail
   (try simp only [Exit.inBlock, Exit.then])
   go_ret
   exact ⟨by rw [HK.out, HV.out]; rfl, HS.out⟩
  by_cases t4 : a2 = b2
  ·subst t4
   by_cases t5 : a3 < b3
   ·have HV : Hid (orI [cI a1 a1, cI a2 a2, cI a3 b3] = -1) := hid (by simp [orI, cI, t5])
    go_wp2_with fail
    (try simp only [Exit.inBlock, Exit.then])
    go_ret
    exact ⟨by rw [HK.out, HV.out]; rfl, HS.out⟩
   by_cases t6 : a3 = b3
   ·subst t6
    have HV : Hid (orI [cI a1 a1, cI a2 a2, cI a3 a3] = 0) := hid (by simp [orI, cI])
    go_wp2_with fail
    (try simp only [Exit.inBlock, Exit.then])
    go_ret
    exact ⟨by rw [HK.out, HV.out]; rfl, HS.out⟩
   ·have t6' : (a3 == b3) = false := by simpa using t6
    have HV : Hid (orI [cI a1 a1, cI a2 a2, cI a3 b3] = 1) := hid (by simp [orI, cI, t5, show b3 < a3 by omega])
    go_wp2_with fail
    (try simp only [Exit.inBlock, Exit.then])
    go_ret
    exact ⟨by rw [HK.out, HV.out]; rfl, HS.out⟩
  ·have t4' : (a2 == b2) = false := by simpa using t4
   have HV : Hid (orI [cI a1 a1, cI a2 b2, cI a3 b3] = 1) := hid (by simp [orI, cI, t3, show b2 < a2 by omega])
   go_wp2_with fail
   (try simp only [Exit.inBlock, Exit.then])
   go_ret
   exact ⟨by rw [HK.out, HV.out]; rfl, HS.out⟩
 ·have t2' : (a1 == b1) = false := by simpa using t2
  have HV : Hid (orI [cI a1 b1, cI a2 b2, cI a3 b3] = 1) := hid (by simp [orI, cI, t1, show b1 < a1 by omega])
  go_wp2_with fail
  (try simp only [Exit.inBlock, Exit.then])
  go_ret
  exact ⟨by rw [HK.out, HV.out]; rfl, HS.out⟩
def ken (f s n : Int) : En := ⟨f, s, n, 0, 0, 0, 0, 0⟩
end Go.Proofs.Ytdmgalaajgebkaa
namespace Go.Proofs.Ytdmgalaajgebkaa
open Go.RowKit
set_option maxRecDepth 100000
def eqE (x y : En) : Bool := ((x.fr == y.fr) && ((x.pe == y.pe) && ((x.se == y.se) && ((x.vb == y.vb) && ((x.a == y.a) && ((x.b == y.b) && (x.c == y.c))))))) && (x.ms == y.ms)
theorem eqE_refl (x : En) : eqE x x = true := by unfold eqE; simp
theorem eqE_iff {x y : En} : eqE x y = true ↔ x = y := by
 obtain ⟨a1, a2, a3, a4, a5, a6, a7, a8⟩ := x
 obtain ⟨b1, b2, b3, b4, b5, b6, b7, b8⟩ := y
 unfold eqE
 simp
 constructor
 ·rintro ⟨⟨h1, h2, h3, h4, h5, h6, h7⟩, h8⟩; exact ⟨h1, h2, h3, h4, h5, h6, h7, h8⟩
 ·rintro ⟨h1, h2, h3, h4, h5, h6, h7, h8⟩; exact ⟨⟨h1, h2, h3, h4, h5, h6, h7⟩, h8⟩
theorem eqE_ne {x y : En} (h : x ≠ y) : eqE x y = false := by
 cases hb : eqE x y with
 | false => rfl
 | true => exact absurd (eqE_iff.1 hb) h
theorem equalE_int (d : Nat) (x y : Int) (w : World) : (Op.equalIn (d + 1) 3 (.int .i64 x) (.int .i64 y)).run Try.prog w = .ok (x == y) w := by
 go_simp
theorem equalE_i64 (d : Nat) (x y : Int) (w : World) : (Op.equalIn (d + 1) 2 (.int .i64 x) (.int .i64 y)).run Try.prog w = .ok (x == y) w := by
 go_simp
theorem stE {b c : Bool} {w : World} {R : Result Bool} (h : R = .ok c w) : (if (!b) = true then Result.ok false w else R) = .ok (b && c) w := by
 cases b <;> simp [h]
theorem stE1 (b : Bool) {w : World} : (if (!b) = true then Result.ok false w else Result.ok true w) = .ok b w := by
 cases b <;> rfl
abbrev ocs (x : En) : Array Value := #[.int .i64 x.vb, .int .i64 x.a, .int .i64 x.b, .int .i64 x.c]
theorem opart (x : En) (w : World) : (part 3 (ocs x) 0).run Try.prog w = .ok (.int .i64 x.vb) w /\ (part 3 (ocs x) 1).run Try.prog w = .ok (.int .i64 x.a) w /\ (part 3 (ocs x) 2).run Try.prog w = .ok (.int .i64 x.b) w /\ (part 3 (ocs x) 3).run Try.prog w = .ok (.int .i64 x.c) w := by
 refine ⟨?_, ?_, ?_, ?_⟩ <;> go_simp
theorem equal_oE (x y : En) (w : World) : (Op.equalIn 9998 28 (.agg (ocs x)) (.agg (ocs y))).run Try.prog w = .ok ((x.vb == y.vb) && ((x.a == y.a) && ((x.b == y.b) && (x.c == y.c)))) w := by
 have c0 := fun w => (opart x w).1
 have d0 := fun w => (opart y w).1
 have r0 := fun w => equalE_int 9996 x.vb y.vb w
 have c1 := fun w => (opart x w).2.1
 have d1 := fun w => (opart y w).2.1
 have r1 := fun w => equalE_int 9996 x.a y.a w
 have c2 := fun w => (opart x w).2.2.1
 have d2 := fun w => (opart y w).2.2.1
 have r2 := fun w => equalE_int 9996 x.b y.b w
 have c3 := fun w => (opart x w).2.2.2
 have d3 := fun w => (opart y w).2.2.2
 have r3 := fun w => equalE_int 9996 x.c y.c w
 rw [run_equalIn_struct w 9997 _ _ _ (by kernel_rfl) (by kernel_rfl)]
 have e : (Try.prog.fieldsOf 28) = #[⟨ "Verb", 3, 0, false, "", "", 0⟩, ⟨ "A", 3, 1, false, "", "", 8⟩, ⟨ "B", 3, 2, false, "", "", 16⟩, ⟨ "C", 3, 3, false, "", "", 24⟩] := by kernel_rfl
 rw [e]
 simp only [Op.eqFields, ne_eq, String.reduceEq, not_false_eq_true, if_true, Sem.run_bind, c0, c1, c2, c3, d0, d1, d2, d3, Result.andThen_ok, r0, r1, r2, r3, Sem.run_ite, Sem.run_pure]
 exact stE (stE (stE (stE1 _)))
theorem hpart (x : En) (w : World) : (part 2 (hcs x) 0).run Try.prog w = .ok (.int .i64 x.fr) w /\ (part 3 (hcs x) 1).run Try.prog w = .ok (.int .i64 x.pe) w /\ (part 3 (hcs x) 2).run Try.prog w = .ok (.int .i64 x.se) w /\ (part 28 (hcs x) 3).run Try.prog w = .ok (.agg (ocs x)) w := by
 refine ⟨?_, ?_, ?_, ?_⟩ <;> go_simp
theorem equal_hE (x y : En) (w : World) : (Op.equalIn 9999 30 (.agg (hcs x)) (.agg (hcs y))).run Try.prog w = .ok ((x.fr == y.fr) && ((x.pe == y.pe) && ((x.se == y.se) && ((x.vb == y.vb) && ((x.a == y.a) && ((x.b == y.b) && (x.c == y.c))))))) w := by
 have c0 := fun w => (hpart x w).1
 have d0 := fun w => (hpart y w).1
 have r0 := fun w => equalE_i64 9997 x.fr y.fr w
 have c1 := fun w => (hpart x w).2.1
 have d1 := fun w => (hpart y w).2.1
 have r1 := fun w => equalE_int 9997 x.pe y.pe w
 have c2 := fun w => (hpart x w).2.2.1
 have d2 := fun w => (hpart y w).2.2.1
 have r2 := fun w => equalE_int 9997 x.se y.se w
 have c3 := fun w => (hpart x w).2.2.2
 have d3 := fun w => (hpart y w).2.2.2
 have r3 := fun w => equal_oE x y w
 rw [run_equalIn_struct w 9998 _ _ _ (by kernel_rfl) (by kernel_rfl)]
 have e : (Try.prog.fieldsOf 30) = #[⟨ "Frame", 2, 0, false, "", "", 0⟩, ⟨ "Peer", 3, 1, false, "", "", 8⟩, ⟨ "Seq", 3, 2, false, "", "", 16⟩, ⟨ "Order", 28, 3, false, "", "", 24⟩] := by kernel_rfl
 rw [e]
 simp only [Op.eqFields, ne_eq, String.reduceEq, not_false_eq_true, if_true, Sem.run_bind, c0, c1, c2, c3, d0, d1, d2, d3, Result.andThen_ok, r0, r1, r2, r3, Sem.run_ite, Sem.run_pure]
 exact stE (stE (stE (stE1 _)))
theorem epart (x : En) (w : World) : (part 30 (ecs x) 0).run Try.prog w = .ok (.agg (hcs x)) w /\ (part 3 (ecs x) 7).run Try.prog w = .ok (.int .i64 x.ms) w := by
 refine ⟨?_, ?_⟩ <;> go_simp
theorem equal_ev (x y : En) (w : World) : (Op.equalIn 10000 44 (ev x) (ev y)).run Try.prog w = .ok (eqE x y) w := by
 have c0 := fun w => (epart x w).1
 have d0 := fun w => (epart y w).1
 have r0 := fun w => equal_hE x y w
 have c1 := fun w => (epart x w).2
 have d1 := fun w => (epart y w).2
 have r1 := fun w => equalE_int 9998 x.ms y.ms w
 rw [run_equalIn_struct w 9999 _ _ _ (by kernel_rfl) (by kernel_rfl)]
 have e : (Try.prog.fieldsOf 44) = #[⟨ "Command", 30, 0, false, "", "", 0⟩, ⟨ "Missed", 3, 7, false, "", "", 56⟩] := by kernel_rfl
 rw [e]
 simp only [Op.eqFields, ne_eq, String.reduceEq, not_false_eq_true, if_true, Sem.run_bind, c0, c1, d0, d1, Result.andThen_ok, r0, r1, Sem.run_ite, Sem.run_pure]
 unfold eqE
 exact stE (stE1 _)
theorem eql_ev (x y : En) (w : World) : (binOp .eql 44 (ev x) (ev y)).run Try.prog w = .ok (.bool (eqE x y)) w := by
 rw [run_eql_struct, equal_ev]; rfl
theorem neq_ev (x y : En) (w : World) : (binOp .neq 44 (ev x) (ev y)).run Try.prog w = .ok (.bool (!eqE x y)) w := by
 rw [run_neq_struct, equal_ev]; rfl
theorem eql_ev_t (x : En) (w : World) : (binOp .eql 44 (ev x) (ev x)).run Try.prog w = .ok (.bool true) w := by
 rw [eql_ev, eqE_refl]
theorem neq_ev_f (x : En) (w : World) : (binOp .neq 44 (ev x) (ev x)).run Try.prog w = .ok (.bool false) w := by
 rw [neq_ev, eqE_refl]; rfl
theorem guard_ev (op : BinOp) (a b : Operand) (xs ys : Array Value) (w : World) : (eqGuard op 44 a b (.agg xs) (.agg ys)).run Try.prog w = .ok () w := run_eqGuard_agg w op _ a b xs ys (by kernel_rfl)
set_option maxHeartbeats 2000000 in
theorem rsame_t (L : List En) (ao bo : Option Addr) (n c1 c2 : Nat) (w : World) (ha : RdG KE w ao n L) (hb : RdG KE w bo n L) : Calls Try.prog 43 #[.slice ao n c1, .slice bo n c2] w fun e w' => e = .returned (.bool true) /\ Still w w' := by
 have h47 := ha.2.1
 have HA := hid ha
 have HB := hid hb
 have hnn : ((n : Int) != (n : Int)) = false := by simp
 clear ha hb
 go_enter Try.func43, Try.ntmps43
 go_wp2_with fail
 go_loopw [5] (fun u wr => ∃ k : Nat, k <= n /\ u = .int .i64 (k : Int) /\ Hid (Still w wr)) (fun u _ => n - (intOf u).toNat)
 case atStart => exact ⟨0, by omega, rfl, hid (Fr.refl _ _)⟩
 case round =>
  obtain ⟨k, hk, rfl, HS⟩ := hrel
  by_cases hkn : k < n
  ·have hlt : (k : Int) < (n : Int) := by omega
   obtain ⟨B1, o1, rfl⟩ := HA.out.at (by omega)
   obtain ⟨B2, o2, rfl⟩ := HB.out.at (by omega)
   obtain ⟨c0, c1', c2', c3, c4, c5, c6, c7⟩ := rdE (HA.out.still HS.out) hkn
   obtain ⟨d0, d1, d2, d3, d4, d5, d6, d7⟩ := rdE (HB.out.still HS.out) hkn
   obtain ⟨x, ex⟩ : ∃ x, att L k = x := ⟨_, rfl⟩
   rw [ex] at c0 c1' c2' c3 c4 c5 c6 c7 d0 d1 d2 d3 d4 d5 d6 d7
   clear ex
   have k0 := Cl.cell c0
   have k1 := Cl.cell c1'
   have k2 := Cl.cell c2'
   have k3 := Cl.cell c3
   have k4 := Cl.cell c4
   have k5 := Cl.cell c5
   have k6 := Cl.cell c6
   have k7 := Cl.cell c7
   have l0 := Cl.cell d0
   have l1 := Cl.cell d1
   have l2 := Cl.cell d2
   have l3 := Cl.cell d3
   have l4 := Cl.cell d4
   have l5 := Cl.cell d5
   have l6 := Cl.cell d6
   have l7 := Cl.cell d7
   have hne := Aft.here wr
   have hq := fun w => neq_ev_f x w
   have hg := fun a b w => guard_ev .neq a b (ecs x) (ecs x) w
   clear c0 c1' c2' c3 c4 c5 c6 c7 d0 d1 d2 d3 d4 d5 d6 d7
   go_upto_region 6 with fail
   refine region_all (by kernel_rfl) (by kernel_rfl) ?_
   repeat (go_big_quiet_step (fail))
   refine wpQuiet_nil ?_
   intro w3 h3
   have HS3 := hid (HS.out.trans h3)
   clear h3 hne k0 k1 k2 k3 k4 k5 k6 k7 l0 l1 l2 l3 l4 l5 l6 l7 hq hg
   go_wp2_with fail
   go_roundw
   case rel => exact ⟨k + 1, by omega, by go_num, HS3⟩
   case measure => simp [intOf]; omega
  ·have hge : ¬ (k : Int) < (n : Int) := by omega
   go_wp2_with fail
   go_ret
   exact ⟨rfl, HS.out⟩
end Go.Proofs.Ytdmgalaajgebkaa
namespace Go.Proofs.Ytdmgalaajgebkaa
open Go.RowKit
set_option maxRecDepth 100000
theorem kc_asym {x y : En} (h1 : kc x y < 0) (h2 : kc y x < 0) : False := by rw [kc_lt] at *; omega
theorem srt_eq : ∀ {O O' : List En}, Srt O -> Srt O' -> O.Perm O' -> O = O'
 | [], _, _, _, hp => hp.nil_eq
 | x :: O, [], _, _, hp => by have := hp.length_eq; simp at this
 | x :: O, y :: O', h1, h2, hp => by
  have hx : x ∈ y :: O' := hp.mem_iff.1 (List.mem_cons_self ..)
  have hy : y ∈ x :: O := hp.mem_iff.2 (List.mem_cons_self ..)
  have e : x = y := by
   rcases List.mem_cons.1 hx with e | hx'
   ·exact e
   ·rcases List.mem_cons.1 hy with e | hy'
    ·exact e.symm
    ·exact (kc_asym ((List.pairwise_cons.1 h2).1 x hx') ((List.pairwise_cons.1 h1).1 y hy')).elim
  subst e
  rw [srt_eq (List.pairwise_cons.1 h1).2 (List.pairwise_cons.1 h2).2 hp.cons_inv]
theorem unl_eq : ∀ {L : List En}, Unl L -> ∀ {x y}, x ∈ L -> y ∈ L -> kc x y = 0 -> x = y
 | [], _, x, y, hx, _, _ => by cases hx
 | z :: L, h, x, y, hx, hy, e => by
  obtain ⟨h1, h2⟩ := List.pairwise_cons.1 h
  rcases List.mem_cons.1 hx with rfl | hx'
  ·rcases List.mem_cons.1 hy with rfl | hy'
   ·rfl
   ·exact absurd e (h1 y hy')
  ·rcases List.mem_cons.1 hy with rfl | hy'
   ·exact absurd e (kc_symm (h1 x hx'))
   ·exact unl_eq h2 hx' hy' e
theorem qu_mem0 {L : List En} (h0 : 0 < L.length) : att L 0 ∈ L := att_mem h0
theorem qu_is {L K : List En} (h : Qu L) (hp : L.Perm K) {x : En} (hx : x ∈ K) (hm : ∀ y ∈ K, le x y) : att L 0 = x := by
 have hxL : x ∈ L := hp.mem_iff.2 hx
 have h0 : 0 < L.length := List.length_pos_of_mem hxL
 have ha := qu_mem0 h0
 have h1 : le x (att L 0) := hm _ (hp.mem_iff.1 ha)
 obtain ⟨k, hk, e⟩ := List.getElem_of_mem hxL
 have h2 := h.hp.least k hk
 have e2 : att L k = x := by unfold att; rw [List.getD_eq_getElem?_getD, List.getElem?_eq_getElem hk, e]; rfl
 rw [e2] at h2
 refine unl_eq h.un ha hxL ?_
 unfold le at h1 h2
 rw [kc_lt] at h1 h2
 rw [kc_eq]
 omega
theorem hasK_perm {x : En} {L K : List En} (hp : L.Perm K) : hasK x L = hasK x K := by
 unfold hasK
 exact hp.any_eq
theorem Psh.new {x : En} {L L' K : List En} {c : Int} (h : Psh x L L' c) (hp : L.Perm K) (hk : hasK x K = false) (hl : K.length < 4096) : c = 0 /\ Qu L' /\ L'.Perm (K ++ [x]) := by
 rw [<- hasK_perm hp] at hk
 have hle := hp.length_eq
 obtain ⟨hq, h | h | h⟩ := h
 ·rw [hk] at h; cases h.1
 ·omega
 ·exact ⟨h.2.2.1, hq, h.2.2.2.trans (hp.append_right [x])⟩
theorem Psh.old {x : En} {L L' K : List En} {c : Int} (h : Psh x L L' c) (hp : L.Perm K) (hk : hasK x K = true) : c = 151 /\ L' = L := by
 rw [<- hasK_perm hp] at hk
 obtain ⟨_, h | h | h⟩ := h
 ·exact h.2
 ·rw [hk] at h; cases h.1
 ·rw [hk] at h; cases h.1
theorem Psh.full {x : En} {L L' K : List En} {c : Int} (h : Psh x L L' c) (hp : L.Perm K) (hk : hasK x K = false) (hl : 4096 <= K.length) : c = 150 /\ L' = L := by
 rw [<- hasK_perm hp] at hk
 have hle := hp.length_eq
 obtain ⟨_, h | h | h⟩ := h
 ·rw [hk] at h; cases h.1
 ·exact h.2.2
 ·omega
theorem Cm.parts {L O M K : List En} {f : Int} (h : Cm L O M) (hp : L.Perm K) (h1 : ∀ x ∈ O, x.fr <= f) (h2 : ∀ y ∈ M, f < y.fr) : O.Perm (K.filter fun x => decide (x.fr <= f)) /\ M.Perm (K.filter fun x => !decide (x.fr <= f)) := by
 have hk := hp.symm.trans h.pm
 have a1 := (hk.filter fun x => decide (x.fr <= f))
 have a2 := (hk.filter fun x => !decide (x.fr <= f))
 rw [List.filter_append] at a1 a2
 have f1 : O.filter (fun x => decide (x.fr <= f)) = O := List.filter_eq_self.2 (fun x hx => decide_eq_true (h1 x hx))
 have f2 : M.filter (fun x => decide (x.fr <= f)) = [] := List.filter_eq_nil_iff.2 (fun x hx => by have := h2 x hx; simp; omega)
 have f3 : O.filter (fun x => !decide (x.fr <= f)) = [] := List.filter_eq_nil_iff.2 (fun x hx => by have := h1 x hx; simp; omega)
 have f4 : M.filter (fun x => !decide (x.fr <= f)) = M := List.filter_eq_self.2 (fun x hx => by have := h2 x hx; simp; omega)
 rw [f1, f2, List.append_nil] at a1
 rw [f3, f4, List.nil_append] at a2
 exact ⟨a1.symm, a2.symm⟩
theorem Qk.stl {w u u' : World} {B p : Nat} {v : Value} {L : List En} (h : Qk u B p v L) (hs : Still w u) (hB : w.heap.size <= B) (hf : Fr (fun k => k = p \/ v.ownBlock = some k) u u') : Still w u' :=
 Fr.trans hs hf (fun k hk e => by
  rcases e with e | e
  ·have := h.lo; omega
  ·have := (h.ow.block e).1; omega)
theorem Eb.fr {u u' : World} {B p g : Nat} {v : Value} {L : List En} {x : En} (hx : Eb u g x) (_h : Qk u B p v L) (hp : g ≠ p) (hv : v.ownBlock ≠ some g) (hf : Fr (fun k => k = p \/ v.ownBlock = some k) u u') : Eb u' g x :=
 hf.kept hx (fun e => by
  rcases e with e | e
  ·exact hp e
  ·exact hv e)
abbrev ecs2 (x y : En) : Array Value := #[.int .i64 x.fr, .int .i64 x.pe, .int .i64 x.se, .int .i64 x.vb, .int .i64 x.a, .int .i64 x.b, .int .i64 x.c, .int .i64 x.ms, .int .i64 y.fr, .int .i64 y.pe, .int .i64 y.se, .int .i64 y.vb, .int .i64 y.a, .int .i64 y.b, .int .i64 y.c, .int .i64 y.ms]
theorem rd_two (w : World) (x y : En) : RdG KE (w.alloc (.cells (ecs2 x y) 44)) (some ⟨w.heap.size, 0, none⟩) 2 [x, y] := by
 refine ⟨rfl, by omega, .inr ⟨_, 0, rfl, fun i hi j u hu => ?_⟩⟩
 have hb := heap_alloc_new w (.cells (ecs2 x y) 44)
 rw [cell_of_row _ _ _ _ _ _ hb]
 have hj : j < 8 := (List.getElem?_eq_some_iff.1 hu).1
 have hi' : i = 0 \/ i = 1 := by omega
 have hj' : j = 0 \/ j = 1 \/ j = 2 \/ j = 3 \/ j = 4 \/ j = 5 \/ j = 6 \/ j = 7 := by omega
 rcases hi' with rfl | rfl <;> rcases hj' with rfl | rfl | rfl | rfl | rfl | rfl | rfl | rfl <;> exact hu
end Go.Proofs.Ytdmgalaajgebkaa
namespace Go.Proofs.Ytdmgalaajgebkaa
open Go.RowKit
set_option maxRecDepth 100000
abbrev ka : En := ken 3 0 1
abbrev kb : En := ken 2 1 4
abbrev kd : En := ken 2 0 9
theorem aw_below {L O M : List En} (h : Cm L O M) (hp : L.Perm [ka, kb, kd]) (h1 : ∀ x ∈ O, x.fr <= 2) (h2 : ∀ y ∈ M, (2 : Int) < y.fr) : O = [kd, kb] /\ M = [ka] := by
 obtain ⟨a, b⟩ := h.parts hp h1 h2
 have e1 : [ka, kb, kd].filter (fun x => decide (x.fr <= 2)) = [kb, kd] := by decide
 have e2 : [ka, kb, kd].filter (fun x => !decide (x.fr <= 2)) = [ka] := by decide
 rw [e1] at a
 rw [e2] at b
 refine ⟨srt_eq h.sr ?_ (a.trans (List.Perm.swap kd kb [])), List.perm_singleton.1 b⟩
 exact List.pairwise_cons.2 ⟨fun y hy => by rw [List.mem_singleton] at hy; subst hy; decide, List.pairwise_singleton _ _⟩
theorem aw_least {L : List En} (h : Qu L) (hp : L.Perm [ka, kb, kd]) : att L 0 = kd := by
 refine qu_is h hp (x := kd) (by simp) (fun y hy => ?_)
 simp at hy
 rcases hy with rfl | rfl | rfl <;> (unfold le; decide)
end Go.Proofs.Ytdmgalaajgebkaa
namespace Go.Proofs.Ytdmgalaajgebkaa
open Go.RowKit
set_option maxRecDepth 100000
theorem ow_ne_q {w : World} {B p : Nat} {u v : Value} {I : List En} (ho : OwG KE 44 w B u I) (hb : w.heap[p]? = some (.cells #[v] 90 (0, 0))) : u.ownBlock ≠ some p := by
 intro e
 rcases ho.2 with ⟨rfl, _⟩ | ⟨g, cap, cur, rfl, _, hg, _⟩
 ·cases e
 ·simp [Value.ownBlock] at e
  subst e
  have := hg.symm.trans hb
  simp at this
structure Two (w wr : World) (p : Nat) (v : Value) (M : List En) (u : Value) (I : List En) : Prop where
 q : Qk wr w.heap.size p v M
 o : OwG KE 44 wr w.heap.size u I
 m : Qu M
 s : Still w wr
 a : ∀ k, v.ownBlock = some k -> u.ownBlock ≠ some k
theorem Two.still {w wr w' : World} {p : Nat} {v u : Value} {M I : List En} (h : Two w wr p v M u I) (hs : Still wr w') : Two w w' p v M u I := ⟨h.q.still hs, h.o.still hs, h.m, h.s.trans hs, h.a⟩
theorem Two.call {w wr w' : World} {p : Nat} {v v' u : Value} {M M' I : List En} (h : Two w wr p v M u I) (hq : Qk w' w.heap.size p v' M') (hm : Qu M') (hf : Fr (fun k => k = p \/ v.ownBlock = some k) wr w') (hb : ∀ k, v'.ownBlock = some k -> v.ownBlock = some k \/ wr.heap.size <= k) : Two w w' p v' M' u I := by
 refine ⟨hq, h.o.keep hf (fun k hk e => ?_), hm, h.q.stl h.s (Nat.le_refl _) hf, fun k hk e => ?_⟩
 ·rcases hk with rfl | hk
  ·exact ow_ne_q h.o h.q.bk e
  ·exact h.a k hk e
 ·rcases hb k hk with h1 | h1
  ·exact h.a k h1 e
  ·have := (h.o.block e).2; omega
theorem Two.app {w wr w' : World} {p : Nat} {v u u' : Value} {M I I' : List En} (h : Two w wr p v M u I) (ho : OwG KE 44 w' w.heap.size u' I') (hf : Fr (fun k => u.ownBlock = some k) wr w') (hb : ∀ k, u'.ownBlock = some k -> u.ownBlock = some k \/ wr.heap.size <= k) : Two w w' p v M u' I' := by
 refine ⟨h.q.keep hf (fun e => ow_ne_q h.o h.q.bk e) (fun k hk e => h.a k e hk), ho, h.m, Fr.trans h.s hf (fun k hk e => by have := (h.o.block e).1; omega), fun k hk e => ?_⟩
 rcases hb k e with h1 | h1
 ·exact h.a k hk h1
 ·have := (h.q.ow.block hk).2; omega
theorem Two.set {w wr w' : World} {p g : Nat} {v u : Value} {M I : List En} (h : Two w wr p v M u I) (hf : Fr (fun k => k = g) wr w') (hp : p ≠ g) (hv : v.ownBlock ≠ some g) (hu : u.ownBlock ≠ some g) (hg : w.heap.size <= g) : Two w w' p v M u I :=
 ⟨h.q.keep hf (fun e => hp e) (fun k hk e => hv (by rw [<- hk]; exact e)), h.o.keep hf (fun k hk e => hu (by rw [<- hk]; exact e)), h.m, Fr.trans h.s hf (fun k hk e => by omega), h.a⟩
end Go.Proofs.Ytdmgalaajgebkaa
namespace Go.Proofs.Ytdmgalaajgebkaa
open Go.RowKit
set_option maxRecDepth 100000
def pk (c n : Int) : Int := if c < 0 then (-(c + 1)).tmod n else c.tmod n
theorem pk_in (c n : Int) (hn : 0 < n) : 0 <= pk c n /\ pk c n < n := by
 unfold pk
 split
 ·rename_i h
  rw [Int.tmod_eq_emod_of_nonneg (by omega)]
  exact ⟨Int.emod_nonneg _ (by omega), Int.emod_lt_of_pos _ hn⟩
 ·rw [Int.tmod_eq_emod_of_nonneg (by omega)]
  exact ⟨Int.emod_nonneg _ (by omega), Int.emod_lt_of_pos _ hn⟩
theorem pick_any (c n : Int) (hc : -9223372036854775808 <= c /\ c <= 9223372036854775807) (hn : 0 < n) (hn2 : n <= 9223372036854775807) (w : World) : Calls Try.prog 8 #[.int .i64 c, .int .i64 n] w fun e w' => e = .returned (.int .i64 (pk c n)) /\ w' = w := by
 have hin := pk_in c n hn
 have hn0 : (n == 0) = false := beq_eq_false_iff_ne.2 (by omega)
 by_cases h : c < 0
 ·have HP : Hid (pk c n = (-(c + 1)).tmod n) := hid (by unfold pk; rw [if_pos h])
  have hw1 : IntKind.i64.wrap (c + 1) = c + 1 := by rw [IntKind.wrap_i64]; omega
  have hw2 : IntKind.i64.wrap (-(c + 1)) = -(c + 1) := by rw [IntKind.wrap_i64]; omega
  have hw3 : IntKind.i64.wrap ((-(c + 1)).tmod n) = (-(c + 1)).tmod n := by rw [IntKind.wrap_i64, <- HP.out]; omega
  go_enter Try.func8, Try.ntmps8
  go_wp2_with fail
  go_ret
  exact ⟨by show Ending.returned (.int .i64 (-(c + 1).tmod n)) = _; rw [HP.out, Int.neg_tmod], rfl⟩
 ·have HP : Hid (pk c n = c.tmod n) := hid (by unfold pk; rw [if_neg h])
  have hw3 : IntKind.i64.wrap (c.tmod n) = c.tmod n := by rw [IntKind.wrap_i64, <- HP.out]; omega
  go_enter Try.func8, Try.ntmps8
  go_wp2_with fail
  go_ret
  exact ⟨by show Ending.returned (.int .i64 (c % n)) = _; rw [HP.out, Int.tmod_eq_emod_of_nonneg (by omega)], rfl⟩
def fe (r : Int) (j : Nat) : En := ken ((j % 7 : Nat) : Int) (r + (j : Int)) 5
def fk (r : Int) : Nat -> List En
 | 0 => []
 | i + 1 => fk r i ++ [fe r i]
theorem fk_len (r : Int) : ∀ i, (fk r i).length = i
 | 0 => rfl
 | i + 1 => by simp [fk, fk_len r i]
theorem fk_mem (r : Int) : ∀ {i : Nat} {x : En}, x ∈ fk r i -> ∃ j, j < i /\ x = fe r j
 | 0, x, h => by cases h
 | i + 1, x, h => by
  rcases List.mem_append.1 h with h | h
  ·obtain ⟨j, hj, e⟩ := fk_mem r h
   exact ⟨j, by omega, e⟩
  ·rw [List.mem_singleton] at h
   exact ⟨i, by omega, h⟩
theorem fk_att (r : Int) : ∀ {i j : Nat}, j < i -> att (fk r i) j = fe r j
 | 0, j, h => by omega
 | i + 1, j, h => by
  by_cases hj : j < i
  ·have := fk_att r hj
   rw [fk, att_app (by rw [fk_len]; exact hj)]
   exact this
  ·obtain rfl : j = i := by omega
   have := att_last (fk r j) (fe r j)
   rw [fk_len] at this
   exact this
theorem fk_new (r : Int) (i : Nat) : hasK (fe r i) (fk r i) = false := by
 cases hb : hasK (fe r i) (fk r i) with
 | false => rfl
 | true =>
  exfalso
  obtain ⟨y, hy, h⟩ := List.any_eq_true.1 hb
  obtain ⟨j, hj, rfl⟩ := fk_mem r hy
  have := of_decide_eq_true h
  rw [kc_eq] at this
  simp only [fe, ken] at this
  omega
theorem fk_least (r : Int) {i : Nat} : ∀ y ∈ fk r i, le (fe r 0) y := by
 intro y hy
 obtain ⟨j, hj, rfl⟩ := fk_mem r hy
 unfold le
 rw [kc_lt]
 simp only [fe, ken]
 omega
theorem hasK_mem {x : En} {L : List En} (h : x ∈ L) : hasK x L = true := List.any_eq_true.2 ⟨x, h, decide_eq_true (by rw [kc_eq]; exact ⟨rfl, rfl, rfl⟩)⟩
def twc (x : En) (L : List En) (i : Nat) : Bool := (L.take i).any fun y => decide (kc y x = 0)
theorem twc_step (x : En) {L : List En} {i : Nat} (h : i < L.length) : twc x L (i + 1) = (twc x L i || decide (kc (att L i) x = 0)) := by
 unfold twc
 rw [List.take_succ_eq_append_getElem h, List.any_append]
 have : att L i = L[i] := by unfold att; rw [List.getD_eq_getElem?_getD, List.getElem?_eq_getElem h]; rfl
 rw [this]
 simp
theorem twc_all (x : En) (L : List En) : twc x L L.length = hasK x L := by
 unfold twc hasK
 rw [List.take_length]
 congr 1
 funext y
 exact decide_eq_decide.2 (by rw [kc_eq, kc_eq]; omega)
theorem ty_ne {w : World} {a b : Nat} {x y : Array Value} {s t : TypeId} (ha : w.heap[a]? = some (.cells x s (0, 0))) (hb : w.heap[b]? = some (.cells y t (0, 0))) (h : s ≠ t) : a ≠ b := by
 rintro rfl
 have := ha.symm.trans hb
 simp at this
 exact h this.2
theorem ow_ne_t {w : World} {B p : Nat} {u : Value} {I : List En} {y : Array Value} {t : TypeId} (ho : OwG KE 44 w B u I) (hb : w.heap[p]? = some (.cells y t (0, 0))) (h : 44 ≠ t) : u.ownBlock ≠ some p := by
 intro e
 rcases ho.2 with ⟨rfl, _⟩ | ⟨g, cap, cur, rfl, _, hg, _⟩
 ·cases e
 ·simp [Value.ownBlock] at e
  exact ty_ne hg hb h e
end Go.Proofs.Ytdmgalaajgebkaa
namespace Go.Proofs.Ytdmgalaajgebkaa
open Go.RowKit
set_option maxRecDepth 100000
theorem OwG.none0 (w : World) : OwG KE 44 (w.alloc (.cells #[] 44)) w.heap.size (.slice (some ⟨w.heap.size, 0, none⟩) 0 0) [] := by
 have := World.ownsRow_lit (base := w.heap.size) (e := 44) (size := KE.k) w #[] 0 (Nat.le_refl _) (by unfold maxLen; omega) (by simp)
 exact this
theorem qclo_any (L : List En) (B : Nat) (v : Value) (hl : L.length <= 4096) (w : World) (ho : OwG KE 44 w B v L) : Calls Try.prog 53 #[v] w fun e w' => ∃ v', e = .returned v' /\ OwG KE 44 w' w.heap.size v' L /\ Still w w' := by
 have hnil := fun (W : World) ao n cap => Lib.run_eql_slice_nil (P := Try.prog) W 88 44 ao n cap 0 0 Try.underlying88
 rcases ho.2 with ⟨rfl, h0⟩ | ⟨g, cap, cur, rfl, hb, hg, hn, hm, hs, ht⟩
 ·obtain rfl : L = [] := List.eq_nil_of_length_eq_zero h0
  clear ho h0
  go_enter Try.func53, Try.ntmps53
  go_wp2_with fail
  go_ret
  exact ⟨_, rfl, OwG.nil _ _, Fr.refl _ _⟩
 ·have A1 := Still.alloc w (.cells #[] 44)
  have HO1 := hid (OwG.none0 w)
  have HS1 := hid A1
  have HNW := hid (World.ownsRow.cells (ho.still A1) (g := g) rfl)
  obtain ⟨i, hi, hz, h1, h2⟩ := infoE
  have HI := hid (And.intro hi (And.intro hz (And.intro h1 h2)))
  have HL := hid (show 0 + L.length <= maxLen /\ (0 + L.length) * 64 <= 140737488355328 from ⟨by unfold maxLen; omega, by omega⟩)
  have HB := hid (show w.heap.size <= (w.alloc (.cells #[] 44)).heap.size by simp)
  clear ho A1 hb hg hn hm hs ht hi hz h1 h2
  go_enter Try.func53, Try.ntmps53
  go_wp2_with (at_builtin; refine wpList_append_own (P := Try.prog) _ rfl _ _ _ rfl w.heap.size 44 i (.agg (KE.f KE.d).toArray) KE.k 64 rfl HI.out.1 HI.out.2.1 HI.out.2.2.1 HI.out.2.2.2 (by simp [Value.cells, KE.len]) KE.pos (.slice (some ⟨w.heap.size, 0, none⟩) 0 0) 0 [] rfl HO1.out ⟨g, 0, none⟩ L.length cap (KE.row L) rfl (by rw [KE.row_len]) HNW.out (KE.row_one L) HL.out.1 HL.out.2 HB.out ?_; intro v' w' hown hgr _)
  have ho2 : OwG KE 44 w' w.heap.size v' L := by
   unfold OwG
   rw [Nat.zero_add, List.nil_append] at hown
   exact hown
  have HO2 := hid ho2
  have HS2 : Hid (Still w w') := hid (Fr.trans HS1.out (F := fun _ => False) (G := fun k => k = w.heap.size) ⟨hgr.os, hgr.tape, hgr.output, hgr.size, fun k hk hn => hgr.block k hk (fun e => hn (by simpa [Value.ownBlock] using e))⟩ (fun k hk e => by omega))
  obtain ⟨ao2, cap2, e2, _⟩ := ho2.slice
  subst e2
  clear hown hgr ho2
  go_ret
  exact ⟨_, rfl, HO2.out, HS2.out⟩
theorem Qk.less {w : World} {B B' p : Nat} {v : Value} {L : List En} (h : Qk w B p v L) (hb : B' <= B) : Qk w B' p v L := ⟨h.bk, h.ow.less hb, by have := h.lo; omega⟩
end Go.Proofs.Ytdmgalaajgebkaa
