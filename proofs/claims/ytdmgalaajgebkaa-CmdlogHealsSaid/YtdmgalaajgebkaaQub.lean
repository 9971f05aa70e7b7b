/- Entries in memory; how two keys stand. -/
import Derived.Test.YtdmgalaajgebkaaQua
import Derived.Test.YtdmgalaajgebkaaGa
import Derived.Test.YtdmgalaajgebkaaK5b
import Derived.Deep.DeepCutAuto
import Derived.Deep.RegionHeld3
import Derived.BigRegion
namespace Go.Proofs.Ytdmgalaajgebkaa
open Go.RowKit
set_option maxRecDepth 100000

abbrev ecs (x : En) : Array Value := #[.int .i64 x.fr, .int .i64 x.pe, .int .i64 x.se, .int .i64 x.vb, .int .i64 x.a, .int .i64 x.b, .int .i64 x.c, .int .i64 x.ms]
abbrev ev (x : En) : Value := .agg (ecs x)
/-- block g holds an entry -/
def Eb (w : World) (g : Nat) (x : En) : Prop := w.heap[g]? = some (.cells (ecs x) 44 (0, 0))
theorem Eb.still {w w' : World} {g : Nat} {x : En} (h : Eb w g x) (hs : Still w w') : Eb w' g x := hs.kept_still h
theorem Eb.lt {w : World} {g : Nat} {x : En} (h : Eb w g x) : g < w.heap.size := block_lt h
theorem Eb.cells {w : World} {g : Nat} {x : En} (h : Eb w g x) : w.cell? ⟨g, 0, none⟩ = some (.int .i64 x.fr) ∧ w.cell? ⟨g, 1, none⟩ = some (.int .i64 x.pe) ∧ w.cell? ⟨g, 2, none⟩ = some (.int .i64 x.se) ∧ w.cell? ⟨g, 3, none⟩ = some (.int .i64 x.vb) ∧ w.cell? ⟨g, 4, none⟩ = some (.int .i64 x.a) ∧ w.cell? ⟨g, 5, none⟩ = some (.int .i64 x.b) ∧ w.cell? ⟨g, 6, none⟩ = some (.int .i64 x.c) ∧ w.cell? ⟨g, 7, none⟩ = some (.int .i64 x.ms) ∧ ∀ o, w.frozen? ⟨g, o, none⟩ = false := by
  refine ⟨?_, ?_, ?_, ?_, ?_, ?_, ?_, ?_, fun o => frozen_of_row w g o _ _ h⟩ <;> (rw [cell_of_row _ _ _ _ _ _ h]; rfl)
abbrev newE (w : World) (x : En) : World := w.alloc (.cells (ecs x) 44)
theorem newE_eb (w : World) (x : En) : Eb (newE w x) w.heap.size x := heap_alloc_new w _
/-- rows of entries -/
def KE : Kd En := ⟨fun m => (ecs m).toList, 8, zE, fun _ => rfl, fun m u hu => by
  simp at hu
  rcases hu with rfl | rfl | rfl | rfl | rfl | rfl | rfl | rfl <;> rfl, by decide⟩
theorem infoE : ∃ i, Try.prog.info? 44 = some i ∧ i.zero = some (.agg (KE.f KE.d).toArray) ∧ i.size = KE.k ∧ i.bytes = 64 := ⟨_, rfl, rfl, rfl, rfl⟩
theorem rdE {w : World} {B o n : Nat} {L : List En} (h : RdG KE w (some ⟨B, o, none⟩) n L) {i : Nat} (hi : i < n) : w.cell? ⟨B, o + i * 8, none⟩ = some (.int .i64 (att L i).fr) ∧ w.cell? ⟨B, o + i * 8 + 1, none⟩ = some (.int .i64 (att L i).pe) ∧ w.cell? ⟨B, o + i * 8 + 2, none⟩ = some (.int .i64 (att L i).se) ∧ w.cell? ⟨B, o + i * 8 + 3, none⟩ = some (.int .i64 (att L i).vb) ∧ w.cell? ⟨B, o + i * 8 + 4, none⟩ = some (.int .i64 (att L i).a) ∧ w.cell? ⟨B, o + i * 8 + 5, none⟩ = some (.int .i64 (att L i).b) ∧ w.cell? ⟨B, o + i * 8 + 6, none⟩ = some (.int .i64 (att L i).c) ∧ w.cell? ⟨B, o + i * 8 + 7, none⟩ = some (.int .i64 (att L i).ms) :=
  ⟨h.get hi 0 _ rfl, h.get hi 1 _ rfl, h.get hi 2 _ rfl, h.get hi 3 _ rfl, h.get hi 4 _ rfl, h.get hi 5 _ rfl, h.get hi 6 _ rfl, h.get hi 7 _ rfl⟩
theorem owE {e : TypeId} {w : World} {B g n cap : Nat} {L : List En} (h : OwG KE e w B (.slice (some ⟨g, 0, none⟩) n cap) L) {i : Nat} (hi : i < L.length) : w.cell? ⟨g, i * 8, none⟩ = some (.int .i64 (att L i).fr) ∧ w.cell? ⟨g, i * 8 + 1, none⟩ = some (.int .i64 (att L i).pe) ∧ w.cell? ⟨g, i * 8 + 2, none⟩ = some (.int .i64 (att L i).se) ∧ w.cell? ⟨g, i * 8 + 3, none⟩ = some (.int .i64 (att L i).vb) ∧ w.cell? ⟨g, i * 8 + 4, none⟩ = some (.int .i64 (att L i).a) ∧ w.cell? ⟨g, i * 8 + 5, none⟩ = some (.int .i64 (att L i).b) ∧ w.cell? ⟨g, i * 8 + 6, none⟩ = some (.int .i64 (att L i).c) ∧ w.cell? ⟨g, i * 8 + 7, none⟩ = some (.int .i64 (att L i).ms) ∧ ∀ o, w.frozen? ⟨g, o, none⟩ = false :=
  ⟨h.get hi 0 _ rfl, h.get hi 1 _ rfl, h.get hi 2 _ rfl, h.get hi 3 _ rfl, h.get hi 4 _ rfl, h.get hi 5 _ rfl, h.get hi 6 _ rfl, h.get hi 7 _ rfl, h.frozen⟩
theorem cnan64_any (x : Int) (w : World) : Calls Try.prog 75 #[.int .i64 x] w fun e w' => e = .returned (.bool false) ∧ w' = w := by
  have h : (x != x) = false := by simp
  go_enter Try.func75, Try.ntmps75
  go_wp2_with fail
  go_ret
  exact ⟨by simp, rfl⟩
theorem cnan_any (x : Int) (w : World) : Calls Try.prog 76 #[.int .i64 x] w fun e w' => e = .returned (.bool false) ∧ w' = w := by
  have h : (x != x) = false := by simp
  go_enter Try.func76, Try.ntmps76
  go_wp2_with fail
  go_ret
  exact ⟨by simp, rfl⟩
theorem ccmp_any (x y : Int) (w : World) : Calls Try.prog 63 #[.int .i64 x, .int .i64 y] w fun e w' => e = .returned (.int .i64 (cI x y)) ∧ w' = w := by
  have H1 := hid (fun w => cnan_any x w)
  have H2 := hid (fun w => cnan_any y w)
  by_cases h1 : x < y
  · have HE : Hid (cI x y = -1) := hid (by unfold cI; rw [if_pos h1])
    go_enter Try.func63, Try.ntmps63
    go_wp2_with fail
    refine (H1.out _).mono ?_
    rintro e w1 ⟨rfl, rfl⟩
    go_wp2_with fail
    refine (H2.out _).mono ?_
    rintro e w1 ⟨rfl, rfl⟩
    go_wp2_with fail
    go_ret
    exact ⟨by rw [HE.out]; rfl, rfl⟩
  · by_cases h2 : x > y
    · have HE : Hid (cI x y = 1) := hid (by unfold cI; rw [if_neg h1, if_pos h2])
      go_enter Try.func63, Try.ntmps63
      go_wp2_with fail
      refine (H1.out _).mono ?_
      rintro e w1 ⟨rfl, rfl⟩
      go_wp2_with fail
      refine (H2.out _).mono ?_
      rintro e w1 ⟨rfl, rfl⟩
      go_wp2_with fail
      go_ret
      exact ⟨by rw [HE.out]; rfl, rfl⟩
    · have HE : Hid (cI x y = 0) := hid (by unfold cI; rw [if_neg h1, if_neg h2])
      go_enter Try.func63, Try.ntmps63
      go_wp2_with fail
      refine (H1.out _).mono ?_
      rintro e w1 ⟨rfl, rfl⟩
      go_wp2_with fail
      refine (H2.out _).mono ?_
      rintro e w1 ⟨rfl, rfl⟩
      go_wp2_with fail
      go_ret
      exact ⟨by rw [HE.out]; rfl, rfl⟩
theorem ccmp64_any (x y : Int) (w : World) : Calls Try.prog 62 #[.int .i64 x, .int .i64 y] w fun e w' => e = .returned (.int .i64 (cI x y)) ∧ w' = w := by
  have H1 := hid (fun w => cnan64_any x w)
  have H2 := hid (fun w => cnan64_any y w)
  by_cases h1 : x < y
  · have HE : Hid (cI x y = -1) := hid (by unfold cI; rw [if_pos h1])
    go_enter Try.func62, Try.ntmps62
    go_wp2_with fail
    refine (H1.out _).mono ?_
    rintro e w1 ⟨rfl, rfl⟩
    go_wp2_with fail
    refine (H2.out _).mono ?_
    rintro e w1 ⟨rfl, rfl⟩
    go_wp2_with fail
    go_ret
    exact ⟨by rw [HE.out]; rfl, rfl⟩
  · by_cases h2 : x > y
    · have HE : Hid (cI x y = 1) := hid (by unfold cI; rw [if_neg h1, if_pos h2])
      go_enter Try.func62, Try.ntmps62
      go_wp2_with fail
      refine (H1.out _).mono ?_
      rintro e w1 ⟨rfl, rfl⟩
      go_wp2_with fail
      refine (H2.out _).mono ?_
      rintro e w1 ⟨rfl, rfl⟩
      go_wp2_with fail
      go_ret
      exact ⟨by rw [HE.out]; rfl, rfl⟩
    · have HE : Hid (cI x y = 0) := hid (by unfold cI; rw [if_neg h1, if_neg h2])
      go_enter Try.func62, Try.ntmps62
      go_wp2_with fail
      refine (H1.out _).mono ?_
      rintro e w1 ⟨rfl, rfl⟩
      go_wp2_with fail
      refine (H2.out _).mono ?_
      rintro e w1 ⟨rfl, rfl⟩
      go_wp2_with fail
      go_ret
      exact ⟨by rw [HE.out]; rfl, rfl⟩
theorem cor_any (l : List Int) (B n cap : Nat) (w : World) (hl : l.length = n) (hn : n ≤ 100) (hr : ∀ k (h : k < l.length), w.cell? ⟨B, k, none⟩ = some (.int .i64 l[k])) : Calls Try.prog 61 #[.slice (some ⟨B, 0, none⟩) n cap] w fun e w' => e = .returned (.int .i64 (orI l)) ∧ w' = w := by
  have HR := hid hr
  clear hr
  go_enter Try.func61, Try.ntmps61
  go_wp2_with fail
  go_loopw [8] (fun u wr => ∃ k : Nat, k ≤ n ∧ u = .int .i64 (k : Int) ∧ Hid (orI l = orI (l.drop k)) ∧ wr = w) (fun u _ => n - (intOf u).toNat)
  case atStart => exact ⟨0, by omega, rfl, hid (by simp), rfl⟩
  case round =>
    obtain ⟨k, hk, rfl, HE, rfl⟩ := hrel
    by_cases hkn : k < n
    · have hlt : (k : Int) < (n : Int) := by omega
      have c0 := HR.out k (by omega)
      have HD : Hid (orI (l.drop k) = if l[k]'(by omega) ≠ 0 then l[k]'(by omega) else orI (l.drop (k + 1))) := hid (by rw [List.drop_eq_getElem_cons (by omega)]; rfl)
      obtain ⟨x, ex⟩ : ∃ x, l[k]'(by omega) = x := ⟨_, rfl⟩
      rw [ex] at c0 HD
      clear ex
      by_cases hx : x = 0
      · have HE2 : Hid (orI l = orI (l.drop (k + 1))) := hid (by rw [HE.out, HD.out, if_neg (by simpa using hx)])
        subst hx
        clear HE HD
        go_wp2_with fail
        go_roundw
        case rel => exact ⟨k + 1, by omega, by go_num, HE2, by trivial⟩
        case measure => simp [intOf]; omega
      · have HE2 : Hid (orI l = x) := hid (by rw [HE.out, HD.out, if_pos (by simpa using hx)])
        have hx' : (x != 0) = true := by simpa using hx
        clear HE HD hx
        go_wp2_with fail
        (first | rw [Exit.noGoto_ret] | skip)
        go_ret
        exact ⟨by rw [HE2.out]; rfl, rfl⟩
    · have hge : ¬ (k : Int) < (n : Int) := by omega
      have HE2 : Hid (orI l = 0) := hid (by rw [HE.out, List.drop_eq_nil_of_le (by omega)]; rfl)
      clear HE
      go_wp2_with fail
      go_ret
      exact ⟨by rw [HE2.out]; rfl, rfl⟩
theorem rd_three (w : World) (a b c : Int) : ∀ k (h : k < [a, b, c].length), (w.alloc (.cells #[.int .i64 a, .int .i64 b, .int .i64 c] 3)).cell? ⟨w.heap.size, k, none⟩ = some (.int .i64 [a, b, c][k]) := by
  intro k h
  have hb := heap_alloc_new w (.cells #[.int .i64 a, .int .i64 b, .int .i64 c] 3)
  rw [cell_of_row _ _ _ _ _ _ hb]
  simp at h
  have : k = 0 ∨ k = 1 ∨ k = 2 := by omega
  rcases this with rfl | rfl | rfl <;> rfl
set_option maxHeartbeats 2000000 in
theorem qcmp_any (x y : En) (w : World) : Calls Try.prog 55 #[ev x, ev y] w fun e w' => e = .returned (.int .i64 (kc x y)) ∧ Still w w' := by
  have A0 := Still.alloc w (.cells (ecs x) 44)
  have A1 := Still.alloc (newE w x) (.cells (ecs y) 44)
  have p0 := (newE_eb w x).still A1
  have q0 := newE_eb (newE w x) y
  simp only [size_alloc] at q0
  obtain ⟨W, eW⟩ : ∃ W, W = newE (newE w x) y := ⟨_, rfl⟩
  have HS0 : Hid (Still w W) := hid (by rw [eW]; exact A0.trans A1)
  have p0 : Eb W w.heap.size x := by rw [eW]; exact p0
  rw [← eW] at q0
  have HU : Hid (kc x y = orI [cI x.fr y.fr, cI x.pe y.pe, cI x.se y.se]) := hid rfl
  obtain ⟨c0, c1, c2, _, _, _, _, _, _⟩ := p0.cells
  obtain ⟨d0, d1, d2, _, _, _, _, _, _⟩ := q0.cells
  have H0 := hid (fun w => ccmp64_any x.fr y.fr w)
  have H1 := hid (fun w => ccmp_any x.pe y.pe w)
  have H2 := hid (fun w => ccmp_any x.se y.se w)
  obtain ⟨r0, e0⟩ : ∃ r, cI x.fr y.fr = r := ⟨_, rfl⟩
  obtain ⟨r1, e1⟩ : ∃ r, cI x.pe y.pe = r := ⟨_, rfl⟩
  obtain ⟨r2, e2⟩ : ∃ r, cI x.se y.se = r := ⟨_, rfl⟩
  rw [e0, e1, e2] at HU
  rw [e0] at H0
  rw [e1] at H1
  rw [e2] at H2
  obtain ⟨v, ev'⟩ : ∃ v, kc x y = v := ⟨_, rfl⟩
  rw [ev'] at HU ⊢
  clear e0 e1 e2 ev'
  have s0 := Cl.cell c0
  have s1 := Cl.cell c1
  have s2 := Cl.cell c2
  have t0 := Cl.cell d0
  have t1 := Cl.cell d1
  have t2 := Cl.cell d2
  have hne := Aft.here W
  have HW := hid eW
  clear A0 A1 p0 q0 eW c0 c1 c2 d0 d1 d2
  go_enter Try.func55, Try.ntmps55
  go_wp2_with fail
  have e := HW.out
  simp only [newE] at e
  rw [← e]
  clear e HW
  refine region_rest 21 (by kernel_rfl) (by kernel_rfl) ?_
  simp only [List.take_succ_cons, List.take_zero, List.drop_succ_cons, List.drop_zero]
  repeat (go_big_quiet_step ((first | (go_at_call 62; with_reducible exact Calls.cl_same (H0.out _)) | (go_at_call 63; with_reducible exact Calls.cl_same (H1.out _)) | (go_at_call 63; with_reducible exact Calls.cl_same (H2.out _)))))
  refine wpQuiet_nil ?_
  intro w1 h1
  have HS1 := hid ((HS0.out.trans h1).trans (Still.alloc w1 (.cells #[.int .i64 r0, .int .i64 r1, .int .i64 r2] 3)))
  have HO := hid (cor_any [r0, r1, r2] w1.heap.size 3 3 _ rfl (by omega) (rd_three w1 r0 r1 r2))
  rw [← HU.out] at HO
  clear HU h1 s0 s1 s2 t0 t1 t2 hne H0 H1 H2 HS0
  go_wp2_with fail
  refine HO.out.mono ?_
  rintro e w2 ⟨he, hw⟩
  rw [he, hw]
  clear he hw w2 HO
  go_wp2_with fail
  (try simp only [Exit.inBlock, Exit.then])
  go_ret
  exact ⟨rfl, HS1.out⟩
end Go.Proofs.Ytdmgalaajgebkaa
