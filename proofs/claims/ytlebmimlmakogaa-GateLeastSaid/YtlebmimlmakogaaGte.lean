/- Stage 21, the program's Least, Plan. -/
import Derived.Test.YtlebmimlmakogaaGtd
namespace Go.Proofs.Ytlebmimlmakogaa
open Go.RowKit
set_option maxRecDepth 100000

theorem lea_at {s : Nat} {L : List Int} {m : Nat} (h : (oth s L).length = m + 1) : lea s L = fm ((oth s L).getD 0 0) ((oth s L).drop 1) := by
  unfold lea
  generalize oth s L = O at h
  match O, h with
  | a :: M, _ => rfl
theorem OwG.capJ {w : World} {B g n c : Nat} {L : List Int} (ho : OwG KJ i64T w B (.slice (some ⟨g, 0, none⟩) n c) L) : n ≤ c := by
  rcases ho.2 with ⟨hv, _⟩ | ⟨g', cap, cur, hv, hb, hg, hnc, hm, _⟩
  · cases hv
  · cases hv
    exact hnc
set_option maxHeartbeats 2000000 in
theorem gleast_any {w : World} {B p s g n : Nat} {L : List Int} (h : Gt gT w B p s g n L) : Calls Try.prog 11 #[.pointer (some ⟨p, 0, none⟩)] w fun e w' => e = .returned (.int .i64 (lea s L)) ∧ Still w w' := by
  have HG := hid h
  obtain ⟨c0, _⟩ := h.cells
  have HLn := hid h.len
  have HSl := hid h.sl
  have HL2 := hid h.l2
  have HL6 := hid h.l6
  have hpw := h.plt
  have hs9 : (s : Int) ≤ 6 := by have := h.sl; have := h.l6; omega
  have hw1 : IntKind.i64.wrap ((s : Int) + 1) = ((s + 1 : Nat) : Int) := by rw [IntKind.wrap_i64] <;> omega
  have HSd := hid (show Still w w.drew from (Fr.refl _ w).drew)
  clear h
  go_enter Try.func11, Try.ntmps11
  go_wp2_with fail
  go_region_held3 (fun w' => w'.cell? ⟨p, 0, none⟩ = some (.int .i64 (s : Int))) (go_keep)
    (first
      | (go_at_call 10
         refine (gmarks_any (HG.out.still HSd.out)).mono ?_
         rintro e x1 ⟨g1, k1, rfl, ho1, hs1⟩
         have HS1 := hid (Still.trans HSd.out hs1)
         have HO1 := hid ho1
         have d0 : x1.cell? ⟨p, 0, none⟩ = some (.int .i64 (s : Int)) := (HG.out.still HS1.out).cells.1
         clear ho1 hs1)
      | (go_at_call 21
         refine (gdel_any HO1.out HLn.out HSl.out HL6.out).mono ?_
         rintro e x2 ⟨rfl, hr2, hf2⟩
         have HS2 : Hid (Still w x2) := hid (Fr.trans HS1.out hf2 (fun k hk e => by have := (HO1.out.block (k := g1) rfl).1; have hz : w.drew.heap.size = w.heap.size := rfl; omega))
         have d0 : x2.cell? ⟨p, 0, none⟩ = some (.int .i64 (s : Int)) := (HG.out.still HS2.out).cells.1
         have HR2 := hid hr2
         clear hr2 hf2))
  obtain ⟨m, em⟩ : ∃ m, n - 1 = m := ⟨_, rfl⟩
  have hm1 : 1 ≤ m := by have := HL2.out; omega
  have hm6 : m ≤ 6 := by have := HL6.out; omega
  have hk1 : 1 < k1 := by have := HO1.out.capJ; have := HL2.out; omega
  rw [em] at HR2 ⊢
  have HE : Hid (fm ((oth s L).getD 0 0) ((oth s L).drop 1) = lea s L) := hid (lea_at (m := n - 2) (by rw [oth_len (by rw [HLn.out]; exact HSl.out), HLn.out]; have := HL2.out; omega)).symm
  have c1 := rdJ HR2.out (i := 0) (by omega)
  have hRd := HR2.out.dropJ (j := 1) (by omega)
  rw [Nat.zero_add] at hRd
  have HV := hid (fun (z : Aft x2) => gleastv_any ((oth s L).getD 0 0) (some ⟨g1, 1, none⟩) (m - 1) (k1 - 1) _ (by omega) z.u (hRd.still z.s))
  rw [HE.out] at HV
  have hsl := fun W => run_from1 W g1 m k1 hm1 hk1
  obtain ⟨x, ex⟩ : ∃ x, (oth s L).getD 0 0 = x := ⟨_, rfl⟩
  rw [ex] at c1 HV
  have hl0 : (0 : Int) < (m : Int) := by omega
  clear ex HE hRd hw1 HO1 HS1 HR2 em
  have k0 := Cl.cell c1
  have hne := Aft.here x2
  go_wp2_with fail
  refine region_all (by kernel_rfl) (by kernel_rfl) ?_
  repeat (go_big_quiet_step ((first | (go_at_call 22; with_reducible exact Calls.cl_same (HV.out _)) | rfl)))
  refine wpQuiet_nil ?_
  intro w3 h3
  have HS3 := hid (HS2.out.trans h3)
  clear h3 HS2 hne k0 HV
  go_wp2_with fail
  go_ret
  exact ⟨rfl, HS3.out⟩
theorem mayPlan_yes (a h l : Int) (hm : MayL a h l) (w : World) : Calls Try.prog 23 #[.int .i64 a, .int .i64 h, .int .i64 l] w fun e w' => e = .returned (.bool true) ∧ w' = w := by
  obtain ⟨h0, h1, h2, h3, h4, h5⟩ := hm
  have hw : IntKind.i64.wrap (a - h) = a - h := by rw [IntKind.wrap_i64] <;> omega
  have h4' : l ≥ 1 := h4
  go_enter Try.func23, Try.ntmps23
  go_wp2_with fail
  go_ret
  exact ⟨rfl, rfl⟩
theorem mayPlan_no (a h l : Int) (hm : ¬ MayL a h l) (w : World) : Calls Try.prog 23 #[.int .i64 a, .int .i64 h, .int .i64 l] w fun e w' => e = .returned (.bool false) ∧ w' = w := by
  unfold MayL at hm
  by_cases h0 : 0 ≤ h
  · by_cases h1 : h ≤ a
    · by_cases h2 : a ≤ 1099511627776
      · have hw : IntKind.i64.wrap (a - h) = a - h := by rw [IntKind.wrap_i64] <;> omega
        by_cases h3 : a - h ≤ 48
        · by_cases h4 : l ≥ 1
          · have h5 : ¬ l < 48 := by omega
            clear hm
            go_enter Try.func23, Try.ntmps23
            go_wp2_with fail
            go_ret
            exact ⟨rfl, rfl⟩
          · clear hm
            go_enter Try.func23, Try.ntmps23
            go_wp2_with fail
            go_ret
            exact ⟨rfl, rfl⟩
        · clear hm
          go_enter Try.func23, Try.ntmps23
          go_wp2_with fail
          go_ret
          exact ⟨rfl, rfl⟩
      · clear hm
        go_enter Try.func23, Try.ntmps23
        go_wp2_with fail
        go_ret
        exact ⟨rfl, rfl⟩
    · clear hm
      go_enter Try.func23, Try.ntmps23
      go_wp2_with fail
      go_ret
      exact ⟨rfl, rfl⟩
  · clear hm
    go_enter Try.func23, Try.ntmps23
    go_wp2_with fail
    go_ret
    exact ⟨rfl, rfl⟩
end Go.Proofs.Ytlebmimlmakogaa
