/- The document's Push; the law's alike. -/
import Derived.Test.YtgpmjlibanoapaaQve
import Derived.Test.YtgpmjlibanoapaaQuv
namespace Go.Proofs.Ytgpmjlibanoapaa
open Go.RowKit
set_option maxRecDepth 100000

/-- Calls in a class of worlds, where the answer is one of two: the answer told first -/
theorem hasK_cases (x : En) (S : List En) : hasK x S = true ∨ hasK x S = false := by cases hasK x S <;> simp
set_option maxHeartbeats 2000000 in
theorem rPush_old (x : En) (S : List En) (yb cap : Nat) (ao : Option Addr) (hl : S.length ≤ 4096) (hS : Srt S) (hk : hasK x S = true) (w : World) (hy : Yk w yb ao cap S) : Calls Try.prog 22 #[.pointer (some ⟨yb, 0, none⟩), ev x] w fun e w' => e = .returned (.int .i64 151) ∧ Still w w' := by
  have A0 := Still.alloc w (.cells (ecs x) 38)
  obtain ⟨W, eW⟩ : ∃ W, newE w x = W := ⟨_, rfl⟩
  obtain ⟨bx, ebx⟩ : ∃ g, w.heap.size = g := ⟨_, rfl⟩
  have HS0 : Hid (Still w W) := hid (by rw [← eW]; exact A0)
  have hxW : Eb W bx x := by rw [← eW, ← ebx]; exact newE_eb w x
  have hyW : Yk W yb ao cap S := by rw [← eW]; exact hy.still A0
  have HC : Hid (∀ z : Aft W, Calls Try.prog 30 #[.slice ao S.length cap, ev x] z.u fun e w' => e = .returned (.tuple #[.slice ao S.length cap, .bool false]) ∧ Still z.u w') := hid (fun z => (rPut_any x S cap ao hl hS z.u (hyW.sr.still z.s)).mono (fun e w' h => by
    rcases h with ⟨_, he, hs⟩ | ⟨h1, _⟩
    · exact ⟨he, hs⟩
    · rw [hk] at h1; cases h1))
  have q0 := Cl.cell hyW.cell.1
  obtain ⟨c0, c1, c2, c3, c4, c5, c6, c7, _⟩ := hxW.cells
  have s0 := Cl.cell c0
  have s1 := Cl.cell c1
  have s2 := Cl.cell c2
  have s3 := Cl.cell c3
  have s4 := Cl.cell c4
  have s5 := Cl.cell c5
  have s6 := Cl.cell c6
  have s7 := Cl.cell c7
  have hne := Aft.here W
  clear A0 hxW hyW hy hS hk c0 c1 c2 c3 c4 c5 c6 c7
  go_enter Try.func22, Try.ntmps22
  go_upto_region 1 with fail
  clear eW ebx
  refine region_all (by kernel_rfl) (by kernel_rfl) ?_
  repeat (go_big_quiet_step ((first | (go_at_call 30; with_reducible exact Calls.cl (HC.out _)) | rfl)))
  refine wpQuiet_nil ?_
  intro w1 h1
  have HS1 := hid (HS0.out.trans h1)
  clear h1 hne q0 s0 s1 s2 s3 s4 s5 s6 s7 HC HS0
  go_wp2_with fail
  (try simp only [Exit.inBlock, Exit.then])
  go_ret
  exact ⟨rfl, HS1.out⟩
set_option maxHeartbeats 4000000 in
/-- the law's alike: of two lists that are the same -/
theorem alike_t (L : List En) (B : Nat) (v : Value) (bo : Option Addr) (cb : Nat) (hl : L.length ≤ 4096) (w : World) (hB : B ≤ w.heap.size) (ho : OwG KE 38 w B v L) (hb : RdG KE w bo L.length L) : Calls Try.prog 25 #[v, .slice bo L.length cb] w fun e w' => e = .returned (.bool true) ∧ Fr (fun k => v.ownBlock = some k) w w' := by
  obtain ⟨ao, ca, rfl, _⟩ := ho.slice
  have HSa := hid (rsame_t L ao bo L.length ca cb w (ho.rdE rfl (by omega)) hb)
  have HE7 := hid (fun w => qent_any (-7) 7 7 w)
  have HE8 := hid (fun w => qent_any (-8) 8 8 w)
  have HO := hid ho
  obtain ⟨N, eN⟩ : ∃ N, L.length = N := ⟨_, rfl⟩
  have HN := hid eN
  rw [eN] at HSa hl HO ⊢
  clear ho hb
  obtain ⟨z7, e7⟩ : ∃ z, ken (-7) 7 7 = z := ⟨_, rfl⟩
  obtain ⟨z8, e8⟩ : ∃ z, ken (-8) 8 8 = z := ⟨_, rfl⟩
  rw [e7] at HE7
  rw [e8] at HE8
  clear e7 e8
  go_enter Try.func25, Try.ntmps25
  go_wp2_with fail
  refine HSa.out.mono ?_
  rintro e w1 ⟨he, h1⟩
  rw [he]
  have HO1 : Hid (OwG KE 38 w1 B (.slice ao N ca) L ∧ Fr (fun k => (Value.slice ao N ca).ownBlock = some k) w w1) := hid ⟨HO.out.still h1, Still.to h1⟩
  clear he h1 HSa HO
  go_wp2_with fail
  go_loopw [6] (fun u wr => ∃ (k : Nat) (M : List En), k ≤ N ∧ u = .int .i64 (k : Int) ∧ M.length = N ∧ Hid (OwG KE 38 wr B (.slice ao N ca) M ∧ Fr (fun k => (Value.slice ao N ca).ownBlock = some k) w wr)) (fun u _ => N - (intOf u).toNat)
  case atStart => exact ⟨0, L, by omega, rfl, HN.out, HO1⟩
  case round =>
    clear HO1
    obtain ⟨k, M, hk, rfl, hM, HM⟩ := hrel
    by_cases hkn : k < N
    · have hlt : (k : Int) < (N : Int) := by omega
      obtain ⟨g, c2, hg, _, _⟩ := HM.out.1.head (by omega)
      rw [hM] at hg
      cases hg
      go_wp2_with fail
      refine (HE7.out _).mono ?_
      rintro e w2 ⟨he, h2⟩
      rw [he]
      have ho2 := HM.out.1.still h2
      obtain ⟨c0, c1, c2, c3, c4, c5, c6, c7, cf⟩ := owE ho2 (i := k) (by omega)
      obtain ⟨y, ey⟩ : ∃ y, att M k = y := ⟨_, rfl⟩
      rw [ey] at c0 c1 c2 c3 c4 c5 c6 c7
      have HO3 := hid (ho2.put (i := k) (by omega) z7)
      have HF3 := hid (fr_setCells (F := fun k => (Value.slice (some ⟨g, 0, none⟩) N ca).ownBlock = some k) g (KE.f z7) (k * KE.k) w2 (Fr.trans HM.out.2 h2 (fun _ _ e => e.elim)) (.inl rfl))
      have HO4 : Hid (OwG KE 38 (((((((((w2.setCell ⟨g, k * 8, none⟩ (.int .i64 z7.fr)).setCell ⟨g, k * 8 + 1, none⟩ (.int .i64 z7.pe)).setCell ⟨g, k * 8 + 2, none⟩ (.int .i64 z7.se)).setCell ⟨g, k * 8 + 3, none⟩ (.int .i64 z7.vb)).setCell ⟨g, k * 8 + 4, none⟩ (.int .i64 z7.a)).setCell ⟨g, k * 8 + 5, none⟩ (.int .i64 z7.b)).setCell ⟨g, k * 8 + 6, none⟩ (.int .i64 z7.c)).setCell ⟨g, k * 8 + 7, none⟩ (.int .i64 z7.ms))) B (.slice (some ⟨g, 0, none⟩) N ca) (M.set k z7) ∧ Fr (fun k => (Value.slice (some ⟨g, 0, none⟩) N ca).ownBlock = some k) w (((((((((w2.setCell ⟨g, k * 8, none⟩ (.int .i64 z7.fr)).setCell ⟨g, k * 8 + 1, none⟩ (.int .i64 z7.pe)).setCell ⟨g, k * 8 + 2, none⟩ (.int .i64 z7.se)).setCell ⟨g, k * 8 + 3, none⟩ (.int .i64 z7.vb)).setCell ⟨g, k * 8 + 4, none⟩ (.int .i64 z7.a)).setCell ⟨g, k * 8 + 5, none⟩ (.int .i64 z7.b)).setCell ⟨g, k * 8 + 6, none⟩ (.int .i64 z7.c)).setCell ⟨g, k * 8 + 7, none⟩ (.int .i64 z7.ms)))) := hid ⟨HO3.out, HF3.out⟩
      clear he h2 ho2 ey HO3 HF3 HM
      go_wp2_with fail
      go_roundw
      case rel => exact ⟨k + 1, M.set k z7, by omega, by go_num, by simpa using hM, HO4⟩
      case measure => simp [intOf]; omega
    · have hge : ¬ (k : Int) < (N : Int) := by omega
      go_wp2_with fail
      refine (HE8.out _).mono ?_
      rintro e w2 ⟨he, h2⟩
      rw [he]
      have A3 := Still.alloc w2 (.cells (ecs z8) 38)
      have HO3 : Hid (OwG KE 38 (newE w2 z8) B (.slice ao N ca) M) := hid ((HM.out.1.still h2).still A3)
      have HX3 : Hid ((newE w2 z8).heap[w2.heap.size]? = some (.cells (KE.f z8).toArray 38 (0, 0))) := hid (newE_eb w2 z8)
      have HF3 : Hid (Fr (fun k => (Value.slice ao N ca).ownBlock = some k) w (newE w2 z8)) := hid (Fr.trans (Fr.trans HM.out.2 h2 (fun _ _ e => e.elim)) A3 (fun _ _ e => e.elim))
      have hB3 : B ≤ (newE w2 z8).heap.size := by have := HF3.out.size; omega
      have hL3 : M.length ≤ 100000 := by omega
      clear he h2 A3 HM
      go_wp2_with (
        at_builtin
        refine wpList_appG KE _ rfl _ _ _ rfl rfl 64 infoE (by omega) B w2.heap.size (.slice ao N ca) M z8 rfl rfl HO3.out HX3.out hL3 hB3 ?_
        intro v4 w4 ho4 hf4
        have HF4 : Hid (Fr (fun k => (Value.slice ao N ca).ownBlock = some k) w w4) := hid (Fr.trans HF3.out hf4 (fun _ _ e => e))
        obtain ⟨ao4, cap4, e4, _⟩ := ho4.slice
        subst e4
        rw [show (M ++ [z8]).length = N + 1 by simp; exact hM]
        clear ho4 hf4)
      go_ret
      exact ⟨by simp, HF4.out⟩
end Go.Proofs.Ytgpmjlibanoapaa
