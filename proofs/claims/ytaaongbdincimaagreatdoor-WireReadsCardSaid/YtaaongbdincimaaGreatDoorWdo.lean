/- The document's Open and Encode. -/
import Derived.Test.YtaaongbdincimaaGreatDoorWdd
import Derived.Test.YtaaongbdincimaaGreatDoorWla
namespace Go.Proofs.YtaaongbdincimaaGreatDoor
open Go.RowKit
open Wp Vp
set_option maxRecDepth 100000
set_option linter.unusedVariables false
set_option linter.unusedSimpArgs false

/-- a row of bytes in new memory (behind B) -/
structure Nw (w0 w : World) (ao : Option Addr) (n cap : Nat) (bs : List UInt8) : Prop where
  o : Ow 5 w ao n cap bs
  s : Still w0 w
  a : ∀ a, ao = some a → w0.heap.size ≤ a.block
theorem Nw.still {w0 w w' : World} {ao : Option Addr} {n cap : Nat} {bs : List UInt8} (h : Nw w0 w ao n cap bs) (hs : Still w w') : Nw w0 w' ao n cap bs := ⟨h.o.still16 hs, h.s.trans hs, h.a⟩
theorem Nw.app {w0 w w' : World} {ao ao' : Option Addr} {n cap m c : Nat} {bs xs : List UInt8} (h : Nw w0 w ao n cap bs) (ho : Ow 5 w' ao' m c xs) (hf : Fr (fun k => ∃ a, ao = some a ∧ a.block = k) w w') (hn : ∀ a, ao' = some a → ao = some a ∨ w.heap.size ≤ a.block) : Nw w0 w' ao' m c xs := by
  refine ⟨ho, Fr.trans h.s hf (fun k hk e => ?_), fun a ha => ?_⟩
  · obtain ⟨a, ha, e⟩ := e
    have := h.a a ha
    omega
  · rcases hn a ha with e | e
    · exact h.a a e
    · exact Nat.le_trans h.s.size e
set_option maxHeartbeats 2000000 in
theorem rnumber16_any (w0 : World) (ao : Option Addr) (n cap : Nat) (bs : List UInt8) (m : Nat) (hm : m ≤ 1099511627776) (hn : n ≤ 1000000) (w : World) (h : Nw w0 w ao n cap bs) :
    Calls Tryz.prog 41 #[.slice ao n cap, .int .i64 (m : Int)] w fun e w' => ∃ ao' n' cap', e = .returned (.slice ao' n' cap') ∧ Nw w0 w' ao' n' cap' (bs ++ Cp.form m) ∧ Fr (fun k => ∃ a, ao = some a ∧ a.block = k) w w' := by
  obtain ⟨i0, hi0, hz0, hs10, hb10⟩ := info_parts info_u8
  have hcv : IntKind.u64.wrap (m : Int) = (m : Int) := by rw [IntKind.wrap_u64]; omega
  have HC := hid (rform_any m (by omega) w)
  have hl := Cp.form_ten (n := m) (by omega)
  have HN := hid h
  clear h
  go_enter Tryz.func41, Tryz.ntmps41
  go_wp2_with fail
  refine HC.out.mono ?_
  rintro e w1 ⟨ao1, cap1, he, ho1, h1, ha1⟩
  rw [he]
  have HR := hid ho1.rd
  have HN1 := hid (HN.out.still h1)
  have HS1 := hid h1
  clear he ho1 h1 ha1 HC HN
  go_wp2_with (at_builtin; refine wpList_app _ rfl _ _ 31 rfl 5 i0 Tryz.underlying31 hi0 hz0 hs10 hb10 ao ao1 n cap _ cap1 bs (Cp.form m) rfl rfl HN1.out.o HR.out (by omega) ?_; intro ao2 cap2 w2 ho2 hf2 hn2 _)
  go_ret
  exact ⟨ao2, _, cap2, rfl, HN1.out.app ho2 hf2 hn2, (Still.to HS1.out).trans hf2 (fun _ _ h => h)⟩
set_option maxHeartbeats 2000000 in
theorem rsigned16_any (w0 : World) (ao : Option Addr) (n cap : Nat) (bs : List UInt8) (m : Int) (hm : -9223372036854775808 ≤ m ∧ m ≤ 9223372036854775807) (hn : n ≤ 1000000) (w : World) (h : Nw w0 w ao n cap bs) :
    Calls Tryz.prog 42 #[.slice ao n cap, .int .i64 m] w fun e w' => ∃ ao' n' cap', e = .returned (.slice ao' n' cap') ∧ Nw w0 w' ao' n' cap' (bs ++ sgB m) ∧ Fr (fun k => ∃ a, ao = some a ∧ a.block = k) w w' := by
  obtain ⟨i0, hi0, hz0, hs10, hb10⟩ := info_parts info_u8
  have HT := hid (turned_any m hm.1 hm.2 w)
  have hfl := Cp.fold_lt hm.1 hm.2
  have HC := hid (fun u => rform_any (Cp.fold m) hfl u)
  have hl := Cp.form_ten hfl
  have HN := hid h
  have HSg : Hid (sgB m = Cp.form (Cp.fold m)) := hid rfl
  obtain ⟨k, ek⟩ : ∃ k, Cp.fold m = k := ⟨_, rfl⟩
  rw [ek] at HT HC hl HSg
  clear h hfl ek
  go_enter Tryz.func42, Tryz.ntmps42
  go_wp2_with fail
  refine HT.out.mono ?_
  rintro e w9 ⟨he, e9⟩
  rw [he, e9]
  clear he e9 HT
  go_wp2_with fail
  refine (HC.out _).mono ?_
  rintro e w1 ⟨ao1, cap1, he, ho1, h1, ha1⟩
  rw [he]
  have HR := hid ho1.rd
  have HN1 := hid (HN.out.still h1)
  have HS1 := hid h1
  clear he ho1 h1 ha1 HC HN
  go_wp2_with (at_builtin; refine wpList_app _ rfl _ _ 31 rfl 5 i0 Tryz.underlying31 hi0 hz0 hs10 hb10 ao ao1 n cap _ cap1 bs (Cp.form k) rfl rfl HN1.out.o HR.out (by omega) ?_; intro ao2 cap2 w2 ho2 hf2 hn2 _)
  go_ret
  rw [HSg.out]
  exact ⟨ao2, _, cap2, rfl, HN1.out.app ho2 hf2 hn2, (Still.to HS1.out).trans hf2 (fun _ _ h => h)⟩
theorem roperand_any (v a b c : Int) (i : Nat) (w : World) : Calls Tryz.prog 44 #[od v a b c, .int .i64 (i : Int)] w fun e w' => e = .returned (.int .i64 (if i = 0 then a else if i = 1 then b else c)) ∧ Still w w' := by
  have HA := hid (Still.alloc w (.cells #[.int .i64 v, .int .i64 a, .int .i64 b, .int .i64 c] 40))
  obtain ⟨m0, m1, m2, m3, _⟩ := (newO_orb w v a b c).cells
  by_cases h0 : i = 0
  · subst h0
    go_enter Tryz.func44, Tryz.ntmps44
    go_wp2_with fail
    go_ret
    exact ⟨rfl, HA.out⟩
  · by_cases h1 : i = 1
    · subst h1
      go_enter Tryz.func44, Tryz.ntmps44
      go_wp2_with fail
      go_ret
      exact ⟨rfl, HA.out⟩
    · rw [if_neg h0, if_neg h1]
      have g0 : ((i : Int) == 0) = false := by simp; omega
      have g1 : ((i : Int) == 1) = false := by simp; omega
      clear h0 h1
      go_enter Tryz.func44, Tryz.ntmps44
      go_wp2_with fail
      go_ret
      exact ⟨rfl, HA.out⟩
end Go.Proofs.YtaaongbdincimaaGreatDoor
