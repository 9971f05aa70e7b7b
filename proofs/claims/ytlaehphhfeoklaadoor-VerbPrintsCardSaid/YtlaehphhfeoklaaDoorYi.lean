/- The library's tables; numbers written and read. -/
import Derived.Test.YtlaehphhfeoklaaDoorYc
import Derived.Test.YtlaehphhfeoklaaDoorShelf
import Derived.Lib.AppendIntMem
import Derived.Lib.AtoiErrMem
import Derived.Lib.LaidTab
import Derived.Lib.ItoaNum
namespace Go.Proofs.YtlaehphhfeoklaaDoor
open Go.RowKit
open Vp
set_option maxRecDepth 100000

theorem still_of_below {w w' : World} (h : Below w.heap.size w w') : Still w w' := ⟨h.os, h.tape, h.output, h.size, fun k hk _ => h.block k hk⟩
/-- the library's tables that are read -/
structure PTab (w : World) : Prop where
  pow : Lib.TabIs Tryd.prog w "internal/strconv.uint64pow10" .u64 Lib.pow10Tab
  es : ∃ te pe, w.cell? ⟨5, 0, none⟩ = some (.iface te pe)
  er : ∃ te pe, w.cell? ⟨6, 0, none⟩ = some (.iface te pe)
theorem PTab.still {w w' : World} (h : PTab w) (hs : Still w w') : PTab w' := by
  refine ⟨(Lib.tabBelow_of_tabIs h.pow) w' hs.below, ?_, ?_⟩
  · obtain ⟨te, pe, hc⟩ := h.es
    exact ⟨te, pe, (hs.cell (World.block_lt_of_cell? w _ hc) (fun e => e)).trans hc⟩
  · obtain ⟨te, pe, hc⟩ := h.er
    exact ⟨te, pe, (hs.cell (World.block_lt_of_cell? w _ hc) (fun e => e)).trans hc⟩
theorem dec_num {u : Nat} (h : u < 1000) : Lib.decDigits u = numN u := by
  unfold numN dg
  by_cases h1 : u < 10
  · rw [Lib.decDigits, dif_pos h1, if_pos h1, Nat.mod_eq_of_lt h1]
  · rw [Lib.decDigits, dif_neg h1, if_neg h1]
    by_cases h2 : u < 100
    · rw [Lib.decDigits, dif_pos (by omega), if_pos h2, Nat.mod_eq_of_lt (show u / 10 < 10 by omega)]
      rfl
    · rw [Lib.decDigits, dif_neg (by omega), if_neg h2, Lib.decDigits, dif_pos (by omega), show u / 10 / 10 = u / 100 by omega, Nat.mod_eq_of_lt (show u / 100 < 10 by omega)]
      rfl
theorem itoa_num {n : Int} (h0 : -8 ≤ n) (h1 : n ≤ 255) : (⟨(Lib.itoa n).toArray⟩ : ByteArray) = numB n := by
  unfold Lib.itoa numB
  by_cases h : n < 0
  · rw [if_pos h, if_pos h, dec_num (by omega), show n.natAbs = (-n).toNat by omega]
  · rw [if_neg h, if_neg h, dec_num (by omega)]
theorem itoa_any (n : Int) (h0 : -8 ≤ n) (h1 : n ≤ 255) (w : World) (ht : PTab w) : Calls Tryd.prog 26 #[.int .i64 n] w fun e w' => e = .returned (.string (numB n)) ∧ Still w w' := by
  refine (Tryd.strconv_Itoa n (by omega) (by omega) w ht.pow).mono ?_
  rintro e w' ⟨rfl, k, os, rfl⟩
  rw [itoa_num h0 h1]
  exact ⟨rfl, still_of_below (Lib.below_grow _ _ (Nat.le_refl _) _ _)⟩
/-- a text read as a number, if it is one -/
def rdN (s : List UInt8) : Option Int := match Lib.atoiAll s with | .ok v => some v | _ => none
theorem atoi_any (s : ByteArray) (hs : s.size ≤ 140737488355328) (w : World) (ht : PTab w) : Calls Tryd.prog 38 #[.string s] w fun e w' => ∃ n v, e = .returned (.tuple #[.int .i64 n, v]) ∧ (v = .nilIface ∧ rdN s.data.toList = some n ∨ (∃ T p, v = .iface T p) ∧ rdN s.data.toList = none) ∧ Still w w' := by
  unfold rdN
  rcases h : Lib.atoiAll s.data.toList with n | _ | _
  ·
    refine (Tryd.strconv_Atoi_ok s (by omega) n h w).mono ?_
    rintro e w' ⟨rfl, hw⟩
    refine ⟨n, _, rfl, .inl ⟨rfl, rfl⟩, ?_⟩
    rcases hw with rfl | ⟨t, rfl⟩
    · exact Fr.refl _ _
    · exact still_of_below (Lib.bytesWorld_below _ _ _)
  ·
    obtain ⟨te, pe, hc⟩ := ht.es
    refine (Tryd.strconv_Atoi_syntax s (by omega) h _ w hc (.inr ⟨te, pe, rfl⟩)).mono ?_
    rintro e w' ⟨N, rfl, _, _, hb⟩
    exact ⟨_, _, rfl, .inr ⟨⟨_, _, rfl⟩, rfl⟩, still_of_below hb⟩
  ·
    obtain ⟨te, pe, hc⟩ := ht.er
    refine (Tryd.strconv_Atoi_range s (by omega) h _ w hc (.inr ⟨te, pe, rfl⟩)).mono ?_
    rintro e w' ⟨N, rfl, _, _, hb⟩
    exact ⟨_, _, rfl, .inr ⟨⟨_, _, rfl⟩, rfl⟩, still_of_below hb⟩
end Go.Proofs.YtlaehphhfeoklaaDoor
