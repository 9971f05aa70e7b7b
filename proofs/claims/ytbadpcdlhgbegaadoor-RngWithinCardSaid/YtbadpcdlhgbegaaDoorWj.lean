/- RngWithin: the walk. -/
import Derived.Test.YtbadpcdlhgbegaaDoorWi
namespace Go.Proofs.YtbadpcdlhgbegaaDoor
open Go.RowKit

set_option maxHeartbeats 8000000 in
set_option maxRecDepth 100000 in
theorem within_law {w : World} (s f u a c : Int) (hx : AskIn f u a c) (s' f' u' a' c' : Int) (hy : AskIn f' u' a' c') (ao : Option Addr) (n cap : Nat) (bs : List Int) (hr : RdI w ao n cap bs) (_ : n + 2 ≤ 17592186044416) (ht : Tab w) :
    Calls Tryd.prog 6 #[.agg #[.int .u64 s, .int .i64 f, .int .i64 u, .int .i64 a, .int .i64 c], .agg #[.int .u64 s', .int .i64 f', .int .i64 u', .int .i64 a', .int .i64 c'], .slice ao n cap] w fun e w' => e = .returned (.bool true) ∧ Still w w' := by
  have n0 := (at_in s f u).1
  have HB := hid fun w ht => below_any s f u a hx.2.2.1.2 w ht
  have HT := hid fun w ht => between_any s f u a c hx.2.2.1.1 hx.2.2.2.2 w ht
  have HW := hid fun w r ht => weighted_any s f u ao n cap bs w r ht
  have HO := hid fun w ht => order_either s' f' u' a' w ht
  have HY := hid fun w ht => below_any s' f' u' c' hy.2.2.2.2 w ht
  have HC0 := hid fun w ht => chance_any s f u 0 a hx.2.2.1.2 w ht
  have HC1 := hid fun w ht => chance_any s f u a a hx.2.2.1.2 w ht
  have hal := hx.2.2.1.1
  have hah := hx.2.2.1.2
  have F1 := hid (bel_lies (atI s f u) a n0)
  have F2 := hid (bet_lies (atI s f u) a c n0)
  have F3 := hid (wgt_lies (atI s f u) bs n0)
  have F4 := hid (cha_lies (atI s f u) a n0)
  clear hx hy n0
  obtain ⟨N, eN⟩ : ∃ N, atI s f u = N := ⟨_, rfl⟩
  rw [eN] at HB HT HW HC0 HC1 F1 F2 F3 F4
  clear eN
  obtain ⟨vb, e1⟩ : ∃ v, bel N a = v := ⟨_, rfl⟩
  obtain ⟨eb, e2⟩ : ∃ v, belE a = v := ⟨_, rfl⟩
  rw [e1, e2] at HB F1
  obtain ⟨vt, e3⟩ : ∃ v, bet N a c = v := ⟨_, rfl⟩
  obtain ⟨et, e4⟩ : ∃ v, betE a c = v := ⟨_, rfl⟩
  rw [e3, e4] at HT F2
  obtain ⟨vw, e5⟩ : ∃ v, wgt N bs = v := ⟨_, rfl⟩
  obtain ⟨ew, e6⟩ : ∃ v, wgtE bs = v := ⟨_, rfl⟩
  rw [e5, e6] at HW F3
  obtain ⟨p0, e7⟩ : ∃ v, cha N 0 a = v := ⟨_, rfl⟩
  obtain ⟨p1, e8⟩ : ∃ v, chaE 0 a = v := ⟨_, rfl⟩
  obtain ⟨p2, e9⟩ : ∃ v, cha N a a = v := ⟨_, rfl⟩
  obtain ⟨p3, e10⟩ : ∃ v, chaE a a = v := ⟨_, rfl⟩
  rw [e7, e8, e9, e10] at F4
  rw [e7, e8] at HC0
  rw [e9, e10] at HC1
  clear e1 e2 e3 e4 e5 e6 e7 e8 e9 e10
  obtain ⟨y1, e11⟩ : ∃ v, bel (atI s' f' u') c' = v := ⟨_, rfl⟩
  obtain ⟨y2, e12⟩ : ∃ v, belE c' = v := ⟨_, rfl⟩
  rw [e11, e12] at HY
  clear e11 e12
  have hS : St w (put (put w s f u a c) s' f' u' a' c') w.heap.size s f u a c s' f' u' a' c' ao n cap bs :=
    ⟨(put_qu w s f u a c).still (Still.alloc _ _), by simpa using put_qu (put w s f u a c) s' f' u' a' c', (ht.still (Still.alloc _ _)).still (Still.alloc _ _), (Still.alloc _ _).trans (Still.alloc _ _), (hr.alloc _).alloc _⟩
  have HL := hid hr.len
  clear hr ht
  go_enter Tryd.func6, Tryd.ntmps6
  go_wp2_with fail
  refine (awake_any _ hS.t).mono ?_
  rintro e w1 ⟨rfl, h1⟩
  have S1 := hS.on h1
  obtain ⟨b, eb0⟩ : ∃ b, b = w.heap.size := ⟨_, rfl⟩
  rw [← eb0] at S1 ⊢
  clear hS h1 eb0
  have K := hid S1
  clear S1
  obtain ⟨d0, d1, d2, d3, d4⟩ := K.out.x.cells
  go_wp2_with fail
  refine (HB.out w1 K.out.t).mono ?_
  rintro e w2 ⟨rfl, h⟩
  have K2 := hid (K.out.on h)
  clear K h d0 d1 d2 d3 d4
  have K := K2
  clear K2
  obtain ⟨d0, d1, d2, d3, d4⟩ := K.out.x.cells
  go_wp2_with fail
  refine (HT.out w2 K.out.t).mono ?_
  rintro e w3 ⟨rfl, h⟩
  have K2 := hid (K.out.on h)
  clear K h d0 d1 d2 d3 d4
  have K := K2
  clear K2
  obtain ⟨d0, d1, d2, d3, d4⟩ := K.out.x.cells
  go_wp2_with fail
  refine (HW.out w3 K.out.r K.out.t).mono ?_
  rintro e w4 ⟨rfl, h⟩
  have K2 := hid (K.out.on h)
  clear K h d0 d1 d2 d3 d4
  have K := K2
  clear K2
  obtain ⟨d0, d1, d2, d3, d4⟩ := K.out.y.cells
  go_wp2_with fail
  refine (HO.out w4 K.out.t).mono ?_
  rintro e w5 ⟨z1, z2, rfl, h⟩
  have K2 := hid (K.out.on h)
  clear K h d0 d1 d2 d3 d4
  have K := K2
  clear K2
  obtain ⟨d0, d1, d2, d3, d4⟩ := K.out.y.cells
  go_wp2_with fail
  refine (HY.out w5 K.out.t).mono ?_
  rintro e w6 ⟨rfl, h⟩
  have K2 := hid (K.out.on h)
  clear K h d0 d1 d2 d3 d4
  have K := K2
  clear K2
  obtain ⟨d0, d1, d2, d3, d4⟩ := K.out.x.cells
  go_wp2_with fail
  refine (HB.out w6 K.out.t).mono ?_
  rintro e w7 ⟨rfl, h⟩
  have K2 := hid (K.out.on h)
  clear K h d0 d1 d2 d3 d4
  have K := K2
  clear K2
  obtain ⟨d0, d1, d2, d3, d4⟩ := K.out.x.cells
  go_wp2_with fail
  refine (HT.out w7 K.out.t).mono ?_
  rintro e w8 ⟨rfl, h⟩
  have K2 := hid (K.out.on h)
  clear K h d0 d1 d2 d3 d4
  have K := K2
  clear K2
  obtain ⟨d0, d1, d2, d3, d4⟩ := K.out.x.cells
  go_wp2_with fail
  refine (HW.out w8 K.out.r K.out.t).mono ?_
  rintro e w9 ⟨rfl, h⟩
  have K2 := hid (K.out.on h)
  clear K h d0 d1 d2 d3 d4
  have K := K2
  clear K2
  obtain ⟨d0, d1, d2, d3, d4⟩ := K.out.x.cells
  go_wp2_with fail
  refine (HC0.out w9 K.out.t).mono ?_
  rintro e w10 ⟨rfl, h⟩
  have K2 := hid (K.out.on h)
  clear K h d0 d1 d2 d3 d4
  have K := K2
  clear K2
  obtain ⟨d0, d1, d2, d3, d4⟩ := K.out.x.cells
  go_wp2_with fail
  refine (HC1.out w10 K.out.t).mono ?_
  rintro e w11 ⟨rfl, h⟩
  have K2 := hid (K.out.on h)
  clear K h d0 d1 d2 d3 d4
  have K := K2
  clear K2
  clear HB HT HW HO HY HC0 HC1
  obtain ⟨d0, d1, d2, d3, d4⟩ := K.out.x.cells
  clear d0 d1 d2
  rcases F1.out with ⟨ha, rfl, hv0, hv1⟩ | ⟨ha, rfl⟩
  · obtain ⟨rfl, rfl, rfl, rfl⟩ := F4.out ha
    clear F1 F4
    rcases F2.out with ⟨hac, rfl, hu0, hu1⟩ | ⟨hac, rfl⟩
    · clear F2
      rcases F3.out with ⟨rfl, k, hk, rfl, hpos⟩ | hew
      · have hkn : k < n := by have := HL.out; omega
        obtain ⟨wb, wo, rfl⟩ := K.out.r.addr (by omega)
        have cw := K.out.r.byte hk
        obtain ⟨xw, exw⟩ : ∃ x, bs[k] = x := ⟨_, rfl⟩
        rw [exw] at cw hpos
        clear exw F3 hk
        go_wp2_with fail
        go_ret
        exact ⟨rfl, K.out.st⟩
      · clear F3
        go_wp2_with fail
        go_ret
        exact ⟨rfl, K.out.st⟩
    · clear F2
      have hdc : decide (a ≤ c) = false := by simp; omega
      rcases F3.out with ⟨rfl, k, hk, rfl, hpos⟩ | hew
      · have hkn : k < n := by have := HL.out; omega
        obtain ⟨wb, wo, rfl⟩ := K.out.r.addr (by omega)
        have cw := K.out.r.byte hk
        obtain ⟨xw, exw⟩ : ∃ x, bs[k] = x := ⟨_, rfl⟩
        rw [exw] at cw hpos
        clear exw F3 hk
        go_wp2_with fail
        go_ret
        exact ⟨rfl, K.out.st⟩
      · clear F3
        go_wp2_with fail
        go_ret
        exact ⟨rfl, K.out.st⟩
  · clear F1 F4
    have hda : decide (1 ≤ a) = false := by simp; omega
    rcases F2.out with ⟨hac, rfl, hu0, hu1⟩ | ⟨hac, rfl⟩
    · clear F2
      rcases F3.out with ⟨rfl, k, hk, rfl, hpos⟩ | hew
      · have hkn : k < n := by have := HL.out; omega
        obtain ⟨wb, wo, rfl⟩ := K.out.r.addr (by omega)
        have cw := K.out.r.byte hk
        obtain ⟨xw, exw⟩ : ∃ x, bs[k] = x := ⟨_, rfl⟩
        rw [exw] at cw hpos
        clear exw F3 hk
        go_wp2_with fail
        go_ret
        exact ⟨rfl, K.out.st⟩
      · clear F3
        go_wp2_with fail
        go_ret
        exact ⟨rfl, K.out.st⟩
    · clear F2
      have hdc : decide (a ≤ c) = false := by simp; omega
      rcases F3.out with ⟨rfl, k, hk, rfl, hpos⟩ | hew
      · have hkn : k < n := by have := HL.out; omega
        obtain ⟨wb, wo, rfl⟩ := K.out.r.addr (by omega)
        have cw := K.out.r.byte hk
        obtain ⟨xw, exw⟩ : ∃ x, bs[k] = x := ⟨_, rfl⟩
        rw [exw] at cw hpos
        clear exw F3 hk
        go_wp2_with fail
        go_ret
        exact ⟨rfl, K.out.st⟩
      · clear F3
        go_wp2_with fail
        go_ret
        exact ⟨rfl, K.out.st⟩
end Go.Proofs.YtbadpcdlhgbegaaDoor
