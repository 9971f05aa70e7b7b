/- The law on scores turned about. -/
import Derived.Test.YtgkojpgpnkeacaaEf
namespace Go.Proofs.Ytgkojpgpnkeacaa
open Go.RowKit
open Ea
set_option maxRecDepth 100000

theorem OwG.capC {α : Type} {K : Kd α} {e : TypeId} {w : World} {B : Nat} {ao : Option Addr} {n cap : Nat} {L : List α} (h : OwG K e w B (.slice ao n cap) L) : n ≤ cap := by
  rcases h.2 with ⟨hv, hn⟩ | ⟨g, cap', cur, hv, hb, hg, hn, rest⟩
  · cases hv; omega
  · cases hv; exact hn
theorem OwG.rdC {α : Type} {K : Kd α} {e : TypeId} {w : World} {B : Nat} {ao : Option Addr} {n cap : Nat} {L : List α} (h : OwG K e w B (.slice ao n cap) L) (hl : L.length = n) (hm : n ≤ 281474976710656) : RdG K w ao n L := by
  have := OwG.rd (M := []) (by rw [List.append_nil]; exact h) (by omega)
  rw [hl] at this
  exact this
theorem sc_rev {L : List Scr} {i : Nat} (h : i < L.length) : sc L.reverse i = sc L (L.length - 1 - i) := by
  rw [sc_at (by simpa using h), sc_at (by omega), List.getElem_reverse]
theorem drop_rev {L : List Scr} {i : Nat} (h : i < L.length) : (L.drop i).reverse = (L.drop (i + 1)).reverse ++ [sc L i] := by
  rw [List.drop_eq_getElem_cons h, List.reverse_cons, sc_at h]
theorem turned_at {L : List Scr} {i : Nat} (h : i < (rnkA L).length) : ∃ k1 k2 : Nat, k1 < L.length ∧ k2 < L.length ∧ (rnkA L)[i]? = some (k1 : Int) ∧ (rnkA L.reverse)[i]? = some (k2 : Int) ∧ evn (sc L k1) (sc L.reverse k2) := by
  cases he : rnkE L with
  | false =>
    have e : rnkA L = [] := by unfold rnkA; rw [he]; rfl
    rw [e] at h
    simp at h
  | true =>
    have e : rnkA L = rnk L := by unfold rnkA; rw [he]; rfl
    have e' : rnkA L.reverse = rnk L.reverse := by unfold rnkA; rw [all_rev, he]; rfl
    rw [e, rnk_len] at h
    obtain ⟨k1, h1, h2, h3⟩ := rnk_who h
    obtain ⟨k2, g1, g2, g3⟩ := rnk_who (L := L.reverse) (j := i) (by simpa using h)
    rw [List.length_reverse] at g1
    exact ⟨k1, k2, h1, g1, by rw [e]; exact h3, by rw [e']; exact g3, rnk_turned h1 g1 (by rw [h2, g2])⟩
theorem turned_len (L : List Scr) : (rnkA L.reverse).length = (rnkA L).length ∧ errR L.reverse = errR L := by
  unfold rnkA errR
  rw [all_rev]
  refine ⟨?_, rfl⟩
  split
  · rw [rnk_len, rnk_len, List.length_reverse]
  · rfl
set_option maxHeartbeats 8000000 in
theorem turned_law (so : Option Addr) (n c : Nat) (L : List Scr) (hL : ∀ i, i < L.length → InC (sc L i)) (hc : n ≤ c) (h47 : 32 * n ≤ 140737488355328) (w : World) (hr : RdG KC w so n L) (C : Cts12 w) : Calls Try.prog 6 #[.slice so n c] w fun e w' => e = .returned (.bool true) ∧ Still w w' := by
  have hn2 : n ≤ 4398046511104 := by omega
  have hlen := hr.1
  have HLn := hid hlen
  have HIL := hid hL
  have HR := hid hr
  have HC := hid hc
  clear hr hL hc hlen
  go_enter Try.func6, Try.ntmps6
  go_wp2_with fail
  refine (awake12_any _ C).mono ?_
  rintro e w1 ⟨rfl, h1⟩
  have HS1 := hid h1
  clear h1
  go_wp2_with fail
  refine (C.rnk L so n c _ HIL.out (HR.out.still HS1.out) HC.out HS1.out).mono ?_
  rintro e w2 ⟨ao, m, ca, rfl, ha, h2, _⟩
  have HA2 := hid ha
  have HS2 := hid (HS1.out.trans h2)
  have HmR := hid ha.rd.len
  have hm6 : m ≤ 6 := by rw [← ha.rd.len]; exact rnkA_six L
  have HRk := hid (fun (u : World) (vo : Option Addr) (cap : Nat) (hu : RdG KC u vo n L.reverse) (hcp : n ≤ cap) (hs : Still w u) => C.rnk L.reverse vo n cap u (fun i hi => by
    rw [List.length_reverse] at hi
    rw [sc_rev hi]
    exact HIL.out _ (by omega)) hu hcp hs)
  rw [(turned_len L).2] at HRk
  obtain ⟨E, eE⟩ : ∃ E, errR L = E := ⟨_, rfl⟩
  rw [eE] at HRk ⊢
  have HT := hid (fun i hi => turned_at (L := L) (i := i) hi)
  have HTl := hid (turned_len L).1
  clear eE h2 ha HS1
  go_wp2_with fail
  go_loopw [6, 7] (fun v u wr => ∃ x : Int, u = .int .i64 x ∧ -1 ≤ x ∧ x < (n : Int) ∧ OwG KC 23 wr w2.heap.size v (L.drop (x + 1).toNat).reverse ∧ Still w2 wr) (fun _ u _ => (intOf u + 1).toNat)
  case atStart => exact ⟨_, rfl, by omega, by omega, by
    rw [show ((n : Int) - 1 + 1).toNat = n by omega, List.drop_of_length_le (by have := HLn.out; omega)]
    exact OwG.nil _ _, Fr.refl _ _⟩
  case round =>
    obtain ⟨x, rfl, hx0, hx1, ho, hs⟩ := hrel
    by_cases hx : 0 ≤ x
    · obtain ⟨i, rfl⟩ : ∃ i : Nat, x = (i : Int) := ⟨x.toNat, by omega⟩
      have hin : i < n := by omega
      rw [show ((i : Int) + 1).toNat = i + 1 by omega] at ho
      have HD := hid (drop_rev (L := L) (i := i) (by have := HLn.out; omega))
      have hr3 := HR.out.still (HS2.out.trans hs)
      obtain ⟨B, o, rfl⟩ := hr3.at (by omega)
      obtain ⟨c0, c1, c2, c3⟩ := rdC hr3 hin
      obtain ⟨y, ey⟩ : ∃ y, sc L i = y := ⟨_, rfl⟩
      rw [ey] at c0 c1 c2 c3 HD
      have HO := hid ho
      have HS3 := hid hs
      have HY := hid (newC_cb wr y)
      have HB := hid (show (L.drop (i + 1)).reverse.length + 1 ≤ n by have := HLn.out; simp; omega)
      have hge : (i : Int) ≥ 0 := by omega
      clear ey ho hs hr3 hx hx0
      obtain ⟨M, eM⟩ : ∃ M, (L.drop (i + 1)).reverse = M := ⟨_, rfl⟩
      rw [eM] at HO HD HB
      clear eM
      go_wp2_with (
        at_builtin
        refine wpList_appH KC _ rfl _ _ 32 rfl Try.underlying32 32 infoC w2.heap.size wr.heap.size _ M y rfl rfl (HO.out.still (Still.alloc wr _)) HY.out (by have := HB.out; omega) (by have := HB.out; omega) (by have := HS3.out.size; simp; omega) ?_
        intro v' w4 ho4 hf4
        have HS4 := hid (still_appG (HS3.out.trans (Still.alloc wr _)) (HO.out.still (Still.alloc wr _)) hf4 (Nat.le_refl _))
        have HO4 := hid ho4
        clear ho4 hf4)
      go_roundw
      case rel => exact ⟨(i : Int) - 1, by go_num, by omega, by omega, by
        rw [show ((i : Int) - 1 + 1).toNat = i by omega, HD.out]
        exact HO4.out, HS4.out⟩
      case measure => simp [intOf]
    · obtain rfl : x = -1 := by omega
      rw [show ((-1 : Int) + 1).toNat = 0 by omega, List.drop_zero] at ho
      obtain ⟨vo, cap, rfl, _⟩ := ho.slice
      have elr : L.reverse.length = n := by rw [List.length_reverse]; exact HLn.out
      rw [elr] at ho ⊢
      have HO := hid ho
      have HS3 := hid (HS2.out.trans hs)
      have HA3 := hid (HA2.out.still hs)
      have HRv := hid (ho.rdC elr (by omega))
      have HCv := hid ho.capC
      clear ho hs hx hx0 hx1 HA2 HS2 elr
      go_wp2_with fail
      refine (HRk.out _ vo cap HRv.out HCv.out HS3.out).mono ?_
      rintro e w4 ⟨bo, m', cb, rfl, hb, h4, _⟩
      obtain rfl : m' = m := by have := hb.rd.len; have := HTl.out; have := HmR.out; omega
      have HB4 := hid hb
      have HA4 := hid (HA3.out.still h4)
      have HRv4 := hid (HRv.out.still h4)
      have HS4 := hid (HS3.out.trans h4)
      clear hb h4 HA3 HRv HS3 HO
      go_wp2_with fail
      go_loopw [10] (fun u wx => ∃ j : Nat, j ≤ m' ∧ u = .int .i64 (j : Int) ∧ Still w4 wx) (fun u _ => m' - (intOf u).toNat)
      case atStart => exact ⟨0, Nat.zero_le _, rfl, Fr.refl _ _⟩
      case round =>
        obtain ⟨j, hj, rfl, hs⟩ := hrel
        by_cases hlt : j < m'
        · have hlt' : (j : Int) < (m' : Int) := by omega
          obtain ⟨k1, k2, g1, g2, g3, g4, g5⟩ := HT.out j (by have := HmR.out; omega)
          have ha5 := HA4.out.still hs
          have hb5 := HB4.out.still hs
          obtain ⟨ga, rfl⟩ := ha5.head (by omega)
          obtain ⟨gb, rfl⟩ := hb5.head (by omega)
          have a0 := ha5.at g3
          have b0 := hb5.at g4
          rw [HLn.out] at g1 g2
          have hr5 := HR.out.still (HS4.out.trans hs)
          obtain ⟨B, o, rfl⟩ := hr5.at (by omega)
          obtain ⟨c0, c1, c2, c3⟩ := rdC hr5 g1
          have A5 := Still.alloc wr (.cells (ccs (sc L k1)) 23)
          have hv5 := (HRv4.out.still hs).still A5
          obtain ⟨B2, o2, rfl⟩ := hv5.at (by omega)
          obtain ⟨d0, d1, d2, d3⟩ := rdC hv5 g2
          have hb6 := hb5.still A5
          have b0' := hb6.at g4
          have A6 := Still.alloc (newC wr (sc L k1)) (.cells (ccs (sc L.reverse k2)) 23)
          have p6 := (newC_cb wr (sc L k1)).still A6
          have q6 := newC_cb (newC wr (sc L k1)) (sc L.reverse k2)
          simp only [size_alloc] at q6
          have HS6 := hid ((hs.trans A5).trans A6)
          obtain ⟨⟨xp, xh, xo, xk⟩, ex⟩ : ∃ x, sc L k1 = x := ⟨_, rfl⟩
          obtain ⟨⟨yp, yh, yo, yk⟩, ey⟩ : ∃ x, sc L.reverse k2 = x := ⟨_, rfl⟩
          rw [ex, ey] at g5
          obtain ⟨rfl, rfl, rfl⟩ : xp = yp ∧ xo = yo ∧ xh = yh := g5
          rw [ex] at c0 c1 c2 c3 d0 d1 d2 d3 p6 q6 b0' HS6
          rw [ey] at d0 d1 d2 d3 p6 q6 HS6
          obtain ⟨e0, e1, e2, e3, ef⟩ := p6.cells
          obtain ⟨f0, f1, f2, f3, ff⟩ := q6.cells
          simp only at c0 c1 c2 c3 d0 d1 d2 d3 e0 e1 e2 e3 f0 f1 f2 f3
          have hk1 : (k1 : Int) < (n : Int) := by omega
          have hk2 : (k2 : Int) < (n : Int) := by omega
          clear ex ey g1 g2 g3 g4 ha5 hb5 hb6 hr5 hv5 hs A5 A6 p6 q6 b0
          go_wp2_with fail
          go_roundw
          case rel => exact ⟨j + 1, by omega, by go_num, HS6.out⟩
          case measure => simp [intOf]; omega
        · have hge2 : ¬ (j : Int) < (m' : Int) := by omega
          have HS8 := hid (HS4.out.trans hs)
          clear hs hlt
          go_wp2_with fail
          go_ret
          exact ⟨rfl, HS8.out⟩
end Go.Proofs.Ytgkojpgpnkeacaa
