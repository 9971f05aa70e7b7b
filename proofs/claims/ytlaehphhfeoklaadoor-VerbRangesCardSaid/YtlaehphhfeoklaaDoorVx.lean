/- The laws on prints and names. -/
import Derived.Test.YtlaehphhfeoklaaDoorVw
namespace Go.Proofs.YtlaehphhfeoklaaDoor
open Go.RowKit
open Vp
set_option maxRecDepth 100000

theorem nmV_pos {v : Int} (h : isV v = true) : 3 ≤ (nmV v).size := by
  rcases verbs h with rfl | rfl | rfl | rfl | rfl | rfl | rfl <;> decide
theorem prn_some {v a b c : Int} (h : chkO v a b c = 0) : prn v a b ≠ ByteArray.empty := fun e => by
  have h1 := (prn_front e).1
  have h2 := nmV_pos (chk_is h)
  have h3 : ByteArray.empty.size = 0 := rfl
  omega
theorem pv_none : PV ByteArray.empty 0 0 0 0 72 := .inr ⟨rfl, rfl, rfl, rfl, rfl, fun _ _ _ _ h => prn_some h⟩
theorem prn_sz {v a b c : Int} (h : chkO v a b c = 0) : (prn v a b).size ≤ 30 := by
  rw [← acc_prn (a := a) (b := b) (c := c) (chk_is h)]
  have h1 := acc_sz (nmV v) (gv a b c) (opV v).length
  have h2 := nmV_sz v
  have h3 := opV_len v
  omega
theorem prnO_sz (v a b c : Int) : (prnO v a b c).size ≤ 30 := by
  unfold prnO
  split
  · rename_i h; exact prn_sz h
  · decide
/-- what is printed is read so -/
theorem pv_back (v a b c : Int) : (chkO v a b c = 0 ∧ PV (prnO v a b c) v a b c 0) ∨ (chkO v a b c ≠ 0 ∧ PV (prnO v a b c) 0 0 0 0 72) := by
  by_cases h : chkO v a b c = 0
  · left
    refine ⟨h, ?_⟩
    unfold prnO
    rw [if_pos h]
    exact .inl ⟨rfl, h, rfl⟩
  · right
    refine ⟨h, ?_⟩
    unfold prnO
    rw [if_neg h]
    exact pv_none
set_option maxHeartbeats 4000000 in
theorem prints_law (v a b c : Int) (w : World) (C : Cts w) (ht : RTab w) (hN : NTab w) : Calls Tryd.prog 5 #[od v a b c] w fun e w' => e = .returned (.bool true) ∧ Still w w' := by
  have p := newO_orb w v a b c
  have HS0 := hid (Still.alloc w (.cells #[.int .i64 v, .int .i64 a, .int .i64 b, .int .i64 c] 32))
  have G1 := guard_or
  have HZ := hid (prnO_sz v a b c)
  have HB := hid (pv_back v a b c)
  have HP := hid (fun u k => C.prt v a b c u k)
  have HR := hid (fun u k k' => rprt_any v a b c u k k')
  obtain ⟨S, eS⟩ : ∃ S, prnO v a b c = S := ⟨_, rfl⟩
  obtain ⟨X, eX⟩ : ∃ X, chkO v a b c = X := ⟨_, rfl⟩
  rw [eS] at HZ HB HP HR
  rw [eX] at HB HP HR
  clear eS eX
  go_enter Tryd.func5, Tryd.ntmps5
  go_wp2_with fail
  refine (awake_any _ (C.still HS0.out)).mono ?_
  rintro e w1 ⟨rfl, h1⟩
  have p1 := p.still h1
  have HS1 := hid (HS0.out.trans h1)
  clear HS0 h1 p
  obtain ⟨c0, c1, c2, c3, cf⟩ := p1.cells
  go_wp2_with fail
  refine (HP.out _ HS1.out).mono ?_
  rintro e w2 ⟨rfl, h2⟩
  have p2 := p1.still h2
  have HS2 := hid (HS1.out.trans h2)
  clear HS1 h2 p1 c0 c1 c2 c3 cf
  obtain ⟨c0, c1, c2, c3, cf⟩ := p2.cells
  go_wp2_with fail
  refine (HR.out _ (ht.still HS2.out) (hN.still HS2.out)).mono ?_
  rintro e w3 ⟨rfl, h3⟩
  have p3 := p2.still h3
  have HS3 := hid (HS2.out.trans h3)
  clear HS2 h3 p2 c0 c1 c2 c3 cf
  go_wp2_with fail
  refine (C.par S _ (by have := HZ.out; omega) HS3.out).mono ?_
  rintro e w4 ⟨v', a', b', c', x', rfl, hp, h4⟩
  rcases HB.out with ⟨h0, hq⟩ | ⟨h0, hq⟩
  · obtain ⟨rfl, rfl, rfl, rfl, rfl⟩ := pv_one hp hq
    subst h0
    have A4 := Still.alloc w4 (.cells #[.int .i64 v', .int .i64 a', .int .i64 b', .int .i64 c'] 32)
    have p4 := (p3.still h4).still A4
    have q4 := newO_orb w4 v' a' b' c'
    have HS4 := hid ((HS3.out.trans h4).trans A4)
    have K1 := eql_or_t v' a' b' c'
    clear HS3 h4 p3 A4 hp hq
    obtain ⟨c0, c1, c2, c3, cf⟩ := p4.cells
    obtain ⟨d0, d1, d2, d3, df⟩ := q4.cells
    go_wp2_with fail
    go_ret
    exact ⟨rfl, HS4.out⟩
  · obtain ⟨rfl, rfl, rfl, rfl, rfl⟩ := pv_one hp hq
    have A4 := Still.alloc w4 (.cells #[.int .i64 0, .int .i64 0, .int .i64 0, .int .i64 0] 32)
    have q4 := newO_orb w4 0 0 0 0
    have HS4 := hid ((HS3.out.trans h4).trans A4)
    have K1 := eql_or_t 0 0 0 0
    have hb : (X != 0) = true := by simpa using h0
    clear HS3 h4 p3 A4 hp hq h0
    obtain ⟨d0, d1, d2, d3, df⟩ := q4.cells
    go_wp2_with fail
    go_ret
    exact ⟨rfl, HS4.out⟩
end Go.Proofs.YtlaehphhfeoklaaDoor
