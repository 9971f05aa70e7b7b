/- The program's Parse; the bundle of its contracts. -/
import Derived.Test.YtlaehphhfeoklaaDoorYt
import Derived.Test.YtlaehphhfeoklaaDoorYp
import Derived.Test.YtlaehphhfeoklaaDoorVw
namespace Go.Proofs.YtlaehphhfeoklaaDoor
open Go.RowKit
open Vp
set_option maxRecDepth 100000

/-- the same over lists of bytes -/
def rdK : List (List UInt8) → Option (List Int)
  | [] => some []
  | x :: l => match rdN x with
    | none => none
    | some n => (rdK l).map (n :: ·)
theorem rdL_K : ∀ l : List ByteArray, rdL l = rdK (l.map (·.data.toList))
  | [] => rfl
  | x :: l => by
    simp only [rdL, rdK, List.map_cons, rdL_K l]
    cases rdN x.data.toList <;> rfl
/-- the numbers of an order's text -/
def nsO (v a b : Int) : List Int := if v = 2 then [] else if v = 1 then [a, b] else [a]
def bkK (v a b : Int) : Bool :=
  match Lib.splitK [32] 0 (min 5 ((prn v a b).size + 1) - 1) (prn v a b).data.toList with
  | [] => false
  | x :: r => decide (x = (nmV v).data.toList) && decide (r.length ≤ 3) && decide (rdK r = some (nsO v a b)) && decide ((nsO v a b).getD 0 0 = a) && decide ((nsO v a b).getD 1 0 = b) && decide ((nsO v a b).getD 2 0 = 0)
theorem all_back : (allO.all fun o => bkK o.1 o.2.1 o.2.2) = true := by kernel_rfl
theorem rd_back {v a b c v' a' b' c' : Int} {s h : ByteArray} {qs : List ByteArray} {is : Bool} (hc : chkO v a b c = 0) (hs : prn v a b = s) (hp : pcs s = h :: qs) (hr : RdV h qs v' a' b' c' is) : is = true ∧ v' = v ∧ a' = a ∧ b' = b ∧ c' = c := by
  obtain ⟨hm, rfl⟩ := mem_all hc
  have hv := chk_is hc
  have hk : bkK v a b = true := List.all_eq_true.1 all_back (v, a, b) hm
  subst hs
  have e := Lib.splitB_data blk 0 (min 5 ((prn v a b).size + 1) - 1) (prn v a b)
  rw [show Lib.splitB blk 0 (min 5 ((prn v a b).size + 1) - 1) (prn v a b) = h :: qs from hp, List.map_cons] at e
  unfold bkK at hk
  rw [show (blk.data.toList) = [32] from rfl] at e
  rw [← e] at hk
  simp only [Bool.and_eq_true, decide_eq_true_eq, List.length_map] at hk
  obtain ⟨⟨⟨⟨⟨k1, k2⟩, k3⟩, k4⟩, k5⟩, k6⟩ := hk
  have hh : nmV v = h := ByteArray.ext (Array.toList_inj.1 k1.symm)
  rw [← rdL_K] at k3
  rcases hr with ⟨_, _, _, _, _, h1 | h1⟩ | ⟨h1, _, L, h2, h3, h4, h5, h6⟩
  · omega
  · rw [k3] at h1; cases h1
  · rw [k3] at h2
    cases h2
    exact ⟨h1, h3.trans (nr_hit hv hh), h4.trans k4, h5.trans k5, h6.trans k6⟩
set_option maxHeartbeats 4000000 in
theorem par_any (s : ByteArray) (hs : s.size ≤ 140737488355328) (w : World) (ht : PTab w) : Calls Tryd.prog 19 #[.string s] w fun e w' => ∃ v a b c x, e = .returned (.tuple #[od v a b c, .int .i64 x]) ∧ PV s v a b c x ∧ Still w w' := by
  have p := newO_orb w 0 0 0 0
  have HS0 := hid (Still.alloc w (.cells #[.int .i64 0, .int .i64 0, .int .i64 0, .int .i64 0] 32))
  have H := hid (read_any s hs (newO w 0 0 0 0) (ht.still HS0.out))
  clear hs
  go_enter Tryd.func19, Tryd.ntmps19
  go_wp2_with fail
  refine H.out.mono ?_
  rintro e w1 ⟨v, a, b, c, is, rfl, ⟨h, qs, hp, hr⟩, h1⟩
  have A1 := Still.alloc w1 (.cells #[.int .i64 v, .int .i64 a, .int .i64 b, .int .i64 c] 32)
  have p1 := (p.still h1).still A1
  have q1 := newO_orb w1 v a b c
  have HS1 := hid ((HS0.out.trans h1).trans A1)
  have HB := hid (fun (v' a' b' c' : Int) (k1 : chkO v' a' b' c' = 0) (k2 : prn v' a' b' = s) => rd_back k1 k2 hp hr)
  clear h1 A1 hp hr HS0 p H
  obtain ⟨c0, c1, c2, c3, cf⟩ := p1.cells
  obtain ⟨d0, d1, d2, d3, df⟩ := q1.cells
  cases is with
  | false =>
    have HV : Hid (PV s 0 0 0 0 72) := hid (.inr ⟨rfl, rfl, rfl, rfl, rfl, fun v a b c k1 k2 => by have := (HB.out v a b c k1 k2).1; cases this⟩)
    clear HB
    go_wp2_with fail
    exact bodyPost_ret ((p1.set 0 0 0 0).rest rfl _ _ rfl rfl) rfl ⟨0, 0, 0, 0, 72, rfl, HV.out, setO_fr HS1.out _ _ _ _ _ (.inr (Nat.le_refl _))⟩
  | true =>
    have HP := hid (prt_any v a b c _ (ht.still HS1.out))
    go_wp2_with fail
    refine HP.out.mono ?_
    rintro e w2 ⟨rfl, h2⟩
    have p2 := p1.still h2
    have q2 := q1.still h2
    have HS2 := hid (HS1.out.trans h2)
    clear h2 p1 q1 HS1 HP c0 c1 c2 c3 cf d0 d1 d2 d3 df
    obtain ⟨c0, c1, c2, c3, cf⟩ := p2.cells
    obtain ⟨d0, d1, d2, d3, df⟩ := q2.cells
    by_cases hc : chkO v a b c = 0
    · have e1 : prnO v a b c = prn v a b := by unfold prnO; rw [if_pos hc]
      rw [e1, hc]
      by_cases ht : prn v a b = s
      · have hb := str_t ht
        have HV : Hid (PV s v a b c 0) := hid (.inl ⟨rfl, hc, ht⟩)
        obtain ⟨T, eT⟩ : ∃ T, prn v a b = T := ⟨_, rfl⟩
        rw [eT] at hb ⊢
        clear HB hc e1 ht eT
        go_wp2_with fail
        exact bodyPost_ret ((p2.set v a b c).rest rfl _ _ rfl rfl) rfl ⟨v, a, b, c, 0, rfl, HV.out, setO_fr HS2.out _ _ _ _ _ (.inr (Nat.le_refl _))⟩
      · have hb := str_f ht
        have HV : Hid (PV s 0 0 0 0 72) := hid (.inr ⟨rfl, rfl, rfl, rfl, rfl, fun v' a' b' c' k1 k2 => by
          obtain ⟨_, rfl, rfl, rfl, rfl⟩ := HB.out v' a' b' c' k1 k2
          exact ht k2⟩)
        obtain ⟨T, eT⟩ : ∃ T, prn v a b = T := ⟨_, rfl⟩
        rw [eT] at hb ⊢
        clear HB hc e1 ht eT
        go_wp2_with fail
        exact bodyPost_ret ((p2.set 0 0 0 0).rest rfl _ _ rfl rfl) rfl ⟨0, 0, 0, 0, 72, rfl, HV.out, setO_fr HS2.out _ _ _ _ _ (.inr (Nat.le_refl _))⟩
    · have hx : (chkO v a b c != 0) = true := by simpa using hc
      have HV : Hid (PV s 0 0 0 0 72) := hid (.inr ⟨rfl, rfl, rfl, rfl, rfl, fun v' a' b' c' k1 k2 => by
        obtain ⟨_, rfl, rfl, rfl, rfl⟩ := HB.out v' a' b' c' k1 k2
        exact hc k1⟩)
      obtain ⟨T, eT⟩ : ∃ T, prnO v a b c = T := ⟨_, rfl⟩
      obtain ⟨X, eX⟩ : ∃ X, chkO v a b c = X := ⟨_, rfl⟩
      rw [eT, eX]
      rw [eX] at hx
      clear HB hc eT eX
      go_wp2_with fail
      exact bodyPost_ret ((p2.set 0 0 0 0).rest rfl _ _ rfl rfl) rfl ⟨0, 0, 0, 0, 72, rfl, HV.out, setO_fr HS2.out _ _ _ _ _ (.inr (Nat.le_refl _))⟩
theorem cts_any (W : World) (ht : PTab W) : Cts W where
  cnt u _ := cnt_any u
  nam v u _ := name_any v u
  ops v u _ := ops_any v u
  chk v a b c u _ := check_any v a b c u
  prt v a b c u k := prt_any v a b c u (ht.still k)
  par s u z k := par_any s z u (ht.still k)
end Go.Proofs.YtlaehphhfeoklaaDoor
