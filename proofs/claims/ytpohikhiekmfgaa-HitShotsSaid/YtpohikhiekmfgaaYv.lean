/- The program's small functions on pickups: which numbers may be, which spots are free. -/
import Derived.Test.YtpohikhiekmfgaaKb
import Derived.Test.YtpohikhiekmfgaaK8
import Derived.Test.YtpohikhiekmfgaaK5b
import Derived.Test.YtpohikhiekmfgaaK4
namespace Go.Proofs.Ytpohikhiekmfgaa
open Go.RowKit
open Pu Gp Np Ka
set_option maxRecDepth 100000

theorem pwithin_any (n l h : Int) (w : World) : Calls Try.prog 56 #[.int .i64 n, .int .i64 l, .int .i64 h] w fun e w' => e = .returned (.bool (amg n l h)) ∧ w' = w := by
  unfold amg
  by_cases h1 : l ≤ n
  · go_enter Try.func56, Try.ntmps56
    go_wp2_with fail
    go_ret
    exact ⟨by simp [h1], rfl⟩
  · have e : decide (l ≤ n) = false := by simpa using h1
    rw [e]
    go_enter Try.func56, Try.ntmps56
    go_wp2_with fail
    go_ret
    exact ⟨rfl, rfl⟩
theorem pkind_any (n : Int) (w : World) : Calls Try.prog 75 #[.int .i64 n] w fun e w' => e = .returned (.bool (amg n 1 3)) ∧ w' = w := by
  have H := hid (fun w => pwithin_any n 1 3 w)
  obtain ⟨b, eb⟩ : ∃ b, amg n 1 3 = b := ⟨_, rfl⟩
  rw [eb] at H ⊢
  clear eb
  go_enter Try.func75, Try.ntmps75
  go_wp2_with fail
  refine (H.out _).mono ?_
  rintro e w2 ⟨he, hw⟩
  rw [he, hw]
  clear he hw w2
  go_wp2_with fail
  go_ret
  exact ⟨rfl, rfl⟩
theorem pisno_any (n : Int) (w : World) : Calls Try.prog 74 #[.int .i64 n] w fun e w' => e = .returned (.bool (amg n 1 1099511627776)) ∧ w' = w := by
  have H := hid (fun w => pwithin_any n 1 1099511627776 w)
  obtain ⟨b, eb⟩ : ∃ b, amg n 1 1099511627776 = b := ⟨_, rfl⟩
  rw [eb] at H ⊢
  clear eb
  go_enter Try.func74, Try.ntmps74
  go_wp2_with fail
  refine (H.out _).mono ?_
  rintro e w2 ⟨he, hw⟩
  rw [he, hw]
  clear he hw w2
  go_wp2_with fail
  go_ret
  exact ⟨rfl, rfl⟩
/-- may it lie, whatever else does -/
def mayl (x : Pk) (s : Int) : Bool := amg x.no 1 1099511627776 && (amg x.sp 0 (s - 1) && amg x.kd 1 3)
theorem mayLie_any (x : Pk) (s : Int) (h0 : 0 ≤ s) (h1 : s ≤ 16) (w : World) : Calls Try.prog 57 #[kv x, .int .i64 s] w fun e w' => e = .returned (.bool (mayl x s)) ∧ Still w w' := by
  unfold mayl
  have p := newK_kb w x
  have HS := hid (Still.alloc w (.cells (kcs x) 57))
  obtain ⟨c0, c1, c2, cf⟩ := p.cells
  have H0 := hid (fun w => pisno_any x.no w)
  have H1 := hid (fun w => pwithin_any x.sp 0 (s - 1) w)
  have H2 := hid (fun w => pkind_any x.kd w)
  obtain ⟨b0, e0⟩ : ∃ b, amg x.no 1 1099511627776 = b := ⟨_, rfl⟩
  obtain ⟨b1, e1⟩ : ∃ b, amg x.sp 0 (s - 1) = b := ⟨_, rfl⟩
  obtain ⟨b2, e2⟩ : ∃ b, amg x.kd 1 3 = b := ⟨_, rfl⟩
  rw [e0] at H0 ⊢
  rw [e1] at H1 ⊢
  rw [e2] at H2 ⊢
  clear e0 e1 e2 p
  go_enter Try.func57, Try.ntmps57
  go_wp2_with fail
  refine (H0.out _).mono ?_
  rintro e w2 ⟨he, hw⟩
  rw [he, hw]
  clear he hw w2
  cases b0 with
  | false =>
    go_wp2_with fail
    go_ret
    exact ⟨rfl, HS.out⟩
  | true =>
    go_wp2_with fail
    refine (H1.out _).mono ?_
    rintro e w2 ⟨he, hw⟩
    rw [he, hw]
    clear he hw w2
    cases b1 with
    | false =>
      go_wp2_with fail
      go_ret
      exact ⟨rfl, HS.out⟩
    | true =>
      go_wp2_with fail
      refine (H2.out _).mono ?_
      rintro e w2 ⟨he, hw⟩
      rw [he, hw]
      clear he hw w2
      go_wp2_with fail
      go_ret
      exact ⟨by simp, HS.out⟩
/-- does one lie there -/
def lieI (L : List Pk) (y : Int) : Bool := L.any fun x => x.sp == y
theorem lieI_step {L : List Pk} {k : Nat} {y : Int} (h : k < L.length) : lieI (L.take (k + 1)) y = (lieI (L.take k) y || (pk L k).sp == y) := by
  have : pk L k = L[k] := by simp [pk, List.getD, h]
  rw [this]
  unfold lieI
  rw [List.take_succ_eq_append_getElem h, List.any_append]
  simp
theorem lieI_iff {L : List Pk} {y : Int} : lieI L y = true ↔ ∃ i, i < L.length ∧ (pk L i).sp = y := by
  unfold lieI
  rw [List.any_eq_true]
  constructor
  · rintro ⟨x, hx, h⟩
    obtain ⟨i, hi, rfl⟩ := List.mem_iff_getElem.1 hx
    refine ⟨i, hi, ?_⟩
    have : pk L i = L[i] := by simp [pk, List.getD, hi]
    rw [this]; simpa using h
  · rintro ⟨i, hi, h⟩
    have : pk L i = L[i] := by simp [pk, List.getD, hi]
    rw [this] at h
    exact ⟨L[i], List.getElem_mem hi, by simpa using h⟩
/-- how to ask which spots are free among these -/
def Fk (w : World) (v : Value) (ao : Option Addr) (n cap : Nat) : Prop := ∃ b, v = .func (.func 90) #[] #[.pointer (some ⟨b, 0, none⟩)] ∧ w.cell? ⟨b, 0, none⟩ = some (.slice ao n cap)
theorem Fk.still {w w' : World} {v : Value} {ao : Option Addr} {n cap : Nat} (h : Fk w v ao n cap) (hs : Still w w') : Fk w' v ao n cap := by
  obtain ⟨b, rfl, hc⟩ := h
  exact ⟨b, rfl, (hs.cell (World.block_lt_of_cell? w _ hc) (fun e => e)).trans hc⟩
theorem freeAmong_any (ao : Option Addr) (n cap : Nat) (w : World) : Calls Try.prog 76 #[.slice ao n cap] w fun e w' => ∃ v, e = .returned v ∧ Fk w' v ao n cap ∧ Still w w' := by
  have hmf : ∀ (fn : Fn) (first cap : Array Value) (w : World), (Instr.makeFunc fn first cap).run Try.prog w = .ok (.func fn first cap) w := fun _ _ _ _ => rfl
  go_enter Try.func76, Try.ntmps76
  go_wp2
  go_ret
  refine ⟨_, rfl, ⟨_, rfl, ?_⟩, Still.alloc w _⟩
  rw [cell_of_row _ _ _ _ _ _ (heap_alloc_new w _)]
  rfl
theorem free_any (L : List Pk) (y : Int) (ao : Option Addr) (n cap b : Nat) (w : World) (hr : RdK w ao n L) (hc : w.cell? ⟨b, 0, none⟩ = some (.slice ao n cap)) :
    Calls Try.prog 90 #[.int .i64 y, .pointer (some ⟨b, 0, none⟩)] w fun e w' => e = .returned (.bool (!lieI L y)) ∧ Still w w' := by
  have HR := hid hr
  have HL := hid hr.1
  have hn47 : n ≤ 281474976710656 := hr.2.1
  clear hr
  go_enter Try.func90, Try.ntmps90
  go_wp2_with fail
  clear hc
  go_loopw [8] (fun u wr => ∃ k : Nat, k ≤ n ∧ u = .int .i64 (k : Int) ∧ Hid (lieI (L.take k) y = false) ∧ Still w wr) (fun u _ => n - (intOf u).toNat)
  case atStart => exact ⟨0, by omega, rfl, hid rfl, Fr.refl _ _⟩
  case round =>
    obtain ⟨k, hk, rfl, HK, hs⟩ := hrel
    by_cases hkn : k < n
    · have hlt : (k : Int) < (n : Int) := by omega
      obtain ⟨B, o, rfl, hcc⟩ := (HR.out.still hs).at (by omega)
      obtain ⟨c0, c1, c2⟩ := hcc k hkn
      have HB := hid (lieI_step (L := L) (k := k) (y := y) (by have := HL.out; omega))
      have HT := hid (fun h => lieI_iff.2 ⟨k, show k < L.length by have := HL.out; omega, show (pk L k).sp = y from h⟩)
      obtain ⟨⟨xa, xb, xc⟩, ex⟩ : ∃ x, pk L k = x := ⟨_, rfl⟩
      rw [ex] at c0 c1 c2 HB HT
      have q0 := newK_kb wr ⟨xa, xb, xc⟩
      obtain ⟨d0, d1, d2, df⟩ := q0.cells
      have HS1 := hid (hs.trans (Still.alloc wr (.cells (kcs ⟨xa, xb, xc⟩) 57)))
      simp only at c0 c1 c2 d0 d1 d2
      clear hs hcc ex q0
      by_cases hy : xb = y
      · have HE := hid (HT.out hy)
        have hy' : (xb == y) = true := by simpa using hy
        clear hy HT HB
        go_wp2_with fail
        (first | rw [Exit.noGoto_ret] | skip)
        go_ret
        exact ⟨by rw [HE.out]; rfl, HS1.out⟩
      · have hy' : (xb == y) = false := by simpa using hy
        have HE : Hid (lieI (L.take (k + 1)) y = false) := hid (by rw [HB.out, HK.out]; simpa using hy)
        clear hy HT HB HK
        go_wp2_with fail
        go_roundw
        case rel => exact ⟨k + 1, by omega, by go_num, HE, HS1.out⟩
        case measure => simp [intOf]; omega
    · have hge : ¬ (k : Int) < (n : Int) := by omega
      have HE : Hid (lieI L y = false) := hid (by
        have := HK.out
        rw [List.take_of_length_le (by have := HL.out; omega)] at this
        exact this)
      have HS1 := hid hs
      clear hs HK
      go_wp2_with fail
      go_ret
      exact ⟨by rw [HE.out]; rfl, HS1.out⟩
/-- may it come behind these -/
def suit (x : Pk) (L : List Pk) : Bool := !lieI L x.sp && (decide (L.length = 0) || decide ((pk L (L.length - 1)).no < x.no))
set_option maxHeartbeats 1000000 in
theorem psuits_any (x : Pk) (L : List Pk) (ao : Option Addr) (n cap : Nat) (h8 : n ≤ 8) (w : World) (hr : RdK w ao n L) : Calls Try.prog 58 #[kv x, .slice ao n cap] w fun e w' => e = .returned (.bool (suit x L)) ∧ Still w w' := by
  have p := newK_kb w x
  have HS0 := hid (Still.alloc w (.cells (kcs x) 57))
  have HR := hid hr
  have HU : Hid (suit x L = (!lieI L x.sp && (decide (n = 0) || decide ((pk L (n - 1)).no < x.no)))) := hid (by unfold suit; rw [hr.1])
  clear hr
  go_enter Try.func58, Try.ntmps58
  go_wp2_with fail
  refine (freeAmong_any ao n cap _).mono ?_
  rintro e w1 ⟨v, rfl, hf, h1⟩
  have q := p.still h1
  have HS1 := hid (HS0.out.trans h1)
  have HR1 := hid (HR.out.still HS1.out)
  obtain ⟨b, rfl, hb⟩ := hf
  have HF := hid (fun (u : World) (hu : Still w1 u) => free_any L x.sp ao n cap b u (HR1.out.still hu) ((hu.cell (World.block_lt_of_cell? w1 _ hb) (fun e => e)).trans hb))
  clear h1 hb HS0 p
  obtain ⟨c0, c1, c2, cf⟩ := q.cells
  have k0 := Cl.cell c0
  have k1 := Cl.cell c1
  have hne := Aft.here w1
  obtain ⟨f, ef⟩ : ∃ f, (!lieI L x.sp) = f := ⟨_, rfl⟩
  rw [ef] at HF HU
  clear ef
  go_wp2_with fail
  clear c0 c1 c2 cf q
  cases f with
  | false =>
    refine region_all (by kernel_rfl) (by kernel_rfl) ?_
    repeat (go_big_quiet_step ((go_at_call 90; exact Calls.cl (HF.out _ (Aft.s _)))))
    refine wpQuiet_nil ?_
    intro w2 h2
    have HS2 := hid (HS1.out.trans h2)
    clear h2 HS1 HR1 HF k0 k1 hne
    go_wp2_with fail
    go_ret
    exact ⟨by rw [HU.out]; rfl, HS2.out⟩
  | true =>
    by_cases hn : n = 0
    · subst hn
      refine region_all (by kernel_rfl) (by kernel_rfl) ?_
      repeat (go_big_quiet_step ((go_at_call 90; exact Calls.cl (HF.out _ (Aft.s _)))))
      refine wpQuiet_nil ?_
      intro w2 h2
      have HS2 := hid (HS1.out.trans h2)
      clear h2 HS1 HR1 HF k0 k1 hne
      go_wp2_with fail
      go_ret
      exact ⟨by rw [HU.out]; rfl, HS2.out⟩
    · obtain ⟨m, em⟩ : ∃ m : Nat, (n : Int) - 1 = (m : Int) := ⟨n - 1, by omega⟩
      rw [em]
      have emn : n - 1 = m := by omega
      rw [emn] at HU
      obtain ⟨B, o, rfl, hcc⟩ := HR1.out.at (by omega)
      obtain ⟨z0, _, _⟩ := hcc m (by omega)
      have k3 := Cl.cell z0
      have hmn : (m : Int) < (n : Int) := by omega
      have hmd : decide ((m : Int) < 0) = false := by simp
      have HN := hid (show decide (n = 0) = false by simp [hn])
      rw [HN.out] at HU
      obtain ⟨z, ez⟩ : ∃ z, (pk L m).no = z := ⟨_, rfl⟩
      rw [ez] at k3 HU
      clear ez z0 hcc em emn hn
      refine region_all (by kernel_rfl) (by kernel_rfl) ?_
      repeat (go_big_quiet_step ((go_at_call 90; exact Calls.cl (HF.out _ (Aft.s _)))))
      refine wpQuiet_nil ?_
      intro w2 h2
      have HS2 := hid (HS1.out.trans h2)
      clear h2 HS1 HR1 HF k0 k1 k3 hne
      go_wp2_with fail
      go_ret
      exact ⟨by rw [HU.out]; simp, HS2.out⟩
theorem pk_take {L : List Pk} {k i : Nat} (h : i < k) : pk (L.take k) i = pk L i := by simp [pk, List.getD, h]
theorem fit_iff {L : List Pk} {s : Int} {k : Nat} (hk : k < L.length) : Fit L s k ↔ mayl (pk L k) s = true ∧ suit (pk L k) (L.take k) = true := by
  have hl : (L.take k).length = k := by simp; omega
  unfold mayl suit Fit amg
  rw [hl]
  simp only [Bool.and_eq_true, Bool.or_eq_true, decide_eq_true_eq, Bool.not_eq_true']
  have e1 : lieI (L.take k) (pk L k).sp = false ↔ ∀ i, i < k → (pk L i).sp ≠ (pk L k).sp := by
    rw [← Bool.not_eq_true, lieI_iff, hl]
    constructor
    · intro h i hi he; exact h ⟨i, hi, by rw [pk_take hi]; exact he⟩
    · rintro h ⟨i, hi, he⟩; rw [pk_take hi] at he; exact h i hi he
  rw [e1]
  constructor
  · rintro ⟨h1, h2, h3, h4, h5⟩
    refine ⟨⟨h1, ⟨h3.1, by omega⟩, h4⟩, h5, ?_⟩
    by_cases h0 : k = 0
    · exact .inl h0
    · exact .inr (by rw [pk_take (by omega)]; exact h2 (by omega))
  · rintro ⟨⟨h1, h3, h4⟩, h5, h2⟩
    refine ⟨h1, fun h0 => ?_, ⟨h3.1, by omega⟩, h4, h5⟩
    rcases h2 with h2 | h2
    · omega
    · rw [pk_take (by omega)] at h2; exact h2
theorem RdK.take {w : World} {ao : Option Addr} {n k : Nat} {L : List Pk} (h : RdK w ao n L) (hk : k ≤ n) : RdK w ao k (L.take k) := by
  obtain ⟨h1, h2, h3⟩ := h
  refine ⟨by simp; omega, by omega, ?_⟩
  by_cases h0 : k = 0
  · exact .inl h0
  · rcases h3 with h3 | ⟨B, o, e, hc⟩
    · omega
    · exact .inr ⟨B, o, e, fun i hi => by rw [pk_take hi]; exact hc i (by omega)⟩
set_option maxHeartbeats 2000000 in
theorem pchk_in (L : List Pk) (s : Int) (ao : Option Addr) (n cap : Nat) (w : World) (hr : RdK w ao n L) (hcap : n ≤ cap) (h0 : 0 ≤ s) (h1 : s ≤ 16) (h8 : n ≤ 8) : Calls Try.prog 38 #[.slice ao n cap, .int .i64 s] w fun e w' => e = .returned (.int .i64 (chkK L s)) ∧ Still w w' := by
  have HH := hid (And.intro h0 h1)
  have HR := hid hr
  have HL := hid hr.1
  have HCp := hid hcap
  have HW := hid (fun w => pwithin_any s 0 16 w)
  rw [show amg s 0 16 = true by unfold amg; simp; omega] at HW
  have h8' : decide ((8 : Int) < (n : Int)) = false := by simp; omega
  clear hr hcap h0 h1
  go_enter Try.func38, Try.ntmps38
  go_wp2_with fail
  refine (HW.out _).mono ?_
  rintro e w2 ⟨he, hw⟩
  rw [he, hw]
  clear he hw w2 HW
  go_wp2_with fail
  go_loopw [17] (fun u wr => ∃ k : Nat, k ≤ n ∧ u = .int .i64 (k : Int) ∧ Hid (∀ i, i < k → Fit L s i) ∧ Still w wr) (fun u _ => n - (intOf u).toNat)
  case atStart => exact ⟨0, by omega, rfl, hid (fun i hi => by omega), Fr.refl _ _⟩
  case round =>
    obtain ⟨k, hk, rfl, HF, hs⟩ := hrel
    by_cases hkn : k < n
    · have hlt : (k : Int) < (n : Int) := by omega
      obtain ⟨B, o, rfl, hc⟩ := (HR.out.still hs).at (by omega)
      obtain ⟨c0, c1, c2⟩ := hc k hkn
      have HS1 := hid (hs.trans (Still.alloc wr (.cells (kcs (pk L k)) 57)))
      have q0 := newK_kb wr (pk L k)
      have HFit := hid (fit_iff (L := L) (s := s) (k := k) (by have := HL.out; omega))
      have HNo := hid (show ¬ Fit L s k → chkK L s = 100 from fun h => chkK_no (fun hm => h (hm.2.2 k (by have := HL.out; omega))))
      obtain ⟨W, eW⟩ : ∃ W, wr.alloc (.cells (kcs (pk L k)) 57) = W := ⟨_, rfl⟩
      obtain ⟨g, eg⟩ : ∃ g, wr.heap.size = g := ⟨_, rfl⟩
      have q1 : Kb W g (pk L k) := by rw [← eW, ← eg]; exact q0
      rw [eW] at HS1
      obtain ⟨x, ex⟩ : ∃ x, pk L k = x := ⟨_, rfl⟩
      rw [ex] at c0 c1 c2 q1 eW HFit
      have HM := hid (fun u => mayLie_any x s HH.out.1 HH.out.2 u)
      have HU := hid (fun (u : World) (hu : Still W u) => psuits_any x (L.take k) (some ⟨B, o, none⟩) k cap (by omega) u ((((HR.out.still HS1.out).take (k := k) (by omega))).still hu))
      have hsl : ∀ u, (Instr.slice 42 (.slice (some ⟨B, o, none⟩) n cap) none (some (.int .i64 (k : Int))) none).run Try.prog u = .ok (.slice (some ⟨B, o, none⟩) k cap) u := fun u => run_uptoK u _ n cap (k : Int) (by omega) (by have := HCp.out; omega)
      obtain ⟨b, eb⟩ : ∃ b, mayl x s = b := ⟨_, rfl⟩
      obtain ⟨c, ec⟩ : ∃ b, suit x (L.take k) = b := ⟨_, rfl⟩
      rw [eb, ec] at HFit
      rw [eb] at HM
      rw [ec] at HU
      clear q0 hs hc ex eb ec
      go_upto_region 6 with fail
      clear eW eg c0 c1 c2
      obtain ⟨e0, e1, e2, ef⟩ := q1.cells
      have k0 := Cl.cell e0
      have k1 := Cl.cell e1
      have k2 := Cl.cell e2
      have hne := Aft.here W
      clear e0 e1 e2 ef q1
      cases b with
      | false =>
        have HE := hid (HNo.out (fun h => by have := (HFit.out.1 h).1; cases this))
        refine region_all (by kernel_rfl) (by kernel_rfl) ?_
        repeat (go_big_quiet_step ((go_at_call 57; exact Calls.cl (HM.out _))))
        refine wpQuiet_nil ?_
        intro w2 h2
        have HS2 := hid (HS1.out.trans h2)
        clear h2 HS1 hne k0 k1 k2 HFit HNo HM HU hsl
        go_wp2_with fail
        (first | rw [Exit.noGoto_ret] | skip)
        go_ret
        exact ⟨by rw [HE.out]; rfl, HS2.out⟩
      | true =>
        cases c with
        | false =>
          have HE := hid (HNo.out (fun h => by have := (HFit.out.1 h).2; cases this))
          refine region_all (by kernel_rfl) (by kernel_rfl) ?_
          repeat (go_big_quiet_step ((first | (go_at_call 57; exact Calls.cl (HM.out _)) | (go_at_call 58; exact Calls.cl (HU.out _ (Aft.s _))))))
          refine wpQuiet_nil ?_
          intro w2 h2
          have HS2 := hid (HS1.out.trans h2)
          clear h2 HS1 hne k0 k1 k2 HFit HNo HM HU hsl
          go_wp2_with fail
          (first | rw [Exit.noGoto_ret] | skip)
          go_ret
          exact ⟨by rw [HE.out]; rfl, HS2.out⟩
        | true =>
          have HE := hid (show ∀ i, i < k + 1 → Fit L s i from fun i hi => by
            by_cases e : i = k
            · subst e; exact HFit.out.2 ⟨rfl, rfl⟩
            · exact HF.out i (by omega))
          refine region_all (by kernel_rfl) (by kernel_rfl) ?_
          repeat (go_big_quiet_step ((first | (go_at_call 57; exact Calls.cl (HM.out _)) | (go_at_call 58; exact Calls.cl (HU.out _ (Aft.s _))))))
          refine wpQuiet_nil ?_
          intro w2 h2
          have HS2 := hid (HS1.out.trans h2)
          clear h2 HS1 hne k0 k1 k2 HFit HNo HM HU hsl
          go_wp2_with fail
          go_roundw
          case rel => exact ⟨k + 1, by omega, by go_num, HE, HS2.out⟩
          case measure => simp [intOf]; omega
    · have hge : ¬ (k : Int) < (n : Int) := by omega
      have HE : Hid (chkK L s = 0) := hid (chkK_yes ⟨HH.out, by rw [HL.out]; exact h8, fun i hi => HF.out i (by have := HL.out; omega)⟩)
      have HS1 := hid hs
      clear hs
      go_wp2_with fail
      go_ret
      exact ⟨by rw [HE.out]; rfl, HS1.out⟩
theorem pchk_any (L : List Pk) (s : Int) (ao : Option Addr) (n cap : Nat) (w : World) (hr : RdK w ao n L) (hcap : n ≤ cap) : Calls Try.prog 38 #[.slice ao n cap, .int .i64 s] w fun e w' => e = .returned (.int .i64 (chkK L s)) ∧ Still w w' := by
  by_cases hs : 0 ≤ s ∧ s ≤ 16
  · by_cases h8 : n ≤ 8
    · exact pchk_in L s ao n cap w hr hcap hs.1 hs.2 h8
    · have HE : Hid (chkK L s = 100) := hid (chkK_no (fun h => by have := h.2.1; have := hr.1; omega))
      have h8' : decide ((8 : Int) < (n : Int)) = true := by simp; omega
      have HW := hid (fun w => pwithin_any s 0 16 w)
      rw [show amg s 0 16 = true by unfold amg; simp; omega] at HW
      clear hr hs hcap h8
      go_enter Try.func38, Try.ntmps38
      go_wp2_with fail
      refine (HW.out _).mono ?_
      rintro e w2 ⟨he, hw⟩
      rw [he, hw]
      clear he hw w2 HW
      go_wp2_with fail
      go_ret
      exact ⟨by rw [HE.out]; rfl, Fr.refl _ _⟩
  · have HE : Hid (chkK L s = 100) := hid (chkK_no (fun h => hs h.1))
    have HW := hid (fun w => pwithin_any s 0 16 w)
    rw [show amg s 0 16 = false by unfold amg; rw [Bool.and_eq_false_iff]; simp only [decide_eq_false_iff_not]; omega] at HW
    clear hr hs hcap
    go_enter Try.func38, Try.ntmps38
    go_wp2_with fail
    refine (HW.out _).mono ?_
    rintro e w2 ⟨he, hw⟩
    rw [he, hw]
    clear he hw w2 HW
    go_wp2_with fail
    go_ret
    exact ⟨by rw [HE.out]; rfl, Fr.refl _ _⟩
end Go.Proofs.Ytpohikhiekmfgaa
