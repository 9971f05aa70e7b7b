/- The document's eye: a whole datagram. -/
import Derived.Test.YtaaongbdincimaaGreatDoorWed
import Derived.Test.YtaaongbdincimaaGreatDoorWrh
namespace Go.Proofs.YtaaongbdincimaaGreatDoor
open Go.RowKit
open Wp Vp
set_option maxRecDepth 100000
set_option linter.unusedVariables false
set_option linter.unusedSimpArgs false

theorem Te.dgb {w w1 : World} {q p g : Nat} {s : Rs} {d : Dg} {co : Option Addr} {cn cp : Nat} (h : Te w w1 q p s) (hn : ¬ RF q p g) (hb : Dgb w g d co cn cp) : Dgb w1 g d co cn cp := h.f.kept hb hn
theorem kd_eq (k : UInt8) (n : Nat) (hn : n < 256) : (nm k == (n : Int)) = (k == UInt8.ofNat n) := by
  rw [Bool.eq_iff_iff]
  simp only [beq_iff_eq]
  exact nm_eq k n hn
theorem kdB_nm (c k : UInt8) : kdB c k = (nm c == 101 && (nm k == 1 || nm k == 2)) := by
  unfold kdB
  rw [show (nm c == 101) = (c == 101) from kd_eq c 101 (by decide), show (nm k == 1) = (k == 1) from kd_eq k 1 (by decide), show (nm k == 2) = (k == 2) from kd_eq k 2 (by decide)]
/-- the unit of the i-th byte -/
def un8 (i : Nat) : Nat := if i = 8 then 0 else 256 ^ i
theorem ss_step {i acc z : Nat} (hi : i < 8) (hz : z < 256) (ha : acc < 256 ^ i) : IntKind.u64.wrap ((z : Int) * (un8 i : Int)) = ((z * 256 ^ i : Nat) : Int) ∧ IntKind.u64.wrap ((acc : Int) + ((z * 256 ^ i : Nat) : Int)) = ((acc + z * 256 ^ i : Nat) : Int) ∧ IntKind.u64.wrap ((un8 i : Int) * 256) = (un8 (i + 1) : Int) ∧ acc + z * 256 ^ i < 256 ^ (i + 1) := by
  simp only [IntKind.wrap_u64]
  rcases (show i = 0 ∨ i = 1 ∨ i = 2 ∨ i = 3 ∨ i = 4 ∨ i = 5 ∨ i = 6 ∨ i = 7 by omega) with rfl | rfl | rfl | rfl | rfl | rfl | rfl | rfl <;> simp [un8] at ha ⊢ <;> omega
/-- behind the head: the state, and two variables -/
def CutE (W wx : World) (q p : Nat) (S : Rs) (g2 g4 : Nat) (d : Dg) (co : Option Addr) (cn cp : Nat) : Prop := Te W wx q p S ∧ Dgb wx g2 zD none 0 0 ∧ Dgb wx g4 d co cn cp
theorem CutE.to {W w w' : World} {q p : Nat} {S S' : Rs} {g2 g4 : Nat} {d : Dg} {co : Option Addr} {cn cp : Nat} (h : CutE W w q p S g2 g4 d co cn cp) (hn : ¬ RF q p g2 ∧ ¬ RF q p g4) (ht : Te w w' q p S') : CutE W w' q p S' g2 g4 d co cn cp := ⟨h.1.trans ht, ht.dgb hn.1 h.2.1, ht.dgb hn.2 h.2.2⟩
theorem CutE.still {W w w' : World} {q p : Nat} {S : Rs} {g2 g4 : Nat} {d : Dg} {co : Option Addr} {cn cp : Nat} (h : CutE W w q p S g2 g4 d co cn cp) (ht : Still w w') : CutE W w' q p S g2 g4 d co cn cp := ⟨h.1.still ht, h.2.1.still ht, h.2.2.still ht⟩
/-- behind a store into the datagram's variable -/
theorem CutE.put {W w w' : World} {q p : Nat} {S : Rs} {g2 g4 : Nat} {d d' : Dg} {co co' : Option Addr} {cn cp cn' cp' : Nat} (h : CutE W w q p S g2 g4 d co cn cp) (hq : (q < W.heap.size ∧ p < W.heap.size) ∧ W.heap.size ≤ g4 ∧ g2 ≠ g4) (hf : Fr (fun k => k = g4) w w') (hb : Dgb w' g4 d' co' cn' cp') : CutE W w' q p S g2 g4 d' co' cn' cp' :=
  ⟨h.1.other h.2.2 (by decide) hq.1 hq.2.1 hf, h.2.1.other hq.2.2 hf, hb⟩
/-- behind an append to its commands -/
theorem CutE.app {W u u' : World} {q p : Nat} {S : Rs} {g2 g4 : Nat} {d : Dg} {co : Option Addr} {cn cp : Nat} {v : Value} {L : List Cc} (h : CutE W u q p S g2 g4 d co cn cp) (ho : OwG KCc 42 u (g4 + 1) v L) (hq : (q < W.heap.size ∧ p < W.heap.size) ∧ W.heap.size ≤ g4 ∧ g2 ≠ g4) (h2 : g2 < W.heap.size) (hf : Fr (fun k => v.ownBlock = some k) u u') : CutE W u' q p S g2 g4 d co cn cp := by
  rcases ho.2 with ⟨rfl, _⟩ | ⟨g, cap, cur, rfl, hb, hg, _⟩
  · exact h.still (hf.mono fun k _ e => by cases e)
  · have hf' : Fr (fun k => k = g) u u' := hf.mono fun k _ e => by
      have e' : some g = some k := e
      exact (Option.some.inj e').symm
    exact ⟨h.1.other hg (by decide) hq.1 (by omega) hf', h.2.1.other (by omega) hf', h.2.2.other (by omega) hf'⟩
theorem dset0 {w : World} {g : Nat} {d : Dg} {co : Option Addr} {cn cp : Nat} (h : Dgb w g d co cn cp) (m : Int) : Dgb (w.setCell ⟨g, 0, none⟩ (.int .i64 m)) g ⟨m, d.ss, d.fr, d.to, d.mrk, d.fi, d.cs, d.ak⟩ co cn cp := by
  unfold Dgb; rw [heap_setCell_same _ g 0 _ _ _ h]; rfl
theorem dset1 {w : World} {g : Nat} {d : Dg} {co : Option Addr} {cn cp : Nat} (h : Dgb w g d co cn cp) (m : Int) : Dgb (w.setCell ⟨g, 1, none⟩ (.int .u64 m)) g ⟨d.kd, m, d.fr, d.to, d.mrk, d.fi, d.cs, d.ak⟩ co cn cp := by
  unfold Dgb; rw [heap_setCell_same _ g 1 _ _ _ h]; rfl
theorem dset2 {w : World} {g : Nat} {d : Dg} {co : Option Addr} {cn cp : Nat} (h : Dgb w g d co cn cp) (m : Int) : Dgb (w.setCell ⟨g, 2, none⟩ (.int .i64 m)) g ⟨d.kd, d.ss, m, d.to, d.mrk, d.fi, d.cs, d.ak⟩ co cn cp := by
  unfold Dgb; rw [heap_setCell_same _ g 2 _ _ _ h]; rfl
theorem dset3 {w : World} {g : Nat} {d : Dg} {co : Option Addr} {cn cp : Nat} (h : Dgb w g d co cn cp) (m : Int) : Dgb (w.setCell ⟨g, 3, none⟩ (.int .i64 m)) g ⟨d.kd, d.ss, d.fr, m, d.mrk, d.fi, d.cs, d.ak⟩ co cn cp := by
  unfold Dgb; rw [heap_setCell_same _ g 3 _ _ _ h]; rfl
set_option maxHeartbeats 8000000 in
theorem edg_any (q p : Nat) (bs : List UInt8) (w : World) (hO : ∀ u, Fr (RF q p) w u → OTab u) (h : Ez w q p ⟨bs, 0, false⟩) :
    Calls Tryz.prog 29 #[.pointer (some ⟨q, 0, none⟩)] w fun r w' => ∃ co cn cp, r = .returned (dgv (eDgM ⟨bs, 0, false⟩).1 co cn cp) ∧ OwG KCc 42 w' w.heap.size (.slice co cn cp) (eDgM ⟨bs, 0, false⟩).1.cs ∧ Te w w' q p ⟨(eDgM ⟨bs, 0, false⟩).2.bs, (eDgM ⟨bs, 0, false⟩).2.e, (eDgM ⟨bs, 0, false⟩).2.y || !doB (eDgM ⟨bs, 0, false⟩).2⟩ := by
  have A0 := Still.alloc w (.cells #[.int .i64 0, .int .u64 0, .int .i64 0, .int .i64 0, .int .i64 0, .int .i64 0, .slice none 0 0, .int .i64 0] 25)
  have B0 : Dgb (w.alloc (.cells #[.int .i64 0, .int .u64 0, .int .i64 0, .int .i64 0, .int .i64 0, .int .i64 0, .slice none 0 0, .int .i64 0] 25)) w.heap.size zD none 0 0 := newDg_b w zD none 0 0
  have h0 := h.still A0
  have hlt := h.lt
  have HQw : Hid (q < w.heap.size ∧ p < w.heap.size) := hid hlt
  obtain ⟨W, eW⟩ : ∃ W, w.alloc (.cells #[.int .i64 0, .int .u64 0, .int .i64 0, .int .i64 0, .int .i64 0, .int .i64 0, .slice none 0 0, .int .i64 0] 25) = W := ⟨_, rfl⟩
  obtain ⟨g2, eg2⟩ : ∃ g, w.heap.size = g := ⟨_, rfl⟩
  have hWs : W.heap.size = g2 + 1 := by rw [← eW, size_alloc, eg2]
  rw [eW] at A0 B0 h0
  rw [eg2] at B0 hlt
  have HWs := hid hWs
  have HG2 := hid eg2
  have HR2 : Hid (¬ RF q p g2) := hid (fun e => by rcases e with e | e <;> omega)
  have HA := hid A0
  have HB0 := hid B0
  have HOT := hid hO
  obtain ⟨s, es⟩ : ∃ s, (⟨bs, 0, false⟩ : Rs) = s := ⟨_, rfl⟩
  have hsy : s.y = false := by rw [← es]
  rw [es] at h0 ⊢
  clear es
  have c0 := h0.cells.1
  have HC := hid (ebyte_any q p s W h0)
  obtain ⟨c, S1, e1⟩ : ∃ a b, byM s = (a, b) := ⟨_, _, rfl⟩
  obtain ⟨ck, S2, e2⟩ : ∃ a b, byM S1 = (a, b) := ⟨_, _, rfl⟩
  have hy2 : S2.y = false := by
    have k1 : (byM S1).2.y = S1.y := rfl
    have k2 : (byM s).2.y = s.y := rfl
    rw [e2] at k1
    rw [e1, hsy] at k2
    exact k1.trans k2
  obtain ⟨b0, eb0⟩ : ∃ b, kdB c ck = b := ⟨_, rfl⟩
  obtain ⟨S3, eS3⟩ : ∃ S, (⟨S2.bs, S2.e, !b0⟩ : Rs) = S := ⟨_, rfl⟩
  have e3' : (mG (kdB c ck) S2).2 = S3 := by rw [← eS3, eb0]; unfold mG; rw [hy2]; rfl
  obtain ⟨sn, S4, e4⟩ : ∃ a b, fuM 8 0 0 S3 = (a, b) := ⟨_, _, rfl⟩
  obtain ⟨cf, S5, e5⟩ : ∃ a b, byM S4 = (a, b) := ⟨_, _, rfl⟩
  obtain ⟨ct, S6, e6⟩ : ∃ a b, byM S5 = (a, b) := ⟨_, _, rfl⟩
  have HE : Hid (eDgM s = eTlM ck (sn : Int) (nm cf) (nm ct) S6) := hid (by
    show eTlM (byM (byM s).2).1 (fuM 8 0 0 (mG (kdB (byM s).1 (byM (byM s).2).1) (byM (byM s).2).2).2).1 (nm (byM (fuM 8 0 0 (mG (kdB (byM s).1 (byM (byM s).2).1) (byM (byM s).2).2).2).2).1) (nm (byM (byM (fuM 8 0 0 (mG (kdB (byM s).1 (byM (byM s).2).1) (byM (byM s).2).2).2).2).2).1) (byM (byM (fuM 8 0 0 (mG (kdB (byM s).1 (byM (byM s).2).1) (byM (byM s).2).2).2).2).2).2 = _
    rw [e1]
    dsimp only
    rw [e2]
    dsimp only
    rw [e3', e4]
    dsimp only
    rw [e5]
    dsimp only
    rw [e6])
  have hkb : (nm c == 101 && (nm ck == 1 || nm ck == 2)) = b0 := by rw [← kdB_nm, eb0]
  have by256 : ∀ c : UInt8, IntKind.i64.wrap (nm c) = nm c := fun c => wr64 (by unfold nm; omega) (by have := c.toNat_lt; unfold nm; omega)
  have wk := by256 ck
  have wf := by256 cf
  have wt := by256 ct
  have HB1 : Hid (∀ u, Ez u q p S1 → Calls Tryz.prog 50 #[.pointer (some ⟨p, 0, none⟩)] u fun r w' => r = .returned (.int .u8 (nm ck)) ∧ Te u w' q p S2) := hid (fun u hu => by
    have := ebyte_any q p S1 u hu
    rw [e2] at this
    exact this)
  have HB4 : Hid (∀ u, Ez u q p S4 → Calls Tryz.prog 50 #[.pointer (some ⟨p, 0, none⟩)] u fun r w' => r = .returned (.int .u8 (nm cf)) ∧ Te u w' q p S5) := hid (fun u hu => by
    have := ebyte_any q p S4 u hu
    rw [e5] at this
    exact this)
  have HB5 : Hid (∀ u, Ez u q p S5 → Calls Tryz.prog 50 #[.pointer (some ⟨p, 0, none⟩)] u fun r w' => r = .returned (.int .u8 (nm ct)) ∧ Te u w' q p S6) := hid (fun u hu => by
    have := ebyte_any q p S5 u hu
    rw [e6] at this
    exact this)
  rw [e1] at HC
  dsimp only at HC
  have HF8 : Hid (fuM 8 0 0 S3 = (sn, S4)) := hid e4
  have HS3 : Hid ((⟨S2.bs, S2.e, !b0⟩ : Rs) = S3) := hid eS3
  obtain ⟨D, eD⟩ : ∃ D, eDgM s = D := ⟨_, rfl⟩
  rw [eD] at HE ⊢
  obtain ⟨x, ex⟩ : ∃ x, nm c = x := ⟨_, rfl⟩
  obtain ⟨xk, exk⟩ : ∃ x, nm ck = x := ⟨_, rfl⟩
  obtain ⟨xf, exf⟩ : ∃ x, nm cf = x := ⟨_, rfl⟩
  obtain ⟨xt, ext⟩ : ∃ x, nm ct = x := ⟨_, rfl⟩
  rw [ex] at HC hkb
  rw [exk] at hkb HB1 wk
  rw [exf] at HB4 wf HE
  rw [ext] at HB5 wt HE
  have HXk : Hid (nm ck = xk) := hid exk
  have HKb := hid hkb
  clear e1 e2 e3' e4 e5 e6 eS3 eb0 hy2 hsy eD ex exk exf ext by256 hkb h h0 A0 B0 hO hlt hWs
  go_enter Tryz.func29, Tryz.ntmps29
  go_wp2_with fail
  refine HC.out.mono ?_
  rintro e w1 ⟨he, h1⟩
  rw [he]
  have A1 := Still.alloc w1 (.cells #[.int .i64 0, .int .u64 0, .int .i64 0, .int .i64 0, .int .i64 0, .int .i64 0, .slice none 0 0, .int .i64 0] 25)
  have b4 : Dgb (w1.alloc (.cells #[.int .i64 0, .int .u64 0, .int .i64 0, .int .i64 0, .int .i64 0, .int .i64 0, .slice none 0 0, .int .i64 0] 25)) w1.heap.size zD none 0 0 := newDg_b w1 zD none 0 0
  have C1 : CutE W (w1.alloc (.cells #[.int .i64 0, .int .u64 0, .int .i64 0, .int .i64 0, .int .i64 0, .int .i64 0, .slice none 0 0, .int .i64 0] 25)) q p S1 g2 w1.heap.size zD none 0 0 := ⟨h1.still A1, (h1.dgb HR2.out HB0.out).still A1, b4⟩
  have hg4 : W.heap.size ≤ w1.heap.size := h1.f.size
  have HH1 := hid (And.intro C1 hg4)
  clear he h1 A1 b4 C1 hg4 c0
  go_upto_region 3 with fail
  have C1 := HH1.out.1
  have hg4 := HH1.out.2
  clear HH1
  obtain ⟨W1, eW1⟩ : ∃ W, w1.alloc (.cells #[.int .i64 0, .int .u64 0, .int .i64 0, .int .i64 0, .int .i64 0, .int .i64 0, .slice none 0 0, .int .i64 0] 25) = W := ⟨_, rfl⟩
  obtain ⟨g4, eg4⟩ : ∃ g, w1.heap.size = g := ⟨_, rfl⟩
  rw [eW1, eg4] at C1
  rw [eW1, eg4]
  clear eW1
  rw [eg4] at hg4
  have HG4 := hid hg4
  have HRn : Hid (¬ RF q p g2 ∧ ¬ RF q p g4) := hid ⟨HR2.out, fun e => by have := HQw.out; have := HWs.out; have := HG2.out; rcases e with e | e <;> omega⟩
  have HPq : Hid ((q < W.heap.size ∧ p < W.heap.size) ∧ W.heap.size ≤ g4 ∧ g2 ≠ g4) := hid ⟨by have := HQw.out; have := HWs.out; have := HG2.out; omega, hg4, by have := HWs.out; omega⟩
  have HC1 := hid C1
  have d0 := C1.1.r.cells.1
  have HC := hid (HB1.out W1 C1.1.r)
  clear C1 hg4 HB1
  go_wp2_with fail
  refine HC.out.mono ?_
  rintro e w2 ⟨he, h2⟩
  rw [he]
  have HC2 := hid (HC1.out.to HRn.out h2)
  clear he h2 HC HC1 d0
  obtain ⟨d0, d1, df⟩ := HC2.out.1.r.cells
  go_upto_region 4 with fail
  go_cut [5] (fun v5 wx => v5 = .int .u8 xk ∧ wx = w2.setCell ⟨q, 1, none⟩ (.bool b0))
  case first =>
    cases j1 : (x == 101) with
    | true =>
      cases j2 : (xk == 1) with
      | true =>
        obtain rfl : b0 = true := by rw [← HKb.out, j1, j2]; rfl
        go_wp2_with fail
        go_meet
        exact ⟨rfl, rfl⟩
      | false =>
        cases j3 : (xk == 2) with
        | true =>
          obtain rfl : b0 = true := by rw [← HKb.out, j1, j2, j3]; rfl
          go_wp2_with fail
          go_meet
          exact ⟨rfl, by simp [j3]⟩
        | false =>
          obtain rfl : b0 = false := by rw [← HKb.out, j1, j2, j3]; rfl
          go_wp2_with fail
          go_meet
          exact ⟨rfl, by simp [j3]⟩
    | false =>
      obtain rfl : b0 = false := by rw [← HKb.out, j1]; rfl
      go_wp2_with fail
      go_meet
      exact ⟨rfl, rfl⟩
  case rest =>
    obtain ⟨rfl, rfl⟩ := hcut
    have C3 : CutE W (w2.setCell ⟨q, 1, none⟩ (.bool b0)) q p S3 g2 g4 zD none 0 0 := HC2.out.to HRn.out (by rw [← HS3.out]; exact HC2.out.1.r.put b0)
    obtain ⟨w3, e3⟩ : ∃ u, w2.setCell ⟨q, 1, none⟩ (.bool b0) = u := ⟨_, rfl⟩
    rw [e3] at C3 ⊢
    clear e3 d0 d1 df HC2
    obtain ⟨n0, n1, n2, n3, n4, n5, n6, n7, nf⟩ := C3.2.2.cells
    have C4 : CutE W (w3.setCell ⟨g4, 0, none⟩ (.int .i64 xk)) q p S3 g2 g4 ⟨xk, 0, 0, 0, 0, 0, [], 0⟩ none 0 0 := C3.put HPq.out (setF _ _ _ _) (dset0 C3.2.2 xk)
    have HC4 := hid C4
    clear C3 C4 n1 n2 n3 n4 n5 n6 n7
    go_upto_region 6 with fail
    obtain ⟨w4, e4⟩ : ∃ u, w3.setCell ⟨g4, 0, none⟩ (.int .i64 xk) = u := ⟨_, rfl⟩
    rw [e4] at HC4 ⊢
    clear e4 n0 nf
    go_wp2_with fail
    go_loopw [6, 7] (fun v6 v7 wr => ∃ (i acc : Nat) (S : Rs), i ≤ 8 ∧ v6 = .int .u64 (un8 i : Int) ∧ v7 = .int .i64 (i : Int) ∧ Hid (CutE W wr q p S g2 g4 ⟨xk, (acc : Int), 0, 0, 0, 0, [], 0⟩ none 0 0 ∧ fuM (8 - i) i acc S = (sn, S4) ∧ acc < 256 ^ i)) (fun _ v7 _ => 8 - (intOf v7).toNat)
    case atStart => exact ⟨0, 0, S3, by omega, rfl, rfl, hid ⟨HC4.out, HF8.out, by simp⟩⟩
    case round =>
      clear HC4
      obtain ⟨i, acc, S, hi, rfl, rfl, HL⟩ := hrel
      by_cases hin : i < 8
      · have hlt : (i : Int) < 8 := by omega
        have c0 := HL.out.1.1.r.cells.1
        have HC := hid (ebyte_any q p S wr HL.out.1.1.r)
        have HF : Hid (fuM (8 - (i + 1)) (i + 1) (acc + (byM S).1.toNat * 256 ^ i) (byM S).2 = (sn, S4)) := hid (by
          rw [← HL.out.2.1, show 8 - i = (8 - (i + 1)) + 1 by omega]
          rfl)
        obtain ⟨cb, S', ec⟩ : ∃ c T, byM S = (c, T) := ⟨_, _, rfl⟩
        rw [ec] at HC HF
        dsimp only at HC HF
        have hc8 := cb.toNat_lt
        unfold nm at HC
        obtain ⟨z, ez⟩ : ∃ z, cb.toNat = z := ⟨_, rfl⟩
        rw [ez] at HC HF hc8
        obtain ⟨hm, ha, hu, hac⟩ := ss_step hin (show z < 256 by omega) HL.out.2.2
        have hcv : IntKind.u64.wrap (z : Int) = (z : Int) := by rw [IntKind.wrap_u64]; omega
        obtain ⟨M, eM⟩ : ∃ M, z * 256 ^ i = M := ⟨_, rfl⟩
        rw [eM] at hm ha hac HF
        obtain ⟨A', eA⟩ : ∃ A', acc + M = A' := ⟨_, rfl⟩
        rw [eA] at ha hac HF
        obtain ⟨U, eU⟩ : ∃ U, un8 i = U := ⟨_, rfl⟩
        obtain ⟨U', eU'⟩ : ∃ U, un8 (i + 1) = U := ⟨_, rfl⟩
        rw [eU] at hm hu
        rw [eU'] at hu
        have HU' := hid eU'
        have HAc := hid hac
        rw [eU]
        clear ec ez eM eA eU eU' hac
        go_wp2_with fail
        refine HC.out.mono ?_
        rintro e wa ⟨he, h2⟩
        rw [he]
        have CA := HL.out.1.to HRn.out h2
        obtain ⟨n0, n1, n2, n3, n4, n5, n6, n7, nf⟩ := CA.2.2.cells
        dsimp only at n1
        have CB : CutE W (wa.setCell ⟨g4, 1, none⟩ (.int .u64 (A' : Int))) q p S' g2 g4 ⟨xk, (A' : Int), 0, 0, 0, 0, [], 0⟩ none 0 0 := CA.put HPq.out (setF _ _ _ _) (dset1 CA.2.2 (A' : Int))
        have HCB := hid CB
        clear he h2 HC c0 HL CA CB n0 n2 n3 n4 n5 n6 n7
        go_wp2_with fail
        go_roundw
        case rel => exact ⟨i + 1, A', S', by omega, by rw [HU'.out], by go_num, hid ⟨HCB.out, HF.out, HAc.out⟩⟩
        case measure => simp [intOf]; omega
      · obtain rfl : i = 8 := by omega
        have hge : ¬ ((8 : Nat) : Int) < 8 := by omega
        have k1 : fuM 0 8 acc S = (sn, S4) := HL.out.2.1
        have k2 : acc = sn ∧ S = S4 := by
          have : (acc, S) = (sn, S4) := k1
          exact ⟨congrArg Prod.fst this, congrArg Prod.snd this⟩
        obtain ⟨rfl, rfl⟩ := k2
        clear k1
        have HX := hid HL.out.1
        have c0 := HL.out.1.1.r.cells.1
        clear HL
        go_wp2_with fail
        refine (HB4.out _ HX.out.1.r).mono ?_
        rintro e w5 ⟨he, h5⟩
        rw [he]
        have HX5 := hid (HX.out.to HRn.out h5)
        clear he h5 HX c0
        have c0 := HX5.out.1.r.cells.1
        go_wp2_with fail
        refine (HB5.out _ HX5.out.1.r).mono ?_
        rintro e w6 ⟨he, h6⟩
        rw [he]
        have C6 := HX5.out.to HRn.out h6
        clear he h6 HX5 c0
        obtain ⟨n0, n1, n2, n3, n4, n5, n6, n7, nf⟩ := C6.2.2.cells
        have C6a : CutE W (w6.setCell ⟨g4, 2, none⟩ (.int .i64 xf)) q p S6 g2 g4 ⟨xk, (acc : Int), xf, 0, 0, 0, [], 0⟩ none 0 0 := C6.put HPq.out (setF _ _ _ _) (dset2 C6.2.2 xf)
        have C7 : CutE W ((w6.setCell ⟨g4, 2, none⟩ (.int .i64 xf)).setCell ⟨g4, 3, none⟩ (.int .i64 xt)) q p S6 g2 g4 ⟨xk, (acc : Int), xf, xt, 0, 0, [], 0⟩ none 0 0 := C6a.put HPq.out (setF _ _ _ _) (dset3 C6a.2.2 xt)
        have HC7 := hid C7
        clear C6 C6a C7 n0 n1 n4 n5 n6 n7
        go_upto_region 17 with fail
        obtain ⟨w7, e7⟩ : ∃ u, (w6.setCell ⟨g4, 2, none⟩ (.int .i64 xf)).setCell ⟨g4, 3, none⟩ (.int .i64 xt) = u := ⟨_, rfl⟩
        rw [e7] at HC7 ⊢
        clear e7 n2 n3 nf
        obtain ⟨n0, n1, n2, n3, n4, n5, n6, n7, nf⟩ := HC7.out.2.2.cells
        dsimp only at n0
        by_cases hk1 : (xk == 1) = true
        · obtain rfl : xk = 1 := by simpa using hk1
          have HE7 : Hid (D = (mB (eUpM 1099511627776) fun mk => mB (eUpM 1099511627776) fun fi => mB (eUpM 336) fun n => mB (eCsM mk xf fi n 0) fun l => mB (eUpM 1099511627776) fun ak => mR (⟨1, (acc : Int), xf, xt, mk, fi, l, ak⟩ : Dg)) S6) := hid (by rw [HE.out]; unfold eTlM; rw [if_pos HXk.out])
          obtain ⟨mk, T1, et1⟩ : ∃ a b, eUpM 1099511627776 S6 = (a, b) := ⟨_, _, rfl⟩
          obtain ⟨fi, T2, et2⟩ : ∃ a b, eUpM 1099511627776 T1 = (a, b) := ⟨_, _, rfl⟩
          obtain ⟨N, T3, et3⟩ : ∃ a b, eUpM 336 T2 = (a, b) := ⟨_, _, rfl⟩
          have hmk : mk ≤ 1099511627776 := by have := eUp_le 1099511627776 S6; rw [et1] at this; exact this
          have hfi : fi ≤ 1099511627776 := by have := eUp_le 1099511627776 T1; rw [et2] at this; exact this
          have hN : N ≤ 336 := by have := eUp_le 336 T2; rw [et3] at this; exact this
          have HE8 : Hid (D = (mB (eCsM mk xf fi N 0) fun l => mB (eUpM 1099511627776) fun ak => mR (⟨1, (acc : Int), xf, xt, mk, fi, l, ak⟩ : Dg)) T3) := hid (by
            rw [HE7.out]
            show (mB (eCsM (eUpM 1099511627776 S6).1 xf (eUpM 1099511627776 (eUpM 1099511627776 S6).2).1 (eUpM 336 (eUpM 1099511627776 (eUpM 1099511627776 S6).2).2).1 0) fun l => mB (eUpM 1099511627776) fun ak => mR (⟨1, (acc : Int), xf, xt, (eUpM 1099511627776 S6).1, (eUpM 1099511627776 (eUpM 1099511627776 S6).2).1, l, ak⟩ : Dg)) (eUpM 336 (eUpM 1099511627776 (eUpM 1099511627776 S6).2).2).2 = _
            rw [et1]
            dsimp only
            rw [et2]
            dsimp only
            rw [et3])
          have HU1 : Hid (∀ u, Ez u q p S6 → Calls Tryz.prog 51 #[.pointer (some ⟨q, 0, none⟩), .int .u64 1099511627776] u fun r w' => r = .returned (.int .i64 (mk : Int)) ∧ Te u w' q p T1) := hid (fun u hu => by
            have := eup_any q p S6 1099511627776 (by omega) u hu
            rw [et1] at this
            exact this)
          have HU2 : Hid (∀ u, Ez u q p T1 → Calls Tryz.prog 51 #[.pointer (some ⟨q, 0, none⟩), .int .u64 1099511627776] u fun r w' => r = .returned (.int .i64 (fi : Int)) ∧ Te u w' q p T2) := hid (fun u hu => by
            have := eup_any q p T1 1099511627776 (by omega) u hu
            rw [et2] at this
            exact this)
          have HU3 : Hid (∀ u, Ez u q p T2 → Calls Tryz.prog 51 #[.pointer (some ⟨q, 0, none⟩), .int .u64 336] u fun r w' => r = .returned (.int .i64 (N : Int)) ∧ Te u w' q p T3) := hid (fun u hu => by
            have := eup_any q p T2 336 (by omega) u hu
            rw [et3] at this
            exact this)
          clear et1 et2 et3 HE7 hk1 n1 n2 n3 n4 n5 n6 n7 nf
          go_upto_region 18 with fail
          clear n0
          go_wp2_with fail
          refine (HU1.out _ HC7.out.1.r).mono ?_
          rintro e w8 ⟨he, h8⟩
          rw [he]
          have C8 := HC7.out.to HRn.out h8
          obtain ⟨n0, n1, n2, n3, n4, n5, n6, n7, nf⟩ := C8.2.2.cells
          have C9 : CutE W (w8.setCell ⟨g4, 4, none⟩ (.int .i64 (mk : Int))) q p T1 g2 g4 ⟨1, (acc : Int), xf, xt, (mk : Int), 0, [], 0⟩ none 0 0 := C8.put HPq.out (setF _ _ _ _) (dset4 C8.2.2 (mk : Int))
          have HC9 := hid C9
          clear he h8 C8 C9 HC7 HU1 n0 n1 n2 n3 n5 n6 n7
          go_upto_region 20 with fail
          obtain ⟨w9, e9⟩ : ∃ u, w8.setCell ⟨g4, 4, none⟩ (.int .i64 (mk : Int)) = u := ⟨_, rfl⟩
          rw [e9] at HC9 ⊢
          clear e9 n4 nf
          go_wp2_with fail
          refine (HU2.out _ HC9.out.1.r).mono ?_
          rintro e wf1 ⟨he, h8⟩
          rw [he]
          have C8 := HC9.out.to HRn.out h8
          obtain ⟨n0, n1, n2, n3, n4, n5, n6, n7, nf⟩ := C8.2.2.cells
          have C10 : CutE W (wf1.setCell ⟨g4, 5, none⟩ (.int .i64 (fi : Int))) q p T2 g2 g4 ⟨1, (acc : Int), xf, xt, (mk : Int), (fi : Int), [], 0⟩ none 0 0 := C8.put HPq.out (setF _ _ _ _) (dset5 C8.2.2 (fi : Int))
          have HC10 := hid C10
          clear he h8 C8 C10 HC9 HU2 n0 n1 n2 n3 n4 n6 n7
          go_upto_region 21 with fail
          obtain ⟨wf2, e9⟩ : ∃ u, wf1.setCell ⟨g4, 5, none⟩ (.int .i64 (fi : Int)) = u := ⟨_, rfl⟩
          rw [e9] at HC10 ⊢
          clear e9 n5 nf
          go_wp2_with fail
          refine (HU3.out _ HC10.out.1.r).mono ?_
          rintro e wf3 ⟨he, h8⟩
          rw [he]
          have HC11 := hid (HC10.out.to HRn.out h8)
          clear he h8 HC10 HU3
          go_wp2_with fail
          go_loopw [13] (fun v13 wr => ∃ (i : Nat) (L : List Cc) (S : Rs) (co : Option Addr) (cp : Nat), i ≤ N ∧ v13 = .int .i64 (i : Int) ∧ Hid (CutE W wr q p S g2 g4 ⟨1, (acc : Int), xf, xt, (mk : Int), (fi : Int), L, 0⟩ co i cp ∧ OwG KCc 42 wr (g4 + 1) (.slice co i cp) L ∧ (L ++ (eCsM mk xf fi (N - i) i S).1, (eCsM mk xf fi (N - i) i S).2) = eCsM mk xf fi N 0 T3)) (fun v13 _ => N - (intOf v13).toNat)
          case atStart => exact ⟨0, [], T3, none, 0, Nat.zero_le _, rfl, hid ⟨HC11.out, OwG.nil _ _, rfl⟩⟩
          case round =>
            clear HC11
            obtain ⟨i, L, S, co, cp, hi, rfl, HL⟩ := hrel
            obtain ⟨c0, c1, cf⟩ := HL.out.1.1.r.cells
            by_cases hend : i < N ∧ S.y = false
            · have hlt : (i : Int) < (N : Int) := by omega
              rw [hend.2] at c1
              have hwr : wrap64 ((fi : Int) + (i : Int)) = (fi : Int) + (i : Int) := IntWalk.wrap64_in _ ⟨by omega, by omega⟩
              obtain ⟨n0, n1, n2, n3, n4, n5, n6, n7, nf⟩ := HL.out.1.2.2.cells
              dsimp only at n2 n4 n5 n6
              have HC := hid (ecm_any q p S (mk : Int) xf ((fi : Int) + (i : Int)) wr (fun u hu => HOT.out u ((Te.from HA.out HL.out.1.1).f.trans hu (fun _ _ h => h))) HL.out.1.1.r)
              have HSt : Hid (eCsM mk xf fi (N - i) i S = ((eCmM (mk : Int) xf ((fi : Int) + (i : Int)) S).1 :: (eCsM mk xf fi (N - (i + 1)) (i + 1) (eCmM (mk : Int) xf ((fi : Int) + (i : Int)) S).2).1, (eCsM mk xf fi (N - (i + 1)) (i + 1) (eCmM (mk : Int) xf ((fi : Int) + (i : Int)) S).2).2)) := hid (by
                rw [show N - i = (N - (i + 1)) + 1 by omega]
                show (if S.y = true then _ else _) = _
                rw [if_neg (by rw [hend.2]; decide)]
                rfl)
              obtain ⟨x', S', ex⟩ : ∃ a b, eCmM (mk : Int) xf ((fi : Int) + (i : Int)) S = (a, b) := ⟨_, _, rfl⟩
              rw [ex] at HC HSt
              dsimp only at HC HSt
              have HLl : Hid (L.length = i) := hid (by obtain ⟨_, _, e, _⟩ := HL.out.2.1.slice; cases e; rfl)
              clear ex n0 n1 n3 n7
              go_wp2_with fail
              refine HC.out.mono ?_
              rintro e wa ⟨he, ha⟩
              rw [he]
              have A14 := Still.alloc wa (.cells (kmc x') 42)
              have C14 := (HL.out.1.to HRn.out ha).still A14
              have O14 := (HL.out.2.1.keep ha.f (fun k hk e => by have := (HL.out.2.1.block e).1; have := HQw.out; have := HWs.out; have := HG2.out; have := HG4.out; rcases hk with hk | hk <;> omega)).still A14
              have b14 := newCc_b wa x'
              have HH := hid (And.intro C14 (And.intro O14 b14))
              have HJ := hid HL.out.2.2
              clear he ha A14 C14 O14 b14 HC HL c0 c1 cf n2 n4 n5 n6 nf
              go_upto_region 26 with fail
              obtain ⟨wb, eb⟩ : ∃ u, newCc wa x' = u := ⟨_, rfl⟩
              obtain ⟨g14, eg14⟩ : ∃ g, wa.heap.size = g := ⟨_, rfl⟩
              have C14 : CutE W wb q p S' g2 g4 ⟨1, (acc : Int), xf, xt, (mk : Int), (fi : Int), L, 0⟩ co i cp := by rw [← eb]; exact HH.out.1
              have O14 : OwG KCc 42 wb (g4 + 1) (.slice co i cp) L := by rw [← eb]; exact HH.out.2.1
              have b14 : Ccb wb g14 x' := by rw [← eb, ← eg14]; exact HH.out.2.2
              change newCc wa x' = wb at eb
              unfold newCc at eb
              rw [eb, eg14]
              clear HH eb eg14
              obtain ⟨k0, k1, k2, k3, k4, k5, k6, kf⟩ := b14.cells
              obtain ⟨n0, n1, n2, n3, n4, n5, n6, n7, nf⟩ := C14.2.2.cells
              have A15 := Still.alloc wb (.cells (kmc x') 42)
              have HC15 := hid (C14.still A15)
              have HO15 := hid (O14.still A15)
              have HX15 : Hid ((wb.alloc (.cells (kmc x') 42)).heap[wb.heap.size]? = some (.cells (kmc x') 42 (0, 0))) := hid (heap_alloc_new wb _)
              have HB15 : Hid (g4 + 1 ≤ (wb.alloc (.cells (kmc x') 42)).heap.size) := hid (by rw [size_alloc]; have := block_lt C14.2.2; omega)
              clear C14 O14 b14 A15 n0 n1 n2 n3 n4 n5 n7
              go_wp2_with (at_builtin; refine wpList_appH KCc _ rfl _ _ 23 rfl Tryz.underlying23 56 infoCc (g4 + 1) wb.heap.size _ L x' rfl rfl HO15.out HX15.out (by rw [HLl.out]; omega) (by rw [HLl.out]; omega) HB15.out ?_; intro v' w' ho' hf'; obtain ⟨ao', cap', ev', _⟩ := ho'.slice; rw [List.length_append, HLl.out, List.length_singleton] at ev'; subst ev'; have CW := HC15.out.app HO15.out HPq.out (by have := HWs.out; omega) hf'; have HCW := hid CW; have HOW := hid ho'; obtain ⟨z0, z1, z2, z3, z4, z5, z6, z7, zf⟩ := CW.2.2.cells; clear CW ho' hf' z0 z1 z2 z3 z4 z5 z7)
              go_roundw
              case rel => exact ⟨i + 1, L ++ [x'], S', ao', cap', by omega, by go_num, hid ⟨HCW.out.put HPq.out (setF _ _ _ _) (dset6 HCW.out.2.2 (L ++ [x']) ao' (i + 1) cap'), HOW.out.keep (setF _ g4 6 _) (fun k hk e => by have := (HOW.out.block e).1; have hk' : k = g4 := hk; omega), by rw [← HJ.out, HSt.out]; simp⟩⟩
              case measure => simp [intOf]; omega
            · have HEnd : Hid (eCsM mk xf fi N 0 T3 = (L, S)) := hid (by
                have k1 : eCsM mk xf fi (N - i) i S = ([], S) := by
                  by_cases k : i < N
                  · have hy : S.y = true := by
                      cases hy : S.y with
                      | true => rfl
                      | false => exact absurd ⟨k, hy⟩ hend
                    rw [show N - i = (N - (i + 1)) + 1 by omega]
                    show (if S.y = true then _ else _) = _
                    rw [if_pos hy]
                  · rw [show N - i = 0 by omega]; rfl
                have := HL.out.2.2
                rw [k1] at this
                rw [← this]; simp)
              have HCq := hid HL.out.1
              have HOq := hid HL.out.2.1
              obtain ⟨Sq, eSq⟩ : ∃ T, S = T := ⟨_, rfl⟩
              by_cases hlt : i < N
              · have hlt' : (i : Int) < (N : Int) := by omega
                have hy : S.y = true := by
                  cases hy : S.y with
                  | true => rfl
                  | false => exact absurd ⟨hlt, hy⟩ hend
                rw [hy] at c1
                rw [eSq] at HCq HEnd
                clear hy eSq HL hend
                go_upto_region 27 with fail
                clear c0 c1 cf
                have HC := hid (eup_any q p Sq 1099511627776 (by omega) _ HCq.out.1.r)
                obtain ⟨ak, Sa, eak⟩ : ∃ a b, eUpM 1099511627776 Sq = (a, b) := ⟨_, _, rfl⟩
                rw [eak] at HC
                dsimp only at HC
                have HAk := hid eak
                clear eak
                go_wp2_with fail
                refine HC.out.mono ?_
                rintro e wa ⟨he, ha⟩
                rw [he]
                have CA := HCq.out.to HRn.out ha
                have OA := HOq.out.keep ha.f (fun k hk e => by have := (HOq.out.block e).1; have := HQw.out; have := HWs.out; have := HG2.out; have := HG4.out; rcases hk with hk | hk <;> omega)
                obtain ⟨n0, n1, n2, n3, n4, n5, n6, n7, nf⟩ := CA.2.2.cells
                have CB : CutE W (wa.setCell ⟨g4, 7, none⟩ (.int .i64 (ak : Int))) q p Sa g2 g4 ⟨1, (acc : Int), xf, xt, (mk : Int), (fi : Int), L, (ak : Int)⟩ co i cp := CA.put HPq.out (setF _ _ _ _) (dset7 CA.2.2 (ak : Int))
                have OB := OA.keep (setF wa g4 7 (.int .i64 (ak : Int))) (fun k hk e => by have := (OA.block e).1; have hk' : k = g4 := hk; omega)
                have HCB := hid (And.intro CB OB)
                clear he ha CA OA CB OB HC n0 n1 n2 n3 n4 n5 n6
                go_upto_region 28 with fail
                obtain ⟨wb, eb⟩ : ∃ u, wa.setCell ⟨g4, 7, none⟩ (.int .i64 (ak : Int)) = u := ⟨_, rfl⟩
                rw [eb] at HCB ⊢
                clear eb n7 nf
                have c0 := HCB.out.1.1.r.cells.1
                have HC := hid (edone_any q p Sa wb HCB.out.1.1.r)
                have HDo : Hid (doB Sa = decide ((if Sa.e = 0 ∧ 0 < Sa.bs.length then (23 : Int) else Sa.e) = 0)) := hid rfl
                obtain ⟨F, eF⟩ : ∃ F, (if Sa.e = 0 ∧ 0 < Sa.bs.length then (23 : Int) else Sa.e) = F := ⟨_, rfl⟩
                rw [eF] at HC HDo
                clear eF
                go_wp2_with fail
                refine HC.out.mono ?_
                rintro e wd ⟨he, hd⟩
                rw [he]
                have HCD := hid (And.intro (HCB.out.1.still hd) (HCB.out.2.still hd))
                clear he hd HC HCB c0
                obtain ⟨c0, c1, cf⟩ := HCD.out.1.1.r.cells
                obtain ⟨nb, enb⟩ : ∃ b, (!Sa.y && doB Sa) = b := ⟨_, rfl⟩
                have HNb := hid enb
                clear enb
                go_upto_region 29 with fail
                go_cut [15] (fun v15 wx => v15 = .int .i64 F ∧ wx = wd.setCell ⟨q, 1, none⟩ (.bool nb))
                case first =>
                  cases j1 : Sa.y with
                  | true =>
                    obtain rfl : nb = false := by rw [← HNb.out, j1]; rfl
                    rw [j1] at c1
                    go_wp2_with fail
                    go_meet
                    exact ⟨rfl, rfl⟩
                  | false =>
                    rw [j1] at c1
                    cases j2 : (F == 0) with
                    | true =>
                      obtain rfl : nb = true := by rw [← HNb.out, j1, HDo.out]; simpa using j2
                      go_wp2_with fail
                      go_meet
                      exact ⟨rfl, by simp [j2]⟩
                    | false =>
                      obtain rfl : nb = false := by rw [← HNb.out, j1, HDo.out]; simpa using j2
                      go_wp2_with fail
                      go_meet
                      exact ⟨rfl, by simp [j2]⟩
                case rest =>
                  obtain ⟨rfl, rfl⟩ := hcut
                  have hp := HCD.out.1.1.r.put nb
                  have CE := HCD.out.1.to HRn.out hp
                  have OE := HCD.out.2.keep hp.f (fun k hk e => by have := (HCD.out.2.block e).1; have := HQw.out; have := HWs.out; have := HG2.out; have := HG4.out; rcases hk with hk | hk <;> omega)
                  obtain ⟨we, ee⟩ : ∃ u, wd.setCell ⟨q, 1, none⟩ (.bool nb) = u := ⟨_, rfl⟩
                  rw [ee] at CE OE ⊢
                  clear ee hp c0 c1 cf
                  obtain ⟨n0, n1, n2, n3, n4, n5, n6, n7, nf⟩ := CE.2.2.cells
                  obtain ⟨m0, m1, m2, m3, m4, m5, m6, m7, mf⟩ := CE.2.1.cells
                  have hfz := setDg_fr (Fr.refl (fun k => k = g2) we) g2 ⟨1, (acc : Int), xf, xt, (mk : Int), (fi : Int), L, (ak : Int)⟩ co i cp (.inl rfl)
                  have HZ := hid (And.intro (CE.2.1.set ⟨1, (acc : Int), xf, xt, (mk : Int), (fi : Int), L, (ak : Int)⟩ co i cp) (And.intro (OE.keep hfz (fun k hk e => by have := (OE.block e).1; have hk' : k = g2 := hk; have := HWs.out; have := HG4.out; omega)) ((Te.from HA.out CE.1).other CE.2.1 (by decide) HQw.out (by have := HG2.out; omega) hfz)))
                  have HYn : Hid ((⟨Sa.bs, Sa.e, !nb⟩ : Rs) = ⟨Sa.bs, Sa.e, Sa.y || !doB Sa⟩) := hid (by rw [← HNb.out]; cases Sa.y <;> cases doB Sa <;> rfl)
                  clear CE OE hfz
                  go_wp2_with fail
                  have hD : D = (⟨1, (acc : Int), xf, xt, (mk : Int), (fi : Int), L, (ak : Int)⟩, Sa) := by
                    rw [HE8.out]
                    show ((⟨1, (acc : Int), xf, xt, mk, fi, (eCsM mk xf fi N 0 T3).1, ((eUpM 1099511627776 (eCsM mk xf fi N 0 T3).2).1 : Int)⟩ : Dg), (eUpM 1099511627776 (eCsM mk xf fi N 0 T3).2).2) = _
                    rw [HEnd.out]
                    dsimp only
                    rw [HAk.out]
                  subst hD
                  exact bodyPost_ret (HZ.out.1.res rfl _ rfl) rfl ⟨_, _, _, rfl, HZ.out.2.1.less (by have := HWs.out; have := HG4.out; have := HG2.out; omega), by rw [← HYn.out]; exact HZ.out.2.2⟩
              · have hge : ¬ (i : Int) < (N : Int) := by omega
                rw [eSq] at HCq HEnd
                clear eSq HL hend
                go_upto_region 27 with fail
                clear c0 c1 cf
                have HC := hid (eup_any q p Sq 1099511627776 (by omega) _ HCq.out.1.r)
                obtain ⟨ak, Sa, eak⟩ : ∃ a b, eUpM 1099511627776 Sq = (a, b) := ⟨_, _, rfl⟩
                rw [eak] at HC
                dsimp only at HC
                have HAk := hid eak
                clear eak
                go_wp2_with fail
                refine HC.out.mono ?_
                rintro e wa ⟨he, ha⟩
                rw [he]
                have CA := HCq.out.to HRn.out ha
                have OA := HOq.out.keep ha.f (fun k hk e => by have := (HOq.out.block e).1; have := HQw.out; have := HWs.out; have := HG2.out; have := HG4.out; rcases hk with hk | hk <;> omega)
                obtain ⟨n0, n1, n2, n3, n4, n5, n6, n7, nf⟩ := CA.2.2.cells
                have CB : CutE W (wa.setCell ⟨g4, 7, none⟩ (.int .i64 (ak : Int))) q p Sa g2 g4 ⟨1, (acc : Int), xf, xt, (mk : Int), (fi : Int), L, (ak : Int)⟩ co i cp := CA.put HPq.out (setF _ _ _ _) (dset7 CA.2.2 (ak : Int))
                have OB := OA.keep (setF wa g4 7 (.int .i64 (ak : Int))) (fun k hk e => by have := (OA.block e).1; have hk' : k = g4 := hk; omega)
                have HCB := hid (And.intro CB OB)
                clear he ha CA OA CB OB HC n0 n1 n2 n3 n4 n5 n6
                go_upto_region 28 with fail
                obtain ⟨wb, eb⟩ : ∃ u, wa.setCell ⟨g4, 7, none⟩ (.int .i64 (ak : Int)) = u := ⟨_, rfl⟩
                rw [eb] at HCB ⊢
                clear eb n7 nf
                have c0 := HCB.out.1.1.r.cells.1
                have HC := hid (edone_any q p Sa wb HCB.out.1.1.r)
                have HDo : Hid (doB Sa = decide ((if Sa.e = 0 ∧ 0 < Sa.bs.length then (23 : Int) else Sa.e) = 0)) := hid rfl
                obtain ⟨F, eF⟩ : ∃ F, (if Sa.e = 0 ∧ 0 < Sa.bs.length then (23 : Int) else Sa.e) = F := ⟨_, rfl⟩
                rw [eF] at HC HDo
                clear eF
                go_wp2_with fail
                refine HC.out.mono ?_
                rintro e wd ⟨he, hd⟩
                rw [he]
                have HCD := hid (And.intro (HCB.out.1.still hd) (HCB.out.2.still hd))
                clear he hd HC HCB c0
                obtain ⟨c0, c1, cf⟩ := HCD.out.1.1.r.cells
                obtain ⟨nb, enb⟩ : ∃ b, (!Sa.y && doB Sa) = b := ⟨_, rfl⟩
                have HNb := hid enb
                clear enb
                go_upto_region 29 with fail
                go_cut [15] (fun v15 wx => v15 = .int .i64 F ∧ wx = wd.setCell ⟨q, 1, none⟩ (.bool nb))
                case first =>
                  cases j1 : Sa.y with
                  | true =>
                    obtain rfl : nb = false := by rw [← HNb.out, j1]; rfl
                    rw [j1] at c1
                    go_wp2_with fail
                    go_meet
                    exact ⟨rfl, rfl⟩
                  | false =>
                    rw [j1] at c1
                    cases j2 : (F == 0) with
                    | true =>
                      obtain rfl : nb = true := by rw [← HNb.out, j1, HDo.out]; simpa using j2
                      go_wp2_with fail
                      go_meet
                      exact ⟨rfl, by simp [j2]⟩
                    | false =>
                      obtain rfl : nb = false := by rw [← HNb.out, j1, HDo.out]; simpa using j2
                      go_wp2_with fail
                      go_meet
                      exact ⟨rfl, by simp [j2]⟩
                case rest =>
                  obtain ⟨rfl, rfl⟩ := hcut
                  have hp := HCD.out.1.1.r.put nb
                  have CE := HCD.out.1.to HRn.out hp
                  have OE := HCD.out.2.keep hp.f (fun k hk e => by have := (HCD.out.2.block e).1; have := HQw.out; have := HWs.out; have := HG2.out; have := HG4.out; rcases hk with hk | hk <;> omega)
                  obtain ⟨we, ee⟩ : ∃ u, wd.setCell ⟨q, 1, none⟩ (.bool nb) = u := ⟨_, rfl⟩
                  rw [ee] at CE OE ⊢
                  clear ee hp c0 c1 cf
                  obtain ⟨n0, n1, n2, n3, n4, n5, n6, n7, nf⟩ := CE.2.2.cells
                  obtain ⟨m0, m1, m2, m3, m4, m5, m6, m7, mf⟩ := CE.2.1.cells
                  have hfz := setDg_fr (Fr.refl (fun k => k = g2) we) g2 ⟨1, (acc : Int), xf, xt, (mk : Int), (fi : Int), L, (ak : Int)⟩ co i cp (.inl rfl)
                  have HZ := hid (And.intro (CE.2.1.set ⟨1, (acc : Int), xf, xt, (mk : Int), (fi : Int), L, (ak : Int)⟩ co i cp) (And.intro (OE.keep hfz (fun k hk e => by have := (OE.block e).1; have hk' : k = g2 := hk; have := HWs.out; have := HG4.out; omega)) ((Te.from HA.out CE.1).other CE.2.1 (by decide) HQw.out (by have := HG2.out; omega) hfz)))
                  have HYn : Hid ((⟨Sa.bs, Sa.e, !nb⟩ : Rs) = ⟨Sa.bs, Sa.e, Sa.y || !doB Sa⟩) := hid (by rw [← HNb.out]; cases Sa.y <;> cases doB Sa <;> rfl)
                  clear CE OE hfz
                  go_wp2_with fail
                  have hD : D = (⟨1, (acc : Int), xf, xt, (mk : Int), (fi : Int), L, (ak : Int)⟩, Sa) := by
                    rw [HE8.out]
                    show ((⟨1, (acc : Int), xf, xt, mk, fi, (eCsM mk xf fi N 0 T3).1, ((eUpM 1099511627776 (eCsM mk xf fi N 0 T3).2).1 : Int)⟩ : Dg), (eUpM 1099511627776 (eCsM mk xf fi N 0 T3).2).2) = _
                    rw [HEnd.out]
                    dsimp only
                    rw [HAk.out]
                  subst hD
                  exact bodyPost_ret (HZ.out.1.res rfl _ rfl) rfl ⟨_, _, _, rfl, HZ.out.2.1.less (by have := HWs.out; have := HG4.out; have := HG2.out; omega), by rw [← HYn.out]; exact HZ.out.2.2⟩
        · have hk1' : (xk == 1) = false := by simpa using hk1
          have HO7 : Hid (OwG KCc 42 w7 (g4 + 1) (.slice none 0 0) []) := hid (OwG.nil _ _)
          obtain ⟨Sq, eSq⟩ : ∃ S, S6 = S := ⟨_, rfl⟩
          rw [eSq] at HC7 HE
          clear eSq hk1 n1 n2 n3 n4 n5 n6 n7 nf
          go_upto_region 27 with fail
          clear n0
          have HC := hid (eup_any q p Sq 1099511627776 (by omega) _ HC7.out.1.r)
          obtain ⟨ak, Sa, eak⟩ : ∃ a b, eUpM 1099511627776 Sq = (a, b) := ⟨_, _, rfl⟩
          rw [eak] at HC
          dsimp only at HC
          have HAk := hid eak
          clear eak
          go_wp2_with fail
          refine HC.out.mono ?_
          rintro e wa ⟨he, ha⟩
          rw [he]
          have CA := HC7.out.to HRn.out ha
          have OA := HO7.out.keep ha.f (fun k hk e => by have := (HO7.out.block e).1; have := HQw.out; have := HWs.out; have := HG2.out; have := HG4.out; rcases hk with hk | hk <;> omega)
          obtain ⟨n0, n1, n2, n3, n4, n5, n6, n7, nf⟩ := CA.2.2.cells
          have CB : CutE W (wa.setCell ⟨g4, 7, none⟩ (.int .i64 (ak : Int))) q p Sa g2 g4 ⟨xk, (acc : Int), xf, xt, 0, 0, [], (ak : Int)⟩ none 0 0 := CA.put HPq.out (setF _ _ _ _) (dset7 CA.2.2 (ak : Int))
          have OB := OA.keep (setF wa g4 7 (.int .i64 (ak : Int))) (fun k hk e => by have := (OA.block e).1; have hk' : k = g4 := hk; omega)
          have HCB := hid (And.intro CB OB)
          clear he ha CA OA CB OB HC n0 n1 n2 n3 n4 n5 n6
          go_upto_region 28 with fail
          obtain ⟨wb, eb⟩ : ∃ u, wa.setCell ⟨g4, 7, none⟩ (.int .i64 (ak : Int)) = u := ⟨_, rfl⟩
          rw [eb] at HCB ⊢
          clear eb n7 nf
          have c0 := HCB.out.1.1.r.cells.1
          have HC := hid (edone_any q p Sa wb HCB.out.1.1.r)
          have HDo : Hid (doB Sa = decide ((if Sa.e = 0 ∧ 0 < Sa.bs.length then (23 : Int) else Sa.e) = 0)) := hid rfl
          obtain ⟨F, eF⟩ : ∃ F, (if Sa.e = 0 ∧ 0 < Sa.bs.length then (23 : Int) else Sa.e) = F := ⟨_, rfl⟩
          rw [eF] at HC HDo
          clear eF
          go_wp2_with fail
          refine HC.out.mono ?_
          rintro e wd ⟨he, hd⟩
          rw [he]
          have HCD := hid (And.intro (HCB.out.1.still hd) (HCB.out.2.still hd))
          clear he hd HC HCB c0
          obtain ⟨c0, c1, cf⟩ := HCD.out.1.1.r.cells
          obtain ⟨nb, enb⟩ : ∃ b, (!Sa.y && doB Sa) = b := ⟨_, rfl⟩
          have HNb := hid enb
          clear enb
          go_upto_region 29 with fail
          go_cut [15] (fun v15 wx => v15 = .int .i64 F ∧ wx = wd.setCell ⟨q, 1, none⟩ (.bool nb))
          case first =>
            cases j1 : Sa.y with
            | true =>
              obtain rfl : nb = false := by rw [← HNb.out, j1]; rfl
              rw [j1] at c1
              go_wp2_with fail
              go_meet
              exact ⟨rfl, rfl⟩
            | false =>
              rw [j1] at c1
              cases j2 : (F == 0) with
              | true =>
                obtain rfl : nb = true := by rw [← HNb.out, j1, HDo.out]; simpa using j2
                go_wp2_with fail
                go_meet
                exact ⟨rfl, by simp [j2]⟩
              | false =>
                obtain rfl : nb = false := by rw [← HNb.out, j1, HDo.out]; simpa using j2
                go_wp2_with fail
                go_meet
                exact ⟨rfl, by simp [j2]⟩
          case rest =>
            obtain ⟨rfl, rfl⟩ := hcut
            have hp := HCD.out.1.1.r.put nb
            have CE := HCD.out.1.to HRn.out hp
            have OE := HCD.out.2.keep hp.f (fun k hk e => by have := (HCD.out.2.block e).1; have := HQw.out; have := HWs.out; have := HG2.out; have := HG4.out; rcases hk with hk | hk <;> omega)
            obtain ⟨we, ee⟩ : ∃ u, wd.setCell ⟨q, 1, none⟩ (.bool nb) = u := ⟨_, rfl⟩
            rw [ee] at CE OE ⊢
            clear ee hp c0 c1 cf
            obtain ⟨n0, n1, n2, n3, n4, n5, n6, n7, nf⟩ := CE.2.2.cells
            obtain ⟨m0, m1, m2, m3, m4, m5, m6, m7, mf⟩ := CE.2.1.cells
            have hfz := setDg_fr (Fr.refl (fun k => k = g2) we) g2 ⟨xk, (acc : Int), xf, xt, 0, 0, [], (ak : Int)⟩ none 0 0 (.inl rfl)
            have HZ := hid (And.intro (CE.2.1.set ⟨xk, (acc : Int), xf, xt, 0, 0, [], (ak : Int)⟩ none 0 0) (And.intro (OE.keep hfz (fun k hk e => by have := (OE.block e).1; have hk' : k = g2 := hk; have := HWs.out; have := HG4.out; omega)) ((Te.from HA.out CE.1).other CE.2.1 (by decide) HQw.out (by have := HG2.out; omega) hfz)))
            have HYn : Hid ((⟨Sa.bs, Sa.e, !nb⟩ : Rs) = ⟨Sa.bs, Sa.e, Sa.y || !doB Sa⟩) := hid (by rw [← HNb.out]; cases Sa.y <;> cases doB Sa <;> rfl)
            clear CE OE hfz
            go_wp2_with fail
            have hD : D = (⟨xk, (acc : Int), xf, xt, 0, 0, [], (ak : Int)⟩, Sa) := by
              rw [HE.out]
              unfold eTlM
              rw [if_neg (by rw [HXk.out]; simpa using hk1'), HXk.out]
              show ((⟨xk, (acc : Int), xf, xt, 0, 0, [], ((eUpM 1099511627776 Sq).1 : Int)⟩ : Dg), (eUpM 1099511627776 Sq).2) = _
              rw [HAk.out]
            subst hD
            exact bodyPost_ret (HZ.out.1.res rfl _ rfl) rfl ⟨_, _, _, rfl, HZ.out.2.1.less (by have := HWs.out; have := HG4.out; have := HG2.out; omega), by rw [← HYn.out]; exact HZ.out.2.2⟩
end Go.Proofs.YtaaongbdincimaaGreatDoor
