/- The program's entries: what is ranged over. -/
import Derived.Test.YtdmgalaajgebkaaMgc
namespace Go.Proofs.Ytdmgalaajgebkaa
open Go Go.RowKit
set_option maxRecDepth 100000
attribute [local go_sem] Oper.semAt_some

def gbk (v : Value) : Nat := v.ownBlock.getD 0
/-- where the k-th entry lies -/
def encL (vs : Nat → Value) (S : List En) (k : Nat) : Value := .pointer (some ⟨gbk (vs ((att S k).fr % 112).toNat), (k - lowN (att S k).fr S) * 8, none⟩)
theorem encL_at {s : Lgs} (h : Lo s) {vs : Nat → Value} {f : Int} {i j g n cap : Nat} (hi : f % 112 = (i : Int)) (hv : vs i = .slice (some ⟨g, 0, none⟩) n cap) (hj : j < (onF f s.S).length) : encL vs s.S (lowN f s.S + j) = .pointer (some ⟨g, j * 8, none⟩) := by
  unfold encL
  rw [att_on h.srt f hj, on_fr hj, hi, Int.toNat_natCast, hv]
  simp [gbk, Value.ownBlock]
/-- what a round must keep: the log's block -/
def KpL (p : Nat) (W W' : World) : Prop := ∀ o, W.heap[p]? = some o → W'.heap[p]? = some o
theorem kpL_t {p : Nat} {X Y Z : World} (h : KpL p X Y) (k : KpL p Y Z) : KpL p X Z := fun o ho => k o (h o ho)
theorem kpL_b {p B : Nat} (hp : p < B) (W : World) (l : Nat) (o o' : Obj) (hl : B ≤ l) (_ : W.heap[l]? = some o) (_ : o.isCells = false) (_ : o.isWalk = false) : KpL p W (W.putObj l o') :=
  fun x hx => (World.putObj_heap_other (by omega)).trans hx
theorem kpL_still {p : Nat} {W W' : World} (h : Still W W') : KpL p W W' := fun o ho => by
  exact (h.block p (Array.getElem?_eq_some_iff.1 ho).1 (fun e => e)).trans ho
theorem cm_last0 (s : Lgs) (p : Nat) (vs : Nat → Value) (hb : 0 ≤ s.ba ∧ s.ba ≤ 1099511627776) (w : World) (h : w.heap[p]? = some (.cells (lcs s vs) lgT (0, 0))) : Calls Try.prog 44 #[.pointer (some ⟨p, 0, none⟩)] w fun e w' => e = .returned (.int .i64 (s.ba + 112)) ∧ w' = w := by
  have c0 : w.cell? ⟨p, 2, none⟩ = some (.int .i64 s.ba) := by rw [cell_of_row _ _ _ _ _ _ h, lcs_2]
  obtain ⟨hb1, hb2⟩ := hb
  obtain ⟨z, ez⟩ : ∃ z, s.ba = z := ⟨_, rfl⟩
  rw [ez] at c0 hb1 hb2 ⊢
  have hw : IntKind.i64.wrap (z + 112) = z + 112 := by rw [IntKind.wrap_i64]; omega
  clear h ez
  go_enter Try.func44, Try.ntmps44
  go_wp2_with fail
  go_ret
  exact ⟨rfl, rfl⟩
set_option maxHeartbeats 2000000 in
theorem cm_entries (s : Lgs) (B p : Nat) (vs : Nat → Value) (w : World) (h : Lm w B p s vs) : SeqN Try.prog 34 #[.pointer (some ⟨p, 0, none⟩)] (encL vs s.S) (KpL p) s.S.length w := by
  intro l J Jx W hW hJ hJx hY h0
  have hbW : W.heap[p]? = some (.cells (lcs s vs) lgT (0, 0)) := (hW.block p h.lt).trans h.bk
  have HL := hid h
  have HJ := hid hJ
  have HY := hid hY
  have HLast := hid (fun W' h' => cm_last0 s p vs h.ok.b W' h')
  have hc0 : W.cell? ⟨p, 2, none⟩ = some (.int .i64 s.ba) := by rw [cell_of_row _ _ _ _ _ _ hbW, lcs_2]
  obtain ⟨hb1, hb2⟩ := h.ok.b
  have HF : Hid (J (lowN (s.ba + 1) s.S) W) := hid (by rw [lowN_first h.ok]; exact h0)
  have HEnd := hid (lowN_last h.ok)
  obtain ⟨b, eb⟩ : ∃ b, s.ba = b := ⟨_, rfl⟩
  have HEb := hid eb
  rw [eb] at HLast hc0 hb1 hb2 HF HEnd
  have hw0 : IntKind.i64.wrap (b + 1) = b + 1 := by rw [IntKind.wrap_i64]; omega
  have HBK := hid hbW
  clear h hJ hJx hY h0 hW eb hbW
  refine callsIn_of_wp Try.func34 rfl trivial ?_ rfl
  simp only [Try.ntmps34, List.size_toArray, List.length_cons, List.length_nil, Nat.reduceAdd, Nat.reduceSub, Array.replicate_succ, Array.replicate_zero, List.push_toArray, List.append_toArray, List.nil_append, List.cons_append]
  gi_wp2_with fail
  clear hc0 hw0
  gi_loopw [4] (fun u wr => ∃ j : Nat, j ≤ 112 ∧ u = .int .i64 (b + 1 + (j : Int)) ∧ Hid (J (lowN (b + 1 + (j : Int)) s.S) wr ∧ wr.heap[p]? = some (.cells (lcs s vs) lgT (0, 0)))) (fun u _ => (b + 114 - intOf u).toNat)
  case atStart => exact ⟨0, by omega, by simp, hid ⟨by simpa using HF.out, HBK.out⟩⟩
  case round =>
    obtain ⟨j, hj, rfl, HJ1⟩ := hrel
    obtain ⟨f, ef⟩ : ∃ f, b + 1 + (j : Int) = f := ⟨_, rfl⟩
    rw [ef] at HJ1 ⊢
    have HC := hid (HLast.out wr HJ1.out.2)
    obtain ⟨y, ey⟩ : ∃ y, b + 112 = y := ⟨_, rfl⟩
    rw [ey] at HC
    by_cases hjn : j < 112
    · have hfy : f ≤ y := by omega
      obtain ⟨i, ao, cap, hi, hfi, hv, ho, _⟩ := HL.out.row (f := f) (by have := HEb.out; omega)
      have hci : wr.cell? ⟨p, 3 + i, none⟩ = some (.slice ao (onF f s.S).length cap) := by rw [cell_of_row _ _ _ _ _ _ HJ1.out.2, lcs_at _ _ hi, hv]
      have HA := hid (cm_at p (onF f s.S).length cap i ao f (by omega) hfi wr hci)
      have HAO : Hid (0 < (onF f s.S).length → ∃ g, ao = some ⟨g, 0, none⟩) := hid (fun h0 => by
        obtain ⟨g, cap', e', _⟩ := ho.head h0
        injection e' with e1
        exact ⟨g, e1⟩)
      have HN := hid (lowN_next f s.S)
      have HE := hid (fun g j (e : ao = some ⟨g, 0, none⟩) (hj : j < (onF f s.S).length) => encL_at HL.out.ok (vs := vs) (i := i) (j := j) (g := g) (n := (onF f s.S).length) (cap := cap) hfi (by rw [hv, e]) hj)
      have hle : lowN f s.S + (onF f s.S).length ≤ s.S.length := by rw [← lowN_next]; exact lowN_le _ _
      have hn18 := on_len HL.out.ok f
      obtain ⟨m, em⟩ : ∃ m, lowN f s.S = m := ⟨_, rfl⟩
      obtain ⟨n, en⟩ : ∃ n, (onF f s.S).length = n := ⟨_, rfl⟩
      have hw1 : IntKind.i64.wrap (f + 1) = f + 1 := by rw [IntKind.wrap_i64]; omega
      rw [em] at HN HE hle HJ1
      rw [en] at HN HE hle HA HAO hn18
      have HM := hid em
      have HJ112 : Hid (j + 1 ≤ 112) := hid (by omega)
      have HFj : Hid (b + 1 + ((j + 1 : Nat) : Int) = f + 1) := hid (by omega)
      have HMs : Hid ((b + 114 - (f + 1)).toNat < (b + 114 - f).toNat) := hid (by omega)
      clear ef ey em en ho hci hv hfi hjn HLast
      have Hle := hid hle
      clear hle
      gi_wp2_with fail
      refine ⟨trivial, rfl, (callsIn_wide.2 HC.out).mono ?_⟩
      rintro e w1 ⟨he, hw⟩
      rw [he, hw]
      clear he hw w1 HC
      gi_wp2_with fail
      refine ⟨trivial, rfl, (callsIn_wide.2 HA.out).mono ?_⟩
      rintro e w1 ⟨he, hs1⟩
      rw [he]
      have HJ2 : Hid (J m w1 ∧ w1.heap[p]? = some (.cells (lcs s vs) lgT (0, 0))) := hid ⟨abides_still HJ.out HJ1.out.1 hs1, kpL_still hs1 _ HJ1.out.2⟩
      clear he hs1 HJ1 HA
      gi_wp2_with fail
      gi_loopw [25] (fun u wr => ∃ k : Nat, k ≤ n ∧ u = .int .i64 (k : Int) ∧ Hid (J (m + k) wr ∧ wr.heap[p]? = some (.cells (lcs s vs) lgT (0, 0)))) (fun u _ => n - (intOf u).toNat)
      case atStart => exact ⟨0, by omega, rfl, HJ2⟩
      case round =>
        obtain ⟨k, hk, rfl, HJ3⟩ := hrel
        clear HJ2
        by_cases hkn : k < n
        · have hlt : (k : Int) < (n : Int) := by omega
          obtain ⟨g, eg⟩ := HAO.out (by omega)
          obtain ⟨fn, tmps, assign, body, hy, hR⟩ := HY.out (m + k) wr (by have := Hle.out; omega) HJ3.out.1
          rw [HE.out g k eg hkn] at hy
          have HR1 := hid hR
          subst eg
          clear hR
          gi_wp2_with fail
          refine ⟨rfl, HR1.out.mono ?_⟩
          rintro e w3 (⟨rfl, hj3, hk3⟩ | ⟨rfl, hx3⟩)
          · have HJ4 : Hid (J (m + (k + 1)) w3 ∧ w3.heap[p]? = some (.cells (lcs s vs) lgT (0, 0))) := hid ⟨hj3, hk3 _ HJ3.out.2⟩
            clear hj3 hk3 hy HR1 HJ3
            gi_wp2_with fail
            go_roundw
            case rel => exact ⟨k + 1, by omega, by go_num, HJ4⟩
            case measure => simp [intOf]; omega
          · have HX := hid hx3
            clear hx3 hy HR1 HJ3
            gi_wp2_with fail
            (first | rw [Exit.noGoto_ret] | skip)
            refine bodyPost_ret (results_none rfl _ _ _) rfl ?_
            exact ⟨⟨_, rfl⟩, .inr ⟨_, by have := Hle.out; omega, HX.out⟩⟩
        · have hge : ¬ (k : Int) < (n : Int) := by omega
          have HJ4 : Hid (J (lowN (f + 1) s.S) wr ∧ wr.heap[p]? = some (.cells (lcs s vs) lgT (0, 0))) := hid ⟨by rw [HN.out]; have := HJ3.out.1; rwa [show k = n by omega] at this, HJ3.out.2⟩
          clear hkn HJ3
          gi_wp2_with fail
          go_roundw
          case rel => exact ⟨j + 1, HJ112.out, by rw [HFj.out], by rw [HFj.out]; exact HJ4⟩
          case measure => simp only [intOf]; exact HMs.out
    · have hfy : ¬ f ≤ y := by omega
      have HD : Hid (J s.S.length wr) := hid (by have := HJ1.out.1; rwa [show f = b + 113 by omega, HEnd.out] at this)
      clear ef ey hjn HJ1
      gi_wp2_with fail
      refine ⟨trivial, rfl, (callsIn_wide.2 HC.out).mono ?_⟩
      rintro e w1 ⟨he, hw⟩
      rw [he, hw]
      clear he hw w1 HC
      gi_wp2_with fail
      go_end0
      exact ⟨⟨_, rfl⟩, .inl HD.out⟩
end Go.Proofs.Ytdmgalaajgebkaa
