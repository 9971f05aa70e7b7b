/- The program's Count, At. -/
import Derived.Test.YtdmgalaajgebkaaMgh
namespace Go.Proofs.Ytdmgalaajgebkaa
open Go.RowKit
set_option maxRecDepth 100000

theorem cntF_on (f p : Int) (S : List En) : (onF f S).countP (fun x => decide (x.pe = p)) = cntF f p S := by
  unfold onF cntF
  rw [List.countP_filter]
  congr 1
  funext x
  rw [← Bool.decide_and]
  exact decide_eq_decide.2 (by omega)
theorem cnt_take {p : En → Bool} {L : List En} {k : Nat} (hk : k < L.length) : (L.take (k + 1)).countP p = (L.take k).countP p + (if p (att L k) then 1 else 0) := by
  rw [take_next hk, List.countP_append, List.countP_cons, List.countP_nil, Nat.zero_add]
set_option maxHeartbeats 2000000 in
theorem cm_count (s : Lgs) (B p : Nat) (vs : Nat → Value) (f a : Int) (w : World) (h : Lm w B p s vs) : Calls Try.prog 19 #[.pointer (some ⟨p, 0, none⟩), .int .i64 f, .int .i64 a] w fun e w' => e = .returned (.int .i64 (cntF f a s.S : Int)) ∧ Still w w' := by
  have H := hid (cm_on s B p vs f w h)
  have hn := on_len h.ok f
  have HE := hid (cntF_on f a s.S)
  obtain ⟨L, eL⟩ : ∃ L, onF f s.S = L := ⟨_, rfl⟩
  rw [eL] at H hn HE
  clear h eL
  go_enter Try.func19, Try.ntmps19
  go_wp2_with fail
  refine H.out.mono ?_
  rintro e w1 ⟨v, he, ho, hs⟩
  rw [he]
  obtain ⟨ao, cap, ev', _⟩ := ho.slice
  subst ev'
  have HS1 := hid hs
  have HO := hid (ho.still hs)
  obtain ⟨n, en⟩ : ∃ n, L.length = n := ⟨_, rfl⟩
  have HN := hid en
  have HR : Hid (RdG KE w1 ao L.length L) := hid (OwG.rd (M := []) (by rw [List.append_nil]; exact ho.still hs) (by omega))
  rw [en] at HO hn HR ⊢
  clear he ho hs H en
  go_wp2_with fail
  go_loopw [14, 7] (fun u v wr => ∃ k : Nat, k ≤ n ∧ u = .int .i64 (k : Int) ∧ v = .int .i64 (((L.take k).countP fun x => decide (x.pe = a) : Nat) : Int) ∧ Hid (Still w1 wr)) (fun u v _ => n - (intOf u).toNat)
  case atStart => exact ⟨0, by omega, rfl, rfl, hid (Fr.refl _ _)⟩
  case round =>
    obtain ⟨k, hk, rfl, rfl, HK⟩ := hrel
    have hcl : (L.take k).countP (fun x => decide (x.pe = a)) ≤ k := Nat.le_trans List.countP_le_length (by simp; omega)
    by_cases hkn : k < n
    · have hlt : (k : Int) < (n : Int) := by omega
      obtain ⟨g, o, rfl⟩ := HR.out.at (by omega)
      obtain ⟨c0, c1, c2, c3, c4, c5, c6, c7⟩ := rdE (HR.out.still HK.out) hkn
      have HC := hid (cnt_take (p := fun x => decide (x.pe = a)) (L := L) (k := k) (by have := HN.out; omega))
      obtain ⟨x, ex⟩ : ∃ x, att L k = x := ⟨_, rfl⟩
      rw [ex] at c0 c1 c2 c3 c4 c5 c6 c7 HC
      obtain ⟨m, em⟩ : ∃ m, (L.take k).countP (fun x => decide (x.pe = a)) = m := ⟨_, rfl⟩
      rw [em] at HC hcl ⊢
      have A1 := Still.alloc wr (.cells (ecs x) enT)
      obtain ⟨d0, d1, d2, d3, d4, d5, d6, d7, df⟩ := (newE_eb wr x).cells
      have HS2 := hid (HK.out.trans A1)
      clear A1 HK ex em
      by_cases hx : x.pe = a
      · have d : (x.pe == a) = true := beq_iff_eq.2 hx
        have HC2 : Hid ((L.take (k + 1)).countP (fun x => decide (x.pe = a)) = m + 1) := hid (by rw [HC.out, if_pos (by simpa using hx)])
        have hmw : (m : Int) < 9223372036854775807 := by omega
        clear hx HC
        go_wp2_with fail
        go_roundw
        case rel => exact ⟨k + 1, by omega, by go_num, by rw [HC2.out]; go_num, HS2⟩
        case measure => simp [intOf]; omega
      · have d : (x.pe == a) = false := beq_eq_false_iff_ne.2 hx
        have HC2 : Hid ((L.take (k + 1)).countP (fun x => decide (x.pe = a)) = m) := hid (by rw [HC.out, if_neg (by simpa using hx)]; rfl)
        clear hx HC
        go_wp2_with fail
        go_roundw
        case rel => exact ⟨k + 1, by omega, by go_num, by rw [HC2.out], HS2⟩
        case measure => simp [intOf]; omega
    · have hge : ¬ (k : Int) < (n : Int) := by omega
      have HF : Hid ((L.take k).countP (fun x => decide (x.pe = a)) = cntF f a s.S) := hid (by rw [List.take_of_length_le (by have := HN.out; omega), HE.out])
      have HS2 := hid (HS1.out.trans HK.out)
      clear HK
      go_wp2_with fail
      go_ret
      exact ⟨by rw [← HF.out]; rfl, HS2.out⟩
theorem OwG.none19 (w : World) : OwG KE enT (w.alloc (.cells #[] enT)) w.heap.size (.slice (some ⟨w.heap.size, 0, none⟩) 0 0) [] := by
  have := World.ownsRow_lit (base := w.heap.size) (e := enT) (size := KE.k) w #[] 0 (Nat.le_refl _) (by unfold maxLen; omega) (by simp)
  exact this
theorem cm_clone (L : List En) (B : Nat) (v : Value) (hl : L.length ≤ 4096) (w : World) (ho : OwG KE enT w B v L) : Calls Try.prog 42 #[v] w fun e w' => ∃ v', e = .returned v' ∧ OwG KE enT w' w.heap.size v' L ∧ Still w w' := by
  have hnil := fun (W : World) ao n cap => Lib.run_eql_slice_nil (P := Try.prog) W 40 enT ao n cap 0 0 Try.underlying40
  rcases ho.2 with ⟨rfl, h0⟩ | ⟨g, cap, cur, rfl, hb, hg, hn, hm, hs, ht⟩
  · obtain rfl : L = [] := List.eq_nil_of_length_eq_zero h0
    clear ho h0
    go_enter Try.func42, Try.ntmps42
    go_wp2_with fail
    go_ret
    exact ⟨_, rfl, OwG.nil _ _, Fr.refl _ _⟩
  · have A1 := Still.alloc w (.cells #[] enT)
    have HO1 := hid (OwG.none19 w)
    have HS1 := hid A1
    have HNW := hid (World.ownsRow.cells (ho.still A1) (g := g) rfl)
    obtain ⟨i, hi, hz, h1, h2⟩ := infoE
    have HI := hid (And.intro hi (And.intro hz (And.intro h1 h2)))
    have HL := hid (show 0 + L.length ≤ maxLen ∧ (0 + L.length) * 64 ≤ 140737488355328 from ⟨by unfold maxLen; omega, by omega⟩)
    have HB := hid (show w.heap.size ≤ (w.alloc (.cells #[] enT)).heap.size by simp)
    clear ho A1 hb hg hn hm hs ht hi hz h1 h2
    go_enter Try.func42, Try.ntmps42
    go_wp2_with (at_builtin; refine wpList_append_own (P := Try.prog) _ rfl _ _ _ rfl w.heap.size enT i (.agg (KE.f KE.d).toArray) KE.k 64 rfl HI.out.1 HI.out.2.1 HI.out.2.2.1 HI.out.2.2.2 (by simp [Value.cells, KE.len]) KE.pos (.slice (some ⟨w.heap.size, 0, none⟩) 0 0) 0 [] rfl HO1.out ⟨g, 0, none⟩ L.length cap (KE.row L) rfl (by rw [KE.row_len]) HNW.out (KE.row_one L) HL.out.1 HL.out.2 HB.out ?_; intro v' w' hown hgr _)
    have ho2 : OwG KE enT w' w.heap.size v' L := by
      unfold OwG
      rw [Nat.zero_add, List.nil_append] at hown
      exact hown
    have HO2 := hid ho2
    have HS2 : Hid (Still w w') := hid (Fr.trans HS1.out (F := fun _ => False) (G := fun k => k = w.heap.size) ⟨hgr.os, hgr.tape, hgr.output, hgr.size, fun k hk hn => hgr.block k hk (fun e => hn (by simpa [Value.ownBlock] using e))⟩ (fun k hk e => by omega))
    obtain ⟨ao2, cap2, e2, _⟩ := ho2.slice
    subst e2
    clear hown hgr ho2
    go_ret
    exact ⟨_, rfl, HO2.out, HS2.out⟩
theorem cm_At (s : Lgs) (B p : Nat) (vs : Nat → Value) (f : Int) (w : World) (h : Lm w B p s vs) : Calls Try.prog 26 #[.pointer (some ⟨p, 0, none⟩), .int .i64 f] w fun e w' => ∃ v, e = .returned v ∧ OwG KE enT w' w.heap.size v (onF f s.S) ∧ Still w w' := by
  have H := hid (cm_on s B p vs f w h)
  have hn := on_len h.ok f
  obtain ⟨L, eL⟩ : ∃ L, onF f s.S = L := ⟨_, rfl⟩
  rw [eL] at H hn ⊢
  clear h eL
  go_enter Try.func26, Try.ntmps26
  go_wp2_with fail
  refine H.out.mono ?_
  rintro e w1 ⟨v, he, ho, hs⟩
  rw [he]
  have HC := hid (cm_clone L B v (by omega) w1 (ho.still hs))
  have HS := hid hs
  obtain ⟨ao, cap, ev', _⟩ := ho.slice
  subst ev'
  clear he ho hs H
  go_wp2_with fail
  refine HC.out.mono ?_
  rintro e w2 ⟨v2, he, ho, hs⟩
  rw [he]
  have HO := hid (ho.less HS.out.size)
  have HS2 := hid (HS.out.trans hs)
  obtain ⟨ao2, cap2, ev2, _⟩ := ho.slice
  subst ev2
  clear he ho hs HC
  go_wp2_with fail
  go_ret
  exact ⟨_, rfl, HO.out, HS2.out⟩
end Go.Proofs.Ytdmgalaajgebkaa
