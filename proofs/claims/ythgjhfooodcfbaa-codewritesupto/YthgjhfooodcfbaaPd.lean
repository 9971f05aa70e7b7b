/- couple.read: both readers answer alike. -/
import Derived.Test.YthgjhfooodcfbaaPc
namespace Go.Proofs.Ythgjhfooodcfbaa
open Go.RowKit

theorem uintS_le (bs : List UInt8) (e : Int) : (Cp.uintS bs e).2.1.length ≤ bs.length := by
  unfold Cp.uintS
  repeat' split
  all_goals simp
theorem byteS_le (bs : List UInt8) (e : Int) : (Cp.byteS bs e).2.1.length ≤ bs.length := by
  unfold Cp.byteS
  repeat' split
  all_goals simp
theorem bytesS_le (most : Int) (bs : List UInt8) (e : Int) : (Cp.bytesS most bs e).2.1.length ≤ bs.length := by
  unfold Cp.bytesS
  repeat' split
  all_goals simp
theorem bytesS_le1 (most : Int) (bs : List UInt8) (e : Int) : (Cp.bytesS most bs e).1.length ≤ bs.length := by
  have := Cp.first_err most bs
  unfold Cp.bytesS
  repeat' split
  all_goals simp
  omega

/-- What a call on a couple leaves. -/
def ReadS (w w' : World) (S xp yp : Nat) : Prop := ∃ rest' e', Pr w' S xp yp rest' e' ∧ Fr (fun k => k = xp ∨ k = yp) w w'
theorem ReadS.from {w w1 w' : World} {S xp yp : Nat} (hs : Still w w1) (h : ReadS w1 w' S xp yp) : ReadS w w' S xp yp := by
  obtain ⟨rest', e', h1, h2⟩ := h
  exact ⟨rest', e', h1, (Still.to hs).trans h2 fun _ _ h => h⟩
theorem ReadS.then {w w1 w' : World} {S xp yp : Nat} {rest : List UInt8} {e : Int} (h : Pr w1 S xp yp rest e ∧ Fr (fun k => k = xp ∨ k = yp) w w1) (hs : Still w1 w') : ReadS w w' S xp yp :=
  ⟨rest, e, h.1.still hs, h.2.trans (Still.to hs) fun _ _ h => h⟩
theorem tookF_block {w w' : World} {p : Nat} {ao : Option Addr} {n cap : Nat} {B bs : List UInt8} {e : Int} {k : Nat} {o : Obj} (h : TookF w w' p ao n cap B bs e) (hk : w.heap[k]? = some o) (hp : k ≠ p) : w'.heap[k]? = some o := by
  obtain ⟨_, _, _, hf⟩ := h
  exact hf.kept hk hp

set_option maxHeartbeats 2000000 in
set_option maxRecDepth 100000 in
theorem read_any (S xp yp : Nat) (rest : List UInt8) (e : Int) (o : Op) (w : World) (hp : Pr w S xp yp rest e) (ho : o.ok w) (hS : S ≤ w.heap.size) :
    Calls Try.prog 16 #[.agg #[.pointer (some ⟨xp, 0, none⟩), .pointer (some ⟨yp, 0, none⟩)], .agg o.val] w fun r w' => r = .returned (.bool true) ∧ ReadS w w' S xp yp := by
  have hst0 := Still.alloc w (.cells #[.pointer (some ⟨xp, 0, none⟩), .pointer (some ⟨yp, 0, none⟩)] 46)
  have hst1 := hst0.trans (Still.alloc _ (.cells o.val 28))
  have hp1 := hp.still hst1
  have hbc := heap_alloc2_old w (.cells #[.pointer (some ⟨xp, 0, none⟩), .pointer (some ⟨yp, 0, none⟩)] 46) (.cells o.val 28)
  have hbo := heap_alloc2_new w (.cells #[.pointer (some ⟨xp, 0, none⟩), .pointer (some ⟨yp, 0, none⟩)] 46) (.cells o.val 28)
  obtain ⟨xo, xn, xc, yo, yn, yc, B, At, hx, hy, hd, h1, h2, h3, h4, h5, h6, h7, h8⟩ := hp1
  have hxl : xp < w.heap.size := by omega
  have hyl : yp < w.heap.size := by omega
  obtain ⟨p0, p1, pf⟩ := two hbc
  have hp0 := Cp.pick_lo o.kind (n := 6) (by omega)
  have hp6 := Cp.pick_hi o.kind (n := 6) (by omega)
  have hpk := pick_any o.kind 6 ho.k1 ho.k2 (by omega) (by omega)
  obtain ⟨q, hq⟩ : ∃ q, q = Cp.pick o.kind 6 := ⟨_, rfl⟩
  rw [← hq] at hp0 hp6
  simp only [← hq] at hpk
  have HP := hid hpk
  clear hpk hq
  have hm1 := ho.m1
  have hm2 := ho.m2
  obtain ⟨kind, which, on, oi, oa, ol, oc, ob, most⟩ := o
  simp only [Op.val] at *
  obtain ⟨q0, q1, q2, q3, q4, q5⟩ := six' hbo
  obtain ⟨W1, hW1⟩ : ∃ W1, W1 = (w.alloc (.cells #[.pointer (some ⟨xp, 0, none⟩), .pointer (some ⟨yp, 0, none⟩)] 46)).alloc (.cells #[.int .i64 kind, .int .i64 which, .int .u64 (on : Int), .int .i64 oi, .slice oa ol oc, .int .i64 most] 28) := ⟨_, rfl⟩
  have HW1 := hid hW1
  have hsz : W1.heap.size = w.heap.size + 2 := by rw [hW1]; simp
  rw [← hW1] at hst1 hbc hbo hx hy h7 h8 p0 p1 q0 q1 q2 q3 q4 q5
  clear hW1 pf hst0
  have HSZ := hid hsz
  clear hsz
  by_cases hq1 : q < 1
  · go_enter Try.func16, Try.ntmps16
    go_wp2_with fail
    rw [← HW1.out]
    refine (HP.out _).mono ?_
    rintro r w1 ⟨rfl, rfl⟩
    go_wp2
    go_ret
    exact ⟨rfl, rest, e, hp.still hst1, Still.to hst1⟩
  · have hd' := hd
    subst hd
    by_cases hq2 : q < 2
    · go_enter Try.func16, Try.ntmps16
      go_wp2_with fail
      rw [← HW1.out]
      refine (HP.out _).mono ?_
      rintro r w1 ⟨rfl, rfl⟩
      go_wp2_with fail
      refine (uint_any xp xo xn xc _ e _ hx).mono ?_
      rintro r w2 ⟨rfl, ht⟩
      obtain ⟨p0', p1', _⟩ := two (took_block ht hbc (by omega))
      obtain ⟨q0', q1', q2', q3', q4', q5'⟩ := six' (took_block ht hbo (by omega))
      have hy2 := rf_took hx hy ht
      go_wp2_with fail
      refine (fuint_any yp yo yn yc B At e _ hy2).mono ?_
      rintro r w3 ⟨rfl, hu⟩
      have hR := pr_step hx hy h1 h2 h3 h4 h5 h6 h7 h8 (uintS_le _ _) ht hu
      go_wp2
      go_ret
      exact ⟨rfl, ReadS.from hst1 ⟨_, _, hR⟩⟩
    · by_cases hq3 : q < 3
      · go_enter Try.func16, Try.ntmps16
        go_wp2_with fail
        rw [← HW1.out]
        refine (HP.out _).mono ?_
        rintro r w1 ⟨rfl, rfl⟩
        go_wp2_with fail
        refine (int_any xp xo xn xc _ e _ hx).mono ?_
        rintro r w2 ⟨rfl, ht⟩
        obtain ⟨p0', p1', _⟩ := two (took_block ht hbc (by omega))
        obtain ⟨q0', q1', q2', q3', q4', q5'⟩ := six' (took_block ht hbo (by omega))
        have hy2 := rf_took hx hy ht
        go_wp2_with fail
        refine (fint_any yp yo yn yc B At e _ hy2).mono ?_
        rintro r w3 ⟨rfl, hu⟩
        have hR := pr_step hx hy h1 h2 h3 h4 h5 h6 h7 h8 (uintS_le _ _) ht hu
        go_wp2
        go_ret
        exact ⟨rfl, ReadS.from hst1 ⟨_, _, hR⟩⟩
      · by_cases hq4 : q < 4
        · go_enter Try.func16, Try.ntmps16
          go_wp2_with fail
          rw [← HW1.out]
          refine (HP.out _).mono ?_
          rintro r w1 ⟨rfl, rfl⟩
          go_wp2_with fail
          refine (byte_any xp xo xn xc _ e _ hx).mono ?_
          rintro r w2 ⟨rfl, ht⟩
          obtain ⟨p0', p1', _⟩ := two (took_block ht hbc (by omega))
          obtain ⟨q0', q1', q2', q3', q4', q5'⟩ := six' (took_block ht hbo (by omega))
          have hy2 := rf_took hx hy ht
          go_wp2_with fail
          refine (fbyte_any yp yo yn yc B At e _ hy2).mono ?_
          rintro r w3 ⟨rfl, hu⟩
          have hR := pr_step hx hy h1 h2 h3 h4 h5 h6 h7 h8 (byteS_le _ _) ht hu
          go_wp2
          go_ret
          exact ⟨rfl, ReadS.from hst1 ⟨_, _, hR⟩⟩
        · by_cases hq5 : q < 5
          · go_enter Try.func16, Try.ntmps16
            go_wp2_with fail
            rw [← HW1.out]
            refine (HP.out _).mono ?_
            rintro r w1 ⟨rfl, rfl⟩
            go_wp2_with fail
            refine (bytes_any xp xo xn xc _ e most hm1 hm2 _ hx (by omega)).mono ?_
            rintro r w2 ⟨fo, d, rfl, hfo, hnew, ht⟩
            obtain ⟨p0', p1', _⟩ := two (took_block ht hbc (by omega))
            obtain ⟨q0', q1', q2', q3', q4', q5'⟩ := six' (took_block ht hbo (by omega))
            have hy2 := rf_took hx hy ht
            go_wp2_with fail
            refine (fbytes_any yp yo yn yc B At e most hm1 hm2 _ hy2 h2).mono ?_
            rintro r w3 ⟨fo2, d2, rfl, hfo2, hnew2, hu⟩
            have hR := pr_step hx hy h1 h2 h3 h4 h5 h6 h7 h8 (bytesS_le _ _ _) ht hu
            have hsz1 := HSZ.out
            have hXl : (Cp.bytesS most (B.drop At) e).1.length + 1 ≤ 140737488355328 := by
              have h9 := bytesS_le1 most (B.drop At) e
              have h10 := hx.rd.len
              omega
            obtain ⟨_, _, _, hfu⟩ := hu
            have hfo3 := hfo.kept hfu (fun a ha hpk => by have := hnew a ha; omega)
            obtain ⟨X, hX⟩ : ∃ X, X = (Cp.bytesS most (B.drop At) e).1 := ⟨_, rfl⟩
            rw [← hX] at hfo3 hfo2 hXl
            obtain ⟨L, hL⟩ : ∃ L, L = X.length := ⟨_, rfl⟩
            rw [← hL] at hfo3 hfo2 hXl
            have HX := hid hX
            have HL := hid hL
            have s1 := run_string (P := Try.prog) w3 26 5 9 Try.underlying26 Try.underlying5 Try.underlying9 hfo3.rd
            have s2 := run_string (P := Try.prog) w3 26 5 9 Try.underlying26 Try.underlying5 Try.underlying9 hfo2
            obtain ⟨str, hstr⟩ : ∃ str : ByteArray, str = ⟨X.toArray⟩ := ⟨_, rfl⟩
            rw [← hstr] at s1 s2
            rw [← hX, ← hL]
            clear hX hL hstr
            have HSP := hid (spoil_any fo L d X 99 99 rfl w3 hfo3 hXl)
            go_wp2_with fail
            refine HSP.out.mono ?_
            rintro r w4 ⟨rfl, hf4⟩
            have hlow : ∀ k, (∃ a, fo = some a ∧ a.block = k) → w1.heap.size ≤ k := by rintro k ⟨a, h, rfl⟩; exact hnew a h
            have hR4 : ReadS w1 w4 S xp yp := ⟨_, _, hR.1.kept hf4 (fun k hk => by have := hlow k hk; omega), hR.2.trans hf4 (fun k hk hk2 => by have := hlow k hk2; omega)⟩
            go_wp2
            go_ret
            exact ⟨rfl, ReadS.from hst1 hR4⟩
          · go_enter Try.func16, Try.ntmps16
            go_wp2_with fail
            rw [← HW1.out]
            refine (HP.out _).mono ?_
            rintro r w1 ⟨rfl, rfl⟩
            go_wp2_with fail
            refine (left_any xp xo xn xc _ e _ hx).mono ?_
            rintro r w2 ⟨rfl, rfl⟩
            go_wp2_with fail
            refine (fleft_any yp yo yn yc B At e _ hy).mono ?_
            rintro r w3 ⟨rfl, hs3⟩
            obtain ⟨p0', p1', _⟩ := two (Fr.kept_still hs3 hbc)
            have hc1 := rdone_any xp xo xn xc _ e _ (hx.still hs3)
            have hc2 := fdone_any yp yo yn yc B At e _ (hy.still hs3)
            obtain ⟨D, hD⟩ : ∃ D : Int, D = if e = 0 ∧ 0 < (B.drop At).length then 23 else e := ⟨_, rfl⟩
            rw [← hD] at hc1 hc2
            have HC1 := hid hc1
            have HC2 := hid hc2
            clear hc1 hc2 hD
            go_wp2_with fail
            refine HC1.out.mono ?_
            rintro r w4 ⟨rfl, rfl⟩
            go_wp2_with fail
            refine HC2.out.mono ?_
            rintro r w5 ⟨rfl, hs5⟩
            have hfin := (hst1.trans hs3).trans hs5
            go_wp2
            go_ret
            exact ⟨rfl, _, _, hp.still hfin, Still.to hfin⟩
end Go.Proofs.Ythgjhfooodcfbaa
