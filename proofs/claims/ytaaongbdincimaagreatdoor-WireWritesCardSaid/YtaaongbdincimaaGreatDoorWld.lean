/- The law's lent and whole. -/
import Derived.Test.YtaaongbdincimaaGreatDoorWla
import Derived.Test.YtaaongbdincimaaGreatDoorWrh
namespace Go.Proofs.YtaaongbdincimaaGreatDoor
open Go.RowKit
open Wp Vp
set_option maxRecDepth 100000
set_option linter.unusedVariables false

def c77 : Cc := ⟨0, 0, 77, 0, 0, 0, 0⟩
theorem set_endC {L : List Cc} {n : Nat} {x v : Cc} (h : L.length = n) : (L ++ [x]).set n v = L ++ [v] := by
  subst h; simp
section
variable {α : Type} {K : Kd α} {e : TypeId} {L : List α} {w w' : World}
/-- one cell of one element turned -/
theorem OwG.put1 {B g n cap : Nat} (h : OwG K e w B (.slice (some ⟨g, 0, none⟩) n cap) L) {i : Nat} (hi : i < L.length) (j : Nat) (hj : j < K.k) (u : Value) (x : α) (hx : K.f x = (K.f (L.getD i K.d)).set j u) : OwG K e (w.setCell ⟨g, i * K.k + j, none⟩ u) B (.slice (some ⟨g, 0, none⟩) n cap) (L.set i x) := by
  rcases h.2 with ⟨hv, _⟩ | ⟨g', cap', cur, hv, hb, hg, hn, hm, hs, ht⟩
  · cases hv
  · cases hv
    have hi2 : i * K.k + K.k ≤ L.length * K.k := by rw [← Nat.succ_mul]; exact Nat.mul_le_mul_right _ hi
    have h1 := heap_setCell_same w g (i * K.k + j) cur e u hg
    refine ⟨by rw [K.row_len, List.length_set], .inr ⟨g, cap, _, by rw [List.length_set], hb, h1, by rw [List.length_set]; exact hn, hm, by rw [Array.size_setIfInBounds]; exact hs, ?_⟩⟩
    rw [List.length_set, Array.toList_setIfInBounds, List.take_set, ht]
    have e1 := K.row_set L i hi (L.getD i K.d)
    have e2 : L.set i (L.getD i K.d) = L := by
      rw [List.getD_eq_getElem?_getD, List.getElem?_eq_getElem hi, Option.getD_some, List.set_getElem_self]
    rw [e2] at e1
    rw [← K.row_set L i hi x, hx]
    conv => lhs; rw [← e1]
    have hl1 : ((K.row L).take (i * K.k)).length = i * K.k := by rw [List.length_take, K.row_len]; omega
    rw [List.set_append_right _ _ (by rw [hl1]; omega), hl1, List.set_append_left _ _ (by rw [K.len]; omega), show i * K.k + j - i * K.k = j by omega]
end
theorem lnt_step (L : List Cc) (n k : Nat) (hl : L.length = n) (hk : k < n) : (L.take k ++ List.replicate (n + 1 - k) zC).set k (cc L k) = L.take (k + 1) ++ List.replicate (n + 1 - (k + 1)) zC := by
  have h1 : (L.take k).length = k := by rw [List.length_take]; omega
  rw [List.set_append_right _ _ (by omega), h1, Nat.sub_self, show n + 1 - k = (n + 1 - (k + 1)) + 1 by omega, List.replicate_succ, List.set_cons_zero]
  rw [List.take_add_one, List.append_assoc]
  congr 1
  unfold cc
  rw [List.getD_eq_getElem?_getD, List.getElem?_eq_getElem (by omega)]
  rfl
theorem lnt_len (L : List Cc) (n k : Nat) (hl : L.length = n) (hk : k ≤ n) : (L.take k ++ List.replicate (n + 1 - k) zC).length = n + 1 := by
  rw [List.length_append, List.length_take, List.length_replicate]; omega
theorem lnt_end (L : List Cc) (n : Nat) (hl : L.length = n) : L.take n ++ List.replicate (n + 1 - n) zC = L ++ [zC] := by
  rw [show n + 1 - n = 1 by omega, List.take_of_length_le (by omega)]; rfl
set_option maxHeartbeats 4000000 in
theorem lent16_any (d : Dg) (co : Option Addr) (n cp : Nat) (w : World) (hr : RdG KCc w co n d.cs) (h47 : 56 * n ≤ 140737488351232) :
    Calls Tryz.prog 6 #[dgv d co n cp] w fun r w' => ∃ g, r = .returned (.tuple #[dgv d (some ⟨g, 0, none⟩) n (n + 1), .slice (some ⟨g, 0, none⟩) (n + 1) (n + 1)]) ∧ OwG KCc 42 w' w.heap.size (.slice (some ⟨g, 0, none⟩) (n + 1) (n + 1)) (d.cs ++ [c77]) ∧ Still w w' := by
  have hlen := hr.1
  have hmk0 := makeG KCc (t := 23) Tryz.underlying23 56 infoCc (n + 1) (by omega) (by omega)
  have A0 := Still.alloc w (.cells (dgc d co n cp) 25)
  have b0 := newDg_b w d co n cp
  have A1 := Still.alloc (newDg w d co n cp) (.cells (dgc zD none 0 0) 25)
  have b1 := newDg_b (newDg w d co n cp) zD none 0 0
  have b0' := b0.still A1
  have hsz1 : (newDg w d co n cp).heap.size = w.heap.size + 1 := size_alloc _ _
  have hsz2 : (newDg (newDg w d co n cp) zD none 0 0).heap.size = w.heap.size + 2 := by rw [size_alloc, hsz1]
  have hfresh := hmk0.2 (newDg (newDg w d co n cp) zD none 0 0)
  have hmk := hmk0.1
  obtain ⟨CS, hCS⟩ : ∃ CS, madeCells (KCc.f KCc.d).toArray ((n + 1) * KCc.k) = CS := ⟨_, rfl⟩
  rw [hCS] at hfresh
  simp only [hCS] at hmk
  rw [hsz1] at b1
  rw [hsz2] at hfresh
  have hup0 := fun (g : Nat) W => run_uptoG (P := Tryz.prog) (t := 23) Tryz.underlying23 (by obtain ⟨i, h, _⟩ := infoCc; exact ⟨i, h⟩) W (some ⟨g, 0, none⟩) (n + 1) (n + 1) (n : Int) (by omega) (by omega)
  have HUP := hid hup0
  have HS2 := hid (A0.trans A1)
  have A2 := Still.alloc (newDg (newDg w d co n cp) zD none 0 0) (.cells CS 42)
  have HA2 := hid A2
  have HSz := hid hsz2
  have HO := hid hfresh
  have HB0 := hid b0'
  have HB1 := hid b1
  have HR := hid hr
  have HL := hid hlen
  obtain ⟨m0, m1, m2, m3, m4, m5, m6, m7, mf⟩ := b0'.cells
  have hn2 : n + 1 ≤ 281474976710656 := by omega
  rw [show ((n + 1 : Nat) : Int) = (n : Int) + 1 by omega] at hmk
  clear hCS hlen hfresh hr A0 A1 A2 b0 b0' b1 hmk0 hup0 mf m0 m1 m2 m3 m4 m5 m7
  dsimp only [newDg, dgc, zD] at HO HA2 HSz HB0 HB1 HS2 m6
  go_enter Tryz.func6, Tryz.ntmps6
  go_wp2_with fail
  go_loopw [5] (fun vi wr => ∃ k : Nat, k ≤ n ∧ vi = .int .i64 (k : Int) ∧ Hid (OwG KCc 42 wr (w.heap.size + 2) (.slice (some ⟨w.heap.size + 2, 0, none⟩) (n + 1) (n + 1)) (d.cs.take k ++ List.replicate (n + 1 - k) zC) ∧ Still (newDg (newDg w d co n cp) zD none 0 0) wr)) (fun vi _ => n - (intOf vi).toNat)
  case atStart => exact ⟨0, Nat.zero_le _, rfl, hid ⟨HO.out, HA2.out⟩⟩
  case round =>
    obtain ⟨k, hk, rfl, HH⟩ := hrel
    have HSt := hid (HS2.out.trans HH.out.2)
    have HD0 := hid (HB0.out.still HH.out.2)
    obtain ⟨m0, m1, m2, m3, m4, m5, m6, m7, mf⟩ := HD0.out.cells
    by_cases hlt : k < n
    · have hlt' : (k : Int) < (n : Int) := by omega
      obtain ⟨b, o, rfl⟩ := (HR.out.still HSt.out).at (by omega)
      obtain ⟨c0, c1, c2, c3, c4, c5, c6⟩ := rdCc (HR.out.still HSt.out) hlt
      have hk1 : k < (d.cs.take k ++ List.replicate (n + 1 - k) zC).length := by rw [lnt_len _ n k HL.out hk]; omega
      obtain ⟨d0, d1, d2, d3, d4, d5, d6, df⟩ := owCc HH.out.1 (i := k) hk1
      have o3 := HH.out.1.put (i := k) hk1 (cc d.cs k)
      rw [lnt_step _ n k HL.out hlt] at o3
      obtain ⟨x, ex⟩ : ∃ x, cc d.cs k = x := ⟨_, rfl⟩
      rw [ex] at c0 c1 c2 c3 c4 c5 c6 o3
      have s3 := fr_setCells (F := fun _ => False) (w.heap.size + 2) (KCc.f x) (k * KCc.k) wr HH.out.2 (.inr (Nat.le_of_eq HSz.out))
      have HN : Hid (OwG KCc 42 (((((((wr.setCell ⟨w.heap.size + 2, k * 7, none⟩ (.int .i64 x.fr)).setCell ⟨w.heap.size + 2, k * 7 + 1, none⟩ (.int .i64 x.pe)).setCell ⟨w.heap.size + 2, k * 7 + 2, none⟩ (.int .i64 x.sq)).setCell ⟨w.heap.size + 2, k * 7 + 3, none⟩ (.int .i64 x.v)).setCell ⟨w.heap.size + 2, k * 7 + 4, none⟩ (.int .i64 x.a)).setCell ⟨w.heap.size + 2, k * 7 + 5, none⟩ (.int .i64 x.b)).setCell ⟨w.heap.size + 2, k * 7 + 6, none⟩ (.int .i64 x.c)) (w.heap.size + 2) (.slice (some ⟨w.heap.size + 2, 0, none⟩) (n + 1) (n + 1)) (d.cs.take (k + 1) ++ List.replicate (n + 1 - (k + 1)) zC) ∧ Still (newDg (newDg w d (some ⟨b, o, none⟩) n cp) zD none 0 0) (((((((wr.setCell ⟨w.heap.size + 2, k * 7, none⟩ (.int .i64 x.fr)).setCell ⟨w.heap.size + 2, k * 7 + 1, none⟩ (.int .i64 x.pe)).setCell ⟨w.heap.size + 2, k * 7 + 2, none⟩ (.int .i64 x.sq)).setCell ⟨w.heap.size + 2, k * 7 + 3, none⟩ (.int .i64 x.v)).setCell ⟨w.heap.size + 2, k * 7 + 4, none⟩ (.int .i64 x.a)).setCell ⟨w.heap.size + 2, k * 7 + 5, none⟩ (.int .i64 x.b)).setCell ⟨w.heap.size + 2, k * 7 + 6, none⟩ (.int .i64 x.c))) := hid ⟨o3, s3⟩
      clear o3 s3 hk1 ex m0 m1 m2 m3 m4 m5 m7
      go_wp2_with fail
      go_roundw
      case rel => exact ⟨k + 1, by omega, by go_num, hid HN.out⟩
      case measure => simp [intOf]; omega
    · have hge : ¬ (k : Int) < (n : Int) := by omega
      obtain rfl : k = n := by omega
      have o1 := HH.out.1
      rw [lnt_end _ k HL.out] at o1
      have hk1 : k < (d.cs ++ [zC]).length := by rw [List.length_append]; have := HL.out; simp; omega
      obtain ⟨d0, d1, d2, d3, d4, d5, d6, df⟩ := owCc o1 (i := k) hk1
      have o2 := o1.put1 (i := k) hk1 2 (by decide) (.int .i64 77) c77 (by
        rw [← HL.out, List.getD_eq_getElem?_getD, List.getElem?_append_right (Nat.le_refl _), Nat.sub_self]
        rfl)
      rw [set_endC HL.out] at o2
      have s2 := Fr.setCell HH.out.2 ⟨w.heap.size + 2, k * 7 + 2, none⟩ (.int .i64 77) (.inr (Nat.le_of_eq HSz.out))
      have HN : Hid (OwG KCc 42 (wr.setCell ⟨w.heap.size + 2, k * 7 + 2, none⟩ (.int .i64 77)) (w.heap.size + 2) (.slice (some ⟨w.heap.size + 2, 0, none⟩) (k + 1) (k + 1)) (d.cs ++ [c77]) ∧ Still (newDg (newDg w d co k cp) zD none 0 0) (wr.setCell ⟨w.heap.size + 2, k * 7 + 2, none⟩ (.int .i64 77))) := hid ⟨o2, s2⟩
      clear o1 o2 s2 hk1 m0 m1 m2 m3 m4 m5 m7 hlt hk
      go_upto_region 7 with fail
      obtain ⟨w7, e7⟩ : ∃ u, wr.setCell ⟨w.heap.size + 1 + 1, k * 7 + 2, none⟩ (.int .i64 77) = u := ⟨_, rfl⟩
      rw [e7]
      have h7 : OwG KCc 42 w7 (w.heap.size + 2) (.slice (some ⟨w.heap.size + 2, 0, none⟩) (k + 1) (k + 1)) (d.cs ++ [c77]) ∧ Still (newDg (newDg w d co k cp) zD none 0 0) w7 := by rw [← e7]; exact HN.out
      have q0 : Dgb w7 w.heap.size d co k cp := HB0.out.still h7.2
      have q1 : Dgb w7 (w.heap.size + 1) zD none 0 0 := HB1.out.still h7.2
      have hS7 : Still w w7 := HS2.out.trans h7.2
      obtain ⟨n0, n1, n2, n3, n4, n5, n6, n7, nf⟩ := q0.cells
      have hup := HUP.out
      have r0 : Dgb (w7.setCell ⟨w.heap.size, 6, none⟩ (.slice (some ⟨w.heap.size + 2, 0, none⟩) k (k + 1))) w.heap.size d (some ⟨w.heap.size + 2, 0, none⟩) k (k + 1) := heap_setCell_same w7 w.heap.size 6 _ _ _ q0
      have f8 : Fr (fun b => b = w.heap.size) w7 (w7.setCell ⟨w.heap.size, 6, none⟩ (.slice (some ⟨w.heap.size + 2, 0, none⟩) k (k + 1))) := Fr.setCell (Fr.refl _ w7) _ _ (.inl rfl)
      have r1 : Dgb (w7.setCell ⟨w.heap.size, 6, none⟩ (.slice (some ⟨w.heap.size + 2, 0, none⟩) k (k + 1))) (w.heap.size + 1) zD none 0 0 := f8.kept q1 (by omega)
      have o8 := h7.1.keep f8 (fun b hb e => by
        have hb' : b = w.heap.size := hb
        have e' : some (w.heap.size + 2) = some b := e
        have := Option.some.inj e'
        omega)
      have hS8 : Still w (w7.setCell ⟨w.heap.size, 6, none⟩ (.slice (some ⟨w.heap.size + 2, 0, none⟩) k (k + 1))) := Fr.setCell hS7 _ _ (.inr (Nat.le_refl _))
      have HX := hid (And.intro r0 (And.intro r1 (And.intro o8 hS8)))
      clear e7 h7 q0 q1 hS7 r0 r1 f8 o8 hS8 HN n0 n1 n2 n3 n4 n5 n7 d0 d1 d2 d3 d4 d5 d6 df m6 mf HH HD0 HB0 HB1 HO HA2 HS2 HSt
      go_upto_region 8 with fail
      obtain ⟨w8, e8⟩ : ∃ u, w7.setCell ⟨w.heap.size, 6, none⟩ (.slice (some ⟨w.heap.size + 1 + 1, 0, none⟩) k (k + 1)) = u := ⟨_, rfl⟩
      rw [e8]
      have h8 : Dgb w8 w.heap.size d (some ⟨w.heap.size + 1 + 1, 0, none⟩) k (k + 1) ∧ Dgb w8 (w.heap.size + 1) zD none 0 0 ∧ OwG KCc 42 w8 (w.heap.size + 2) (.slice (some ⟨w.heap.size + 2, 0, none⟩) (k + 1) (k + 1)) (d.cs ++ [c77]) ∧ Still w w8 := by rw [← e8]; exact HX.out
      obtain ⟨n0, n1, n2, n3, n4, n5, n6, n7, nf⟩ := h8.1.cells
      obtain ⟨v0, v1, v2, v3, v4, v5, v6, v7, vf⟩ := h8.2.1.cells
      have f9 : Fr (fun b => b = w.heap.size + 1) w8 (setDg w8 (w.heap.size + 1) d (some ⟨w.heap.size + 1 + 1, 0, none⟩) k (k + 1)) := setDg_fr (Fr.refl _ w8) _ _ _ _ _ (.inl rfl)
      have o9 := (h8.2.2.1.keep f9 (fun b hb e => by
        have hb' : b = w.heap.size + 1 := hb
        have e' : some (w.heap.size + 2) = some b := e
        have := Option.some.inj e'
        omega)).less (B' := w.heap.size) (by omega)
      have s9 : Still w (setDg w8 (w.heap.size + 1) d (some ⟨w.heap.size + 1 + 1, 0, none⟩) k (k + 1)) := setDg_fr h8.2.2.2 _ _ _ _ _ (.inr (by omega))
      have b9 := h8.2.1.set d (some ⟨w.heap.size + 1 + 1, 0, none⟩) k (k + 1)
      have HX9 := hid (And.intro o9 (And.intro s9 b9))
      clear e8 h8 f9 o9 s9 b9 HX hup
      go_wp2_with fail
      exact bodyPost_ret (HX9.out.2.2.rest rfl _ _ rfl rfl) rfl ⟨w.heap.size + 2, rfl, HX9.out.1, HX9.out.2.1⟩
set_option maxHeartbeats 4000000 in
theorem whole16_any (g : Nat) (so : Option Addr) (n c : Nat) (L : List Cc) (B : Nat) (w : World) (hr : RdG KCc w so n L) (ho : OwG KCc 42 w B (.slice (some ⟨g, 0, none⟩) (n + 1) (n + 1)) (L ++ [c77])) (h47 : 56 * n ≤ 140737488351232) :
    Calls Tryz.prog 10 #[.slice (some ⟨g, 0, none⟩) (n + 1) (n + 1), .slice so n c] w fun r w' => r = .returned (.bool true) ∧ Still w w' := by
  have HL := hid hr.1
  have G1 := guard_km
  have hn2 : n + 1 ≤ 281474976710656 := by omega
  have HR := hid hr
  have HO := hid ho
  clear hr ho
  go_enter Tryz.func10, Tryz.ntmps10
  go_wp2_with fail
  go_loopw [5] (fun vi wr => ∃ k : Nat, k ≤ n ∧ vi = .int .i64 (k : Int) ∧ Still w wr) (fun vi _ => n - (intOf vi).toNat)
  case atStart => exact ⟨0, Nat.zero_le _, rfl, Fr.refl _ _⟩
  case round =>
    obtain ⟨k, hk, rfl, hs⟩ := hrel
    have HS := hid hs
    clear hs
    by_cases hlt : k < n
    · have hlt' : (k : Int) < (n : Int) := by omega
      obtain ⟨b, o, rfl⟩ := (HR.out.still HS.out).at (by omega)
      obtain ⟨c0, c1, c2, c3, c4, c5, c6⟩ := rdCc (HR.out.still HS.out) hlt
      obtain ⟨d0, d1, d2, d3, d4, d5, d6, _⟩ := owCc (HO.out.still HS.out) (i := k) (by simp; have := HL.out; omega)
      rw [show cc (L ++ [c77]) k = cc L k by simp [cc, List.getD, List.getElem?_append_left (show k < L.length by have := HL.out; omega)]] at d0 d1 d2 d3 d4 d5 d6
      have E1 := neq_km_f (cc L k)
      obtain ⟨x, ex⟩ : ∃ x, cc L k = x := ⟨_, rfl⟩
      rw [ex] at c0 c1 c2 c3 c4 c5 c6 d0 d1 d2 d3 d4 d5 d6 E1
      have k0 := Cl.cell c0
      have k1 := Cl.cell c1
      have k2 := Cl.cell c2
      have k3 := Cl.cell c3
      have k4 := Cl.cell c4
      have k5 := Cl.cell c5
      have k6 := Cl.cell c6
      have l0 := Cl.cell d0
      have l1 := Cl.cell d1
      have l2 := Cl.cell d2
      have l3 := Cl.cell d3
      have l4 := Cl.cell d4
      have l5 := Cl.cell d5
      have l6 := Cl.cell d6
      have hne := Aft.here wr
      clear c0 c1 c2 c3 c4 c5 c6 d0 d1 d2 d3 d4 d5 d6 ex
      go_wp2_with fail
      refine region_all (by kernel_rfl) (by kernel_rfl) ?_
      repeat (go_big_quiet_step (fail))
      refine wpQuiet_nil ?_
      intro w2 h2
      have HS2 := hid (HS.out.trans h2)
      clear h2 HS hne k0 k1 k2 k3 k4 k5 k6 l0 l1 l2 l3 l4 l5 l6
      go_wp2_with fail
      go_roundw
      case rel => exact ⟨k + 1, by omega, by go_num, HS2.out⟩
      case measure => simp [intOf]; omega
    · have hge : ¬ (k : Int) < (n : Int) := by omega
      have hl2 := HO.out.still HS.out
      obtain ⟨c0, c1, c2, c3, c4, c5, c6, cf⟩ := owCc hl2 (i := n) (by simp; have := HL.out; omega)
      rw [show cc (L ++ [c77]) n = c77 by rw [← HL.out]; simp [cc]] at c0 c1 c2 c3 c4 c5 c6
      simp only [c77] at c0 c1 c2 c3 c4 c5 c6
      have E1 : ∀ w, (binOp .eql 42 (.agg #[.int .i64 0, .int .i64 0, .int .i64 77, .int .i64 0, .int .i64 0, .int .i64 0, .int .i64 0]) (.agg #[.int .i64 0, .int .i64 0, .int .i64 77, .int .i64 0, .int .i64 0, .int .i64 0, .int .i64 0])).run Tryz.prog w = .ok (.bool true) w := eql_km_t c77
      clear hl2 hlt hk
      go_wp2_with fail
      go_ret
      exact ⟨rfl, HS.out⟩
end Go.Proofs.YtaaongbdincimaaGreatDoor
