/- BagDoes: a call of the script on a pair of bags. -/
import Derived.Test.YtakdfckkljbghaaBgq
namespace Go.Proofs.Ytakdfckkljbghaa
open Go.RowKit
set_option maxRecDepth 100000
set_option linter.unusedVariables false

theorem pk7 (x : Int) : pk x 7 = 0 ∨ pk x 7 = 1 ∨ pk x 7 = 2 ∨ pk x 7 = 3 ∨ pk x 7 = 4 ∨ (pk x 7 = 5 ∨ pk x 7 = 6) := by
  have := pk_in x 7 (by omega)
  omega
/-- a parcel handed out in new memory is none of the bag's -/
theorem NewQ.nwt {B : Nat} {w w1 w2 : World} {P : Pd17} {x y : Pcl} (hP : Ok17 B w P) (hn : ∀ a, y.ao = some a → w.heap.size ≤ a.block) : ∀ k, BlP y k → ¬ Wt17 P k := by
  rintro k ⟨a, ha, rfl⟩ hk
  have h1 := hn a ha
  have h2 := (hP.wlt _ hk).2
  omega
set_option maxHeartbeats 16000000 in
theorem does17_any (B : Nat) (P : Pd17) (o : Oq17) (hok : -9223372036854775808 ≤ o.k ∧ o.k ≤ 9223372036854775807) (hono : -9223372036854775808 ≤ o.no ∧ o.no ≤ 9223372036854775807) (hon : o.n ≤ 140737488351232) (hla : (P.la + 2) * 48 ≤ 140737488355328) (w : World) (hP : Ok17 B w P) (hBw : B ≤ w.heap.size) (hr : Rd w o.ao o.n o.cap o.bs) (hrb : ∀ a, o.ao = some a → 0 < o.n → a.block < B) : Calls Try.prog 9 #[.agg (pvs17 P), .agg (oqs17 o)] w fun e w' => e = .returned (.bool true) ∧ ∃ P', Eff17 B w w' P P' ∧ (4 ≤ pk o.k 7 → P' = P) := by
  have A0 := Still.alloc w (.cells (pvs17 P) 31)
  have A1 := Still.alloc (w.alloc (.cells (pvs17 P) 31)) (.cells (oqs17 o) 35)
  obtain ⟨W, eW⟩ : ∃ W, (w.alloc (.cells (pvs17 P) 31)).alloc (.cells (oqs17 o) 35) = W := ⟨_, rfl⟩
  obtain ⟨b2, eb2⟩ : ∃ g, w.heap.size = g := ⟨_, rfl⟩
  have HS0 : Hid (Still w W) := hid (by rw [← eW]; exact A0.trans A1)
  have HBx : Hid (Bx17 W b2 (b2 + 1) P o) := hid (by
    rw [← eW, ← eb2]
    refine ⟨A1.kept_still (heap_alloc_new w _), ?_⟩
    have := heap_alloc_new (w.alloc (.cells (pvs17 P) 31)) (.cells (oqs17 o) 35)
    rw [size_alloc] at this
    exact this)
  have HP := hid (hP.still HS0.out)
  have HP1b := hid hP
  have HB : Hid (B ≤ w.heap.size) := hid hBw
  have HR := hid (hr.still HS0.out)
  have HRb := hid hrb
  have HON := hid hon
  have HLA := hid hla
  have HEb := hid eb2
  have hl0 := hP.x.l0
  have hkk := hid hok
  have hkn := hid hono
  obtain ⟨c20, c21, c30, c32, c33, c34, c35, c36⟩ := HBx.out.cells
  clear A0 A1 hP hr hrb hon hla hok hono
  go_enter Try.func9, Try.ntmps9
  go_upto_if 30 with fail
  clear eW
  go_cut [5] (fun v5 wx => ∃ q : Int, v5 = .int .i64 q ∧ (-9223372036854775808 ≤ q ∧ q ≤ 9223372036854775807) ∧ Still W wx)
  case first =>
    cases hnr : o.nr with
    | false =>
      rw [hnr] at c36
      go_wp2_with fail
      go_meet
      exact ⟨o.no, rfl, hkn.out, Fr.refl _ _⟩
    | true =>
      rw [hnr] at c36
      have hla2 : P.la + 2 ≤ 2932031007402 := by have := HLA.out; omega
      have hpk := pk_in o.no (P.la + 2) (by omega)
      have HPk := hid (fun w => pick_any o.no (P.la + 2) hkn.out (by omega) (by omega) w)
      have HQ : Hid (-9223372036854775808 ≤ pk o.no (P.la + 2) ∧ pk o.no (P.la + 2) ≤ 9223372036854775807) := hid (by omega)
      obtain ⟨q, eq⟩ : ∃ q, pk o.no (P.la + 2) = q := ⟨_, rfl⟩
      rw [eq] at HPk HQ
      obtain ⟨hw1, hw2⟩ := wrI (x := P.la + 2) (by omega)
      have q0 := Cl.cell c35
      have q1 := Cl.cell c21
      have q2 := Cl.cell HP.out.y.cell.2.1
      have hne := Aft.here W
      clear hpk eq hla2
      go_wp2_with fail
      refine region_all (by kernel_rfl) (by kernel_rfl) ?_
      repeat (go_big_quiet_step ((go_at_call 8; with_reducible exact Calls.cl_same (HPk.out _))))
      refine wpQuiet_nil ?_
      intro w3 h3
      go_wp2_with fail
      go_meet
      exact ⟨q, rfl, HQ.out, h3⟩
  case rest =>
    obtain ⟨q, rfl, hq, hs⟩ := hcut
    have HQ := hid hq
    have HS1 := hid (HS0.out.trans hs)
    have HB1 := hid (HBx.out.still hs)
    have HP1 := hid (HP.out.still hs)
    have HR1 := hid (HR.out.still hs)
    have HPk := hid (fun w => pick_any o.k 7 hkk.out (by omega) (by omega) w)
    have hW2 : b2 + 1 < wc.heap.size := block_lt HB1.out.h3
    have hP2 := hid (HP1.out.wlt)
    clear hs hq HBx HP HR HS0 c20 c21 c30 c32 c33 c34 c35 c36 hkk hkn
    obtain ⟨c20, c21, c30, c32, c33, c34, c35, c36⟩ := HB1.out.cells
    obtain ⟨kd, ekd⟩ : ∃ kd, pk o.k 7 = kd := ⟨_, rfl⟩
    have h7 := pk7 o.k
    rw [ekd] at HPk h7
    have HKd := hid ekd
    clear ekd
    have hla2 : P.la < 4611686018427387904 := by have := HLA.out; omega
    have HSl : Hid ((P.S.length + 1) * 48 ≤ 140737488355328 ∧ P.L.length * 48 ≤ 140737488355328 ∧ P.S.length * 48 ≤ 140737488355328 ∧ P.S.length ≤ 281474976710656) := hid (by
      have h1 := HP1.out.len
      have h2 := HLA.out
      omega)
    go_wp2_with fail
    refine (HPk.out _).mono ?_
    rintro e w2 ⟨he, hw⟩
    rw [he, hw]
    clear he hw w2 HPk
    rcases h7 with rfl | rfl | rfl | rfl | rfl | h7
    · have HC := hid (llent_any o.ao o.n o.cap o.bs HON.out wc HR1.out)
      go_wp2_with fail
      refine HC.out.mono ?_
      rintro e w3 ⟨g, he, ho3, h200, hs3, hg⟩
      rw [he]
      have HO3 := hid ho3
      have H200 := hid h200
      have HS3 := hid hs3
      have HG := hid hg
      have HB3 := hid (HB1.out.still hs3)
      have HP3 := hid (HP1.out.still hs3)
      have HR3 := hid (HR1.out.still hs3)
      clear he ho3 h200 hs3 hg HC c20 c21 c30 c32 c33 c34 c35 c36
      obtain ⟨c20, c21, c30, c32, c33, c34, c35, c36⟩ := HB3.out.cells
      have hup := fun (u : World) => run_upto (P := Try.prog) u 33 5 (Classical.choose infoB) Try.underlying33 (Classical.choose_spec infoB).1 (Classical.choose_spec infoB).2.2.1 .i64 (some ⟨g, 0, none⟩) (o.n + 2) (o.n + 2) (o.n : Int) (by omega) (by omega)
      simp only [Int.toNat_natCast] at hup
      have q0 := Cl.cell c20
      have q1 := Cl.cell c32
      have q2 := Cl.cell c33
      have q3 := Cl.cell c34
      have hne := Aft.here w3
      have HCs := hid (fun u (hu : Still w3 u) => bsend_any P.p P.mb P.la P.L o.fr o.td (some ⟨g, 0, none⟩) o.n (o.n + 2) o.bs hla2 HON.out u (HP3.out.x.still hu) (HO3.out.rd.still hu))
      clear c20 c21 c30 c32 c33 c34 c35 c36
      go_wp2_with fail
      refine region_rest 11 (by kernel_rfl) (by kernel_rfl) ?_
      simp only [List.take_succ_cons, List.take_zero, List.drop_succ_cons, List.drop_zero]
      repeat (go_big_quiet_step (rfl))
      refine wpQuiet_nil ?_
      intro w4 h4
      have HC := hid (HCs.out w4 h4)
      have HP4 := hid (HP3.out.still h4)
      have HO4 := hid (HO3.out.still h4)
      have HB4 := hid (HB3.out.still h4)
      have HR4 := hid (HR3.out.still h4)
      have H24 : Hid (w4.cell? ⟨g, o.n, none⟩ = some (.int .u8 200)) := hid ((h4.cell (World.block_lt_of_cell? w3 _ H200.out) (fun e => e)).trans H200.out)
      have HS4 := hid ((HS1.out.trans HS3.out).trans h4)
      have HG4 : Hid (g < w4.heap.size ∧ w.heap.size ≤ g) := hid ⟨Nat.lt_of_lt_of_le (World.block_lt_of_cell? w3 ⟨g, o.n, none⟩ H200.out) h4.size, by rw [HG.out]; exact HS1.out.size⟩
      have HGc : Hid (wc.heap.size ≤ g) := hid (by rw [HG.out]; exact Nat.le_refl _)
      clear h4 q0 q1 q2 q3 hne HCs HP3 HO3 HB3 HR3 H200 HS3 hup HG
      go_wp2_with fail
      refine HC.out.mono ?_
      rintro e w5 ⟨he, y, hy, hnw, hb5, hf5⟩
      rw [he]
      have hwl : ∀ k, k = P.p ∨ k = P.mb → Wt17 P k := fun k e => by rcases e with e | e; exact .inl e; exact .inr (.inl e)
      have hn4 := HB4.out.ne HP4.out
      have HB5 : Hid (Bx17 w5 b2 (b2 + 1) P o) := hid (HB4.out.keep hf5 (fun e => hn4.1 (hwl _ e)) (fun e => hn4.2 (hwl _ e)))
      have HO5 : Hid (Ow 5 w5 (some ⟨g, 0, none⟩) o.n (o.n + 2) o.bs) := hid (HO4.out.kept hf5 (fun a ha e => by
        cases ha
        obtain ⟨_, _, cur, hg, _⟩ := HO4.out.row _ rfl
        exact HP4.out.nbt _ (hwl _ e) cur hg))
      have H25 : Hid (w5.cell? ⟨g, o.n, none⟩ = some (.int .u8 200)) := hid ((hf5.cell HG4.out.1 (fun e => by
        obtain ⟨_, _, cur, hg, _⟩ := HO4.out.row _ rfl
        exact HP4.out.nbt _ (hwl _ e) cur hg)).trans H24.out)
      have HR5 : Hid (Rd w5 o.ao o.n o.cap o.bs) := hid (HR4.out.kept hf5 (fun a ha h0 e => by
        have h1 := HRb.out a ha h0
        have h2 := (HP4.out.wlt _ (hwl _ e)).1
        omega))
      have HY5 : Hid (abP y = (P.la + 1, o.fr, o.td, o.bs) ∧ (∀ a, y.ao = some a → w4.heap.size ≤ a.block)) := hid ⟨hy, hnw⟩
      have HK5 := hid hb5
      have HD5 := hid (HP4.out.yk hf5 (fun k e => e))
      have HF5 : Hid (Fr (fun k => k = P.p ∨ k = P.mb) w4 w5) := hid hf5
      clear he hy hnw hb5 hf5 HC hwl hn4 HB4 HO4 H24 HR4
      obtain ⟨c20, c21, c30, c32, c33, c34, c35, c36⟩ := HB5.out.cells
      have hup := fun (u : World) => run_upto (P := Try.prog) u 33 5 (Classical.choose infoB) Try.underlying33 (Classical.choose_spec infoB).1 (Classical.choose_spec infoB).2.2.1 .i64 (some ⟨g, 0, none⟩) (o.n + 2) (o.n + 2) (o.n : Int) (by omega) (by omega)
      simp only [Int.toNat_natCast] at hup
      have q3 := Cl.cell c34
      have q4 := Cl.cell H25.out
      have k1 := fun (z : Aft w5) => run_string (P := Try.prog) z.u 33 5 9 Try.underlying33 Try.underlying5 Try.underlying9 (HO5.out.rd.still z.s)
      have k2 := fun (z : Aft w5) => run_string (P := Try.prog) z.u 33 5 9 Try.underlying33 Try.underlying5 Try.underlying9 (HR5.out.still z.s)
      have hne := Aft.here w5
      have hlt1 : (o.n : Int) < (o.n : Int) + 2 := by omega
      have hlt2 : (o.n : Int) < ((o.n + 2 : Nat) : Int) := by omega
      clear c20 c21 c30 c32 c33 c34 c35 c36
      go_wp2_with fail
      refine region_all (by kernel_rfl) (by kernel_rfl) ?_
      repeat (go_big_quiet_step (rfl))
      refine wpQuiet_nil ?_
      intro w6 h6
      have HB6 := hid (HB5.out.still h6)
      have HO6 := hid (HO5.out.still h6)
      have HR6 := hid (HR5.out.still h6)
      have HK6 := hid (HK5.out.still h6)
      have HD6 := hid (HD5.out.still h6)
      have HF6 : Hid (Fr (fun k => k = P.p ∨ k = P.mb) w4 w6) := hid (Fr.trans HF5.out h6 (fun _ _ e => e.elim))
      clear h6 q3 q4 k1 k2 hne HB5 HO5 HR5 HK5 HD5 HF5 H25 hlt1 hlt2
      obtain ⟨c20, c21, c30, c32, c33, c34, c35, c36⟩ := HB6.out.cells
      have hup1 := hup w6
      clear hup
      have HC := hid (lspoil_any ⟨0, 0, 0, some ⟨g, 0, none⟩, o.n, o.n + 2, o.bs⟩ 99 w6 HO6.out (by have := HON.out; show o.n < _; omega))
      go_wp2_with fail
      refine HC.out.mono ?_
      rintro e w7 ⟨he, hf7⟩
      rw [he]
      have hbl : ∀ k, BlP ⟨0, 0, 0, some ⟨g, 0, none⟩, o.n, o.n + 2, o.bs⟩ k → k = g := by
        rintro k ⟨a, ha, rfl⟩
        cases ha
        rfl
      have hgt : ∀ {k : Nat} {cur : Array Value} {t : TypeId}, w6.heap[k]? = some (.cells cur t (0, 0)) → t ≠ 5 → k ≠ g := fun hk ht => by
        obtain ⟨_, _, cur, hg, _⟩ := HO6.out.row _ rfl
        exact ty_ne hk hg ht
      have HB7 : Hid (Bx17 w7 b2 (b2 + 1) P o) := hid (HB6.out.keep hf7 (fun e => hgt HB6.out.h2 (by decide) (hbl _ e)) (fun e => hgt HB6.out.h3 (by decide) (hbl _ e)))
      have HR7 : Hid (Rd w7 o.ao o.n o.cap o.bs) := hid (HR6.out.kept hf7 (fun a ha h0 e => by
        have h1 := HRb.out a ha h0
        have h2 := hbl _ e
        have h3 := HG4.out.2
        have h4 := HB.out
        omega))
      have hLn : ∀ x ∈ P.L ++ [y], ∀ a, x.ao = some a → a.block ≠ g := fun x hx a ha => by
        rcases List.mem_append.1 hx with hx | hx
        · have h1 := (HP1.out.blt.1 x hx a ha)
          have h2 := HGc.out
          omega
        · rw [List.mem_singleton] at hx
          subst hx
          have h1 := HY5.out.2 a ha
          have h2 := HG4.out.1
          omega
      have HK7 : Hid (Bk w7 P.p P.mb (P.la + 1) (P.L ++ [y])) := hid (HK6.out.keep hf7 (fun e => hgt HK6.out.bk (by decide) (hbl _ e)) (fun e => by
        obtain ⟨es, c, hb', _⟩ := HK6.out.mp
        obtain ⟨_, _, cur, hg, _⟩ := HO6.out.row _ rfl
        rw [hbl _ e] at hb'
        rw [hg] at hb'
        cases hb') (fun x hx a ha e => hLn x hx a ha (hbl _ e)))
      have HD7 : Hid (Ydb w7 B P.yb P.v P.la P.S) := hid (HD6.out.keep hf7 (fun e => hgt HD6.out.bk (by decide) (hbl _ e)) (fun k hk e => by
        obtain ⟨cur, hc⟩ := ow_ty HD6.out.ow e
        exact hgt hc (by decide) (hbl _ hk)) (fun x hx a ha e => by
        have h1 := (HP1.out.blt.2 x hx a ha)
        have h2 := HGc.out
        have h3 := hbl _ e
        omega))
      have HF7 : Hid (Fr (fun k => (k = P.p ∨ k = P.mb) ∨ k = g) w4 w7) := hid (Fr.trans (HF6.out.mono (fun k _ e => .inl e)) hf7 (fun k _ e => .inr (hbl _ e)))
      have HS7 : Hid (Fr (fun k => k = P.p ∨ k = P.mb) w w7) := hid (Fr.trans (Still.to HS4.out) HF7.out (fun k hk e => by
        rcases e with e | e
        · exact e
        · have := HG4.out.2
          omega))
      have HC2 := hid (rsend_any B P.yb P.v P.la P.S o.fr o.td o.ao o.n o.cap o.bs hl0 hla2 HON.out HSl.out.1 w7 HD7.out HR7.out (fun a ha h0 e => by
        have h1 := HRb.out a ha h0
        have h2 := HD7.out.lo
        omega))
      clear he hf7 HC hbl hgt hLn HB6 HO6 HR6 HK6 HD6 HF6 hup1 c20 c21 c30 c32 c33 c34 c35 c36
      obtain ⟨c20, c21, c30, c32, c33, c34, c35, c36⟩ := HB7.out.cells
      go_wp2_with fail
      refine HC2.out.mono ?_
      rintro e w8 ⟨he, z, v', hz, hnw, hd8, hf8, hv8⟩
      rw [he]
      have HE : Hid (∃ P', Eff17 B w w8 P P') := hid ⟨_, (HP1b.out).both HS7.out (fun k e => e) HK7.out hf8 (fun k e => e) hd8 (by
        rw [List.map_append, List.map_append, HP1.out.ab, List.map_singleton, List.map_singleton, hz, HY5.out.1]) (by omega) (fun k hk => (hv8 k hk).imp id (fun h => Nat.le_trans HS7.out.size h))⟩
      clear he hz hnw hd8 hf8 hv8 HC2
      go_wp2_with fail
      go_ret
      exact ⟨by simp, by obtain ⟨P', h⟩ := HE.out; exact ⟨P', h, fun h4 => by have := HKd.out; omega⟩⟩
    · rcases find_pair HP1.out.ab HP1.out.x.up q with ⟨hf1, hf2⟩ | ⟨x, i, hf1, hi, hik, hif, hxa, hdel⟩
      · have HC := hid (bdeliver_no P.p P.mb P.la P.L q HQ.out wc HP1.out.x hf1)
        go_wp2_with fail
        refine HC.out.mono ?_
        rintro e w3 ⟨he, hs3⟩
        rw [he]
        have HT3 := hid (hs3.trans (Still.alloc w3 (.cells (pls zPl) 43)))
        clear he hs3 HC hf1
        go_upto_region 14 with fail
        obtain ⟨W4, eW4⟩ : ∃ W, w3.alloc (.cells #[.int .i64 zPl.no, .int .i64 zPl.fr, .int .i64 zPl.td, .slice zPl.ao zPl.n zPl.cap] 43) = W := ⟨_, rfl⟩
        rw [eW4]
        have HT4 : Hid (Still wc W4) := hid (by rw [← eW4]; exact HT3.out)
        have HA4 : Hid (Plb W4 w3.heap.size zPl) := hid (by rw [← eW4]; exact newPl_b w3 zPl)
        have HB4 := hid (HB1.out.still HT4.out)
        have HP4 := hid (HP1.out.still HT4.out)
        have HC2 := hid (rdeliver_no B P.yb P.v P.la P.S q W4 HP4.out.y HSl.out.2.2.2 hf2)
        clear eW4 HT3 hf2 c20 c21 c30 c32 c33 c34 c35 c36
        obtain ⟨c20, c21, c30, c32, c33, c34, c35, c36⟩ := HB4.out.cells
        go_wp2_with fail
        refine HC2.out.mono ?_
        rintro e w5 ⟨he, hs5⟩
        rw [he]
        have HT5 := hid (hs5.trans (Still.alloc w5 (.cells (pls zPl) 43)))
        clear he hs5 HC2
        go_upto_region 15 with fail
        obtain ⟨W6, eW6⟩ : ∃ W, w5.alloc (.cells #[.int .i64 zPl.no, .int .i64 zPl.fr, .int .i64 zPl.td, .slice zPl.ao zPl.n zPl.cap] 43) = W := ⟨_, rfl⟩
        rw [eW6]
        have HT6 : Hid (Still W4 W6) := hid (by rw [← eW6]; exact HT5.out)
        have HA6 := hid (HA4.out.still HT6.out)
        have HD6 : Hid (Plb W6 w5.heap.size zPl) := hid (by rw [← eW6]; exact newPl_b w5 zPl)
        have HC3 := hid (rsame_t zPl zPl rfl W6 (Rd.empty W6) (Rd.empty W6))
        clear eW6 HT5 c20 c21 c30 c32 c33 c34 c35 c36
        obtain ⟨d0, d1, d2, d3, _⟩ := HA6.out.cells
        obtain ⟨f0, f1, f2, f3, _⟩ := HD6.out.cells
        go_wp2_with fail
        refine HC3.out.mono ?_
        rintro e w7 ⟨he, hs7⟩
        rw [he]
        have HT7 := hid ((HT4.out.trans HT6.out).trans hs7)
        have HC4 := hid (lspoil_any zPl 98 w7 (Ow.empty _ w7) (by simp [zPl]))
        have HA7 := hid (HA6.out.still hs7)
        clear he hs7 HC3 d0 d1 d2 d3 f0 f1 f2 f3
        obtain ⟨d0, d1, d2, d3, _⟩ := HA7.out.cells
        go_wp2_with fail
        refine HC4.out.mono ?_
        rintro e w8 ⟨he, hf8⟩
        rw [he]
        have HE := hid (Eff17.same HP1b.out ((HS1.out.trans HT7.out).trans (hf8.mono (fun k _ e => by obtain ⟨a, ha, _⟩ := e; cases ha))))
        clear he hf8 HC4
        go_wp2_with fail
        go_ret
        exact ⟨by simp, P, HE.out, fun _ => rfl⟩
      · have HC := hid (bdeliver_yes P.p P.mb P.la P.L q x HQ.out wc HP1.out.x hf1)
        go_wp2_with fail
        refine HC.out.mono ?_
        rintro e w3 ⟨y, he, hn3, hb3, hf3⟩
        rw [he]
        obtain ⟨b10, eb10⟩ : ∃ b, w3.heap.size = b := ⟨_, rfl⟩
        obtain ⟨W4, eW4⟩ : ∃ W, newPl w3 y = W := ⟨_, rfl⟩
        have A4 : Still w3 W4 := by rw [← eW4]; exact Still.alloc _ _
        have hnb := HB1.out.ne HP1.out
        have HB4 : Hid (Bx17 W4 b2 (b2 + 1) P o) := hid ((HB1.out.keep hf3 (fun e => hnb.1 (.inr (.inl e))) (fun e => hnb.2 (.inr (.inl e)))).still A4)
        have HD4 := hid ((HP1.out.yk hf3 (fun k e => .inr e)).still A4)
        have HK4 := hid (hb3.still A4)
        have HA4 : Hid (Plb W4 b10 y) := hid (by rw [← eW4, ← eb10]; exact newPl_b w3 y)
        have HQ4 := hid (hn3.q.still A4)
        have HN4 : Hid (abP y = abP x ∧ ∀ a, y.ao = some a → wc.heap.size ≤ a.block) := hid ⟨hn3.ab, hn3.nw⟩
        have HF4 : Hid (Fr (fun k => k = P.mb) w W4) := hid (Fr.trans (Fr.trans (Still.to HS1.out) hf3 (fun _ _ e => e)) A4 (fun _ _ e => e.elim))
        have HC2 := hid (rdeliver_yes B P.yb P.v P.la P.S q i W4 HD4.out HSl.out.2.2.1 hi hik hif)
        have HXa := hid hxa
        have HDel := hid hdel
        obtain ⟨z, ez⟩ : ∃ z, atP P.S i = z := ⟨_, rfl⟩
        rw [ez] at HC2 HXa
        simp only [newPl] at eW4
        clear he hn3 hb3 hf3 HC hnb hf1 hdel hxa hik hif ez c20 c21 c30 c32 c33 c34 c35 c36 A4
        obtain ⟨c20, c21, c30, c32, c33, c34, c35, c36⟩ := HB4.out.cells
        go_wp2_with fail
        refine HC2.out.mono ?_
        rintro e w5 ⟨he, v', hd5, hz5, hf5, hv5⟩
        rw [he]
        clear eW4 eb10
        obtain ⟨b12, eb12⟩ : ∃ b, w5.heap.size = b := ⟨_, rfl⟩
        obtain ⟨W6, eW6⟩ : ∃ W, newPl w5 z = W := ⟨_, rfl⟩
        have A6 : Still w5 W6 := by rw [← eW6]; exact Still.alloc _ _
        have HA6 : Hid (Plb W6 b10 y) := hid ((HA4.out.keep hf5 (fun e => ty_ne HA4.out HD4.out.bk (by decide) e)).still A6)
        have HQ6 := hid ((HQ4.out.keep hf5 (fun k hk => HD4.out.nbt k (.inl hk))).still A6)
        have HZ6 : Hid (Plb W6 b12 z) := hid (by rw [← eW6, ← eb12]; exact newPl_b w5 z)
        have HE6 := hid (((HP1b.out).both HF4.out (fun k e => .inr e) HK4.out hf5 (fun k e => .inl e) hd5 HDel.out (by omega) (fun k hk => .inr (Nat.le_trans HF4.out.size (hv5 k hk)))).still A6)
        have HC3 := hid (rsame_t y z (HN4.out.1.trans HXa.out) W6 HQ6.out.ow.rd (hz5.still A6).ow.rd)
        simp only [newPl] at eW6
        clear he hd5 hz5 hf5 hv5 HC2 A6 HB4 HD4 HK4 HA4 HQ4 HF4 c20 c21 c30 c32 c33 c34 c35 c36
        obtain ⟨d0, d1, d2, d3, _⟩ := HA6.out.cells
        obtain ⟨f0, f1, f2, f3, _⟩ := HZ6.out.cells
        go_wp2_with fail
        refine HC3.out.mono ?_
        rintro e w7 ⟨he, hs7⟩
        rw [he]
        clear eW6 eb12
        have HA7 := hid (HA6.out.still hs7)
        have HQ7 := hid (HQ6.out.still hs7)
        have HE7 := hid (HE6.out.still hs7)
        have HC4 := hid (lspoil_any y 98 w7 HQ7.out.ow (by have := HQ7.out.le; omega))
        clear he hs7 HC3 d0 d1 d2 d3 f0 f1 f2 f3 HE6 HZ6 HA6 HQ6
        obtain ⟨d0, d1, d2, d3, _⟩ := HA7.out.cells
        go_wp2_with fail
        refine HC4.out.mono ?_
        rintro e w8 ⟨he, hf8⟩
        rw [he]
        have HE : Hid (∃ P', Eff17 B w w8 P P') := hid ⟨_, HE7.out.then hf8 (fun k hk => by
          obtain ⟨a, ha, rfl⟩ := hk
          exact Nat.le_trans HS1.out.size (HN4.out.2 a ha)) (fun k hk hw => by
          obtain ⟨a, ha, rfl⟩ := hk
          obtain ⟨_, _, cur, hg, _⟩ := HQ7.out.ow.row a ha
          exact HE7.out.ok.nbt _ hw cur hg) (fun x' hx' a ha hk => by
          obtain ⟨a2, ha2, e2⟩ := hk
          have h1 := HP1.out.blt.1 x' (delP_mem hx').1 a ha
          have h2 := HN4.out.2 a2 ha2
          omega) (fun x' hx' a ha hk => by
          obtain ⟨a2, ha2, e2⟩ := hk
          have h1 := HP1.out.blt.2 x' (outP_mem hx') a ha
          have h2 := HN4.out.2 a2 ha2
          omega)⟩
        clear he hf8 HC4
        go_wp2_with fail
        go_ret
        exact ⟨by simp, by obtain ⟨P', h⟩ := HE.out; exact ⟨P', h, fun h4 => by have := HKd.out; omega⟩⟩
    · rcases find_pair HP1.out.ab HP1.out.x.up q with ⟨hf1, hf2⟩ | ⟨x, i, hf1, hi, hik, hif, hxa, hdel⟩
      · have HC := hid (bdrop_any P.p P.mb P.la P.L q HQ.out wc HP1.out.x)
        rw [hf1, delP_none hf1] at HC
        rw [show (if (Option.none : Option Pcl).isSome = true then (0 : Int) else 170) = 170 from rfl] at HC
        go_wp2_with fail
        refine HC.out.mono ?_
        rintro e w3 ⟨he, hb3, hf3⟩
        rw [he]
        have hn3 := HB1.out.ne HP1.out
        have HB3 : Hid (Bx17 w3 b2 (b2 + 1) P o) := hid (HB1.out.keep hf3 (fun e => hn3.1 (.inr (.inl e))) (fun e => hn3.2 (.inr (.inl e))))
        have HD3 := hid (HP1.out.yk hf3 (fun k e => .inr e))
        have HK3 := hid hb3
        have HF3 : Hid (Fr (fun k => k = P.mb) w w3) := hid (Fr.trans (Still.to HS1.out) hf3 (fun _ _ e => e))
        have HC2 := hid (rdeliver_no B P.yb P.v P.la P.S q w3 HD3.out HSl.out.2.2.2 hf2)
        clear he hb3 hf3 HC hn3 hf1 hf2 c20 c21 c30 c32 c33 c34 c35 c36
        obtain ⟨c20, c21, c30, c32, c33, c34, c35, c36⟩ := HB3.out.cells
        go_wp2_with fail
        refine HC2.out.mono ?_
        rintro e w4 ⟨he, hs4⟩
        rw [he]
        have HE : Hid (Eff17 B w (newPl w4 zPl) P P) := hid (((HP1b.out).both HF3.out (fun k e => .inr e) HK3.out (Fr.refl (fun k => k = P.yb ∨ P.v.ownBlock = some k) w3) (fun k e => e) HD3.out HP1.out.ab (by omega) (fun k hk => .inl hk)).still (hs4.trans (Still.alloc _ _)))
        clear he hs4 HC2
        go_wp2_with fail
        go_ret
        exact ⟨by simp, P, HE.out, fun _ => rfl⟩
      · have HC := hid (bdrop_any P.p P.mb P.la P.L q HQ.out wc HP1.out.x)
        rw [hf1] at HC
        rw [show (if (some x).isSome = true then (0 : Int) else 170) = 0 from rfl] at HC
        go_wp2_with fail
        refine HC.out.mono ?_
        rintro e w3 ⟨he, hb3, hf3⟩
        rw [he]
        have hn3 := HB1.out.ne HP1.out
        have HB3 : Hid (Bx17 w3 b2 (b2 + 1) P o) := hid (HB1.out.keep hf3 (fun e => hn3.1 (.inr (.inl e))) (fun e => hn3.2 (.inr (.inl e))))
        have HD3 := hid (HP1.out.yk hf3 (fun k e => .inr e))
        have HK3 := hid hb3
        have HF3 : Hid (Fr (fun k => k = P.mb) w w3) := hid (Fr.trans (Still.to HS1.out) hf3 (fun _ _ e => e))
        have HC2 := hid (rdeliver_yes B P.yb P.v P.la P.S q i w3 HD3.out HSl.out.2.2.1 hi hik hif)
        have HDel := hid hdel
        clear he hb3 hf3 HC hn3 hf1 c20 c21 c30 c32 c33 c34 c35 c36 hdel hxa hik hif
        obtain ⟨c20, c21, c30, c32, c33, c34, c35, c36⟩ := HB3.out.cells
        go_wp2_with fail
        refine HC2.out.mono ?_
        rintro e w4 ⟨he, v', hd4, _, hf4, hv4⟩
        rw [he]
        have HE : Hid (∃ P', Eff17 B w (newPl w4 (atP P.S i)) P P') := hid ⟨_, ((HP1b.out).both HF3.out (fun k e => .inr e) HK3.out hf4 (fun k e => .inl e) hd4 HDel.out (by omega) (fun k hk => .inr (Nat.le_trans HF3.out.size (hv4 k hk)))).still (Still.alloc _ _)⟩
        obtain ⟨z, ez⟩ : ∃ z, atP P.S i = z := ⟨_, rfl⟩
        rw [ez] at HE ⊢
        clear he hd4 hf4 hv4 HC2 ez
        go_wp2_with fail
        go_ret
        exact ⟨by simp, by obtain ⟨P', h⟩ := HE.out; exact ⟨P', h, fun h4 => by have := HKd.out; omega⟩⟩
    · rcases find_pair HP1.out.ab HP1.out.x.up q with ⟨hf1, hf2⟩ | ⟨x, i, hf1, hi, hik, hif, hxa, hdel⟩
      · have HC := hid (bdouble_no P.p P.mb P.la P.L q HQ.out wc HP1.out.x hf1)
        go_wp2_with fail
        refine HC.out.mono ?_
        rintro e w3 ⟨he, hs3⟩
        rw [he]
        have HB3 := hid (HB1.out.still hs3)
        have HP3 := hid (HP1.out.still hs3)
        have HS3 := hid (HS1.out.trans hs3)
        have HC2 := hid (rdouble_no B P.yb P.v P.la P.S q w3 HP3.out.y HSl.out.2.2.2 hf2)
        clear he hs3 HC hf1 hf2 c20 c21 c30 c32 c33 c34 c35 c36
        obtain ⟨c20, c21, c30, c32, c33, c34, c35, c36⟩ := HB3.out.cells
        go_wp2_with fail
        refine HC2.out.mono ?_
        rintro e w4 ⟨he, hs4⟩
        rw [he]
        have HE := hid (Eff17.same HP1b.out (HS3.out.trans hs4))
        clear he hs4 HC2
        go_wp2_with fail
        go_ret
        exact ⟨by simp, P, HE.out, fun _ => rfl⟩
      · have HC := hid (bdouble_yes P.p P.mb P.la P.L q x hla2 HQ.out wc HP1.out.x hf1)
        go_wp2_with fail
        refine HC.out.mono ?_
        rintro e w3 ⟨he, hb3, hf3⟩
        rw [he]
        have hn3 := HB1.out.ne HP1.out
        have HB3 : Hid (Bx17 w3 b2 (b2 + 1) P o) := hid (HB1.out.keep hf3 (fun e => hn3.1 (by rcases e with e | e; exact .inl e; exact .inr (.inl e))) (fun e => hn3.2 (by rcases e with e | e; exact .inl e; exact .inr (.inl e))))
        have HD3 := hid (HP1.out.yk hf3 (fun k e => e))
        have HK3 := hid hb3
        have HF3 : Hid (Fr (fun k => k = P.p ∨ k = P.mb) w w3) := hid (Fr.trans (Still.to HS1.out) hf3 (fun _ _ e => e))
        have HC2 := hid (rdouble_yes B P.yb P.v P.la P.S q i hl0 hla2 w3 HD3.out HSl.out.1 hi hik hif)
        have HXa := hid hxa
        clear he hb3 hf3 HC hn3 hf1 c20 c21 c30 c32 c33 c34 c35 c36 hdel hxa hik hif
        obtain ⟨c20, c21, c30, c32, c33, c34, c35, c36⟩ := HB3.out.cells
        go_wp2_with fail
        refine HC2.out.mono ?_
        rintro e w4 ⟨he, z, v', hz, _, hd4, hf4, hv4⟩
        rw [he]
        have HE : Hid (∃ P', Eff17 B w w4 P P') := hid ⟨_, (HP1b.out).both HF3.out (fun k e => e) HK3.out hf4 (fun k e => e) hd4 (by
          have hx := HXa.out
          simp only [abP, Prod.mk.injEq] at hx
          rw [List.map_append, List.map_append, HP1.out.ab, List.map_singleton, List.map_singleton, hz]
          simp only [abP, noP, hx.2.1, hx.2.2.1, hx.2.2.2]) (by omega) (fun k hk => (hv4 k hk).imp id (fun h => Nat.le_trans HF3.out.size h))⟩
        clear he hz hd4 hf4 hv4 HC2
        go_wp2_with fail
        go_ret
        exact ⟨by simp, by obtain ⟨P', h⟩ := HE.out; exact ⟨P', h, fun h4 => by have := HKd.out; omega⟩⟩
    · have HC := hid (bflight_any P.p P.mb P.la P.L HSl.out.2.1 wc HP1.out.x)
      go_wp2_with fail
      refine HC.out.mono ?_
      rintro e w3 ⟨v, A, he, hfl⟩
      rw [he]
      obtain ⟨N, eN⟩ : ∃ N, A.length = N := ⟨_, rfl⟩
      have hSN : P.S.length = N := by
        have h1 := congrArg List.length hfl.ab
        simp only [List.length_map] at h1
        rw [← eN, h1]
        exact HP1.out.len.1
      obtain ⟨ao3, cp3, e3, _⟩ := hfl.ow.slice
      rw [eN] at e3
      subst e3
      obtain ⟨ao9, cp9, e9⟩ := HP1.out.y.own
      have HY3 : Hid (Ydb w3 B P.yb (.slice ao9 N cp9) P.la P.S) := hid (by
        have := HP1.out.y.still hfl.st
        rw [e9, hSN] at this
        exact this)
      have HB3 := hid (HB1.out.still hfl.st)
      have HF := hid hfl
      have HEN := hid (And.intro eN hSN)
      have HNl : Hid ((N + 1) * 48 ≤ 140737488355328 ∧ N ≤ 281474976710656) := hid (by
        have h := HSl.out
        rw [hSN] at h
        exact ⟨h.1, h.2.2.2⟩)
      have hrA : RdG KPl w3 ao3 N A := by
        have := OwG.rd (M := []) (L := A) (by simpa using hfl.ow) (by rw [eN]; exact HNl.out.2)
        rw [eN] at this
        exact this
      have hrS : RdG KPl w3 ao9 N P.S := by
        have := OwG.rd (M := []) (L := P.S) (by simpa using HY3.out.ow) (by rw [hSN]; exact HNl.out.2)
        rw [hSN] at this
        exact this
      have HC2 := hid (rsameAll_t A P.S ao3 ao9 N cp3 cp9 eN (hfl.ab.trans HP1.out.ab) w3 hrA hrS (fun y hy => (hfl.rq y hy).1) HY3.out.rd)
      have hNs : (N : Int) + 1 ≤ 2932031007402 := by have := HNl.out.1; omega
      have d0 := HY3.out.cell.1
      clear he hfl HC hrA hrS e9 hSN eN c20 c21 c30 c32 c33 c34 c35 c36
      obtain ⟨c20, c21, c30, c32, c33, c34, c35, c36⟩ := HB3.out.cells
      go_wp2_with fail
      refine HC2.out.mono ?_
      rintro e w4 ⟨he, hs4⟩
      rw [he]
      have HT4 := hid (HF.out.st.trans hs4)
      have HI4 : Hid (OwG KPl 43 w4 wc.heap.size (.slice ao3 N cp3) A ∧ Still wc w4 ∧ ∀ j, j < N → 0 ≤ j → Rq w4 (atP A j)) := hid ⟨HF.out.ow.still hs4, HT4.out, fun j hj _ => ((HF.out.rq _ (atP_mem (by have := HEN.out.1; omega))).1).still hs4⟩
      clear he hs4 HC2 d0 c20 c21 c30 c32 c33 c34 c35 c36 HT4
      go_wp2_with fail
      go_loopw [24] (fun u wr => ∃ (i : Nat) (A' : List Pcl), i ≤ N ∧ u = .int .i64 (i : Int) ∧ A'.length = N ∧ (∀ j, i ≤ j → atP A' j = atP A j) ∧ Hid (OwG KPl 43 wr wc.heap.size (.slice ao3 N cp3) A' ∧ Still wc wr ∧ ∀ j, j < N → i ≤ j → Rq wr (atP A j))) (fun u _ => N - (intOf u).toNat)
      case atStart => exact ⟨0, A, by omega, rfl, HEN.out.1, fun _ _ => rfl, HI4⟩
      case round =>
        clear HI4
        obtain ⟨i, A', hi, rfl, hAl, hAt, HH⟩ := hrel
        have HAl := hid hAl
        have HAt := hid hAt
        clear hAl hAt
        by_cases hin : i < N
        · have hlt : (i : Int) < (N : Int) := by omega
          obtain ⟨g, cp', e', _, _⟩ := HH.out.1.head (by have := HAl.out; omega)
          rw [HAl.out] at e'
          cases e'
          obtain ⟨s0, s1, s2, s3, sf⟩ := owPl HH.out.1 (i := i) (by have := HAl.out; omega)
          rw [HAt.out i (Nat.le_refl _)] at s0 s1 s2 s3
          have hq := HH.out.2.2 i hin (Nat.le_refl _)
          have hnw := (HF.out.rq _ (atP_mem (L := A) (i := i) (by have := HEN.out.1; omega))).2
          obtain ⟨x, ex⟩ : ∃ x, atP A i = x := ⟨_, rfl⟩
          rw [ex] at s0 s1 s2 s3 hq hnw
          have HX := hid (And.intro hq hnw)
          have HC := hid (lspoil_any x (UInt8.ofNat i) wr hq.ow (by have := hq.le; omega))
          have hcv : IntKind.u8.wrap (i : Int) = ((UInt8.ofNat i).toNat : Int) := by
            rw [UInt8.toNat_ofNat']
            simp [IntKind.wrap, IntKind.bits, IntKind.signed]
          have hcv2 : ∀ W : World, (convert 3 5 (.int .i64 (i : Int))).run Try.prog W = .ok (.int .u8 ((UInt8.ofNat i).toNat : Int)) W := fun W => by
            rw [← hcv]
            exact run_convert_int (P := Try.prog) W 3 5 .i64 (i : Int) (by rw [Try.underlying3]; rfl) (by kernel_rfl)
          have HEx := hid ex
          clear hq hnw ex
          go_wp2_with fail
          refine HC.out.mono ?_
          rintro e w5 ⟨he, hf5⟩
          rw [he]
          have ho5 := HH.out.1.keep hf5 (fun k hk e => by
            obtain ⟨a, ha, rfl⟩ := hk
            obtain ⟨_, _, cur, hg, _⟩ := HX.out.1.ow.row a ha
            obtain ⟨cur2, hc2⟩ := ow_ty HH.out.1 e
            exact ty_ne hg hc2 (by decide) rfl)
          have hs5 : Still wc w5 := Fr.trans HH.out.2.1 hf5 (fun k hk e => by
            obtain ⟨a, ha, rfl⟩ := e
            have := HX.out.2 a ha
            omega)
          have hq5 : ∀ j, j < N → i + 1 ≤ j → Rq w5 (atP A j) := fun j hj hij => (HH.out.2.2 j hj (by omega)).kept hf5 (fun a ha hk => by
            obtain ⟨a2, ha2, e2⟩ := hk
            have hl := HEN.out.1
            have hd := List.pairwise_iff_getElem.1 HF.out.dj i j (by omega) (by omega) (by omega)
            have e1 : A[i]'(by omega) = x := by rw [← HEx.out]; unfold atP; rw [List.getD_eq_getElem?_getD, List.getElem?_eq_getElem (by omega)]; rfl
            have e3 : A[j]'(by omega) = atP A j := by unfold atP; rw [List.getD_eq_getElem?_getD, List.getElem?_eq_getElem (by omega)]; rfl
            rw [e1, e3] at hd
            exact hd a2 a ha2 ha e2)
          obtain ⟨s0, s1, s2, s3, sf⟩ := owPl ho5 (i := i) (by have := HAl.out; omega)
          have o6 := ho5.put (i := i) (by have := HAl.out; omega) ⟨-1, 0, 0, none, 0, 0, []⟩
          have f6 : Fr (fun k => k = g) w5 (w5.setCells g (i * KPl.k) (KPl.f ⟨-1, 0, 0, none, 0, 0, []⟩)) := fr_setCells g _ _ _ (Fr.refl _ w5) (.inl rfl)
          have HN : Hid (OwG KPl 43 ((((w5.setCell ⟨g, i * 4, none⟩ (.int .i64 (-1))).setCell ⟨g, i * 4 + 1, none⟩ (.int .i64 0)).setCell ⟨g, i * 4 + 2, none⟩ (.int .i64 0)).setCell ⟨g, i * 4 + 3, none⟩ (.slice none 0 0)) wc.heap.size (.slice (some ⟨g, 0, none⟩) N cp3) (A'.set i ⟨-1, 0, 0, none, 0, 0, []⟩) ∧ Still wc ((((w5.setCell ⟨g, i * 4, none⟩ (.int .i64 (-1))).setCell ⟨g, i * 4 + 1, none⟩ (.int .i64 0)).setCell ⟨g, i * 4 + 2, none⟩ (.int .i64 0)).setCell ⟨g, i * 4 + 3, none⟩ (.slice none 0 0)) ∧ ∀ j, j < N → i + 1 ≤ j → Rq ((((w5.setCell ⟨g, i * 4, none⟩ (.int .i64 (-1))).setCell ⟨g, i * 4 + 1, none⟩ (.int .i64 0)).setCell ⟨g, i * 4 + 2, none⟩ (.int .i64 0)).setCell ⟨g, i * 4 + 3, none⟩ (.slice none 0 0)) (atP A j)) := hid ⟨o6, Fr.trans hs5 f6 (fun k hk e => by
            subst e
            have := (ho5.block (k := k) rfl).1
            omega), fun j hj hij => (hq5 j hj hij).keep f6 (fun k hk => by
            subst hk
            obtain ⟨cur, hc⟩ := ow_ty ho5 (k := k) rfl
            exact Nbt.of hc (by decide))⟩
          have HAs : Hid ((A'.set i ⟨-1, 0, 0, none, 0, 0, []⟩).length = N ∧ ∀ j, i + 1 ≤ j → atP (A'.set i ⟨-1, 0, 0, none, 0, 0, []⟩) j = atP A j) := hid ⟨by rw [List.length_set]; exact HAl.out, fun j hij => by
            rw [← HAt.out j (by omega)]
            unfold atP
            rw [List.getD_eq_getElem?_getD, List.getD_eq_getElem?_getD, List.getElem?_set_ne (by omega)]⟩
          clear he hf5 ho5 hs5 hq5 o6 f6 HC hcv hcv2
          go_wp2_with fail
          go_roundw
          case rel => exact ⟨i + 1, _, by omega, by go_num, HAs.out.1, HAs.out.2, HN⟩
          case measure => simp [intOf]; omega
        · have hge : ¬ (i : Int) < (N : Int) := by omega
          have A5 := Still.alloc wr (.cells (pls ⟨-2, 0, 0, none, 0, 0, []⟩) 43)
          have HG5 : Hid ((wr.alloc (.cells (pls ⟨-2, 0, 0, none, 0, 0, []⟩) 43)).heap[wr.heap.size]? = some (.cells (KPl.f ⟨-2, 0, 0, none, 0, 0, []⟩).toArray 43 (0, 0))) := hid (OwG.row1P wr ⟨-2, 0, 0, none, 0, 0, []⟩)
          have HO5 := hid (HH.out.1.still A5)
          have HT5 := hid (HH.out.2.1.trans A5)
          have HL5 : Hid ((A'.length + 1) * 48 ≤ 140737488355328 ∧ A'.length ≤ 281474976710656) := hid (by rw [HAl.out]; exact HNl.out)
          have HD5 := hid (HP1.out.y.still HT5.out)
          clear A5
          go_wp2_with (
            at_builtin
            refine wpList_appQ KPl _ rfl _ _ _ rfl rfl 48 infoPl wc.heap.size wr.heap.size (.slice ao3 N cp3) A' ⟨-2, 0, 0, none, 0, 0, []⟩ rfl rfl HO5.out HG5.out HL5.out.1 HL5.out.2 HT5.out.size ?_
            intro u9 w9 ho9 hf9 _
            obtain ⟨g9, cap9, e9, _, _⟩ := ho9.head (by simp)
            rw [List.length_append, HAl.out, List.length_singleton] at e9
            subst e9
            have hs9 : Still wc w9 := Fr.trans HT5.out hf9 (fun k hk e => by
              have := (HO5.out.block e).1
              omega)
            have HE := hid (Eff17.same HP1b.out (HS1.out.trans hs9))
            have c21 := (HB1.out.still hs9).cells.2.1
            have d0 := (HP1.out.y.still hs9).cell.1
            obtain ⟨ao8, cp8, e8⟩ := HP1.out.y.own
            rw [e8, HEN.out.2] at d0
            clear ho9 hf9 hs9 e8)
          go_ret
          exact ⟨by simp, P, HE.out, fun _ => rfl⟩
    · have hn0 : (kd == 0) = false := beq_eq_false_iff_ne.2 (by omega)
      have hn1 : (kd == 1) = false := beq_eq_false_iff_ne.2 (by omega)
      have hn2 : (kd == 2) = false := beq_eq_false_iff_ne.2 (by omega)
      have hn3 : (kd == 3) = false := beq_eq_false_iff_ne.2 (by omega)
      have hn4 : (kd == 4) = false := beq_eq_false_iff_ne.2 (by omega)
      have HC := hid (blen_any P.p P.mb P.la P.L wc HP1.out.x)
      obtain ⟨ao9, cp9, e9⟩ := HP1.out.y.own
      have d0 := HP1.out.y.cell.1
      rw [e9] at d0
      rw [HP1.out.len.1] at d0
      have HE := hid (Eff17.same HP1b.out HS1.out)
      clear e9
      go_wp2_with fail
      refine HC.out.mono ?_
      rintro e w2 ⟨he, hw⟩
      rw [he, hw]
      clear he hw w2 HC
      go_wp2_with fail
      go_ret
      exact ⟨by simp, P, HE.out, fun _ => rfl⟩
end Go.Proofs.Ytakdfckkljbghaa
