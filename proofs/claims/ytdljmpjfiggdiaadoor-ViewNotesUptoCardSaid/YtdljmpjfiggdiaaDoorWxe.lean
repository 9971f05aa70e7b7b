/- How a note of each kind is told: the functions in the program's table of notes. -/
import Derived.Test.YtdljmpjfiggdiaaDoorWxb
import Derived.Test.YtdljmpjfiggdiaaDoorWve
namespace Go.Proofs.YtdljmpjfiggdiaaDoor
open Go.RowKit
set_option maxRecDepth 100000

theorem vletter_any (n : Int) (h : seatB n = true) (w : World) : Calls Tryd.prog 26 #[.int .i64 n] w fun e w' => e = .returned (.string (ltS n.toNat)) ∧ Still w w' := by
  have h1 := seatB_iff.1 h
  obtain ⟨k, rfl⟩ : ∃ k : Nat, n = (k : Int) := ⟨n.toNat, by omega⟩
  have hk : k < 6 := by omega
  clear h h1
  match k, hk with
  | 0, _ | 1, _ | 2, _ | 3, _ | 4, _ | 5, _ =>
    go_enter Tryd.func26, Tryd.ntmps26
    go_wp2_with fail
    go_ret
    exact ⟨rfl, Fr.refl _ _⟩
theorem isAny_any (n : Int) (w : World) : Calls Tryd.prog 32 #[.int .i64 n] w fun e w' => e = .returned (.bool true) ∧ w' = w := by
  go_enter Tryd.func32, Tryd.ntmps32
  go_wp2_with fail
  go_ret
  exact ⟨rfl, rfl⟩
theorem isSeat_any (n : Int) (w : World) : Calls Tryd.prog 31 #[.int .i64 n] w fun e w' => e = .returned (.bool (seatB n)) ∧ w' = w := by
  by_cases h1 : 0 ≤ n
  · by_cases h2 : n ≤ 5
    · have e : seatB n = true := seatB_iff.2 ⟨h1, h2⟩
      have h3 : n < 6 := by omega
      go_enter Tryd.func31, Tryd.ntmps31
      go_wp2_with fail
      go_ret
      exact ⟨by first | rfl | (rw [e]; rfl), rfl⟩
    · have e : seatB n = false := by unfold seatB; simp; omega
      have h3 : ¬ n < 6 := by omega
      go_enter Tryd.func31, Tryd.ntmps31
      go_wp2_with fail
      go_ret
      exact ⟨by first | rfl | (rw [e]; rfl), rfl⟩
  · have e : seatB n = false := by unfold seatB; simp; omega
    go_enter Tryd.func31, Tryd.ntmps31
    go_wp2_with fail
    go_ret
    exact ⟨by first | rfl | (rw [e]; rfl), rfl⟩
theorem isKind_any (n : Int) (w : World) : Calls Tryd.prog 37 #[.int .i64 n] w fun e w' => e = .returned (.bool (kindB n)) ∧ w' = w := by
  by_cases h1 : 1 ≤ n
  · by_cases h2 : n ≤ 3
    · have e : kindB n = true := kindB_iff.2 ⟨h1, h2⟩
      have h3 : n < 4 := by omega
      go_enter Tryd.func37, Tryd.ntmps37
      go_wp2_with fail
      go_ret
      exact ⟨by first | rfl | (rw [e]; rfl), rfl⟩
    · have e : kindB n = false := by unfold kindB; simp; omega
      have h3 : ¬ n < 4 := by omega
      go_enter Tryd.func37, Tryd.ntmps37
      go_wp2_with fail
      go_ret
      exact ⟨by first | rfl | (rw [e]; rfl), rfl⟩
  · have e : kindB n = false := by unfold kindB; simp; omega
    go_enter Tryd.func37, Tryd.ntmps37
    go_wp2_with fail
    go_ret
    exact ⟨by first | rfl | (rw [e]; rfl), rfl⟩
/-- the program's table of pickups: names and signs -/
def kdN (k : Nat) : ByteArray := if k = 1 then ⟨#[104, 101, 97, 108]⟩ else if k = 2 then ⟨#[99, 104, 97, 114, 103, 101]⟩ else if k = 3 then ⟨#[112, 114, 105, 122, 101]⟩ else ⟨#[]⟩
def kdG (k : Nat) : ByteArray := if k = 1 then ⟨#[104]⟩ else if k = 2 then ⟨#[99]⟩ else if k = 3 then ⟨#[112]⟩ else ⟨#[]⟩
structure KTab (w : World) : Prop where
  nm : ∀ k, k < 4 → w.cell? ⟨0, k * 2, none⟩ = some (.string (kdN k))
  sg : ∀ k, k < 4 → w.cell? ⟨0, k * 2 + 1, none⟩ = some (.string (kdG k))
theorem KTab.still {w w' : World} (h : KTab w) (hs : Still w w') : KTab w' :=
  ⟨fun d hd => (hs.cell (World.block_lt_of_cell? w _ (h.nm d hd)) (fun e => e)).trans (h.nm d hd), fun d hd => (hs.cell (World.block_lt_of_cell? w _ (h.sg d hd)) (fun e => e)).trans (h.sg d hd)⟩
theorem KTab.at1 {w : World} (h : KTab w) : w.cell? ⟨0, 2, none⟩ = some (.string ⟨#[104, 101, 97, 108]⟩) ∧ w.cell? ⟨0, 4, none⟩ = some (.string ⟨#[99, 104, 97, 114, 103, 101]⟩) ∧ w.cell? ⟨0, 6, none⟩ = some (.string ⟨#[112, 114, 105, 122, 101]⟩) := ⟨h.nm 1 (by decide), h.nm 2 (by decide), h.nm 3 (by decide)⟩
set_option maxHeartbeats 2000000 in
theorem tell1_any (x : Nv) (ha : seatB x.a = true) (hb : I64 x.b) (w : World) (ht : PTabV w) (hk : KTab w) : Calls Tryd.prog 33 #[.agg (nvcs x)] w fun e w' => e = .returned (.string ((ltS x.a.toNat ++ ⟨#[32, 102, 105, 114, 101, 100, 32]⟩) ++ itS x.b)) ∧ Still w w' := by
  have H0 := hid (fun u => vletter_any x.a ha u)
  have X0 := ltS_sz x.a.toNat
  have H1 := hid (fun u (hu : Still w u) => itoaV_any x.b hb u (ht.still hu))
  have X1 := itS_sz hb
  have A0 := Still.alloc w (.cells (nvcs x) 50)
  have p0 : Nvb (w.alloc (.cells (nvcs x) 50)) w.heap.size x := heap_alloc_new w _
  have HS0 := hid A0
  have HP0 := hid p0
  have HK0 := hid (hk.still A0)
  obtain ⟨x0, ex0⟩ : ∃ z, ltS x.a.toNat = z := ⟨_, rfl⟩
  rw [ex0] at H0 X0
  rw [ex0]
  obtain ⟨x1, ex1⟩ : ∃ z, itS x.b = z := ⟨_, rfl⟩
  rw [ex1] at H1 X1
  rw [ex1]
  obtain ⟨y1, f1, z1, s1⟩ := cat_ex (a := x0) (b := ⟨#[32, 102, 105, 114, 101, 100, 32]⟩) (m := 1) (n := 7) X0 (by decide) (by decide)
  obtain ⟨y2, f2, z2, s2⟩ := cat_ex (a := y1) (b := x1) (m := 8) (n := 21) z1 X1 (by decide)
  rw [f1, f2]
  clear f1 z1 f2 z2 A0 p0 ex0 X0 ex1 X1 ha hb
  obtain ⟨W0, eW0⟩ : ∃ X, w.alloc (.cells (nvcs x) 50) = X := ⟨_, rfl⟩
  rw [eW0] at HS0 HP0 HK0
  go_enter Tryd.func33, Tryd.ntmps33
  go_upto_region 1 with fail
  clear eW0
  obtain ⟨c0, c1, c2, cf⟩ := HP0.out.cells
  have k0 := Cl.cell c0
  have k1 := Cl.cell c1
  have k2 := Cl.cell c2
  have hne := Aft.here W0
  have G0 := hid (fun z : Aft W0 => H0.out z.u)
  have G1 := hid (fun z : Aft W0 => H1.out z.u (HS0.out.trans z.s))
  clear c0 c1 c2 cf
  refine region_all (by kernel_rfl) (by kernel_rfl) ?_
  repeat (go_big_quiet_step ((first | (go_at_call 26; with_reducible exact Calls.cl (G0.out _)) | (go_at_call 25; with_reducible exact Calls.cl (G1.out _)))))
  refine wpQuiet_nil ?_
  intro w1 h1
  have HS1 := hid (HS0.out.trans h1)
  clear h1 hne k0 k1 k2
  go_wp2_with fail
  go_ret
  exact ⟨rfl, HS1.out⟩
set_option maxHeartbeats 2000000 in
theorem tell2_any (x : Nv) (ha : seatB x.a = true) (hb : seatB x.b = true) (w : World) (_ : PTabV w) (hk : KTab w) : Calls Tryd.prog 34 #[.agg (nvcs x)] w fun e w' => e = .returned (.string ((ltS x.a.toNat ++ ⟨#[32, 104, 105, 116, 32, 98, 121, 32]⟩) ++ ltS x.b.toNat)) ∧ Still w w' := by
  have H0 := hid (fun u => vletter_any x.a ha u)
  have X0 := ltS_sz x.a.toNat
  have H1 := hid (fun u => vletter_any x.b hb u)
  have X1 := ltS_sz x.b.toNat
  have A0 := Still.alloc w (.cells (nvcs x) 50)
  have p0 : Nvb (w.alloc (.cells (nvcs x) 50)) w.heap.size x := heap_alloc_new w _
  have HS0 := hid A0
  have HP0 := hid p0
  have HK0 := hid (hk.still A0)
  obtain ⟨x0, ex0⟩ : ∃ z, ltS x.a.toNat = z := ⟨_, rfl⟩
  rw [ex0] at H0 X0
  rw [ex0]
  obtain ⟨x1, ex1⟩ : ∃ z, ltS x.b.toNat = z := ⟨_, rfl⟩
  rw [ex1] at H1 X1
  rw [ex1]
  obtain ⟨y1, f1, z1, s1⟩ := cat_ex (a := x0) (b := ⟨#[32, 104, 105, 116, 32, 98, 121, 32]⟩) (m := 1) (n := 8) X0 (by decide) (by decide)
  obtain ⟨y2, f2, z2, s2⟩ := cat_ex (a := y1) (b := x1) (m := 9) (n := 1) z1 X1 (by decide)
  rw [f1, f2]
  clear f1 z1 f2 z2 A0 p0 ex0 X0 ex1 X1 ha hb
  obtain ⟨W0, eW0⟩ : ∃ X, w.alloc (.cells (nvcs x) 50) = X := ⟨_, rfl⟩
  rw [eW0] at HS0 HP0 HK0
  go_enter Tryd.func34, Tryd.ntmps34
  go_upto_region 1 with fail
  clear eW0
  obtain ⟨c0, c1, c2, cf⟩ := HP0.out.cells
  have k0 := Cl.cell c0
  have k1 := Cl.cell c1
  have k2 := Cl.cell c2
  have hne := Aft.here W0
  have G0 := hid (fun z : Aft W0 => H0.out z.u)
  have G1 := hid (fun z : Aft W0 => H1.out z.u)
  clear c0 c1 c2 cf
  refine region_all (by kernel_rfl) (by kernel_rfl) ?_
  repeat (go_big_quiet_step ((first | (go_at_call 26; with_reducible exact Calls.cl (G0.out _)) | (go_at_call 26; with_reducible exact Calls.cl (G1.out _)))))
  refine wpQuiet_nil ?_
  intro w1 h1
  have HS1 := hid (HS0.out.trans h1)
  clear h1 hne k0 k1 k2
  go_wp2_with fail
  go_ret
  exact ⟨rfl, HS1.out⟩
set_option maxHeartbeats 2000000 in
theorem tell3_any (x : Nv) (ha : seatB x.a = true) (hb : seatB x.b = true) (w : World) (_ : PTabV w) (hk : KTab w) : Calls Tryd.prog 35 #[.agg (nvcs x)] w fun e w' => e = .returned (.string ((ltS x.a.toNat ++ ⟨#[32, 111, 117, 116, 32, 98, 121, 32]⟩) ++ ltS x.b.toNat)) ∧ Still w w' := by
  have H0 := hid (fun u => vletter_any x.a ha u)
  have X0 := ltS_sz x.a.toNat
  have H1 := hid (fun u => vletter_any x.b hb u)
  have X1 := ltS_sz x.b.toNat
  have A0 := Still.alloc w (.cells (nvcs x) 50)
  have p0 : Nvb (w.alloc (.cells (nvcs x) 50)) w.heap.size x := heap_alloc_new w _
  have HS0 := hid A0
  have HP0 := hid p0
  have HK0 := hid (hk.still A0)
  obtain ⟨x0, ex0⟩ : ∃ z, ltS x.a.toNat = z := ⟨_, rfl⟩
  rw [ex0] at H0 X0
  rw [ex0]
  obtain ⟨x1, ex1⟩ : ∃ z, ltS x.b.toNat = z := ⟨_, rfl⟩
  rw [ex1] at H1 X1
  rw [ex1]
  obtain ⟨y1, f1, z1, s1⟩ := cat_ex (a := x0) (b := ⟨#[32, 111, 117, 116, 32, 98, 121, 32]⟩) (m := 1) (n := 8) X0 (by decide) (by decide)
  obtain ⟨y2, f2, z2, s2⟩ := cat_ex (a := y1) (b := x1) (m := 9) (n := 1) z1 X1 (by decide)
  rw [f1, f2]
  clear f1 z1 f2 z2 A0 p0 ex0 X0 ex1 X1 ha hb
  obtain ⟨W0, eW0⟩ : ∃ X, w.alloc (.cells (nvcs x) 50) = X := ⟨_, rfl⟩
  rw [eW0] at HS0 HP0 HK0
  go_enter Tryd.func35, Tryd.ntmps35
  go_upto_region 1 with fail
  clear eW0
  obtain ⟨c0, c1, c2, cf⟩ := HP0.out.cells
  have k0 := Cl.cell c0
  have k1 := Cl.cell c1
  have k2 := Cl.cell c2
  have hne := Aft.here W0
  have G0 := hid (fun z : Aft W0 => H0.out z.u)
  have G1 := hid (fun z : Aft W0 => H1.out z.u)
  clear c0 c1 c2 cf
  refine region_all (by kernel_rfl) (by kernel_rfl) ?_
  repeat (go_big_quiet_step ((first | (go_at_call 26; with_reducible exact Calls.cl (G0.out _)) | (go_at_call 26; with_reducible exact Calls.cl (G1.out _)))))
  refine wpQuiet_nil ?_
  intro w1 h1
  have HS1 := hid (HS0.out.trans h1)
  clear h1 hne k0 k1 k2
  go_wp2_with fail
  go_ret
  exact ⟨rfl, HS1.out⟩
set_option maxHeartbeats 2000000 in
theorem tell4_any (x : Nv) (ha : seatB x.a = true) (w : World) (_ : PTabV w) (hk : KTab w) : Calls Tryd.prog 36 #[.agg (nvcs x)] w fun e w' => e = .returned (.string (ltS x.a.toNat ++ ⟨#[32, 98, 97, 99, 107]⟩)) ∧ Still w w' := by
  have H0 := hid (fun u => vletter_any x.a ha u)
  have X0 := ltS_sz x.a.toNat
  have A0 := Still.alloc w (.cells (nvcs x) 50)
  have p0 : Nvb (w.alloc (.cells (nvcs x) 50)) w.heap.size x := heap_alloc_new w _
  have HS0 := hid A0
  have HP0 := hid p0
  have HK0 := hid (hk.still A0)
  obtain ⟨x0, ex0⟩ : ∃ z, ltS x.a.toNat = z := ⟨_, rfl⟩
  rw [ex0] at H0 X0
  rw [ex0]
  obtain ⟨y1, f1, z1, s1⟩ := cat_ex (a := x0) (b := ⟨#[32, 98, 97, 99, 107]⟩) (m := 1) (n := 5) X0 (by decide) (by decide)
  rw [f1]
  clear f1 z1 A0 p0 ex0 X0 ha
  obtain ⟨W0, eW0⟩ : ∃ X, w.alloc (.cells (nvcs x) 50) = X := ⟨_, rfl⟩
  rw [eW0] at HS0 HP0 HK0
  go_enter Tryd.func36, Tryd.ntmps36
  obtain ⟨c0, c1, c2, cf⟩ := HP0.out.cells
  go_wp2_with fail
  refine (H0.out _).mono ?_
  rintro e w1 ⟨rfl, h1⟩
  have HS1 := hid (HS0.out.trans h1)
  clear h1 c0 c1 c2 cf eW0
  go_wp2_with fail
  go_ret
  exact ⟨rfl, HS1.out⟩
set_option maxHeartbeats 2000000 in
theorem tell5_any (x : Nv) (ha : seatB x.a = true) (hb : kindB x.b = true) (w : World) (_ : PTabV w) (hk : KTab w) : Calls Tryd.prog 38 #[.agg (nvcs x)] w fun e w' => e = .returned (.string ((ltS x.a.toNat ++ ⟨#[32, 116, 111, 111, 107, 32]⟩) ++ thgS x.b)) ∧ Still w w' := by
  have hb1 := kindB_iff.1 hb
  obtain ⟨xk, xa, xb⟩ := x
  dsimp only at hb hb1 ha ⊢
  rcases (show xb = 1 ∨ xb = 2 ∨ xb = 3 by omega) with rfl | rfl | rfl
  · rw [show thgS 1 = ⟨#[104, 101, 97, 108]⟩ from rfl]
    clear hb hb1
    have H0 := hid (fun u => vletter_any xa ha u)
    have X0 := ltS_sz xa.toNat
    have A0 := Still.alloc w (.cells (nvcs ⟨xk, xa, 1⟩) 50)
    have p0 : Nvb (w.alloc (.cells (nvcs ⟨xk, xa, 1⟩) 50)) w.heap.size ⟨xk, xa, 1⟩ := heap_alloc_new w _
    have HS0 := hid A0
    have HP0 := hid p0
    have HK0 := hid (hk.still A0)
    obtain ⟨x0, ex0⟩ : ∃ z, ltS xa.toNat = z := ⟨_, rfl⟩
    rw [ex0] at H0 X0
    rw [ex0]
    obtain ⟨y1, f1, z1, s1⟩ := cat_ex (a := x0) (b := ⟨#[32, 116, 111, 111, 107, 32]⟩) (m := 1) (n := 6) X0 (by decide) (by decide)
    obtain ⟨y2, f2, z2, s2⟩ := cat_ex (a := y1) (b := ⟨#[104, 101, 97, 108]⟩) (m := 7) (n := 4) z1 (by decide) (by decide)
    rw [f1, f2]
    clear f1 z1 f2 z2 A0 p0 ex0 X0 ha
    obtain ⟨W0, eW0⟩ : ∃ X, w.alloc (.cells (nvcs ⟨xk, xa, 1⟩) 50) = X := ⟨_, rfl⟩
    rw [eW0] at HS0 HP0 HK0
    go_enter Tryd.func38, Tryd.ntmps38
    go_upto_region 1 with fail
    clear eW0
    obtain ⟨c0, c1, c2, cf⟩ := HP0.out.cells
    have k0 := Cl.cell c0
    have k1 := Cl.cell c1
    have k2 := Cl.cell c2
    have hne := Aft.here W0
    have G0 := hid (fun z : Aft W0 => H0.out z.u)
    obtain ⟨n1, n2, n3⟩ := HK0.out.at1
    have k3 := Cl.cell n1
    clear n1 n2 n3
    clear c0 c1 c2 cf
    refine region_all (by kernel_rfl) (by kernel_rfl) ?_
    repeat (go_big_quiet_step ((first | (go_at_call 26; with_reducible exact Calls.cl (G0.out _)))))
    refine wpQuiet_nil ?_
    intro w1 h1
    have HS1 := hid (HS0.out.trans h1)
    clear h1 hne k0 k1 k2
    go_wp2_with fail
    go_ret
    exact ⟨rfl, HS1.out⟩
  · rw [show thgS 2 = ⟨#[99, 104, 97, 114, 103, 101]⟩ from rfl]
    clear hb hb1
    have H0 := hid (fun u => vletter_any xa ha u)
    have X0 := ltS_sz xa.toNat
    have A0 := Still.alloc w (.cells (nvcs ⟨xk, xa, 2⟩) 50)
    have p0 : Nvb (w.alloc (.cells (nvcs ⟨xk, xa, 2⟩) 50)) w.heap.size ⟨xk, xa, 2⟩ := heap_alloc_new w _
    have HS0 := hid A0
    have HP0 := hid p0
    have HK0 := hid (hk.still A0)
    obtain ⟨x0, ex0⟩ : ∃ z, ltS xa.toNat = z := ⟨_, rfl⟩
    rw [ex0] at H0 X0
    rw [ex0]
    obtain ⟨y1, f1, z1, s1⟩ := cat_ex (a := x0) (b := ⟨#[32, 116, 111, 111, 107, 32]⟩) (m := 1) (n := 6) X0 (by decide) (by decide)
    obtain ⟨y2, f2, z2, s2⟩ := cat_ex (a := y1) (b := ⟨#[99, 104, 97, 114, 103, 101]⟩) (m := 7) (n := 6) z1 (by decide) (by decide)
    rw [f1, f2]
    clear f1 z1 f2 z2 A0 p0 ex0 X0 ha
    obtain ⟨W0, eW0⟩ : ∃ X, w.alloc (.cells (nvcs ⟨xk, xa, 2⟩) 50) = X := ⟨_, rfl⟩
    rw [eW0] at HS0 HP0 HK0
    go_enter Tryd.func38, Tryd.ntmps38
    go_upto_region 1 with fail
    clear eW0
    obtain ⟨c0, c1, c2, cf⟩ := HP0.out.cells
    have k0 := Cl.cell c0
    have k1 := Cl.cell c1
    have k2 := Cl.cell c2
    have hne := Aft.here W0
    have G0 := hid (fun z : Aft W0 => H0.out z.u)
    obtain ⟨n1, n2, n3⟩ := HK0.out.at1
    have k3 := Cl.cell n2
    clear n1 n2 n3
    clear c0 c1 c2 cf
    refine region_all (by kernel_rfl) (by kernel_rfl) ?_
    repeat (go_big_quiet_step ((first | (go_at_call 26; with_reducible exact Calls.cl (G0.out _)))))
    refine wpQuiet_nil ?_
    intro w1 h1
    have HS1 := hid (HS0.out.trans h1)
    clear h1 hne k0 k1 k2
    go_wp2_with fail
    go_ret
    exact ⟨rfl, HS1.out⟩
  · rw [show thgS 3 = ⟨#[112, 114, 105, 122, 101]⟩ from rfl]
    clear hb hb1
    have H0 := hid (fun u => vletter_any xa ha u)
    have X0 := ltS_sz xa.toNat
    have A0 := Still.alloc w (.cells (nvcs ⟨xk, xa, 3⟩) 50)
    have p0 : Nvb (w.alloc (.cells (nvcs ⟨xk, xa, 3⟩) 50)) w.heap.size ⟨xk, xa, 3⟩ := heap_alloc_new w _
    have HS0 := hid A0
    have HP0 := hid p0
    have HK0 := hid (hk.still A0)
    obtain ⟨x0, ex0⟩ : ∃ z, ltS xa.toNat = z := ⟨_, rfl⟩
    rw [ex0] at H0 X0
    rw [ex0]
    obtain ⟨y1, f1, z1, s1⟩ := cat_ex (a := x0) (b := ⟨#[32, 116, 111, 111, 107, 32]⟩) (m := 1) (n := 6) X0 (by decide) (by decide)
    obtain ⟨y2, f2, z2, s2⟩ := cat_ex (a := y1) (b := ⟨#[112, 114, 105, 122, 101]⟩) (m := 7) (n := 5) z1 (by decide) (by decide)
    rw [f1, f2]
    clear f1 z1 f2 z2 A0 p0 ex0 X0 ha
    obtain ⟨W0, eW0⟩ : ∃ X, w.alloc (.cells (nvcs ⟨xk, xa, 3⟩) 50) = X := ⟨_, rfl⟩
    rw [eW0] at HS0 HP0 HK0
    go_enter Tryd.func38, Tryd.ntmps38
    go_upto_region 1 with fail
    clear eW0
    obtain ⟨c0, c1, c2, cf⟩ := HP0.out.cells
    have k0 := Cl.cell c0
    have k1 := Cl.cell c1
    have k2 := Cl.cell c2
    have hne := Aft.here W0
    have G0 := hid (fun z : Aft W0 => H0.out z.u)
    obtain ⟨n1, n2, n3⟩ := HK0.out.at1
    have k3 := Cl.cell n3
    clear n1 n2 n3
    clear c0 c1 c2 cf
    refine region_all (by kernel_rfl) (by kernel_rfl) ?_
    repeat (go_big_quiet_step ((first | (go_at_call 26; with_reducible exact Calls.cl (G0.out _)))))
    refine wpQuiet_nil ?_
    intro w1 h1
    have HS1 := hid (HS0.out.trans h1)
    clear h1 hne k0 k1 k2
    go_wp2_with fail
    go_ret
    exact ⟨rfl, HS1.out⟩
set_option maxHeartbeats 2000000 in
theorem tell6_any (x : Nv) (ha : I64 x.a) (hb : kindB x.b = true) (w : World) (ht : PTabV w) (hk : KTab w) : Calls Tryd.prog 39 #[.agg (nvcs x)] w fun e w' => e = .returned (.string ((((⟨#[115, 112, 111, 116, 32]⟩ : ByteArray) ++ itS x.a) ++ ⟨#[32]⟩) ++ thgS x.b)) ∧ Still w w' := by
  have hb1 := kindB_iff.1 hb
  obtain ⟨xk, xa, xb⟩ := x
  dsimp only at hb hb1 ha ⊢
  rcases (show xb = 1 ∨ xb = 2 ∨ xb = 3 by omega) with rfl | rfl | rfl
  · rw [show thgS 1 = ⟨#[104, 101, 97, 108]⟩ from rfl]
    clear hb hb1
    have H0 := hid (fun u (hu : Still w u) => itoaV_any xa ha u (ht.still hu))
    have X0 := itS_sz ha
    have A0 := Still.alloc w (.cells (nvcs ⟨xk, xa, 1⟩) 50)
    have p0 : Nvb (w.alloc (.cells (nvcs ⟨xk, xa, 1⟩) 50)) w.heap.size ⟨xk, xa, 1⟩ := heap_alloc_new w _
    have HS0 := hid A0
    have HP0 := hid p0
    have HK0 := hid (hk.still A0)
    obtain ⟨x0, ex0⟩ : ∃ z, itS xa = z := ⟨_, rfl⟩
    rw [ex0] at H0 X0
    rw [ex0]
    obtain ⟨y1, f1, z1, s1⟩ := cat_ex (a := ⟨#[115, 112, 111, 116, 32]⟩) (b := x0) (m := 5) (n := 21) (by decide) X0 (by decide)
    obtain ⟨y2, f2, z2, s2⟩ := cat_ex (a := y1) (b := ⟨#[32]⟩) (m := 26) (n := 1) z1 (by decide) (by decide)
    obtain ⟨y3, f3, z3, s3⟩ := cat_ex (a := y2) (b := ⟨#[104, 101, 97, 108]⟩) (m := 27) (n := 4) z2 (by decide) (by decide)
    rw [f1, f2, f3]
    clear f1 z1 f2 z2 f3 z3 A0 p0 ex0 X0 ha
    obtain ⟨W0, eW0⟩ : ∃ X, w.alloc (.cells (nvcs ⟨xk, xa, 1⟩) 50) = X := ⟨_, rfl⟩
    rw [eW0] at HS0 HP0 HK0
    go_enter Tryd.func39, Tryd.ntmps39
    go_upto_region 1 with fail
    clear eW0
    obtain ⟨c0, c1, c2, cf⟩ := HP0.out.cells
    have k0 := Cl.cell c0
    have k1 := Cl.cell c1
    have k2 := Cl.cell c2
    have hne := Aft.here W0
    have G0 := hid (fun z : Aft W0 => H0.out z.u (HS0.out.trans z.s))
    obtain ⟨n1, n2, n3⟩ := HK0.out.at1
    have k3 := Cl.cell n1
    clear n1 n2 n3
    clear c0 c1 c2 cf
    refine region_all (by kernel_rfl) (by kernel_rfl) ?_
    repeat (go_big_quiet_step ((first | (go_at_call 25; with_reducible exact Calls.cl (G0.out _)))))
    refine wpQuiet_nil ?_
    intro w1 h1
    have HS1 := hid (HS0.out.trans h1)
    clear h1 hne k0 k1 k2
    go_wp2_with fail
    go_ret
    exact ⟨rfl, HS1.out⟩
  · rw [show thgS 2 = ⟨#[99, 104, 97, 114, 103, 101]⟩ from rfl]
    clear hb hb1
    have H0 := hid (fun u (hu : Still w u) => itoaV_any xa ha u (ht.still hu))
    have X0 := itS_sz ha
    have A0 := Still.alloc w (.cells (nvcs ⟨xk, xa, 2⟩) 50)
    have p0 : Nvb (w.alloc (.cells (nvcs ⟨xk, xa, 2⟩) 50)) w.heap.size ⟨xk, xa, 2⟩ := heap_alloc_new w _
    have HS0 := hid A0
    have HP0 := hid p0
    have HK0 := hid (hk.still A0)
    obtain ⟨x0, ex0⟩ : ∃ z, itS xa = z := ⟨_, rfl⟩
    rw [ex0] at H0 X0
    rw [ex0]
    obtain ⟨y1, f1, z1, s1⟩ := cat_ex (a := ⟨#[115, 112, 111, 116, 32]⟩) (b := x0) (m := 5) (n := 21) (by decide) X0 (by decide)
    obtain ⟨y2, f2, z2, s2⟩ := cat_ex (a := y1) (b := ⟨#[32]⟩) (m := 26) (n := 1) z1 (by decide) (by decide)
    obtain ⟨y3, f3, z3, s3⟩ := cat_ex (a := y2) (b := ⟨#[99, 104, 97, 114, 103, 101]⟩) (m := 27) (n := 6) z2 (by decide) (by decide)
    rw [f1, f2, f3]
    clear f1 z1 f2 z2 f3 z3 A0 p0 ex0 X0 ha
    obtain ⟨W0, eW0⟩ : ∃ X, w.alloc (.cells (nvcs ⟨xk, xa, 2⟩) 50) = X := ⟨_, rfl⟩
    rw [eW0] at HS0 HP0 HK0
    go_enter Tryd.func39, Tryd.ntmps39
    go_upto_region 1 with fail
    clear eW0
    obtain ⟨c0, c1, c2, cf⟩ := HP0.out.cells
    have k0 := Cl.cell c0
    have k1 := Cl.cell c1
    have k2 := Cl.cell c2
    have hne := Aft.here W0
    have G0 := hid (fun z : Aft W0 => H0.out z.u (HS0.out.trans z.s))
    obtain ⟨n1, n2, n3⟩ := HK0.out.at1
    have k3 := Cl.cell n2
    clear n1 n2 n3
    clear c0 c1 c2 cf
    refine region_all (by kernel_rfl) (by kernel_rfl) ?_
    repeat (go_big_quiet_step ((first | (go_at_call 25; with_reducible exact Calls.cl (G0.out _)))))
    refine wpQuiet_nil ?_
    intro w1 h1
    have HS1 := hid (HS0.out.trans h1)
    clear h1 hne k0 k1 k2
    go_wp2_with fail
    go_ret
    exact ⟨rfl, HS1.out⟩
  · rw [show thgS 3 = ⟨#[112, 114, 105, 122, 101]⟩ from rfl]
    clear hb hb1
    have H0 := hid (fun u (hu : Still w u) => itoaV_any xa ha u (ht.still hu))
    have X0 := itS_sz ha
    have A0 := Still.alloc w (.cells (nvcs ⟨xk, xa, 3⟩) 50)
    have p0 : Nvb (w.alloc (.cells (nvcs ⟨xk, xa, 3⟩) 50)) w.heap.size ⟨xk, xa, 3⟩ := heap_alloc_new w _
    have HS0 := hid A0
    have HP0 := hid p0
    have HK0 := hid (hk.still A0)
    obtain ⟨x0, ex0⟩ : ∃ z, itS xa = z := ⟨_, rfl⟩
    rw [ex0] at H0 X0
    rw [ex0]
    obtain ⟨y1, f1, z1, s1⟩ := cat_ex (a := ⟨#[115, 112, 111, 116, 32]⟩) (b := x0) (m := 5) (n := 21) (by decide) X0 (by decide)
    obtain ⟨y2, f2, z2, s2⟩ := cat_ex (a := y1) (b := ⟨#[32]⟩) (m := 26) (n := 1) z1 (by decide) (by decide)
    obtain ⟨y3, f3, z3, s3⟩ := cat_ex (a := y2) (b := ⟨#[112, 114, 105, 122, 101]⟩) (m := 27) (n := 5) z2 (by decide) (by decide)
    rw [f1, f2, f3]
    clear f1 z1 f2 z2 f3 z3 A0 p0 ex0 X0 ha
    obtain ⟨W0, eW0⟩ : ∃ X, w.alloc (.cells (nvcs ⟨xk, xa, 3⟩) 50) = X := ⟨_, rfl⟩
    rw [eW0] at HS0 HP0 HK0
    go_enter Tryd.func39, Tryd.ntmps39
    go_upto_region 1 with fail
    clear eW0
    obtain ⟨c0, c1, c2, cf⟩ := HP0.out.cells
    have k0 := Cl.cell c0
    have k1 := Cl.cell c1
    have k2 := Cl.cell c2
    have hne := Aft.here W0
    have G0 := hid (fun z : Aft W0 => H0.out z.u (HS0.out.trans z.s))
    obtain ⟨n1, n2, n3⟩ := HK0.out.at1
    have k3 := Cl.cell n3
    clear n1 n2 n3
    clear c0 c1 c2 cf
    refine region_all (by kernel_rfl) (by kernel_rfl) ?_
    repeat (go_big_quiet_step ((first | (go_at_call 25; with_reducible exact Calls.cl (G0.out _)))))
    refine wpQuiet_nil ?_
    intro w1 h1
    have HS1 := hid (HS0.out.trans h1)
    clear h1 hne k0 k1 k2
    go_wp2_with fail
    go_ret
    exact ⟨rfl, HS1.out⟩
set_option maxHeartbeats 2000000 in
theorem tell7_any (x : Nv) (ha : seatB x.a = true) (hb : seatB x.b = true) (w : World) (_ : PTabV w) (hk : KTab w) : Calls Tryd.prog 40 #[.agg (nvcs x)] w fun e w' => e = .returned (.string ((ltS x.a.toNat ++ ⟨#[32, 98, 111, 117, 110, 99, 101, 115, 32]⟩) ++ ltS x.b.toNat)) ∧ Still w w' := by
  have H0 := hid (fun u => vletter_any x.a ha u)
  have X0 := ltS_sz x.a.toNat
  have H1 := hid (fun u => vletter_any x.b hb u)
  have X1 := ltS_sz x.b.toNat
  have A0 := Still.alloc w (.cells (nvcs x) 50)
  have p0 : Nvb (w.alloc (.cells (nvcs x) 50)) w.heap.size x := heap_alloc_new w _
  have HS0 := hid A0
  have HP0 := hid p0
  have HK0 := hid (hk.still A0)
  obtain ⟨x0, ex0⟩ : ∃ z, ltS x.a.toNat = z := ⟨_, rfl⟩
  rw [ex0] at H0 X0
  rw [ex0]
  obtain ⟨x1, ex1⟩ : ∃ z, ltS x.b.toNat = z := ⟨_, rfl⟩
  rw [ex1] at H1 X1
  rw [ex1]
  obtain ⟨y1, f1, z1, s1⟩ := cat_ex (a := x0) (b := ⟨#[32, 98, 111, 117, 110, 99, 101, 115, 32]⟩) (m := 1) (n := 9) X0 (by decide) (by decide)
  obtain ⟨y2, f2, z2, s2⟩ := cat_ex (a := y1) (b := x1) (m := 10) (n := 1) z1 X1 (by decide)
  rw [f1, f2]
  clear f1 z1 f2 z2 A0 p0 ex0 X0 ex1 X1 ha hb
  obtain ⟨W0, eW0⟩ : ∃ X, w.alloc (.cells (nvcs x) 50) = X := ⟨_, rfl⟩
  rw [eW0] at HS0 HP0 HK0
  go_enter Tryd.func40, Tryd.ntmps40
  go_upto_region 1 with fail
  clear eW0
  obtain ⟨c0, c1, c2, cf⟩ := HP0.out.cells
  have k0 := Cl.cell c0
  have k1 := Cl.cell c1
  have k2 := Cl.cell c2
  have hne := Aft.here W0
  have G0 := hid (fun z : Aft W0 => H0.out z.u)
  have G1 := hid (fun z : Aft W0 => H1.out z.u)
  clear c0 c1 c2 cf
  refine region_all (by kernel_rfl) (by kernel_rfl) ?_
  repeat (go_big_quiet_step ((first | (go_at_call 26; with_reducible exact Calls.cl (G0.out _)) | (go_at_call 26; with_reducible exact Calls.cl (G1.out _)))))
  refine wpQuiet_nil ?_
  intro w1 h1
  have HS1 := hid (HS0.out.trans h1)
  clear h1 hne k0 k1 k2
  go_wp2_with fail
  go_ret
  exact ⟨rfl, HS1.out⟩
set_option maxHeartbeats 2000000 in
theorem tell8_any (x : Nv) (ha : seatB x.a = true) (hb : I64 x.b) (w : World) (ht : PTabV w) (hk : KTab w) : Calls Tryd.prog 41 #[.agg (nvcs x)] w fun e w' => e = .returned (.string ((ltS x.a.toNat ++ ⟨#[32, 115, 97, 121, 115, 32]⟩) ++ itS x.b)) ∧ Still w w' := by
  have H0 := hid (fun u => vletter_any x.a ha u)
  have X0 := ltS_sz x.a.toNat
  have H1 := hid (fun u (hu : Still w u) => itoaV_any x.b hb u (ht.still hu))
  have X1 := itS_sz hb
  have A0 := Still.alloc w (.cells (nvcs x) 50)
  have p0 : Nvb (w.alloc (.cells (nvcs x) 50)) w.heap.size x := heap_alloc_new w _
  have HS0 := hid A0
  have HP0 := hid p0
  have HK0 := hid (hk.still A0)
  obtain ⟨x0, ex0⟩ : ∃ z, ltS x.a.toNat = z := ⟨_, rfl⟩
  rw [ex0] at H0 X0
  rw [ex0]
  obtain ⟨x1, ex1⟩ : ∃ z, itS x.b = z := ⟨_, rfl⟩
  rw [ex1] at H1 X1
  rw [ex1]
  obtain ⟨y1, f1, z1, s1⟩ := cat_ex (a := x0) (b := ⟨#[32, 115, 97, 121, 115, 32]⟩) (m := 1) (n := 6) X0 (by decide) (by decide)
  obtain ⟨y2, f2, z2, s2⟩ := cat_ex (a := y1) (b := x1) (m := 7) (n := 21) z1 X1 (by decide)
  rw [f1, f2]
  clear f1 z1 f2 z2 A0 p0 ex0 X0 ex1 X1 ha hb
  obtain ⟨W0, eW0⟩ : ∃ X, w.alloc (.cells (nvcs x) 50) = X := ⟨_, rfl⟩
  rw [eW0] at HS0 HP0 HK0
  go_enter Tryd.func41, Tryd.ntmps41
  go_upto_region 1 with fail
  clear eW0
  obtain ⟨c0, c1, c2, cf⟩ := HP0.out.cells
  have k0 := Cl.cell c0
  have k1 := Cl.cell c1
  have k2 := Cl.cell c2
  have hne := Aft.here W0
  have G0 := hid (fun z : Aft W0 => H0.out z.u)
  have G1 := hid (fun z : Aft W0 => H1.out z.u (HS0.out.trans z.s))
  clear c0 c1 c2 cf
  refine region_all (by kernel_rfl) (by kernel_rfl) ?_
  repeat (go_big_quiet_step ((first | (go_at_call 26; with_reducible exact Calls.cl (G0.out _)) | (go_at_call 25; with_reducible exact Calls.cl (G1.out _)))))
  refine wpQuiet_nil ?_
  intro w1 h1
  have HS1 := hid (HS0.out.trans h1)
  clear h1 hne k0 k1 k2
  go_wp2_with fail
  go_ret
  exact ⟨rfl, HS1.out⟩
end Go.Proofs.YtdljmpjfiggdiaaDoor
