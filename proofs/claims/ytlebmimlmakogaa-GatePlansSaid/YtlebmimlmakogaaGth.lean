/- Stage 21, the law's told; GateLeast. -/
import Derived.Test.YtlebmimlmakogaaGtg
namespace Go.Proofs.Ytlebmimlmakogaa
open Go.RowKit
set_option maxRecDepth 100000

/-- a call of a script -/
structure OqG where
  k : Int
  w : Int
  s : Int
  f : Int
  l : Int
  g : Int
def zOqG : OqG := ⟨0, 0, 0, 0, 0, 0⟩
abbrev oqv (o : OqG) : Array Value := #[.int .i64 o.k, .int .i64 o.w, .int .i64 o.s, .int .i64 o.f, .int .i64 o.l, .int .i64 o.g]
abbrev oqT : TypeId := 28
def KQg : Kd OqG := ⟨fun o => (oqv o).toList, 6, zOqG, fun _ => rfl, fun m u hu => by
  simp at hu
  rcases hu with rfl | rfl | rfl | rfl | rfl | rfl <;> rfl, by decide⟩
def BdQ (o : OqG) : Prop := (-9223372036854775808 ≤ o.k ∧ o.k ≤ 9223372036854775807) ∧ (-9223372036854775808 ≤ o.w ∧ o.w ≤ 9223372036854775807)
theorem rdQg {w : World} {B o n : Nat} {L : List OqG} (h : RdG KQg w (some ⟨B, o, none⟩) n L) {i : Nat} (hi : i < n) {x : OqG} (hx : L.getD i KQg.d = x) : w.cell? ⟨B, o + i * 6, none⟩ = some (.int .i64 x.k) ∧ w.cell? ⟨B, o + i * 6 + 1, none⟩ = some (.int .i64 x.w) ∧ w.cell? ⟨B, o + i * 6 + 2, none⟩ = some (.int .i64 x.s) ∧ w.cell? ⟨B, o + i * 6 + 3, none⟩ = some (.int .i64 x.f) ∧ w.cell? ⟨B, o + i * 6 + 4, none⟩ = some (.int .i64 x.l) ∧ w.cell? ⟨B, o + i * 6 + 5, none⟩ = some (.int .i64 x.g) := by
  subst hx
  exact ⟨h.get hi 0 _ rfl, h.get hi 1 _ rfl, h.get hi 2 _ rfl, h.get hi 3 _ rfl, h.get hi 4 _ rfl, h.get hi 5 _ rfl⟩
/-- block g holds a call -/
def OqbG (w : World) (g : Nat) (o : OqG) : Prop := w.heap[g]? = some (.cells (oqv o) oqT (0, 0))
theorem OqbG.still {w w' : World} {g : Nat} {x : OqG} (h : OqbG w g x) (hs : Still w w') : OqbG w' g x := hs.kept_still h
theorem OqbG.cells {w : World} {g : Nat} {x : OqG} (h : OqbG w g x) : w.cell? ⟨g, 0, none⟩ = some (.int .i64 x.k) ∧ w.cell? ⟨g, 1, none⟩ = some (.int .i64 x.w) ∧ w.cell? ⟨g, 2, none⟩ = some (.int .i64 x.s) ∧ w.cell? ⟨g, 3, none⟩ = some (.int .i64 x.f) ∧ w.cell? ⟨g, 4, none⟩ = some (.int .i64 x.l) ∧ w.cell? ⟨g, 5, none⟩ = some (.int .i64 x.g) := by
  refine ⟨?_, ?_, ?_, ?_, ?_, ?_⟩ <;> (rw [cell_of_row _ _ _ _ _ _ h]; rfl)
/-- the greatest mark of a seat, call by call -/
abbrev grC (s i : Nat) (y : OqG) (m : Int) : Prop := y.s = (i : Int) ∧ i ≠ s ∧ y.f > m ∧ y.f ≤ 1099511627776
def gr (s i : Nat) (O : List OqG) : Nat → Int
  | 0 => 0
  | k + 1 => if grC s i (O.getD k KQg.d) (gr s i O k) then (O.getD k KQg.d).f else gr s i O k
theorem gr_yes {s i : Nat} {O : List OqG} {k : Nat} (h : grC s i (O.getD k KQg.d) (gr s i O k)) : gr s i O (k + 1) = (O.getD k KQg.d).f := by
  rw [gr, if_pos h]
theorem gr_no {s i : Nat} {O : List OqG} {k : Nat} (h : ¬ grC s i (O.getD k KQg.d) (gr s i O k)) : gr s i O (k + 1) = gr s i O k := by
  rw [gr, if_neg h]
/-- the marks are the greatest ones that came -/
def Mk (s n : Nat) (L : List Int) (O : List OqG) (k : Nat) : Prop := ∀ i, i < n → L.getD i 0 = gr s i O k
theorem Mk.yes {t : TypeId} {w : World} {B p s g n : Nat} {L : List Int} {O : List OqG} {k j : Nat} (hg : Gt t w B p s g n L) (h : Mk s n L O k) (hs : (O.getD k KQg.d).s = (j : Int)) (hj : j < n) (hne : j ≠ s) (hf : (O.getD k KQg.d).f ≤ 1099511627776) : Mk s n (mkL L j (O.getD k KQg.d).f) O (k + 1) := fun i hi => by
  have e := getD_set L j i (max (L.getD j 0) (O.getD k KQg.d).f) (by rw [hg.len]; exact hj)
  unfold mkL
  rw [e]
  have hm := h i hi
  by_cases hij : i = j
  · subst hij
    rw [if_pos rfl]
    by_cases hc : (O.getD k KQg.d).f > L.getD i 0
    · rw [gr_yes ⟨hs, hne, by rw [← hm]; exact hc, hf⟩]
      omega
    · rw [gr_no (fun h => hc (by rw [hm]; exact h.2.2.1)), ← hm]
      omega
  · rw [if_neg hij, gr_no (fun h => hij (by have := h.1; omega)), hm]
theorem Mk.no {t : TypeId} {w : World} {B p s g n : Nat} {L : List Int} {O : List OqG} {k : Nat} (hg : Gt t w B p s g n L) (h : Mk s n L O k) (hm : ¬ MayG n s (O.getD k KQg.d).s (O.getD k KQg.d).f) : Mk s n L O (k + 1) := fun i hi => by
  rw [gr_no (fun hc => hm ?_), h i hi]
  have h0 := (hg.mb i hi).1
  have h1 := h i hi
  have h2 := hc.2.2.1
  rw [← h1] at h2
  have h3 := hc.1
  have h4 := hc.2.1
  exact ⟨by omega, by omega, by omega, by omega, hc.2.2.2⟩
theorem told_no (a b : Int) (h : ¬ (2 ≤ a ∧ a ≤ 6 ∧ 0 ≤ b ∧ b < a)) (so : Option Addr) (n c : Nat) (hn : n ≤ 281474976710656) (w : World) : Calls Try.prog 9 #[.int .i64 a, .int .i64 b, .slice so n c] w fun e w' => e = .returned (.tuple #[.pointer none, .bool true]) ∧ w' = w := by
  have HN := hid (fun w => gnew_no a b h w)
  by_cases c0 : a ≥ 2
  · by_cases c1 : a ≤ 6
    · by_cases c2 : b ≥ 0
      · by_cases c3 : b < a
        · omega
        · clear h
          go_enter Try.func9, Try.ntmps9
          go_wp2_with fail
          refine (HN.out _).mono ?_
          rintro e w' ⟨he, hw⟩
          rw [he, hw]
          clear he hw w' HN
          go_wp2_with fail
          go_loopw [11] (fun u wr => wr = w ∧ u = .int .i64 0) (fun _ _ => 0)
          case atStart => exact ⟨rfl, rfl⟩
          case round =>
            obtain ⟨rfl, rfl⟩ := hrel
            by_cases h0 : (0 : Int) < (n : Int)
            · go_wp2_with fail
              go_ret2
              exact ⟨rfl, rfl⟩
            · go_wp2_with fail
              go_ret2
              exact ⟨rfl, rfl⟩
      · clear h
        go_enter Try.func9, Try.ntmps9
        go_wp2_with fail
        refine (HN.out _).mono ?_
        rintro e w' ⟨he, hw⟩
        rw [he, hw]
        clear he hw w' HN
        go_wp2_with fail
        go_loopw [11] (fun u wr => wr = w ∧ u = .int .i64 0) (fun _ _ => 0)
        case atStart => exact ⟨rfl, rfl⟩
        case round =>
          obtain ⟨rfl, rfl⟩ := hrel
          by_cases h0 : (0 : Int) < (n : Int)
          · go_wp2_with fail
            go_ret2
            exact ⟨rfl, rfl⟩
          · go_wp2_with fail
            go_ret2
            exact ⟨rfl, rfl⟩
    · clear h
      go_enter Try.func9, Try.ntmps9
      go_wp2_with fail
      refine (HN.out _).mono ?_
      rintro e w' ⟨he, hw⟩
      rw [he, hw]
      clear he hw w' HN
      go_wp2_with fail
      go_loopw [11] (fun u wr => wr = w ∧ u = .int .i64 0) (fun _ _ => 0)
      case atStart => exact ⟨rfl, rfl⟩
      case round =>
        obtain ⟨rfl, rfl⟩ := hrel
        by_cases h0 : (0 : Int) < (n : Int)
        · go_wp2_with fail
          go_ret2
          exact ⟨rfl, rfl⟩
        · go_wp2_with fail
          go_ret2
          exact ⟨rfl, rfl⟩
  · clear h
    go_enter Try.func9, Try.ntmps9
    go_wp2_with fail
    refine (HN.out _).mono ?_
    rintro e w' ⟨he, hw⟩
    rw [he, hw]
    clear he hw w' HN
    go_wp2_with fail
    go_loopw [11] (fun u wr => wr = w ∧ u = .int .i64 0) (fun _ _ => 0)
    case atStart => exact ⟨rfl, rfl⟩
    case round =>
      obtain ⟨rfl, rfl⟩ := hrel
      by_cases h0 : (0 : Int) < (n : Int)
      · go_wp2_with fail
        go_ret2
        exact ⟨rfl, rfl⟩
      · go_wp2_with fail
        go_ret2
        exact ⟨rfl, rfl⟩
/-- behind told -/
def TdG (w w' : World) (p s n : Nat) (O : List OqG) (k : Nat) : Prop := ∃ g L, Gt gT w' w.heap.size p s g n L ∧ Mk s n L O k ∧ Still w w'
set_option maxHeartbeats 4000000 in
theorem told_yes (n s : Nat) (h : 2 ≤ n ∧ n ≤ 6 ∧ s < n) (so : Option Addr) (m c : Nat) (O : List OqG) (w : World) (hr : RdG KQg w so m O) : Calls Try.prog 9 #[.int .i64 (n : Int), .int .i64 (s : Int), .slice so m c] w fun e w' => e = .returned (.tuple #[.pointer (some ⟨w.heap.size + 1, 0, none⟩), .bool true]) ∧ TdG w w' (w.heap.size + 1) s n O m := by
  have HN := hid (gnew_yes n s h w)
  have h48 := hr.2.1
  have HR := hid hr
  have d1 : (n : Int) ≥ 2 := by omega
  have d2 : (n : Int) ≤ 6 := by omega
  have d3 : (s : Int) ≥ 0 := by omega
  have d4 : (s : Int) < (n : Int) := by omega
  clear h hr
  go_enter Try.func9, Try.ntmps9
  go_wp2_with fail
  refine HN.out.mono ?_
  rintro e w1 ⟨he, hg1, hs1⟩
  rw [he]
  have HT1 : Hid (TdG w w1 (w.heap.size + 1) s n O 0) := hid ⟨_, _, hg1, fun i _ => getD_rep n i, hs1⟩
  obtain ⟨p, ep⟩ : ∃ p, w.heap.size + 1 = p := ⟨_, rfl⟩
  rw [ep] at HT1 ⊢
  have HEp := hid ep
  clear he hg1 hs1 HN ep
  go_wp2_with fail
  clear d1 d2 d3 d4
  go_loopw [11] (fun u wr => ∃ k : Nat, k ≤ m ∧ u = .int .i64 (k : Int) ∧ Hid (TdG w wr p s n O k)) (fun u _ => m - (intOf u).toNat)
  case atStart => exact ⟨0, by omega, rfl, HT1⟩
  case round =>
    obtain ⟨k, hk, rfl, HT⟩ := hrel
    clear HT1
    by_cases hkm : k < m
    · have hlt : (k : Int) < (m : Int) := by omega
      have hk0 : (0 : Int) ≤ (k : Int) := by omega
      obtain ⟨g, L, hg, hmk, hs⟩ := HT.out
      obtain ⟨G, o, rfl⟩ := HR.out.at (by omega)
      have HStep : Hid (∀ u, Still wr u → Calls Try.prog 15 #[.pointer (some ⟨p, 0, none⟩), .int .i64 (O.getD k KQg.d).s, .int .i64 (O.getD k KQg.d).f] u fun e w' => ∃ v, e = .returned v ∧ TdG w w' p s n O (k + 1)) := hid (fun u hu => by
        have hgu := hg.still hu
        by_cases hm : MayG n s (O.getD k KQg.d).s (O.getD k KQg.d).f
        · obtain ⟨m0, m1, m2, m3, m4⟩ := hm
          obtain ⟨j, ej⟩ : ∃ j : Nat, (O.getD k KQg.d).s = (j : Int) := ⟨(O.getD k KQg.d).s.toNat, by omega⟩
          have hy := hmk.yes hgu ej (by omega) (by omega) m4
          rw [ej]
          refine (gmark_yes hgu j _ (by omega) (by omega) ⟨m3, m4⟩).mono ?_
          rintro e w' ⟨he, hg', hf'⟩
          exact ⟨_, he, g, _, hg', hy, Fr.trans (hs.trans hu) hf' (fun k hk e => by have := hg.glt.1; omega)⟩
        · refine (gmark_no hgu _ _ hm).mono ?_
          rintro e w' ⟨he, hw⟩
          rw [hw]
          exact ⟨_, he, g, L, hgu, hmk.no hgu hm, hs.trans hu⟩)
      obtain ⟨y, ey⟩ : ∃ y, O.getD k KQg.d = y := ⟨_, rfl⟩
      obtain ⟨c0, c1, c2, c3, c4, c5⟩ := rdQg (HR.out.still hs) hkm ey
      rw [ey] at HStep
      have k2 := Cl.cell c2
      have k3 := Cl.cell c3
      have hne := Aft.here wr
      clear hg hmk hs HT ey c0 c1 c2 c3 c4 c5
      go_wp2_with fail
      refine region_rest 11 (by kernel_rfl) (by kernel_rfl) ?_
      simp only [List.take_succ_cons, List.take_zero, List.drop_succ_cons, List.drop_zero]
      repeat (go_big_quiet_step (rfl))
      refine wpQuiet_nil ?_
      intro w3 h3
      have HD3 := hid (HStep.out w3 h3)
      clear h3 hne k2 k3 HStep
      go_wp2_with fail
      refine HD3.out.mono ?_
      rintro e w4 ⟨v, he, hT4⟩
      rw [he]
      have HT4 := hid hT4
      clear he hT4 HD3
      go_wp2_with fail
      go_roundw
      case rel => exact ⟨k + 1, by omega, by go_num, HT4⟩
      case measure => simp [intOf]; omega
    · have hge : ¬ (k : Int) < (m : Int) := by omega
      obtain rfl : k = m := by omega
      go_wp2_with fail
      go_ret2
      exact ⟨by rw [HEp.out]; rfl, by rw [HEp.out]; exact HT.out⟩
end Go.Proofs.Ytlebmimlmakogaa
