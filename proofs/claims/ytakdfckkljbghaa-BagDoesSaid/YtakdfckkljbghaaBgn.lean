/- BagBrings: the law's walk. -/
import Derived.Test.YtakdfckkljbghaaBgm
namespace Go.Proofs.Ytakdfckkljbghaa
open Go.RowKit
set_option maxRecDepth 100000
set_option linter.unusedVariables false

theorem wrI {x : Int} (h : -9223372036854775808 ≤ x ∧ x ≤ 9223372036854775807) : IntKind.i64.wrap x = x ∧ wrap64 x = x := by
  have h1 : IntKind.i64.wrap x = x := by rw [IntKind.wrap_i64]; omega
  exact ⟨h1, by rw [← IntWalk.i64_left]; exact h1⟩
/-- a slice of bytes -/
structure Sl17 where
  ao : Option Addr
  n : Nat
  cap : Nat
  bs : List UInt8
def KSl : Kd Sl17 := ⟨fun s => [.slice s.ao s.n s.cap], 1, ⟨none, 0, 0, []⟩, fun _ => rfl, fun m u hu => by
  simp at hu
  subst hu; rfl, by decide⟩
def KIn : Kd Int := ⟨fun s => [.int .i64 s], 1, 0, fun _ => rfl, fun m u hu => by
  simp at hu
  subst hu; rfl, by decide⟩
theorem infoIn : ∃ i, Try.prog.info? 3 = some i ∧ i.zero = some (.int .i64 0) ∧ i.size = KIn.k ∧ i.bytes = 8 := ⟨_, rfl, rfl, rfl, rfl⟩
def slD (D : List Sl17) (j : Nat) : Sl17 := D.getD j KSl.d
/-- what the j-th parcel says -/
def spD (D : List Sl17) (j : Nat) : Int × Int × Int × List UInt8 := ((j : Int) + 1, (j : Int), -(j : Int), (slD D j).bs)
def mI (M : List Nat) : List Int := M.map (fun (j : Nat) => (j : Int))
theorem rdSl {w : World} {B o n : Nat} {L : List Sl17} (h : RdG KSl w (some ⟨B, o, none⟩) n L) {i : Nat} (hi : i < n) : w.cell? ⟨B, o + i, none⟩ = some (.slice (slD L i).ao (slD L i).n (slD L i).cap) := by
  have := h.get hi 0 _ rfl
  simpa [KSl, slD] using this
theorem rdIn {w : World} {B o n : Nat} {L : List Int} (h : RdG KIn w (some ⟨B, o, none⟩) n L) {i : Nat} (hi : i < n) : w.cell? ⟨B, o + i, none⟩ = some (.int .i64 (L.getD i 0)) := by
  have := h.get hi 0 _ rfl
  simpa [KIn] using this
theorem owIn {e : TypeId} {w : World} {B g n cap : Nat} {L : List Int} (h : OwG KIn e w B (.slice (some ⟨g, 0, none⟩) n cap) L) {i : Nat} (hi : i < L.length) : w.cell? ⟨g, i, none⟩ = some (.int .i64 (L.getD i 0)) := by
  have := h.get hi 0 _ rfl
  simpa [KIn] using this
theorem SrG.oneI (w : World) (x : Int) : SrG KIn (w.alloc (.cells #[.int .i64 x] 3)) (some ⟨w.heap.size, 0, none⟩) 1 [x] := by
  have := World.ownsRow_lit (base := w.heap.size) (e := 3) (size := KIn.k) w #[.int .i64 x] 1 (Nat.le_refl _) (by unfold maxLen; omega) (by simp [KIn])
  exact SrG.own (e := 3) (B := w.heap.size) (S := [x]) this (by simp)
theorem mI_len (M : List Nat) : (mI M).length = M.length := by simp [mI]
theorem mI_at {M : List Nat} {i : Nat} (hi : i < M.length) : (mI M).getD i 0 = ((M.getD i 0 : Nat) : Int) := by
  simp [mI, List.getD_eq_getElem?_getD, List.getElem?_map, List.getElem?_eq_getElem hi]
/-- one struck out -/
def outN (M : List Nat) (a : Nat) : List Nat := M.take a ++ M.drop (a + 1)
theorem mI_out (M : List Nat) (a : Nat) : (mI M).take a ++ (mI M).drop (a + 1) = mI (outN M a) := by
  simp [mI, outN, List.map_take, List.map_drop]
theorem outN_perm {M : List Nat} {a : Nat} (ha : a < M.length) : M.Perm (M.getD a 0 :: outN M a) := by
  have e : M = M.take a ++ M.getD a 0 :: M.drop (a + 1) := by
    conv => lhs; rw [← List.take_append_drop a M, List.drop_eq_getElem_cons ha]
    rw [List.getD_eq_getElem?_getD, List.getElem?_eq_getElem ha]
    rfl
  conv => lhs; rw [e]
  exact List.perm_middle
/-- what is on its way, and which are left -/
structure Lf (D : List Sl17) (N : Nat) (L : List Pcl) (M : List Nat) : Prop where
  h1 : ∀ x ∈ L, ∃ j ∈ M, abP x = spD D j
  h2 : ∀ j ∈ M, ∃ x ∈ L, abP x = spD D j
  nd : M.Nodup
  lt : ∀ j ∈ M, j < N
theorem Lf.fnd {D : List Sl17} {N : Nat} {L : List Pcl} {M : List Nat} (h : Lf D N L M) {i : Nat} (hi : i ∈ M) : ∃ x, fndP L ((i : Int) + 1) = some x ∧ abP x = spD D i := by
  obtain ⟨x, hx, hx2⟩ := h.h2 i hi
  cases hf : fndP L ((i : Int) + 1) with
  | none => exact absurd (congrArg Prod.fst hx2) (fndP_none hf x hx)
  | some y =>
    obtain ⟨hy, hno⟩ := fndP_some hf
    obtain ⟨j, _, hj2⟩ := h.h1 y hy
    have e : y.no = (j : Int) + 1 := congrArg Prod.fst hj2
    obtain rfl : j = i := by omega
    exact ⟨y, rfl, hj2⟩
theorem Lf.step {D : List Sl17} {N : Nat} {L : List Pcl} {M : List Nat} (h : Lf D N L M) {a : Nat} (ha : a < M.length) : Lf D N (delP L ((M.getD a 0 : Nat) + 1)) (outN M a) := by
  have hp := outN_perm ha
  have hnd := hp.nodup_iff.1 h.nd
  obtain ⟨n1, n2⟩ := List.nodup_cons.1 hnd
  refine ⟨fun x hx => ?_, fun j hj => ?_, n2, fun j hj => h.lt j (hp.mem_iff.2 (List.mem_cons_of_mem _ hj))⟩
  · obtain ⟨h3, h4⟩ := delP_mem hx
    obtain ⟨j, hj, hj2⟩ := h.h1 x h3
    rcases List.mem_cons.1 (hp.mem_iff.1 hj) with e | e
    · exfalso
      have e2 : x.no = (j : Int) + 1 := congrArg Prod.fst hj2
      rw [← e] at h4
      exact h4 e2
    · exact ⟨j, e, hj2⟩
  · obtain ⟨x, hx, hx2⟩ := h.h2 j (hp.mem_iff.2 (List.mem_cons_of_mem _ hj))
    refine ⟨x, List.mem_filter.2 ⟨hx, ?_⟩, hx2⟩
    have e2 : x.no = (j : Int) + 1 := congrArg Prod.fst hx2
    have hne : j ≠ M.getD a 0 := fun e => n1 (by rw [← e]; exact hj)
    rw [e2]
    simp only [Bool.not_eq_true', beq_eq_false_iff_ne]
    omega
theorem Lf.begin {D : List Sl17} {N : Nat} {L : List Pcl} (h : L.map abP = (List.range N).map (spD D)) : Lf D N L (List.range N) := by
  refine ⟨fun x hx => ?_, fun j hj => ?_, List.nodup_range, fun j hj => List.mem_range.1 hj⟩
  · have := List.mem_map_of_mem (f := abP) hx
    rw [h] at this
    obtain ⟨j, hj, e⟩ := List.mem_map.1 this
    exact ⟨j, hj, e.symm⟩
  · have := List.mem_map_of_mem (f := spD D) hj
    rw [← h] at this
    obtain ⟨x, hx, e⟩ := List.mem_map.1 this
    exact ⟨x, hx, e⟩
theorem Lf.none {D : List Sl17} {N : Nat} {L : List Pcl} (h : Lf D N L []) : L = [] := by
  cases L with
  | nil => rfl
  | cons x L =>
    obtain ⟨j, hj, _⟩ := h.h1 x (List.mem_cons_self ..)
    cases hj
/-- how long a slice is -/
def lenOf17 : Value → Nat
  | .slice _ n _ => n
  | _ => 0
set_option maxHeartbeats 8000000 in
theorem brings_law (so : Option Addr) (n1 c1 : Nat) (D : List Sl17) (oo : Option Addr) (n2 c2 : Nat) (O : List Int) (hb : 24 * n1 ≤ 140737488351232) (w : World) (hD : RdG KSl w so n1 D) (hDr : ∀ i, i < n1 → Rd w (slD D i).ao (slD D i).n (slD D i).cap (slD D i).bs ∧ (slD D i).n ≤ 140737488351232) (hO : RdG KIn w oo n2 O) (hOr : ∀ i, i < n2 → -9223372036854775808 ≤ O.getD i 0 ∧ O.getD i 0 ≤ 9223372036854775807) : Calls Try.prog 4 #[.slice so n1 c1, .slice oo n2 c2] w fun e w' => e = .returned (.bool true) ∧ Still w w' := by
  have HD := hid hD
  have HDr := hid hDr
  have HO := hid hO
  have HOr := hid hOr
  have hn2 := hO.2.1
  have HA := hid (fun w => awake17_any w)
  have HN := hid (fun w => bnew_any w)
  have HZI : Hid ((Value.int .i64 0).cells.size = KIn.k) := hid rfl
  clear hD hDr hO hOr
  go_enter Try.func4, Try.ntmps4
  go_wp2_with fail
  refine (HA.out _).mono ?_
  rintro e w1 ⟨he, h1⟩
  rw [he]
  have HS1 := hid h1
  clear he h1 HA
  go_wp2_with fail
  refine (HN.out _).mono ?_
  rintro e w2 ⟨p, mb, he, hb2, hs2, hp, hm⟩
  rw [he]
  have HB2 := hid hb2
  have HS2 := hid (HS1.out.trans hs2)
  have HP : Hid (w.heap.size ≤ p ∧ w.heap.size ≤ mb) := hid ⟨Nat.le_trans HS1.out.size hp, Nat.le_trans HS1.out.size hm⟩
  clear he hb2 hs2 hp hm HN HS1
  go_wp2_with fail
  go_loopw [7] (fun u wr => ∃ (i : Nat) (L : List Pcl), i ≤ n1 ∧ u = .int .i64 (i : Int) ∧ Hid (Bk wr p mb (i : Int) L ∧ L.map abP = (List.range i).map (spD D) ∧ Still w wr)) (fun u _ => n1 - (intOf u).toNat)
  case atStart => exact ⟨0, [], by omega, rfl, hid ⟨HB2.out, rfl, HS2.out⟩⟩
  case round =>
    clear HB2 HS2
    obtain ⟨i, L, hi, rfl, HH⟩ := hrel
    by_cases hin : i < n1
    · have hlt : (i : Int) < (n1 : Int) := by omega
      have hD9 := HD.out.still HH.out.2.2
      obtain ⟨Bd, od, ed⟩ := hD9.at (by omega)
      rw [ed] at hD9
      have c4 := rdSl hD9 hin
      have hdr := HDr.out i hin
      have HC := hid (bsend_any p mb (i : Int) L (i : Int) (-(i : Int)) (slD D i).ao (slD D i).n (slD D i).cap (slD D i).bs (by omega) hdr.2 wr HH.out.1 (hdr.1.still HH.out.2.2))
      have hk1 : -9223372036854775808 ≤ (i : Int) + 1 ∧ (i : Int) + 1 ≤ 9223372036854775807 := by omega
      have hk2 : -9223372036854775808 ≤ -(i : Int) ∧ -(i : Int) ≤ 9223372036854775807 := by omega
      subst ed
      clear hD9 hdr
      obtain ⟨hw1, hw2⟩ := wrI hk1
      obtain ⟨hw3, hw4⟩ := wrI hk2
      go_wp2_with fail
      clear hw1 hw2 hw3 hw4
      refine HC.out.mono ?_
      rintro e w3 ⟨he, y, hy, _, hb3, hf3⟩
      rw [he]
      have HN3 : Hid (Bk w3 p mb ((i + 1 : Nat) : Int) (L ++ [y]) ∧ (L ++ [y]).map abP = (List.range (i + 1)).map (spD D) ∧ Still w w3) := hid (by
        refine ⟨?_, ?_, still_bag HH.out.2.2 hf3 HP.out.1 HP.out.2⟩
        · rw [show ((i + 1 : Nat) : Int) = (i : Int) + 1 by omega]; exact hb3
        · rw [List.map_append, HH.out.2.1, List.range_succ, List.map_append, List.map_singleton, List.map_singleton, hy]
          rfl)
      clear he hy hb3 hf3 HC c4
      obtain ⟨hw1, hw2⟩ := wrI hk1
      go_wp2_with fail
      clear hw1 hw2
      go_roundw
      case rel => exact ⟨i + 1, _, by omega, by go_num, HN3⟩
      case measure => simp [intOf]; omega
    · have hge : ¬ (i : Int) < (n1 : Int) := by omega
      have hiN : i = n1 := by omega
      have HZ : Hid (Bk wr p mb (n1 : Int) L ∧ L.map abP = (List.range n1).map (spD D) ∧ Still w wr) := hid (by have := HH.out; rw [hiN] at this; exact this)
      clear HH hiN hi hin
      go_wp2_with fail
      obtain ⟨wz, ewz⟩ : ∃ z, wr = z := ⟨_, rfl⟩
      rw [ewz] at HZ
      go_loopw [9, 10] (fun u9 u10 wr => ∃ j : Nat, j ≤ n1 ∧ u10 = .int .i64 (j : Int) ∧ Hid (OwG KIn 3 wr wz.heap.size u9 (mI (List.range j)) ∧ Still wz wr)) (fun _ u _ => n1 - (intOf u).toNat)
      case atStart => exact ⟨0, by omega, rfl, hid ⟨OwG.nil _ _, by rw [← ewz]; exact Fr.refl _ _⟩⟩
      case round =>
        clear ewz
        obtain ⟨j, hj, rfl, HI⟩ := hrel
        obtain ⟨ao9, cp9, e9, hao9⟩ := HI.out.1.slice
        rw [mI_len, List.length_range] at e9
        subst e9
        by_cases hjn : j < n1
        · have hlt : (j : Int) < (n1 : Int) := by omega
          have A5 := Still.alloc wr (.cells #[.int .i64 (j : Int)] 3)
          have HR5 := hid (SrG.oneI wr (j : Int))
          have HO5 := hid (HI.out.1.still A5)
          have HS5 := hid (HI.out.2.trans A5)
          have HL5 : Hid (((mI (List.range j)).length + [(j : Int)].length) * 8 ≤ 140737488355328 ∧ (mI (List.range j)).length + [(j : Int)].length ≤ 281474976710656) := hid (by
            rw [mI_len, List.length_range, List.length_singleton]
            omega)
          have hk1 : -9223372036854775808 ≤ (j : Int) + 1 ∧ (j : Int) + 1 ≤ 9223372036854775807 := by omega
          clear A5
          obtain ⟨hw1, hw2⟩ := wrI hk1
          go_wp2_with (
            at_builtin
            refine wpList_appMG KIn _ rfl _ _ 40 rfl Try.underlying40 8 (.int .i64 0) HZI.out infoIn wz.heap.size (.slice ao9 j cp9) (mI (List.range j)) [(j : Int)] (some ⟨wr.heap.size, 0, none⟩) 1 1 rfl rfl rfl HO5.out HR5.out HL5.out.1 HL5.out.2 HS5.out.size ?_
            intro v2 w2 ho2 hf2
            have HN2 : Hid (OwG KIn 3 w2 wz.heap.size v2 (mI (List.range (j + 1))) ∧ Still wz w2) := hid ⟨by
              have e : mI (List.range j) ++ [(j : Int)] = mI (List.range (j + 1)) := by simp [mI, List.range_succ]
              rw [← e]; exact ho2, Fr.trans HS5.out hf2 (fun k hk e => by
                exact absurd hk (Nat.not_lt.2 (HI.out.1.block e).1))⟩
            clear ho2 hf2)
          clear hw1 hw2
          go_roundw
          case rel => exact ⟨j + 1, by omega, by go_num, HN2⟩
          case measure => simp [intOf]; omega
        · have hge2 : ¬ (j : Int) < (n1 : Int) := by omega
          have hjN : j = n1 := by omega
          have HI2 : Hid (OwG KIn 3 wr w.heap.size (.slice ao9 n1 cp9) (mI (List.range n1)) ∧ Bk wr p mb (n1 : Int) L ∧ Lf D n1 L (List.range n1) ∧ Still w wr) := hid (by
            have := HI.out
            rw [hjN] at this
            exact ⟨this.1.less HZ.out.2.2.size, HZ.out.1.still this.2, Lf.begin HZ.out.2.1, HZ.out.2.2.trans this.2⟩)
          subst hjN
          clear HI hj hjn HZ hao9
          go_wp2_with fail
          go_loopw [9, 11] (fun u9 u11 wr => ∃ (k : Nat) (M : List Nat) (L : List Pcl), u11 = .int .i64 (k : Int) ∧ Hid (k + M.length = j) ∧ Hid (OwG KIn 3 wr w.heap.size u9 (mI M) ∧ Bk wr p mb (j : Int) L ∧ Lf D j L M ∧ Still w wr)) (fun u9 _ _ => lenOf17 u9)
          case atStart => exact ⟨0, List.range j, L, rfl, hid (by simp), HI2⟩
          case round =>
            clear HI2
            obtain ⟨k, M, L, rfl, HKM, HH⟩ := hrel
            by_cases hM0 : M.length = 0
            · obtain rfl : M = [] := List.eq_nil_of_length_eq_zero hM0
              obtain ⟨ao8, cp8, e8, _⟩ := HH.out.1.slice
              rw [mI_len] at e8
              subst e8
              have hL0 := HH.out.2.2.1.none
              subst hL0
              have HC := hid (blen_any p mb (j : Int) [] wr HH.out.2.1)
              go_wp2_with fail
              refine HC.out.mono ?_
              rintro e w12 ⟨he, hw⟩
              rw [he, hw]
              clear he hw w12 HC
              go_wp2_with fail
              go_ret
              exact ⟨by simp, HH.out.2.2.2⟩
            · obtain ⟨g9, cap9, e9, _, _⟩ := HH.out.1.head (by rw [mI_len]; omega)
              rw [mI_len] at e9
              subst e9
              have hM1 : (0 : Int) < (M.length : Int) := by omega
              have HKj : Hid (M.length ≤ j) := hid (by have := HKM.out; omega)
              go_upto_if 66 with fail
              go_cut [12] (fun v12 wx => ∃ a : Nat, v12 = .int .i64 (a : Int) ∧ a < M.length ∧ wx = wr)
              case first =>
                by_cases hkn : k < n2
                · have hlt : (k : Int) < (n2 : Int) := by omega
                  have hO9 := HO.out.still HH.out.2.2.2
                  obtain ⟨Bo, oo', eo⟩ := hO9.at (by omega)
                  rw [eo] at hO9
                  have d0 := rdIn hO9 hkn
                  have HPk := hid (fun w => pick_any (O.getD k 0) (M.length : Int) (HOr.out k hkn) (by omega) (by have := HKj.out; omega) w)
                  obtain ⟨hj0, hj1⟩ := pk_in (O.getD k 0) (M.length : Int) (by omega)
                  obtain ⟨a, ea⟩ : ∃ a : Nat, pk (O.getD k 0) (M.length : Int) = (a : Int) := ⟨(pk (O.getD k 0) (M.length : Int)).toNat, by omega⟩
                  rw [ea] at HPk hj1
                  have ha : a < M.length := by omega
                  obtain ⟨q, eq⟩ : ∃ q, O.getD k 0 = q := ⟨_, rfl⟩
                  rw [eq] at d0 HPk
                  subst eo
                  clear hO9 ea hj0 hj1 eq
                  go_wp2_with fail
                  refine (HPk.out _).mono ?_
                  rintro e w2 ⟨he, hw⟩
                  rw [he, hw]
                  clear he hw w2 HPk d0
                  go_wp2_with fail
                  go_meet
                  exact ⟨a, rfl, ha, rfl⟩
                · have hge3 : ¬ (k : Int) < (n2 : Int) := by omega
                  go_wp2_with fail
                  go_meet
                  exact ⟨0, rfl, by omega, rfl⟩
              case rest =>
                obtain ⟨a, rfl, ha, hw⟩ := hcut
                rw [hw]
                clear hw wc
                obtain ⟨i, ei⟩ : ∃ i, M.getD a 0 = i := ⟨_, rfl⟩
                have him : i ∈ M := by rw [← ei, List.getD_eq_getElem?_getD, List.getElem?_eq_getElem ha]; exact List.getElem_mem ha
                have hiN : i < j := HH.out.2.2.1.lt i him
                have hal : (a : Int) < (M.length : Int) := by omega
                have l0 := owIn HH.out.1 (i := a) (by rw [mI_len]; exact ha)
                rw [mI_at ha, ei] at l0
                obtain ⟨x, hfx, hax⟩ := HH.out.2.2.1.fnd him
                have hk1 : -9223372036854775808 ≤ (i : Int) + 1 ∧ (i : Int) + 1 ≤ 9223372036854775807 := by omega
                have hk2 : -9223372036854775808 ≤ -(i : Int) ∧ -(i : Int) ≤ 9223372036854775807 := by omega
                have HC := hid (bdeliver_yes p mb (j : Int) L ((i : Int) + 1) x hk1 wr HH.out.2.1 hfx)
                have HAX := hid hax
                clear hax hfx him
                obtain ⟨hw1, hw2⟩ := wrI hk1
                go_wp2_with fail
                clear hw1 hw2
                refine HC.out.mono ?_
                rintro e w5 ⟨y, he, hn5, hb5, hf5⟩
                rw [he]
                have HB5 := hid hb5
                have hY5 : abP y = spD D i := by rw [hn5.ab]; exact HAX.out
                have HS5 := hid (still_map HH.out.2.2.2 hf5 HP.out.2)
                have HL5 := hid (HH.out.1.keep hf5 (fun k hk e => by
                  obtain ⟨es, c, hb', _⟩ := HH.out.2.1.mp
                  obtain ⟨cur, hc⟩ := ow_ty HH.out.1 e
                  rw [hk, hb'] at hc
                  cases hc))
                have HLf := hid (HH.out.2.2.1.step ha)
                rw [ei] at HLf
                obtain ⟨b5, eb5⟩ : ∃ b, w5.heap.size = b := ⟨_, rfl⟩
                obtain ⟨W6, eW6⟩ : ∃ W, newPl w5 y = W := ⟨_, rfl⟩
                have A6 : Still w5 W6 := by rw [← eW6]; exact Still.alloc _ _
                have HP6 : Hid (Plb W6 b5 y) := hid (by rw [← eW6, ← eb5]; exact newPl_b w5 y)
                have HQ6 := hid (hn5.q.still A6)
                have HB6 := hid (HB5.out.still A6)
                have HL6 := hid (HL5.out.still A6)
                have HS6 := hid (HS5.out.trans A6)
                have HC2 := hid (bdeliver_no p mb (j : Int) (delP L ((i : Int) + 1)) ((i : Int) + 1) hk1 W6 HB6.out (by
                  cases hf : fndP (delP L ((i : Int) + 1)) ((i : Int) + 1) with
                  | none => rfl
                  | some z =>
                    obtain ⟨h1, h2⟩ := fndP_some hf
                    exact absurd h2 (delP_mem h1).2))
                simp only [newPl] at eW6
                clear he hn5 hb5 hf5 HB5 HS5 HL5 A6 HC HAX HH
                obtain ⟨hw1, hw2⟩ := wrI hk1
                go_wp2_with fail
                clear hw1 hw2
                refine HC2.out.mono ?_
                rintro e w7 ⟨he, hs7⟩
                rw [he]
                have A9 := Still.alloc w7 (.cells (pls zPl) 43)
                have HS8 := hid (hs7.trans A9)
                clear he hs7 A9 eW6 eb5 HC2
                go_upto_region 25 with fail
                obtain ⟨W9, eW9⟩ : ∃ W, w7.alloc (.cells #[.int .i64 zPl.no, .int .i64 zPl.fr, .int .i64 zPl.td, .slice zPl.ao zPl.n zPl.cap] 43) = W := ⟨_, rfl⟩
                rw [eW9]
                have HS9 : Hid (Still W6 W9) := hid (by rw [← eW9]; exact HS8.out)
                clear eW9 HS8
                have HS10 := hid (HS6.out.trans HS9.out)
                obtain ⟨c0, c1, c2, c3, cf⟩ := (HP6.out.still HS9.out).cells
                have hq9 := HQ6.out.still HS9.out
                simp only [abP, spD, Prod.mk.injEq] at hY5
                rw [hY5.1] at c0
                rw [hY5.2.1] at c1
                rw [hY5.2.2.1] at c2
                have hD9 := HD.out.still HS10.out
                obtain ⟨Bd, od, ed⟩ := hD9.at (by omega)
                rw [ed] at hD9
                have c4 := rdSl hD9 hiN
                have q0 := Cl.cell c0
                have q1 := Cl.cell c1
                have q2 := Cl.cell c2
                have q3 := Cl.cell c3
                have q4 := Cl.cell c4
                have k1 := fun (z : Aft W9) => run_string (P := Try.prog) z.u 33 5 9 Try.underlying33 Try.underlying5 Try.underlying9 (hq9.ow.rd.still z.s)
                have k2 := fun (z : Aft W9) => run_string (P := Try.prog) z.u 33 5 9 Try.underlying33 Try.underlying5 Try.underlying9 (((HDr.out i hiN).1.still HS10.out).still z.s)
                rw [hY5.2.2.2] at k1
                have hne := Aft.here W9
                have hiN' : (i : Int) < (j : Int) := by omega
                have HB9 := hid (HB6.out.still HS9.out)
                have HL9 := hid (HL6.out.still HS9.out)
                subst ed
                clear hY5 hD9 hq9 c0 c1 c2 c3 c4 cf HP6 HQ6 HB6 HL6 HS6 HS9
                obtain ⟨hw1, hw2⟩ := wrI hk1
                obtain ⟨hw3, hw4⟩ := wrI hk2
                refine region_all (by kernel_rfl) (by kernel_rfl) ?_
                repeat (go_big_quiet_step (rfl))
                refine wpQuiet_nil ?_
                intro w11 h11
                clear hw1 hw2 hw3 hw4
                have HB11 := hid (HB9.out.still h11)
                have HL11 := hid (HL9.out.still h11)
                have HS11 := hid (HS10.out.trans h11)
                clear h11 q0 q1 q2 q3 q4 k1 k2 hne HB9 HL9 HS10 l0
                have hMl : M.length ≤ j := HKj.out
                have hcap : M.length ≤ cap9 := by
                  have := (SrG.own (S := mI M) (by rw [mI_len]; exact HL11.out) (by rw [mI_len]; omega)).le
                  rwa [mI_len] at this
                have hcut1 := fun W => run_uptoG (P := Try.prog) (t := 40) (e := 3) Try.underlying40 (by obtain ⟨i, h, _⟩ := infoIn; exact ⟨i, h⟩) W (some ⟨g9, 0, none⟩) M.length cap9 (a : Int) (by omega) (by omega)
                rw [Int.toNat_natCast] at hcut1
                have hcut2 := fun W => run_fromG (P := Try.prog) (t := 40) (e := 3) (k := 1) Try.underlying40 (by obtain ⟨i, h, _, h2, _⟩ := infoIn; exact ⟨i, h, h2⟩) W (some ⟨g9, 0, none⟩) M.length cap9 (a + 1) (by omega)
                rw [show ((a + 1 : Nat) : Int) = (a : Int) + 1 by omega] at hcut2
                obtain ⟨aoc, eaoc⟩ : ∃ z, cutG 1 (some ⟨g9, 0, none⟩) cap9 (a + 1) = z := ⟨_, rfl⟩
                obtain ⟨m2, em2⟩ : ∃ m, M.length - (a + 1) = m := ⟨_, rfl⟩
                obtain ⟨cp2, ecp2⟩ : ∃ m, cap9 - (a + 1) = m := ⟨_, rfl⟩
                rw [eaoc, em2, ecp2] at hcut2
                have HSr : Hid (SrG KIn w11 (some ⟨g9, 0, none⟩) cap9 (mI M)) := hid (SrG.own (S := mI M) (by rw [mI_len]; exact HL11.out) (by rw [mI_len]; omega))
                have HT1 : Hid (∀ u, Still w11 u → SrG KIn u (some ⟨g9, 0, none⟩) cap9 ((mI M).take a)) := hid (fun u hu => (HSr.out.take (by rw [mI_len]; omega)).still hu)
                have HT2 : Hid (∀ u, Still w11 u → SrG KIn u aoc cp2 ((mI M).drop (a + 1))) := hid (fun u hu => by
                  have := (HSr.out.drop (i := a + 1) (by rw [mI_len]; omega)).still hu
                  rw [ecp2] at this
                  rw [← eaoc]
                  exact this)
                have HTl : Hid (((mI M).take a).length = a) := hid (List.length_take_of_le (by rw [mI_len]; omega))
                have HDl : Hid (((mI M).drop (a + 1)).length = m2) := hid (by rw [List.length_drop, mI_len]; exact em2)
                have HL1 : Hid ((([] : List Int).length + ((mI M).take a).length) * 8 ≤ 140737488355328 ∧ ([] : List Int).length + ((mI M).take a).length ≤ 281474976710656) := hid (by
                  rw [HTl.out, List.length_nil, Nat.zero_add]
                  omega)
                have HL2 : Hid ((((mI M).take a).length + ((mI M).drop (a + 1)).length) * 8 ≤ 140737488355328 ∧ ((mI M).take a).length + ((mI M).drop (a + 1)).length ≤ 281474976710656) := hid (by
                  rw [HTl.out, HDl.out, ← em2]
                  omega)
                have HOt : Hid ((outN M a).length + 1 = M.length) := hid (by have := (outN_perm ha).length_eq; simpa using this.symm)
                have hk3 : -9223372036854775808 ≤ (a : Int) + 1 ∧ (a : Int) + 1 ≤ 9223372036854775807 := by omega
                have hk4 : -9223372036854775808 ≤ (k : Int) + 1 ∧ (k : Int) + 1 ≤ 9223372036854775807 := by have := HKM.out; omega
                clear eaoc em2 ecp2 HSr hcap
                obtain ⟨hw5, hw6⟩ := wrI hk3
                obtain ⟨hw7, hw8⟩ := wrI hk4
                go_wp2_with (first
                  | (at_builtin
                     refine wpList_appMG KIn _ rfl _ _ 40 rfl Try.underlying40 8 (.int .i64 0) HZI.out infoIn w11.heap.size (.slice a1 a p1) ((mI M).take a) ((mI M).drop (a + 1)) aoc m2 cp2 rfl rfl HDl.out HO1.out.1 (HT2.out _ HO1.out.2) HL2.out.1 HL2.out.2 HO1.out.2.size ?_
                     intro v2 w2 ho2 hf2
                     have hs2 : Still w11 w2 := Fr.trans HO1.out.2 hf2 (fun k hk e => absurd hk (Nat.not_lt.2 (HO1.out.1.block e).1))
                     rw [mI_out] at ho2
                     have ho3 := OwG.less (B' := w.heap.size) ho2 HS11.out.size
                     have HN : Hid (OwG KIn 3 w2 w.heap.size v2 (mI (outN M a)) ∧ Bk w2 p mb (j : Int) (delP L ((i : Int) + 1)) ∧ Lf D j (delP L ((i : Int) + 1)) (outN M a) ∧ Still w w2) := hid ⟨ho3, HB11.out.still hs2, HLf.out, HS11.out.trans hs2⟩
                     clear ho2 hf2 hs2 ho3 HO1)
                  | (at_builtin
                     refine wpList_appMG KIn _ rfl _ _ 40 rfl Try.underlying40 8 (.int .i64 0) HZI.out infoIn w11.heap.size (.slice none 0 0) [] ((mI M).take a) (some ⟨g9, 0, none⟩) a cap9 rfl rfl HTl.out (OwG.nil _ _) (HT1.out _ (Fr.refl _ _)) HL1.out.1 HL1.out.2 (Nat.le_refl _) ?_
                     intro v1 w1 ho1 hf1
                     rw [List.nil_append] at ho1
                     obtain ⟨a1, p1, e1, _⟩ := ho1.slice
                     rw [HTl.out] at e1
                     subst e1
                     have hs1 : Still w11 w1 := hf1.mono (fun k _ e => by cases e)
                     have HO1 : Hid (OwG KIn 3 w1 w11.heap.size (.slice a1 a p1) ((mI M).take a) ∧ Still w11 w1) := hid ⟨ho1, hs1⟩
                     clear ho1 hf1 hs1))
                clear hw5 hw6 hw7 hw8
                go_roundw
                case rel => exact ⟨k + 1, outN M a, _, by go_num, hid (by have := HOt.out; have := HKM.out; omega), HN⟩
                case measure =>
                  obtain ⟨_, _, e2, _⟩ := HN.out.1.slice
                  rw [e2, mI_len]
                  show (outN M a).length < M.length
                  have := HOt.out
                  omega
end Go.Proofs.Ytakdfckkljbghaa
