/- The program's pairs, and what is ranged over there. -/
import Derived.Test.YtpohikhiekmfgaaYgc
namespace Go.Proofs.Ytpohikhiekmfgaa
open Go Go.RowKit
open Pu Gp Ap Vp Np Za Ka Ja Ygp
set_option maxRecDepth 100000
attribute [local go_sem] Oper.semAt_some

/-- what a round of Bodies keeps: all cells but those of meets -/
def KpT (W W' : World) : Prop := ∀ (b : Nat) (cs : Array Value) (t : TypeId) (m : Nat × Nat), W.heap[b]? = some (.cells cs t m) → t ≠ 25 → t ≠ 47 → W'.heap[b]? = some (.cells cs t m)
def Kpp (n₀ : Nat) (W W' : World) : Prop := Below n₀ W W' ∧ KpT W W'
theorem kpp_t {n₀ : Nat} {A B C : World} (h : Kpp n₀ A B) (k : Kpp n₀ B C) : Kpp n₀ A C := ⟨h.1.trans k.1, fun b cs t m h1 h2 h3 => k.2 b cs t m (h.2 b cs t m h1 h2 h3) h2 h3⟩
theorem kpp_box {n₀ : Nat} {A B : World} {b t : Nat} {v : Value} (h : Kpp n₀ A B) (hb : Boxed A b t v) (h1 : t ≠ 25) (h2 : t ≠ 47) : Boxed B b t v := h.2 b _ _ _ hb h1 h2
theorem hpairs_any (ao : Option Addr) (n cap : Nat) (w : World) : Calls Try.prog 25 #[.slice ao n cap] w fun e w' =>
    e = .returned (.func (.func 47) #[] #[.pointer (some ⟨w.heap.size, 0, none⟩)]) ∧ w' = w.alloc (.cells #[.slice ao n cap] 22) := by
  go_enter Try.func25, Try.ntmps25
  go_wp2_with fail
  go_ret
  exact ⟨rfl, rfl⟩
set_option maxHeartbeats 4000000 in
theorem hpairs_walk (L : List Mv) (ao : Option Addr) (n cap l Bl n₀ : Nat) (J : List (Fin L.length × Fin L.length) → World → Prop) (W : World) (hJ : OwnFrom W.heap.size J)
    (hY : ∀ pre x W1, J pre W1 → pre.length < (ipl L L.length).length * (ipl L L.length).length → YieldAt Fence.wide 0 Try.prog l #[.int .i64 (x.1.1 : Int), .int .i64 (x.2.1 : Int)] W1 fun e W' =>
      e = .returned (.bool true) ∧ J (pre ++ [x]) W' ∧ Kpp n₀ W1 W' ∧ KeepsFrom W.heap.size W1 W')
    (hn₀ : n₀ ≤ W.heap.size) (hBl : Boxed W Bl 22 (.slice ao n cap)) (hr : RdN n₀ W ao n L) (h0 : J [] W) :
    CallsIn Fence.wide 8 Try.prog 47 #[.func (.yield l) #[] #[], .pointer (some ⟨Bl, 0, none⟩)] W fun e W' => (∃ v, e = .returned v) ∧ J (prs (ipl L L.length) (ipl L L.length)) W' := by
  have HR := hid hr
  have HY := hid hY
  have HJ := hid hJ
  have H0 := hid h0
  have cB := hBl.cell
  have hBlt := hBl.lt
  clear hr hY hJ h0
  refine callsIn_of_wp_marks Try.func47 rfl trivial ?_ rfl
  simp only [Try.ntmps47, List.size_toArray, List.length_cons, List.length_nil, Nat.reduceAdd, Nat.reduceSub, Array.replicate_succ, Array.replicate_zero, List.push_toArray, List.append_toArray, List.nil_append, List.cons_append]
  gi_wp2_with fail
  refine ⟨trivial, (callsIn_wide.2 (hin_any ao n cap _)).mono ?_⟩
  rintro e w' ⟨rfl, rfl⟩
  gi_wp2_with fail
  have bL := (hBl.alloc (.cells #[.func (.yield l) #[] #[]] 72)).alloc (.cells #[.slice ao n cap] 22)
  have bY := (Boxed.new W 72 (.func (.yield l) #[] #[])).alloc (.cells #[.slice ao n cap] 22)
  have bI := Boxed.new (W.alloc (.cells #[.func (.yield l) #[] #[]] 72)) 22 (.slice ao n cap)
  simp only [World.size_alloc] at bI
  have hS0 : Still W ((W.alloc (.cells #[.func (.yield l) #[] #[]] 72)).alloc (.cells #[.slice ao n cap] 22)) := ((Fr.refl _ W).alloc _).alloc _
  have hsz : ((W.alloc (.cells #[.func (.yield l) #[] #[]] 72)).alloc (.cells #[.slice ao n cap] 22)).heap.size = W.heap.size + 2 := by simp
  obtain ⟨V, eV⟩ : ∃ V, (W.alloc (.cells #[.func (.yield l) #[] #[]] 72)).alloc (.cells #[.slice ao n cap] 22) = V := ⟨_, rfl⟩
  rw [eV] at bL bY bI hS0 hsz ⊢
  clear eV cB hBl
  have hB0 : Below n₀ W V := hS0.below.mono hn₀
  have hJ0 : J [] V := own_still HJ.out H0.out hS0
  refine wpIn_rangeFunc_ownH rfl (by omega) (gf := 66) (lb := #[.pointer (some ⟨W.heap.size + 1, 0, none⟩)]) rfl trivial (enters_of Try.func66 (by kernel_rfl) rfl)
    (hin_stops L ao n cap (W.heap.size + 1) n₀ 7 V (by omega) (by omega) bI.cell (HR.out.below hB0)) belowK_t (belowK_b (by omega)) (Below.refl _ _) (fun _ => rfl)
    (fun pre U => (Boxed U Bl 22 (.slice ao n cap) ∧ Boxed U W.heap.size 72 (.func (.yield l) #[] #[])) ∧ J (prs (ipl L L.length) pre) U ∧ Below n₀ W U)
    (fun _ _ _ => False)
    (OwnFrom.and (OwnFrom.and (Own.from (boxed_own _ _ _) _) (Own.from (boxed_own _ _ _) _)) (OwnFrom.and (own_with (own_up HJ.out (by omega)) (fun pre => prs (ipl L L.length) pre)) (ownFrom_below hn₀ (by omega))))
    (fun _ _ _ _ _ hs _ _ => hs)
    ⟨⟨bL, bY⟩, hJ0, hB0⟩
    (fun x a' U => ∃ Bx, Boxed U Bx 3 (.int .i64 (x.1 : Int)) ∧ a' = { tmps := #[.func (.yield l) #[] #[], .pointer (some ⟨Bl, 0, none⟩), .pointer (some ⟨W.heap.size, 0, none⟩), .pointer (some ⟨Bx, 0, none⟩), undef, .slice ao n cap, .func (.func 66) #[] #[.pointer (some ⟨W.heap.size + 1, 0, none⟩)], .int .i64 (x.1 : Int), undef, undef, undef, undef, undef, undef, undef, undef, undef, undef, undef, undef, undef], defers := [] })
    (fun x a' _ X Z row hs hg hr => by obtain ⟨Bx, h1, h2⟩ := hs; exact ⟨Bx, boxed_row h1 hg hr, h2⟩)
    ?assign ?body ?done ?stop
  case assign =>
    rintro l1 pre x U K ⟨⟨k1, k2⟩, hj, hB⟩ hK
    gi_wp2_with fail
    exact hK _ _ ((KeepsOthers.alloc _ _).from _) ((Below.refl _ U).alloc (Nat.le_trans hn₀ hB.size) _) ⟨⟨k1.alloc _, k2.alloc _⟩, own_still HJ.out hj (Still.alloc _ _), hB.alloc (Nat.le_trans hn₀ hB.size) _⟩ ⟨U.heap.size, Boxed.new U 3 _, rfl⟩
  case body =>
    rintro l1 pre x a' U hl1 ⟨r, hr1⟩ ⟨⟨k1, k2⟩, hj, hB⟩ ⟨Bx, kx, rfl⟩ hlt
    have c1 := k1.cell
    gi_wp2_with fail
    refine ⟨trivial, (calls_in l1 _ (hin_any ao n cap _)).mono ?_⟩
    rintro e w' ⟨rfl, rfl⟩
    gi_wp2_with fail
    have hsU : n₀ ≤ U.heap.size := Nat.le_trans hn₀ hB.size
    have hsW := hB.size
    have bN := Boxed.new U 22 (.slice ao n cap)
    have hr' : (U.alloc (.cells #[.slice ao n cap] 22)).heap[l1]? = some (.loop r) := (Below.heap_alloc U _ l1 (Array.getElem?_eq_some_iff.1 hr1).1).trans hr1
    refine wpIn_rangeFunc_ownN (l₀ := l1) (r₀ := r) rfl hr' (by omega) (gf := 66) (lb := #[.pointer (some ⟨U.heap.size, 0, none⟩)]) rfl trivial (enters_of Try.func66 (by kernel_rfl) rfl)
      ((hin_stops L ao n cap U.heap.size n₀ _ (U.alloc (.cells #[.slice ao n cap] 22)) (by simp) (by simp; omega) bN.cell (HR.out.below (hB.alloc hsU _))).inRound l1) belowK_t (belowK_b (by simp; omega)) (Below.refl _ _) (fun _ => rfl)
      (fun pre' Z => (Boxed Z Bl 22 (.slice ao n cap) ∧ Boxed Z W.heap.size 72 (.func (.yield l) #[] #[]) ∧ Boxed Z Bx 3 (.int .i64 (x.1 : Int))) ∧ J (prs (ipl L L.length) pre ++ inr x pre') Z ∧ Below n₀ U Z ∧ KeepsFrom V.heap.size U Z)
      (fun _ _ _ => False)
      (OwnFrom.and (OwnFrom.and (Own.from (boxed_own _ _ _) _) (OwnFrom.and (Own.from (boxed_own _ _ _) _) (Own.from (boxed_own _ _ _) _))) (OwnFrom.and (own_with (own_up HJ.out (by simp; omega)) (fun pre' => prs (ipl L L.length) pre ++ inr x pre')) (OwnFrom.and (ownFrom_below hsU (by simp; omega)) (ownFrom_keepsFrom (by simp)))))
      (fun _ _ _ _ _ hs _ _ => hs)
      ⟨⟨k1.alloc _, k2.alloc _, kx.alloc _⟩, by simp only [inr, List.flatMap_nil, List.append_nil]; exact own_still HJ.out hj (Still.alloc _ _), (Below.refl _ U).alloc hsU _, (KeepsOthers.alloc _ _).from _⟩
      (fun y a'' _ => a'' = { tmps := #[.func (.yield l) #[] #[], .pointer (some ⟨Bl, 0, none⟩), .pointer (some ⟨W.heap.size, 0, none⟩), .pointer (some ⟨Bx, 0, none⟩), .int .i64 (y.1 : Int), .slice ao n cap, .func (.func 66) #[] #[.pointer (some ⟨W.heap.size + 1, 0, none⟩)], .int .i64 (x.1 : Int), .slice ao n cap, .func (.func 66) #[] #[.pointer (some ⟨U.heap.size, 0, none⟩)], .int .i64 (y.1 : Int), undef, undef, undef, undef, undef, undef, undef, undef, undef, undef], defers := [] })
      (fun _ _ _ _ _ _ hs _ _ => hs)
      ?assign2 ?body2 ?done2 ?stop2
    case assign2 =>
      rintro l2 pre' y Z K hi hK
      gi_wp2_with fail
      exact hK _ _ (KeepsFrom.refl _ _) (Below.refl _ _) hi rfl
    case body2 =>
      rintro l2 pre' y a'' Z _ _ ⟨⟨j1, j2, jx⟩, hjj, hBZ, hKZ⟩ rfl hlt2
      have cx := jx.cell
      have cy := j2.cell
      by_cases hxy : x.1 < y.1
      · have hd : decide ((x.1 : Int) < (y.1 : Int)) = true := by simp; omega
        have hlen : (prs (ipl L L.length) pre ++ inr x pre').length < (ipl L L.length).length * (ipl L L.length).length := by
          have h1 := prs_len (ipl L L.length) pre
          have h2 := inr_len x pre'
          have h3 : (pre.length + 1) * (ipl L L.length).length ≤ (ipl L L.length).length * (ipl L L.length).length := Nat.mul_le_mul_right _ hlt
          rw [Nat.succ_mul] at h3
          rw [List.length_append]
          omega
        obtain ⟨fn, tmps, assign, body, hy, hR⟩ := HY.out _ (x, y) Z hjj hlen
        have HR1 := hid hR
        clear hR hlen
        dsimp only at hy
        gi_wp2_with fail
        refine (round_in2 l1 l2 HR1.out).mono ?_
        rintro e Z2 ⟨rfl, hj2, hk2, hf2⟩
        have HKZ := hid (keeps_up hf2 (show W.heap.size ≤ V.heap.size by omega))
        have HJ2 : Hid (J (prs (ipl L L.length) pre ++ inr x (pre' ++ [y])) Z2) := hid (by rw [inr_snoc, if_pos hxy, ← List.append_assoc]; exact hj2)
        clear hj2
        gi_wp2_with fail
        exact ⟨keeps_up hf2 (by simp; omega), hk2.1, ⟨kpp_box hk2 j1 (by decide) (by decide), kpp_box hk2 j2 (by decide) (by decide), kpp_box hk2 jx (by decide) (by decide)⟩, HJ2.out, hBZ.trans hk2.1, hKZ.trans HKZ.out⟩
      · have hd : decide ((x.1 : Int) < (y.1 : Int)) = false := by simp; omega
        have HJ2 : Hid (J (prs (ipl L L.length) pre ++ inr x (pre' ++ [y])) Z) := hid (by rw [inr_snoc, if_neg hxy, List.append_nil]; exact hjj)
        clear hjj
        gi_wp2_with fail
        refine ⟨fun _ h => (by cases h), ?_⟩
        gi_wp2_with fail
        exact ⟨KeepsFrom.refl _ _, Below.refl _ _, ⟨j1, j2, jx⟩, HJ2.out, hBZ, hKZ⟩
    case done2 =>
      rintro ys Z rfl ⟨⟨j1, j2, jx⟩, hjj, hBZ, hKZ⟩
      gi_wp2_with fail
      exact ⟨hKZ, hBZ, ⟨j1, j2⟩, by rw [prs_snoc]; exact hjj, hB.trans hBZ⟩
    case stop2 =>
      rintro c pre' Z _ h
      exact h.elim
  case done =>
    rintro D ys U hD rfl ⟨_, hj, hB⟩ hK
    gi_wp2_with fail
    refine ⟨by simp, .inl ⟨_, _, rfl, run_takeDeferred hK, ?_⟩⟩
    exact ⟨_, results_none rfl _ _ _, ⟨_, rfl⟩, HJ.out.putObj _ hj (by omega) hK rfl⟩
  case stop =>
    rintro D c pre U _ _ h _
    exact h.elim
theorem hpairs_seq (L : List Mv) (ao : Option Addr) (n cap Bl n₀ : Nat) (w : World) (hn₀ : n₀ ≤ w.heap.size) (hBl : Boxed w Bl 22 (.slice ao n cap)) (hr : RdN n₀ w ao n L) :
    SeqA Try.prog 47 #[.pointer (some ⟨Bl, 0, none⟩)] (fun x : Fin L.length × Fin L.length => #[Value.int .i64 (x.1.1 : Int), Value.int .i64 (x.2.1 : Int)]) (Kpp n₀) (prs (ipl L L.length) (ipl L L.length)) ((ipl L L.length).length * (ipl L L.length).length) w :=
  fun l J W hW hJ hY h0 => callsIn_wide.2 (callsIn_wide.1 (hpairs_walk L ao n cap l Bl n₀ J W hJ hY (Nat.le_trans hn₀ hW.size) ((hW.block Bl hBl.lt).trans hBl) (hr.below (hW.mono hn₀)) h0))
end Go.Proofs.Ytpohikhiekmfgaa
