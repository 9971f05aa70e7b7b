/- The library's math/bits.Len at small numbers, slices.pdqsortCmpFunc and slices.SortFunc of at most 12 int at the program's method value. -/
import Derived.Test.YtgkojpgpnkeacaaYse
namespace Go.Proofs.Ytgkojpgpnkeacaa
open Go.RowKit
open Ea
set_option maxRecDepth 100000

theorem blen64_small (n : Nat) (h : n ≤ 12) (w : World) : Calls Try.prog 41 #[.int .u64 (n : Int)] w fun e w' => (∃ l : Int, e = .returned (.int .i64 l)) ∧ w' = w := by
  have h1 : ¬ (4294967296 : Int) ≤ (n : Int) := by omega
  have h2 : ¬ (65536 : Int) ≤ (n : Int) := by omega
  have h3 : ¬ (256 : Int) ≤ (n : Int) := by omega
  go_enter Try.func41, Try.ntmps41
  go_wp2_with fail
  go_ret
  exact ⟨⟨_, rfl⟩, rfl⟩
theorem blen_small (n : Nat) (h : n ≤ 12) (w : World) : Calls Try.prog 29 #[.int .u64 (n : Int)] w fun e w' => (∃ l : Int, e = .returned (.int .i64 l)) ∧ w' = w := by
  have H := hid (fun w => blen64_small n h w)
  clear h
  go_enter Try.func29, Try.ntmps29
  go_wp2_with fail
  refine (H.out _).mono ?_
  rintro e w1 ⟨⟨l, rfl⟩, rfl⟩
  go_wp2_with fail
  go_ret
  exact ⟨⟨_, rfl⟩, rfl⟩
/-- the places, sorted -/
def SrtQ (L : List Scr) (n g : Nat) (w0 w' : World) : Prop := ∃ R', Plc n R' ∧ Srt L R' n ∧ OwI 3 w' (some ⟨g, 0, none⟩) n n R' ∧ Still w0 w'
set_option maxHeartbeats 1000000 in
theorem spdq_any (L : List Scr) (ao : Option Addr) (n cap g : Nat) (lim : Int) (h6 : n ≤ 12) (w0 w : World) (hr : RdG KC w0 ao n L) (hg : w0.heap.size ≤ g) (hs : Still w0 w) (R : List Int) (hp : Plc n R) (ho : OwI 3 w (some ⟨g, 0, none⟩) n n R) :
    Calls Try.prog 28 #[.slice (some ⟨g, 0, none⟩) n n, .int .i64 0, .int .i64 (n : Int), .int .i64 lim, fvA ao n cap] w fun e w' => e = .returned (.tuple #[]) ∧ SrtQ L n g w0 w' := by
  have H := hid (sins_any L ao n cap g h6 w0 w hr hg hs R hp ho)
  have h12 : (n : Int) ≤ 12 := by omega
  clear hr hg hs hp ho
  go_enter Try.func28, Try.ntmps28
  go_wp2_with fail
  refine wp_loop_rounds 1 ?_
  rw [rounds_succ]
  go_wp2_with fail
  refine H.out.mono ?_
  rintro e w1 ⟨rfl, h1⟩
  have H1 : Hid (SrtQ L n g w0 w1) := hid h1
  clear h1 H
  go_wp2_with fail
  (try simp only [Exit.inBlock, Exit.then])
  refine bodyPost_ret (results_none rfl _ _ _) rfl ?_
  exact ⟨rfl, H1.out⟩
set_option maxHeartbeats 1000000 in
theorem ssort_any (L : List Scr) (ao : Option Addr) (n cap g : Nat) (h6 : n ≤ 12) (w0 w : World) (hr : RdG KC w0 ao n L) (hg : w0.heap.size ≤ g) (hs : Still w0 w) (R : List Int) (hp : Plc n R) (ho : OwI 3 w (some ⟨g, 0, none⟩) n n R) :
    Calls Try.prog 24 #[.slice (some ⟨g, 0, none⟩) n n, fvA ao n cap] w fun e w' => e = .returned (.tuple #[]) ∧ SrtQ L n g w0 w' := by
  have H := hid (fun lim => spdq_any L ao n cap g lim h6 w0 w hr hg hs R hp ho)
  have HB := hid (fun w => blen_small n h6 w)
  have h12 : (n : Int) ≤ 12 := by omega
  clear hr hg hs hp ho
  go_enter Try.func24, Try.ntmps24
  go_wp2_with fail
  refine (HB.out _).mono ?_
  rintro e w1 ⟨⟨l, rfl⟩, rfl⟩
  go_wp2_with fail
  refine (H.out _).mono ?_
  rintro e w2 ⟨rfl, h2⟩
  have H2 := hid h2
  clear h2 H HB
  go_wp2_with fail
  go_end0
  exact ⟨rfl, H2.out⟩
end Go.Proofs.Ytgkojpgpnkeacaa
