/- Parts of the proof, laid end to end. -/
import Derived.Test.YtdljmpjfiggdiaaDoorZV19
import Derived.Test.YtdljmpjfiggdiaaDoorZV21
namespace Go.Proofs.YtdljmpjfiggdiaaDoor
open Go.RowKit
open Pu Gp Np Za Ka Ja Ea Ha
set_option maxRecDepth 100000
set_option maxHeartbeats 2000000 in
theorem prints_law (c : Ctr) (hc : c.In) (w : World) (C : Cts23 w) (ht : PTabV w) : Calls Tryd.prog 7 #[.agg (ctcs c)] w fun e w' => e = .returned (.bool true) /\ Still w w' := by
 have HC := hid C
 have HI := hid hc
 have HT := hid ht
 have A0 := Still.alloc w (.cells (ctcs c) 46)
 have p0 : Ctb (w.alloc (.cells (ctcs c) 46)) w.heap.size c := heap_alloc_new w _
 have H0 := hid (awake23_any w _ C A0)
 have HS0 := hid A0
 have HP0 := hid p0
 obtain ⟨W0, eW0⟩ : ∃ X, w.alloc (.cells (ctcs c) 46) = X := ⟨_, rfl⟩
 rw [eW0] at H0 HS0 HP0
 obtain ⟨T, eT⟩ : ∃ T, prS c = T := ⟨_, rfl⟩
 have ET := hid eT
 clear C hc ht A0 p0 eT
 go_enter Tryd.func7, Tryd.ntmps7
 go_wp2_with fail
 refine H0.out.mono ?_
 rintro e w1 ⟨rfl, h1⟩
 have HS1 := hid (HS0.out.trans h1)
 have HP1 := hid (HP0.out.still h1)
 have H1 := hid (HC.out.print c w1 HS1.out HI.out)
 rw [ET.out] at H1
 obtain ⟨c0, c1, c2, c3, c4, c5, c6, c7, c8⟩ := HP1.out.cells
 clear h1 H0 HS0 HP0 eW0
 go_wp2_with fail
 refine H1.out.mono ?_
 rintro e w2 ⟨rfl, h2⟩
 have HS2 := hid (HS1.out.trans h2)
 have HP2 := hid (HP1.out.still h2)
 have H2 := hid (rprint23_any c HI.out w2 (HT.out.still HS2.out))
 rw [ET.out] at H2
 clear h2 H1 HS1 c0 c1 c2 c3 c4 c5 c6 c7 c8 HP1
 obtain ⟨c0, c1, c2, c3, c4, c5, c6, c7, c8⟩ := HP2.out.cells
 go_wp2_with fail
 refine H2.out.mono ?_
 rintro e w3 ⟨rfl, h3⟩
 have HS3 := hid (HS2.out.trans h3)
 clear h3 H2 HS2 c0 c1 c2 c3 c4 c5 c6 c7 c8 HP2
 go_wp2_with fail
 go_ret
 exact ⟨rfl, HS3.out⟩
set_option maxHeartbeats 2000000 in
theorem notes_law (L : List Nv) (hL : ∀ y ∈ L, I64 y.a /\ I64 y.b) (ao : Option Addr) (n cap : Nat) (hcap : n <= cap) (hn : n <= 2097152) (w : World) (hr : RdG KNv w ao n L) (C : Cts23 w) (ht : PTabV w) : Calls Tryd.prog 5 #[.slice ao n cap] w fun e w' => e = .returned (.bool true) /\ Still w w' := by
 have HC := hid C
 have HI := hid hL
 have HT := hid ht
 have HR := hid hr
 have H0 := hid (awake23_any w w C (Fr.refl _ _))
 obtain ⟨T, eT⟩ : ∃ T, ntR L = T := ⟨_, rfl⟩
 obtain ⟨E, eE⟩ : ∃ T, ntE L = T := ⟨_, rfl⟩
 have ET := hid (And.intro eT eE)
 clear C hL ht hr eT eE
 go_enter Tryd.func5, Tryd.ntmps5
 go_wp2_with fail
 refine H0.out.mono ?_
 rintro e w1 ⟨rfl, h1⟩
 have HS1 := hid h1
 have H1 := hid (HC.out.notes L ao n cap w1 h1 HI.out (HR.out.still h1) hcap hn)
 rw [ET.out.1, ET.out.2] at H1
 clear h1 H0
 go_wp2_with fail
 refine H1.out.mono ?_
 rintro e w2 ⟨rfl, h2⟩
 have HS2 := hid (HS1.out.trans h2)
 have H2 := hid (rnotes_any L HI.out ao n cap w2 (HR.out.still HS2.out) (HT.out.still HS2.out))
 rw [ET.out.1, ET.out.2] at H2
 clear h2 H1 HS1
 go_wp2_with fail
 refine H2.out.mono ?_
 rintro e w3 ⟨rfl, h3⟩
 have HS3 := hid (HS2.out.trans h3)
 clear h3 H2 HS2
 go_wp2_with fail
 go_ret
 exact ⟨rfl, HS3.out⟩
structure CtT (x : World) : Prop where
 table : ∀ (L : List Scr) (ao : Option Addr) (n cap : Nat) (u : World), Still x u -> RdG KC u ao n L -> n <= cap -> Calls Tryd.prog 14 #[.slice ao n cap] u fun e w' => e = .returned (.tuple #[.string (tbR L), .int .i64 (tbE L)]) /\ Still u w'
set_option maxHeartbeats 2000000 in
theorem tables_law (L : List Scr) (ao : Option Addr) (n cap : Nat) (hcap : n <= cap) (w : World) (hr : RdG KC w ao n L) (C : Cts23 w) (D : CtT w) (ht : PTabV w) : Calls Tryd.prog 6 #[.slice ao n cap] w fun e w' => e = .returned (.bool true) /\ Still w w' := by
 have HD := hid D
 have HT := hid ht
 have HR := hid hr
 have H0 := hid (awake23_any w w C (Fr.refl _ _))
 obtain ⟨T, eT⟩ : ∃ T, tbR L = T := ⟨_, rfl⟩
 obtain ⟨E, eE⟩ : ∃ T, tbE L = T := ⟨_, rfl⟩
 have ET := hid (And.intro eT eE)
 clear C D ht hr eT eE
 go_enter Tryd.func6, Tryd.ntmps6
 go_wp2_with fail
 refine H0.out.mono ?_
 rintro e w1 ⟨rfl, h1⟩
 have HS1 := hid h1
 have H1 := hid (HD.out.table L ao n cap w1 h1 (HR.out.still h1) hcap)
 rw [ET.out.1, ET.out.2] at H1
 clear h1 H0
 go_wp2_with fail
 refine H1.out.mono ?_
 rintro e w2 ⟨rfl, h2⟩
 have HS2 := hid (HS1.out.trans h2)
 have H2 := hid (rtable_any L ao n cap w2 (HR.out.still HS2.out) (HT.out.still HS2.out))
 rw [ET.out.1, ET.out.2] at H2
 clear h2 H1 HS1
 go_wp2_with fail
 refine H2.out.mono ?_
 rintro e w3 ⟨rfl, h3⟩
 have HS3 := hid (HS2.out.trans h3)
 clear h3 H2 HS2
 go_wp2_with fail
 go_ret
 exact ⟨rfl, HS3.out⟩
end Go.Proofs.YtdljmpjfiggdiaaDoor
