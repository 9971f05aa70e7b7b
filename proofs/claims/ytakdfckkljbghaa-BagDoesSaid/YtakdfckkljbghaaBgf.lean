/- Parcels sorted by their numbers, by the library. -/
import Derived.Test.YtakdfckkljbghaaSlS
import Derived.Test.YtakdfckkljbghaaSrg
import Derived.Test.YtakdfckkljbghaaBge
namespace Go.Proofs.Ytakdfckkljbghaa
open Go.RowKit
open Go.Sort (HoldsK flatK SWO PermIn SortedIn)
set_option maxRecDepth 100000

def cI (x y : Int) : Int := if x < y then -1 else if x > y then 1 else 0
theorem cnan_any (x : Int) (w : World) : Calls Try.prog 33 #[.int .i64 x] w fun e w' => e = .returned (.bool false) ∧ w' = w := by
  have h : (x != x) = false := by simp
  go_enter Try.func33, Try.ntmps33
  go_wp2_with fail
  go_ret
  exact ⟨by simp, rfl⟩
theorem ccmp_any (x y : Int) (w : World) : Calls Try.prog 28 #[.int .i64 x, .int .i64 y] w fun e w' => e = .returned (.int .i64 (cI x y)) ∧ w' = w := by
  have H1 := hid (fun w => cnan_any x w)
  have H2 := hid (fun w => cnan_any y w)
  by_cases h1 : x < y
  · have HE : Hid (cI x y = -1) := hid (by unfold cI; rw [if_pos h1])
    go_enter Try.func28, Try.ntmps28
    go_wp2_with fail
    refine (H1.out _).mono ?_
    rintro e w1 ⟨rfl, rfl⟩
    go_wp2_with fail
    refine (H2.out _).mono ?_
    rintro e w1 ⟨rfl, rfl⟩
    go_wp2_with fail
    go_ret
    exact ⟨by rw [HE.out]; rfl, rfl⟩
  · by_cases h2 : x > y
    · have HE : Hid (cI x y = 1) := hid (by unfold cI; rw [if_neg h1, if_pos h2])
      go_enter Try.func28, Try.ntmps28
      go_wp2_with fail
      refine (H1.out _).mono ?_
      rintro e w1 ⟨rfl, rfl⟩
      go_wp2_with fail
      refine (H2.out _).mono ?_
      rintro e w1 ⟨rfl, rfl⟩
      go_wp2_with fail
      go_ret
      exact ⟨by rw [HE.out]; rfl, rfl⟩
    · have HE : Hid (cI x y = 0) := hid (by unfold cI; rw [if_neg h1, if_neg h2])
      go_enter Try.func28, Try.ntmps28
      go_wp2_with fail
      refine (H1.out _).mono ?_
      rintro e w1 ⟨rfl, rfl⟩
      go_wp2_with fail
      refine (H2.out _).mono ?_
      rintro e w1 ⟨rfl, rfl⟩
      go_wp2_with fail
      go_ret
      exact ⟨by rw [HE.out]; rfl, rfl⟩
def kcP (x y : Pcl) : Int := cI x.no y.no
theorem kcP_lt (x y : Pcl) : kcP x y < 0 ↔ x.no < y.no := by
  unfold kcP cI
  repeat' split
  all_goals omega
theorem kcP_swo : SWO (ltOf kcP) where
  irrefl x := by simp only [ltOf]; exact decide_eq_false (by rw [kcP_lt]; omega)
  trans x y z h1 h2 := by
    simp only [ltOf] at *
    have h1 := of_decide_eq_true h1
    have h2 := of_decide_eq_true h2
    refine decide_eq_true ?_
    rw [kcP_lt] at *
    omega
  ntrans x y z h1 h2 := by
    simp only [ltOf] at *
    have h1 := of_decide_eq_false h1
    have h2 := of_decide_eq_false h2
    refine decide_eq_false ?_
    rw [kcP_lt] at *
    omega
set_option maxHeartbeats 1000000 in
theorem bcmp_any (x y : Pcl) (w : World) : Calls Try.prog 27 #[pvl x, pvl y] w fun e w' => e = .returned (.int .i64 (kcP x y)) ∧ Still w w' ∧ w.drawn ≤ w'.drawn := by
  have A0 := Still.alloc w (.cells (pls x) 43)
  have A1 := Still.alloc (newPl w x) (.cells (pls y) 43)
  have p0 := (newPl_b w x).still A1
  have q0 := newPl_b (newPl w x) y
  rw [size_alloc] at q0
  obtain ⟨W, eW⟩ : ∃ W, newPl (newPl w x) y = W := ⟨_, rfl⟩
  have HS0 : Hid (Still w W ∧ w.drawn ≤ W.drawn) := hid (by rw [← eW]; exact ⟨A0.trans A1, Nat.le_refl _⟩)
  have p0 : Plb W w.heap.size x := by rw [← eW]; exact p0
  rw [eW] at q0
  obtain ⟨c0, _, _, _, _⟩ := p0.cells
  obtain ⟨d0, _, _, _, _⟩ := q0.cells
  have HC := hid (fun w => ccmp_any x.no y.no w)
  have HU : Hid (kcP x y = cI x.no y.no) := hid rfl
  simp only [newPl] at eW
  clear A0 A1 p0 q0
  go_enter Try.func27, Try.ntmps27
  go_wp2_with fail
  refine (HC.out _).mono ?_
  rintro e w1 ⟨he, hw⟩
  rw [he, hw]
  clear he hw w1 HC eW c0 d0
  go_wp2_with fail
  go_ret
  exact ⟨by rw [HU.out]; rfl, HS0.out⟩
set_option maxHeartbeats 2000000 in
theorem bsort_any (L : List Pcl) (B g n cap : Nat) (hn : n ≤ 281474976710656) (hl : L.length = n) (w : World) (ho : OwG KPl 43 w B (.slice (some ⟨g, 0, none⟩) n cap) L) : Calls Try.prog 26 #[.slice (some ⟨g, 0, none⟩) n cap, .func (.func 27) #[] #[]] w fun e w' => e = .returned (.tuple #[]) ∧ ∃ L', L'.Perm L ∧ L'.Pairwise (fun x y => x.no ≤ y.no) ∧ OwG KPl 43 w' B (.slice (some ⟨g, 0, none⟩) n cap) L' ∧ Fr (fun k => k = g) w w' := by
  have inh : Inhabited Pcl := ⟨zPl⟩
  have eg : ∀ args w, (callFunc 27 args).run Try.prog w = .ok (.enter 27 args) w := enters_of Try.func27 (by kernel_rfl) rfl
  have hcmp : CmpLays Try.prog 27 #[] KPl.f 4 kcP g 0 L.toArray.size w := fun m os dk hdk x y => (bcmp_any x y _).mono (fun e w' ⟨he, hs, hd⟩ => ⟨he, still_grow hs hd⟩)
  have hd : L.toArray.size = n := by simpa using hl
  have hgl : g < w.heap.size := (ho.block (k := g) rfl).2
  have hlim : Lib.bitLen L.toArray.size < 4611686018427387904 := Nat.lt_of_le_of_lt (Lib.bitLen_le L.toArray.size 62 (by omega) (by omega)) (by omega)
  have hp := AnyQ.pdqsortCmpFunc_all (P := Try.prog) Try.pdqE 4 Try.isAgg43 Try.sizeOf43 KPl.f kcP 27 #[] kcP_swo g 0 cap L.toArray w eg hcmp ⟨KPl.len, KPl.one, holds_ownG ho, hgl⟩ (L.toArray.size + 1) 0 L.toArray.size (Lib.bitLen L.toArray.size) L.toArray w (by omega) rfl (SWK.start (holds_ownG ho)) (Nat.zero_le _) (Nat.le_refl _) (by omega) hlim (Or.inl rfl)
  have hs := Go.Sort.pdq_sorts (ltOf kcP) kcP_swo L.toArray 0 L.toArray.size (Lib.bitLen L.toArray.size) true true (Nat.zero_le _) (Nat.le_refl _) (Or.inl rfl)
  have hb : Calls Try.prog 32 #[.int .u64 (n : Int)] w fun e w' => e = .returned (.int .i64 (Lib.bitLen n : Nat)) ∧ w' = w := by
    have h := Any.bits_Len (SlLaysF0.n15.bits (P := Try.prog) Try.lenE) (n : Int) w (by omega) (by omega)
    rw [Int.toNat_natCast] at h
    exact h
  generalize Go.Sort.pdq (ltOf kcP) L.toArray 0 L.toArray.size (Lib.bitLen L.toArray.size) true true = d' at hp hs
  obtain ⟨L', rfl⟩ : ∃ L', L'.toArray = d' := ⟨d'.toList, by simp⟩
  have hl' : L'.length = L.length := by simpa using hs.1.1
  have hperm : L'.Perm L := by
    have := hs.1.2.2
    simp at this
    rw [List.take_of_length_le (by omega)] at this
    exact this
  have hsrt : L'.Pairwise (fun x y => x.no ≤ y.no) := List.pairwise_iff_getElem.2 fun i j hi hj hij => by
    have := hs.2 i j (Nat.zero_le _) hij (by simp; omega)
    rw [getElem!_pos L'.toArray i (by simpa using hi), getElem!_pos L'.toArray j (by simpa using hj)] at this
    have h1 := of_decide_eq_false this
    rw [kcP_lt] at h1
    simp at h1
    exact h1
  rw [hd] at hp
  have hp2 : Calls Try.prog 31 #[.slice (some ⟨g, 0, none⟩) n cap, .int .i64 0, .int .i64 (n : Int), .int .i64 (Lib.bitLen n : Nat), .func (.func 27) #[] #[]] w fun e w' => e = .returned (.tuple #[]) ∧ SWK KPl.f 4 w g 0 L'.toArray w' := hp
  have HP := hid hp2
  have HB := hid hb
  have HO := hid (fun m os => own_sortedG (m := m) (os := os) ho hl hl')
  have HR := hid (And.intro hperm hsrt)
  have hw1 : IntKind.u64.wrap (n : Int) = (n : Int) := by simp [IntKind.wrap, IntKind.bits, IntKind.signed]; omega
  clear hp hp2 hb hs hcmp eg ho hperm hsrt hd hlim
  go_enter Try.func26, Try.ntmps26
  go_wp2_with fail
  refine HB.out.mono ?_
  rintro e w2 ⟨he, hw⟩
  rw [he, hw]
  clear he hw w2 HB
  go_wp2_with fail
  refine HP.out.mono ?_
  rintro e w2 ⟨he, m, os, hw⟩
  rw [he]
  have HO2 : Hid (OwG KPl 43 w2 B (.slice (some ⟨g, 0, none⟩) n cap) L' ∧ Fr (fun k => k = g) w w2) := hid (by rw [hw]; exact HO.out m os)
  clear he hw HP HO
  go_wp2_with fail
  go_end0
  exact ⟨rfl, L', HR.out.1, HR.out.2, HO2.out⟩
end Go.Proofs.Ytakdfckkljbghaa
