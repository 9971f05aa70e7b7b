/- The laws on shots and on pickups. -/
import Derived.Test.YtpohikhiekmfgaaJh
namespace Go.Proofs.Ytpohikhiekmfgaa
open Go.RowKit
open Pu Gp Ap Vp Np Za Ka Ja
set_option maxRecDepth 100000

theorem OwG.rd0 {α : Type} {K : Kd α} {e : TypeId} {w : World} {B : Nat} {ao : Option Addr} {n cap : Nat} {L : List α} (h : OwG K e w B (.slice ao n cap) L) (hl : L.length = n) (hm : n ≤ 281474976710656) : RdG K w ao n L := by
  have := OwG.rd (L := L) (M := []) (by rw [List.append_nil]; exact h) (by rw [hl]; exact hm)
  rw [hl] at this
  exact this
set_option maxHeartbeats 2000000 in
theorem shots_law (so : Option Addr) (n c : Nat) (L : List Mv) (ro : Option Addr) (r rc : Nat) (S : List Sh) (hc : so = none → c = 0) (hrc : r ≤ rc) (h47 : 104 * (n + 1) ≤ 281474976710656) (w : World) (hr : RdG KM w so n L) (hs : RdG KS w ro r S) (C : Cts11 w) (U : Awake w) : Calls Try.prog 4 #[.slice so n c, .slice ro r rc] w fun e w' => e = .returned (.bool true) ∧ Still w w' := by
  have HRC := hid hrc
  clear hrc
  have HH := hid (And.intro hc h47)
  have HR := hid hr
  have HR0 := hid hs
  have HVl := hid (show (sho L S).length ≤ 1000 by have := sho_len (L := L) (S := S); omega)
  clear hc h47 hr hs
  obtain ⟨V, eV⟩ : ∃ V, sho L S = V := ⟨_, rfl⟩
  obtain ⟨E, eE⟩ : ∃ E, err11 (shoE L S) = E := ⟨_, rfl⟩
  have HC := hid (fun ao cap u hu hcp hs => C.sho L S ao n cap ro r rc u hu (HR0.out.still hs) hcp HRC.out hs)
  have HF := hid (fun u hu hs => rshots_any L S so n c ro r rc u hu (HR0.out.still hs))
  rw [eV] at HC HF HVl
  rw [eE] at HC HF
  clear eV eE
  obtain ⟨m, em⟩ : ∃ m, V.length = m := ⟨_, rfl⟩
  rw [em] at HVl
  have HEm := hid em
  have hm1 : m ≤ 1000 := HVl.out
  clear em
  go_enter Try.func4, Try.ntmps4
  go_wp2_with fail
  refine (U _ (Fr.refl _ _)).mono ?_
  rintro e w1 ⟨rfl, h1⟩
  have HS1 := hid h1
  clear h1
  go_wp2_with fail
  refine (lentM_any so n c L _ (HR.out.still HS1.out) HH.out.1 HH.out.2).mono ?_
  rintro e w2 ⟨g, rfl, ho, h2⟩
  have HS2 := hid (HS1.out.trans h2)
  have HO2 := hid ho
  have HG := hid (show g < w2.heap.size from (ho.block (k := g) rfl).2)
  clear h2 ho HS1
  go_wp2_with fail
  have HRo : Hid (∀ u, Still w2 u → RdG KM u (some ⟨g, 0, none⟩) n L) := hid (fun u hu => by
    have h := OwG.rd (HO2.out.still hu) (by rw [HR.out.1]; exact HR.out.2.1)
    rw [HR.out.1] at h
    exact h)
  refine (HC.out (some ⟨g, 0, none⟩) (n + 1) _ (HRo.out _ (Fr.refl _ _)) (Nat.le_succ n) HS2.out).mono ?_
  rintro e w3 ⟨v1, rfl, oa, h3⟩
  obtain ⟨ao1, cap1, rfl, _⟩ := oa.slice
  rw [HEm.out] at oa ⊢
  have HOA3 := hid oa
  have HS3 := hid (HS2.out.trans h3)
  have HT3 := hid h3
  clear oa h3
  go_wp2_with fail
  refine (HF.out _ (HR.out.still HS3.out) HS3.out).mono ?_
  rintro e w4 ⟨v2, rfl, ob, h4⟩
  obtain ⟨ao2, cap2, rfl, _⟩ := ob.slice
  rw [HEm.out] at ob ⊢
  have HOB4 := hid ob
  have HS4 := hid (HS3.out.trans h4)
  have HT4 := hid (HT3.out.trans h4)
  have HOA4 := hid (HOA3.out.still h4)
  have HA3 := hid (fun k (hk : (Value.slice ao1 m cap1).ownBlock = some k) => HOA3.out.block hk)
  clear ob h4 HF HS3 HT3 HOA3
  go_wp2_with fail
  refine (same_any ao1 ao2 m cap1 cap2 V _ (HOA4.out.rd0 HEm.out (by omega)) (HOB4.out.rd0 HEm.out (by omega))).mono ?_
  rintro e w5 ⟨rfl, h5⟩
  have HS5 := hid (HS4.out.trans h5)
  have HT5 := hid (HT4.out.trans h5)
  have HOA5 := hid (HOA4.out.still h5)
  have HOB5 := hid (HOB4.out.still h5)
  clear h5 HS4 HT4 HOA4 HOB4
  go_wp2_with fail
  refine (full_any _ _ V _ HOA5.out HT5.out.size (by rw [HEm.out]; exact HVl.out)).mono ?_
  rintro e w6 ⟨he, h6⟩
  rw [HEm.out] at he
  rw [he]
  have HS6 : Hid (Still w w6) := hid (Fr.trans HS5.out h6 (fun k hk e => by have := (HA3.out k e).1; have := HS2.out.size; omega))
  have HO6 := hid ((HO2.out.still HT5.out).keep h6 (fun k hk e => by
    have h1 := (HA3.out k hk).1
    have h2 := HG.out
    have h3 : g = k := Option.some.inj e
    omega))
  have HOB6 := hid (HOB5.out.keep h6 (fun k hk e => by
    have h1 := (HA3.out k hk).2
    have h2 := (HOB5.out.block e).1
    omega))
  clear h6 he HS5 HT5 HOA5 HOB5 HA3 HO2 HRo
  go_wp2_with fail
  refine (stillM_any g so n c L _ _ (HR.out.still HS6.out) HO6.out HH.out.2).mono ?_
  rintro e w7 ⟨rfl, h7⟩
  have HS7 := hid (HS6.out.trans h7)
  have HO7 := hid (HO6.out.still h7)
  have HOB7 := hid (HOB6.out.still h7)
  clear h7 HS6 HO6 HOB6
  go_wp2_with fail
  have HR7 : Hid (RdG KM w7 (some ⟨g, 0, none⟩) n L) := hid (by
    have h := OwG.rd HO7.out (by rw [HR.out.1]; exact HR.out.2.1)
    rw [HR.out.1] at h
    exact h)
  refine (HC.out (some ⟨g, 0, none⟩) (n + 1) _ HR7.out (Nat.le_succ n) HS7.out).mono ?_
  rintro e w8 ⟨v3, rfl, oc, h8⟩
  obtain ⟨ao3, cap3, rfl, _⟩ := oc.slice
  rw [HEm.out] at oc ⊢
  have HOC8 := hid oc
  have HOB8 := hid (HOB7.out.still h8)
  have HS8 := hid (HS7.out.trans h8)
  clear oc h8 HC HS7 HO7 HOB7 HR7
  go_wp2_with fail
  refine (same_any ao3 ao2 m cap3 cap2 V _ (HOC8.out.rd0 HEm.out (by omega)) (HOB8.out.rd0 HEm.out (by omega))).mono ?_
  rintro e w9 ⟨rfl, h9⟩
  have HS9 := hid (HS8.out.trans h9)
  clear h9 HS8 HOC8 HOB8
  go_wp2_with fail
  go_ret
  exact ⟨rfl, HS9.out⟩
set_option maxHeartbeats 2000000 in
theorem pickups_law (so : Option Addr) (n c : Nat) (L : List Mv) (po : Option Addr) (r pc : Nat) (Q : List Pk) (xo : Option Addr) (t tc : Nat) (T : List (Int × Int)) (hc : so = none → c = 0) (hrc : r ≤ pc ∧ t ≤ tc) (h47 : 104 * (n + 1) ≤ 281474976710656) (w : World) (hr : RdG KM w so n L) (hq : RdK w po r Q) (ht : RdG KT w xo t T) (C : Cts11 w) (U : Awake w) : Calls Try.prog 5 #[.slice so n c, .slice po r pc, .slice xo t tc] w fun e w' => e = .returned (.bool true) ∧ Still w w' := by
  have HRC := hid hrc
  clear hrc
  have HH := hid (And.intro hc h47)
  have HR := hid hr
  have HR0 := hid hq
  have HR1 := hid ht
  have HVl := hid (show (pic L Q T).length ≤ 1000 by have := pic_len (L := L) (Q := Q) (T := T); omega)
  clear hc h47 hr hq ht
  obtain ⟨V, eV⟩ : ∃ V, pic L Q T = V := ⟨_, rfl⟩
  obtain ⟨E, eE⟩ : ∃ E, err11 (picE L Q T) = E := ⟨_, rfl⟩
  have HC := hid (fun ao cap u hu hcp hs => C.pic L Q T ao n cap po r pc xo t tc u hu (HR0.out.still hs) (HR1.out.still hs) hcp HRC.out.1 HRC.out.2 hs)
  have HF := hid (fun u hu hs => rpic_any L Q T so n c po r pc xo t tc u hu (HR0.out.still hs) (HR1.out.still hs))
  rw [eV] at HC HF HVl
  rw [eE] at HC HF
  clear eV eE
  obtain ⟨m, em⟩ : ∃ m, V.length = m := ⟨_, rfl⟩
  rw [em] at HVl
  have HEm := hid em
  have hm1 : m ≤ 1000 := HVl.out
  clear em
  go_enter Try.func5, Try.ntmps5
  go_wp2_with fail
  refine (U _ (Fr.refl _ _)).mono ?_
  rintro e w1 ⟨rfl, h1⟩
  have HS1 := hid h1
  clear h1
  go_wp2_with fail
  refine (lentM_any so n c L _ (HR.out.still HS1.out) HH.out.1 HH.out.2).mono ?_
  rintro e w2 ⟨g, rfl, ho, h2⟩
  have HS2 := hid (HS1.out.trans h2)
  have HO2 := hid ho
  have HG := hid (show g < w2.heap.size from (ho.block (k := g) rfl).2)
  clear h2 ho HS1
  go_wp2_with fail
  have HRo : Hid (∀ u, Still w2 u → RdG KM u (some ⟨g, 0, none⟩) n L) := hid (fun u hu => by
    have h := OwG.rd (HO2.out.still hu) (by rw [HR.out.1]; exact HR.out.2.1)
    rw [HR.out.1] at h
    exact h)
  refine (HC.out (some ⟨g, 0, none⟩) (n + 1) _ (HRo.out _ (Fr.refl _ _)) (Nat.le_succ n) HS2.out).mono ?_
  rintro e w3 ⟨v1, rfl, oa, h3⟩
  obtain ⟨ao1, cap1, rfl, _⟩ := oa.slice
  rw [HEm.out] at oa ⊢
  have HOA3 := hid oa
  have HS3 := hid (HS2.out.trans h3)
  have HT3 := hid h3
  clear oa h3
  go_wp2_with fail
  refine (HF.out _ (HR.out.still HS3.out) HS3.out).mono ?_
  rintro e w4 ⟨v2, rfl, ob, h4⟩
  obtain ⟨ao2, cap2, rfl, _⟩ := ob.slice
  rw [HEm.out] at ob ⊢
  have HOB4 := hid ob
  have HS4 := hid (HS3.out.trans h4)
  have HT4 := hid (HT3.out.trans h4)
  have HOA4 := hid (HOA3.out.still h4)
  have HA3 := hid (fun k (hk : (Value.slice ao1 m cap1).ownBlock = some k) => HOA3.out.block hk)
  clear ob h4 HF HS3 HT3 HOA3
  go_wp2_with fail
  refine (same_any ao1 ao2 m cap1 cap2 V _ (HOA4.out.rd0 HEm.out (by omega)) (HOB4.out.rd0 HEm.out (by omega))).mono ?_
  rintro e w5 ⟨rfl, h5⟩
  have HS5 := hid (HS4.out.trans h5)
  have HT5 := hid (HT4.out.trans h5)
  have HOA5 := hid (HOA4.out.still h5)
  have HOB5 := hid (HOB4.out.still h5)
  clear h5 HS4 HT4 HOA4 HOB4
  go_wp2_with fail
  refine (full_any _ _ V _ HOA5.out HT5.out.size (by rw [HEm.out]; exact HVl.out)).mono ?_
  rintro e w6 ⟨he, h6⟩
  rw [HEm.out] at he
  rw [he]
  have HS6 : Hid (Still w w6) := hid (Fr.trans HS5.out h6 (fun k hk e => by have := (HA3.out k e).1; have := HS2.out.size; omega))
  have HO6 := hid ((HO2.out.still HT5.out).keep h6 (fun k hk e => by
    have h1 := (HA3.out k hk).1
    have h2 := HG.out
    have h3 : g = k := Option.some.inj e
    omega))
  have HOB6 := hid (HOB5.out.keep h6 (fun k hk e => by
    have h1 := (HA3.out k hk).2
    have h2 := (HOB5.out.block e).1
    omega))
  clear h6 he HS5 HT5 HOA5 HOB5 HA3 HO2 HRo
  go_wp2_with fail
  refine (stillM_any g so n c L _ _ (HR.out.still HS6.out) HO6.out HH.out.2).mono ?_
  rintro e w7 ⟨rfl, h7⟩
  have HS7 := hid (HS6.out.trans h7)
  have HO7 := hid (HO6.out.still h7)
  have HOB7 := hid (HOB6.out.still h7)
  clear h7 HS6 HO6 HOB6
  go_wp2_with fail
  have HR7 : Hid (RdG KM w7 (some ⟨g, 0, none⟩) n L) := hid (by
    have h := OwG.rd HO7.out (by rw [HR.out.1]; exact HR.out.2.1)
    rw [HR.out.1] at h
    exact h)
  refine (HC.out (some ⟨g, 0, none⟩) (n + 1) _ HR7.out (Nat.le_succ n) HS7.out).mono ?_
  rintro e w8 ⟨v3, rfl, oc, h8⟩
  obtain ⟨ao3, cap3, rfl, _⟩ := oc.slice
  rw [HEm.out] at oc ⊢
  have HOC8 := hid oc
  have HOB8 := hid (HOB7.out.still h8)
  have HS8 := hid (HS7.out.trans h8)
  clear oc h8 HC HS7 HO7 HOB7 HR7
  go_wp2_with fail
  refine (same_any ao3 ao2 m cap3 cap2 V _ (HOC8.out.rd0 HEm.out (by omega)) (HOB8.out.rd0 HEm.out (by omega))).mono ?_
  rintro e w9 ⟨rfl, h9⟩
  have HS9 := hid (HS8.out.trans h9)
  clear h9 HS8 HOC8 HOB8
  go_wp2_with fail
  go_ret
  exact ⟨rfl, HS9.out⟩
end Go.Proofs.Ytpohikhiekmfgaa
