/- The number of a verb's name, by the program. -/
import Derived.Test.YtlaehphhfeoklaaDoorYi
import Derived.Test.YtlaehphhfeoklaaDoorVs
namespace Go.Proofs.YtlaehphhfeoklaaDoor
open Go.RowKit
open Vp
set_option maxRecDepth 100000

/-- the number of a name; 0 if there is none -/
def nrV (s : ByteArray) : Int := if nmV 1 = s then 1 else if nmV 2 = s then 2 else if nmV 3 = s then 3 else if nmV 4 = s then 4 else if nmV 5 = s then 5 else if nmV 6 = s then 6 else if nmV 7 = s then 7 else 0
theorem nr_own : nrV (nmV 1) = 1 ∧ nrV (nmV 2) = 2 ∧ nrV (nmV 3) = 3 ∧ nrV (nmV 4) = 4 ∧ nrV (nmV 5) = 5 ∧ nrV (nmV 6) = 6 ∧ nrV (nmV 7) = 7 := by decide
theorem nr_hit {v : Int} {s : ByteArray} (hv : isV v = true) (h : nmV v = s) : nrV s = v := by
  subst h
  obtain ⟨h1, h2, h3, h4, h5, h6, h7⟩ := nr_own
  rcases verbs hv with rfl | rfl | rfl | rfl | rfl | rfl | rfl <;> assumption
theorem nr_miss {s : ByteArray} (h : ∀ k : Int, 1 ≤ k → k ≤ 7 → nmV k ≠ s) : nrV s = 0 := by
  unfold nrV
  rw [if_neg (h 1 (by omega) (by omega)), if_neg (h 2 (by omega) (by omega)), if_neg (h 3 (by omega) (by omega)), if_neg (h 4 (by omega) (by omega)), if_neg (h 5 (by omega) (by omega)), if_neg (h 6 (by omega) (by omega)), if_neg (h 7 (by omega) (by omega))]
theorem field0 (nm : ByteArray) (x : Value) (w : World) : (Instr.field 43 (.agg #[.string nm, x]) 0).run Tryd.prog w = .ok (.string nm) w := by
  go_simp
  rfl
theorem nr_any (s : ByteArray) (w : World) : Calls Tryd.prog 39 #[.string s] w fun e w' => e = .returned (.int .i64 (nrV s)) ∧ Still w w' := by
  go_enter Tryd.func39, Tryd.ntmps39
  go_wp2_with fail
  refine (acc_any _).mono ?_
  rintro e w1 ⟨b, rfl, hb, ha, h1⟩
  have HS1 := hid h1
  clear h1 hb
  go_wp2_with fail
  go_loopw [4] (fun u wr => ∃ k : Nat, 1 ≤ k ∧ k ≤ 8 ∧ u = .int .i64 (k : Int) ∧ Hid (∀ j : Int, 1 ≤ j → j < (k : Int) → nmV j ≠ s) ∧ Still w1 wr) (fun u _ => 8 - (intOf u).toNat)
  case atStart => exact ⟨1, by omega, by omega, rfl, hid (fun j h1 h2 => by omega), Fr.refl _ _⟩
  case round =>
    obtain ⟨k, hk1, hk8, rfl, HF, hs⟩ := hrel
    have ha2 := ha.still hs
    have hlen := len_acc ha2
    have HS2 := hid (HS1.out.trans hs)
    have HSr := hid hs
    clear hs
    by_cases h8 : k < 8
    · have hle : (k : Int) ≤ 7 := by omega
      have hv : isV (k : Int) = true := isV_iff.2 ⟨by omega, hle⟩
      obtain ⟨f, hl, ef, hm⟩ := meth hv
      have hl2 := hl _ _ ha2 false
      have HM := hid (hm wr)
      have HH := hid (fun (h : nmV (k : Int) = s) => nr_hit hv h)
      obtain ⟨nm, enm⟩ : ∃ n, nmV (k : Int) = n := ⟨_, rfl⟩
      have HNM := hid enm
      rw [enm] at HM HH
      clear hl hm enm hv
      go_wp2_with fail
      refine HM.out.mono ?_
      rintro e w3 ⟨x, rfl, ho, h3⟩
      have HS3 := hid (HS2.out.trans h3)
      have HR3 := hid (HSr.out.trans h3)
      have hfl := field0 nm x
      clear h3 ho HM
      by_cases hn : nm = s
      · have hb := str_t hn
        have e := HH.out hn
        clear hn
        go_wp2_with fail
        go_ret
        exact ⟨by rw [e]; rfl, HS3.out⟩
      · have hb := str_f hn
        have HN : Hid (∀ j : Int, 1 ≤ j → j < ((k + 1 : Nat) : Int) → nmV j ≠ s) := hid (fun j h1 h2 => by
          by_cases e : j = (k : Int)
          · subst e; rw [HNM.out]; exact hn
          · exact HF.out j h1 (by omega))
        clear hn
        go_wp2_with fail
        go_roundw
        case rel => exact ⟨k + 1, by omega, by omega, by go_num, HN, HR3.out⟩
        case measure => simp [intOf]; omega
    · obtain rfl : k = 8 := by omega
      have e := nr_miss (fun j h1 h2 => HF.out j h1 (by omega))
      go_wp2_with fail
      go_ret
      exact ⟨by rw [e]; rfl, HS2.out⟩
end Go.Proofs.YtlaehphhfeoklaaDoor
