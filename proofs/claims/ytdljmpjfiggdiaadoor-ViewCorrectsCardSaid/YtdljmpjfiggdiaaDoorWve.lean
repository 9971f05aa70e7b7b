/- The document's Notes. -/
import Derived.Test.YtdljmpjfiggdiaaDoorWvd
import Derived.Test.YtdljmpjfiggdiaaDoorGa
namespace Go.Proofs.YtdljmpjfiggdiaaDoor
open Go.RowKit
set_option maxRecDepth 100000

theorem cat_sz {a b : ByteArray} {m n : Nat} (ha : a.size ≤ m) (hb : b.size ≤ n) : (a ++ b).size ≤ m + n := by
  rw [ByteArray.size_append]
  omega
theorem lnS_sz {x : Nv} (ha : I64 x.a) (hb : I64 x.b) : (lnS x).size ≤ 33 := by
  unfold lnS
  split
  · exact Nat.le_trans (cat_sz (cat_sz (ltS_sz _) (show ((⟨#[32, 102, 105, 114, 101, 100, 32]⟩ : ByteArray)).size ≤ 7 by decide)) (itS_sz hb)) (by decide)
  split
  · exact Nat.le_trans (cat_sz (cat_sz (ltS_sz _) (show ((⟨#[32, 104, 105, 116, 32, 98, 121, 32]⟩ : ByteArray)).size ≤ 8 by decide)) (ltS_sz _)) (by decide)
  split
  · exact Nat.le_trans (cat_sz (cat_sz (ltS_sz _) (show ((⟨#[32, 111, 117, 116, 32, 98, 121, 32]⟩ : ByteArray)).size ≤ 8 by decide)) (ltS_sz _)) (by decide)
  split
  · exact Nat.le_trans (cat_sz (ltS_sz _) (show ((⟨#[32, 98, 97, 99, 107]⟩ : ByteArray)).size ≤ 5 by decide)) (by decide)
  split
  · exact Nat.le_trans (cat_sz (cat_sz (ltS_sz _) (show ((⟨#[32, 116, 111, 111, 107, 32]⟩ : ByteArray)).size ≤ 6 by decide)) (thgS_sz _)) (by decide)
  split
  · exact Nat.le_trans (cat_sz (cat_sz (cat_sz (show ((⟨#[115, 112, 111, 116, 32]⟩ : ByteArray)).size ≤ 5 by decide) (itS_sz ha)) (show ((⟨#[32]⟩ : ByteArray)).size ≤ 1 by decide)) (thgS_sz _)) (by decide)
  split
  · exact Nat.le_trans (cat_sz (cat_sz (ltS_sz _) (show ((⟨#[32, 98, 111, 117, 110, 99, 101, 115, 32]⟩ : ByteArray)).size ≤ 9 by decide)) (ltS_sz _)) (by decide)
  · exact Nat.le_trans (cat_sz (cat_sz (ltS_sz _) (show ((⟨#[32, 115, 97, 121, 115, 32]⟩ : ByteArray)).size ≤ 6 by decide)) (itS_sz hb)) (by decide)
def zNv : Nv := ⟨0, 0, 0⟩
def KNv : Kd Nv := ⟨fun x => (nvcs x).toList, 3, zNv, fun _ => rfl, fun m u hu => by
  simp at hu
  rcases hu with rfl | rfl | rfl <;> rfl, by decide⟩
def nvd (L : List Nv) (i : Nat) : Nv := L.getD i zNv
theorem nvd_at {L : List Nv} {i : Nat} (h : i < L.length) : nvd L i = L[i] := by simp [nvd, List.getD, h]
theorem rdNv {w : World} {B o n : Nat} {L : List Nv} (h : RdG KNv w (some ⟨B, o, none⟩) n L) {i : Nat} (hi : i < n) : w.cell? ⟨B, o + i * 3, none⟩ = some (.int .i64 (nvd L i).k) ∧ w.cell? ⟨B, o + i * 3 + 1, none⟩ = some (.int .i64 (nvd L i).a) ∧ w.cell? ⟨B, o + i * 3 + 2, none⟩ = some (.int .i64 (nvd L i).b) :=
  ⟨h.get hi 0 _ rfl, h.get hi 1 _ rfl, h.get hi 2 _ rfl⟩
/-- notes as text -/
def ntS (L : List Nv) : ByteArray := L.foldl (fun s x => (s ++ lnS x) ++ ⟨#[10]⟩) ByteArray.empty
theorem ntS_step {L : List Nv} {i : Nat} (h : i < L.length) : ntS (L.take (i + 1)) = (ntS (L.take i) ++ lnS (nvd L i)) ++ ⟨#[10]⟩ := by
  unfold ntS
  rw [List.take_succ_eq_append_getElem h, List.foldl_append, nvd_at h]
  rfl
theorem ntS_sz {L : List Nv} (hL : ∀ x ∈ L, I64 x.a ∧ I64 x.b) : ∀ i, i ≤ L.length → (ntS (L.take i)).size ≤ 34 * i
  | 0, _ => by simp [ntS]
  | i + 1, h => by
    rw [ntS_step (by omega)]
    have h1 := ntS_sz hL i (by omega)
    have hx := hL (nvd L i) (by rw [nvd_at (by omega)]; exact List.getElem_mem _)
    have h2 := cat_sz (cat_sz h1 (lnS_sz hx.1 hx.2)) (show ((⟨#[10]⟩ : ByteArray)).size ≤ 1 by decide)
    omega
theorem all_step {L : List Nv} {i : Nat} (h : i < L.length) : (L.take (i + 1)).all okN = ((L.take i).all okN && okN (nvd L i)) := by
  rw [List.take_succ_eq_append_getElem h, List.all_append, nvd_at h]
  simp
theorem all_no {L : List Nv} {i : Nat} (h : i < L.length) (e : okN (nvd L i) = false) : L.all okN = false := by
  rw [List.all_eq_false]
  exact ⟨L[i], List.getElem_mem h, by rw [← nvd_at h, e]; simp⟩
/-- what Notes answers -/
def ntR (L : List Nv) : ByteArray := if L.all okN then ntS L else ByteArray.empty
def ntE (L : List Nv) : Int := if L.all okN then 0 else 230
theorem nt_no {L : List Nv} (h : L.all okN = false) : ntR L = ByteArray.empty ∧ ntE L = 230 := by
  unfold ntR ntE
  rw [h]
  exact ⟨rfl, rfl⟩
theorem nt_yes {L : List Nv} (h : L.all okN = true) : ntR L = ntS L ∧ ntE L = 0 := by
  unfold ntR ntE
  rw [h]
  exact ⟨rfl, rfl⟩
set_option maxHeartbeats 4000000 in
theorem rnotes_any (L : List Nv) (hL : ∀ x ∈ L, I64 x.a ∧ I64 x.b) (ao : Option Addr) (n cap : Nat) (w : World) (hr : RdG KNv w ao n L) (ht : PTabV w) : Calls Tryd.prog 13 #[.slice ao n cap] w fun e w' => e = .returned (.tuple #[.string (ntR L), .int .i64 (ntE L)]) ∧ Still w w' := by
  have HR := hid hr
  have HL := hid hr.1
  have hn47 : n ≤ 281474976710656 := hr.2.1
  have HX := hid hL
  have HT := hid ht
  have HZ := hid (ntS_sz hL)
  obtain ⟨R, eR⟩ : ∃ x, ntR L = x := ⟨_, rfl⟩
  obtain ⟨E, eE⟩ : ∃ x, ntE L = x := ⟨_, rfl⟩
  have HRn := hid (fun h => nt_no (L := L) h)
  have HRy := hid (fun h => nt_yes (L := L) h)
  rw [eR, eE] at HRn HRy ⊢
  clear hr hL ht eR eE
  go_enter Tryd.func13, Tryd.ntmps13
  go_wp2_with fail
  go_loopw [4, 5] (fun s u wr => ∃ i : Nat, i ≤ n ∧ u = .int .i64 (i : Int) ∧ s = .string (ntS (L.take i)) ∧ Hid ((L.take i).all okN = true) ∧ Still w wr) (fun _ u _ => n - (intOf u).toNat)
  case atStart => exact ⟨0, by omega, rfl, rfl, hid rfl, Fr.refl _ _⟩
  case round =>
    obtain ⟨i, hi, rfl, rfl, HA, hs⟩ := hrel
    by_cases hin : i < n
    · have hlt : (i : Int) < (n : Int) := by omega
      have hiL : i < L.length := by have := HL.out; omega
      have hr1 := HR.out.still hs
      obtain ⟨B, o, rfl⟩ := hr1.at (by omega)
      obtain ⟨c0, c1, c2⟩ := rdNv hr1 hin
      have hx := HX.out (nvd L i) (by rw [nvd_at hiL]; exact List.getElem_mem _)
      have HLn := hid (rline_any (nvd L i) hx.1 hx.2 wr (HT.out.still hs))
      have HSt := hid (ntS_step hiL)
      have HAl := hid (all_step hiL)
      have HNo := hid (fun e => all_no hiL e)
      have S1 := HZ.out i (by omega)
      have S2 := lnS_sz hx.1 hx.2
      obtain ⟨x, ex⟩ : ∃ x, nvd L i = x := ⟨_, rfl⟩
      rw [ex] at c0 c1 c2 HLn HSt HAl HNo S2
      obtain ⟨l, el⟩ : ∃ l, lnS x = l := ⟨_, rfl⟩
      obtain ⟨s, es⟩ : ∃ s, ntS (L.take i) = s := ⟨_, rfl⟩
      rw [el] at HLn HSt S2
      rw [es] at HSt S1
      rw [es]
      obtain ⟨y1, f1, z1, s1⟩ := cat_ex (a := s) (b := l) (m := 34 * i) (n := 33) S1 S2 (by omega)
      obtain ⟨y2, f2, z2, s2⟩ := cat_ex (a := y1) (b := ⟨#[10]⟩) (m := 34 * i + 33) (n := 1) z1 (by decide) (by omega)
      rw [f1, f2] at HSt
      have HS := hid hs
      clear f1 f2 z1 z2 S1 S2 el es ex hr1 hs hx hiL
      cases ok : okN x with
      | false =>
        rw [ok] at HLn
        obtain ⟨rfl, rfl⟩ := HRn.out (HNo.out ok)
        clear ok HNo HAl
        go_wp2_with fail
        refine HLn.out.mono ?_
        rintro e w1 ⟨rfl, h1⟩
        have HS1 := hid (HS.out.trans h1)
        clear h1 c0 c1 c2
        go_wp2_with fail
        (first | rw [Exit.noGoto_ret] | skip)
        go_ret2
        exact ⟨rfl, HS1.out⟩
      | true =>
        rw [ok] at HLn HAl
        have HA1 : Hid ((L.take (i + 1)).all okN = true) := hid (by rw [HAl.out, HA.out]; rfl)
        clear ok HNo HAl
        go_wp2_with fail
        refine HLn.out.mono ?_
        rintro e w1 ⟨rfl, h1⟩
        have HS1 := hid (HS.out.trans h1)
        clear h1 c0 c1 c2
        go_wp2_with fail
        go_roundw
        case rel => exact ⟨i + 1, by omega, by go_num, by rw [HSt.out], HA1, HS1.out⟩
        case measure => first | (simp [intOf]; done) | (simp [intOf]; omega)
    · have hge : ¬ (i : Int) < (n : Int) := by omega
      obtain rfl : i = n := by omega
      have HTk : Hid (L.take i = L) := hid (List.take_of_length_le (by have := HL.out; omega))
      rw [HTk.out] at HA ⊢
      have HS := hid hs
      obtain ⟨e1, rfl⟩ := HRy.out HA.out
      rw [← e1]
      clear hs hin e1
      go_wp2_with fail
      go_ret2
      exact ⟨rfl, HS.out⟩
end Go.Proofs.YtdljmpjfiggdiaaDoor
