/- Named numbers as text: the program's joined. -/
import Derived.Test.YtdljmpjfiggdiaaDoorWxa
import Derived.Test.YtdljmpjfiggdiaaDoorIo
namespace Go.Proofs.YtdljmpjfiggdiaaDoor
open Go.RowKit
set_option maxRecDepth 100000

/-- a number with its word -/
structure Nmd where
  wd : ByteArray
  n : Int
def zNm : Nmd := ⟨⟨#[]⟩, 0⟩
abbrev nmcs (x : Nmd) : Array Value := #[.string x.wd, .int .i64 x.n]
def KNm : Kd Nmd := ⟨fun x => (nmcs x).toList, 2, zNm, fun _ => rfl, fun m u hu => by
  simp at hu
  rcases hu with rfl | rfl <;> rfl, by decide⟩
def nmA (L : List Nmd) (i : Nat) : Nmd := L.getD i zNm
theorem rdNm {w : World} {B o n : Nat} {L : List Nmd} (h : RdG KNm w (some ⟨B, o, none⟩) n L) {i : Nat} (hi : i < n) : w.cell? ⟨B, o + i * 2, none⟩ = some (.string (nmA L i).wd) ∧ w.cell? ⟨B, o + i * 2 + 1, none⟩ = some (.int .i64 (nmA L i).n) :=
  ⟨h.get hi 0 _ rfl, h.get hi 1 _ rfl⟩
def Nmb (w : World) (g : Nat) (x : Nmd) : Prop := w.heap[g]? = some (.cells (nmcs x) 76 (0, 0))
theorem Nmb.cells {w : World} {g : Nat} {x : Nmd} (h : Nmb w g x) : w.cell? ⟨g, 0, none⟩ = some (.string x.wd) ∧ w.cell? ⟨g, 1, none⟩ = some (.int .i64 x.n) := by
  constructor <;> (rw [cell_of_row _ _ _ _ _ _ h]; rfl)
/-- words and numbers, one behind the other -/
def jnW (L : List Nmd) : List ByteArray := L.flatMap fun x => [x.wd, itS x.n]
/-- .. as one text -/
def jnS (L : List Nmd) : ByteArray := ⟨(Lib.join ((jnW L).map (·.data.toList)) [32]).toArray⟩
theorem jnW_step {L : List Nmd} {i : Nat} (h : i < L.length) : jnW (L.take (i + 1)) = jnW (L.take i) ++ [(nmA L i).wd, itS (nmA L i).n] := by
  unfold jnW
  rw [List.take_succ_eq_append_getElem h, List.flatMap_append]
  simp [nmA, List.getD, h]
theorem jnW_len : ∀ L : List Nmd, (jnW L).length = 2 * L.length
  | [] => rfl
  | x :: L => by
    have := jnW_len L
    unfold jnW at this ⊢
    rw [List.flatMap_cons, List.length_append, this]
    simp
    omega
theorem lens_le {xs : List (List UInt8)} {m : Nat} (h : ∀ x ∈ xs, x.length ≤ m) : Lib.lens xs ≤ m * xs.length := by
  induction xs with
  | nil => simp [Lib.lens]
  | cons x xs ih =>
    have h1 := h x (List.mem_cons_self ..)
    have h2 := ih (fun y hy => h y (List.mem_cons_of_mem _ hy))
    simp only [Lib.lens, List.map_cons, List.sum_cons, List.length_cons, Nat.mul_add, Nat.mul_one] at h2 ⊢
    omega
theorem jn_le {L : List Nmd} (h : ∀ x ∈ L, I64 x.n ∧ x.wd.size ≤ 21) (hl : L.length ≤ 9) : (Lib.join ((jnW L).map (·.data.toList)) [32]).length ≤ 1000 := by
  have h1 : Lib.lens ((jnW L).map (·.data.toList)) ≤ 21 * ((jnW L).map (·.data.toList)).length := lens_le (fun y hy => by
    obtain ⟨b, hb, rfl⟩ := List.mem_map.1 hy
    obtain ⟨x, hx, hb⟩ := List.mem_flatMap.1 hb
    obtain ⟨hi, hw⟩ := h x hx
    simp at hb
    rcases hb with rfl | rfl
    · exact hw
    · exact itS_sz hi)
  rw [List.length_map, jnW_len] at h1
  have h2 := jnW_len L
  cases e : jnW L with
  | nil => simp [Lib.join, List.intercalate]
  | cons y r =>
    rw [e] at h1 h2
    rw [List.map_cons] at h1 ⊢
    rw [Lib.join_length, List.length_map]
    rw [List.length_cons] at h2
    show [32].length * r.length + _ ≤ _
    simp only [List.length_cons, List.length_nil] at h2 ⊢
    omega
theorem bs_st2 {o : Oper} {ρ : Operand → Value} {x y : Operand} {s t : ByteArray} (ho : o.op = .buildSlice 59 2 #[(0, x), (1, y)]) (hx : ρ x = .string s) (hy : ρ y = .string t) (u : World) : (execOp ρ o).run Tryd.prog u = .ok (.value (.slice (some ⟨u.heap.size, 0, none⟩) 2 2)) (u.alloc (.cells #[.string s, .string t] 9)) := by
  unfold execOp
  rw [ho]
  simp only [List.map_toArray, List.map_cons, List.map_nil, hx, hy]
  go_simp
  try rfl
theorem bs_st1 {o : Oper} {ρ : Operand → Value} {x : Operand} {s : ByteArray} (ho : o.op = .buildSlice 59 1 #[(0, x)]) (hx : ρ x = .string s) (u : World) : (execOp ρ o).run Tryd.prog u = .ok (.value (.slice (some ⟨u.heap.size, 0, none⟩) 1 1)) (u.alloc (.cells #[.string s] 9)) := by
  unfold execOp
  rw [ho]
  simp only [List.map_toArray, List.map_cons, List.map_nil, hx]
  go_simp
  try rfl
/-- one string, two strings in a new block, as a slice -/
theorem sr_st1 {w : World} {g : Nat} {s : ByteArray} (h : w.heap[g]? = some (.cells #[.string s] 9 (0, 0))) : SrG KSt w (some ⟨g, 0, none⟩) 1 [s] := ⟨⟨rfl, Nat.le_of_ble_eq_true rfl, .inr ⟨g, 0, rfl, fun j hj m u hu => by
  rw [cell_of_row _ _ _ _ _ _ h]
  have hm : m = 0 := by
    have := (List.getElem?_eq_some_iff.1 hu).1
    simp [KSt] at this
    exact this
  subst hm
  match j, hj with
  | 0, _ => exact hu⟩⟩, Nat.le_refl _, fun e => by cases e⟩
theorem sr_st2 {w : World} {g : Nat} {s t : ByteArray} (h : w.heap[g]? = some (.cells #[.string s, .string t] 9 (0, 0))) : SrG KSt w (some ⟨g, 0, none⟩) 2 [s, t] := ⟨⟨rfl, Nat.le_of_ble_eq_true rfl, .inr ⟨g, 0, rfl, fun j hj m u hu => by
  rw [cell_of_row _ _ _ _ _ _ h]
  have hm : m = 0 := by
    have := (List.getElem?_eq_some_iff.1 hu).1
    simp [KSt] at this
    exact this
  subst hm
  match j, hj with
  | 0, _ => exact hu
  | 1, _ => exact hu⟩⟩, Nat.le_refl _, fun e => by cases e⟩
set_option maxHeartbeats 4000000 in
theorem joinedV_any (L : List Nmd) (hL : ∀ x ∈ L, I64 x.n ∧ x.wd.size ≤ 21) (hl : L.length ≤ 9) (h0 : 0 < L.length) (ao : Option Addr) (n cap : Nat) (w : World) (hr : RdG KNm w ao n L) (ht : PTabV w) : Calls Tryd.prog 30 #[.slice ao n cap] w fun e w' => e = .returned (.string (jnS L)) ∧ Still w w' := by
  have HR := hid hr
  have HL := hid hr.1
  have hn9 : n ≤ 9 := by have := hr.1; omega
  have HX := hid hL
  have HT := hid ht
  have HJ := hid (jn_le hL hl)
  have H0 := hid h0
  clear hr hL ht hl h0
  go_enter Tryd.func30, Tryd.ntmps30
  go_wp2_with fail
  go_loopw [3, 8] (fun v u wr => ∃ i : Nat, i ≤ n ∧ u = .int .i64 (i : Int) ∧ OwG KSt 9 wr w.heap.size v (jnW (L.take i)) ∧ Still w wr) (fun _ u _ => n - (intOf u).toNat)
  case atStart => exact ⟨0, by omega, rfl, OwG.nil _ _, Fr.refl _ _⟩
  case round =>
    obtain ⟨i, hi, rfl, ho, hs⟩ := hrel
    have HS := hid hs
    have HO := hid ho
    obtain ⟨lo, lcp, rfl, hlo⟩ := ho.slice
    by_cases hin : i < n
    · have hlt : (i : Int) < (n : Int) := by omega
      have hiL : i < L.length := by have := HL.out; omega
      have hr1 := HR.out.still hs
      obtain ⟨B, o, rfl⟩ := hr1.at (by omega)
      obtain ⟨c0, c1⟩ := rdNm hr1 hin
      have hx := HX.out (nmA L i) (by unfold nmA; rw [List.getD_eq_getElem?_getD, List.getElem?_eq_getElem hiL]; exact List.getElem_mem _)
      have HStp := hid (jnW_step hiL)
      have HLe : Hid ((jnW (L.take i)).length = 2 * i) := hid (by rw [jnW_len, List.length_take]; omega)
      obtain ⟨x, ex⟩ : ∃ x, nmA L i = x := ⟨_, rfl⟩
      rw [ex] at c0 c1 HStp hx
      obtain ⟨LL, eLL⟩ : ∃ m, jnW (L.take i) = m := ⟨_, rfl⟩
      rw [eLL] at HO HStp HLe
      rw [eLL]
      have A2 := Still.alloc wr (.cells (nmcs x) 76)
      have p2 : Nmb (wr.alloc (.cells (nmcs x) 76)) wr.heap.size x := heap_alloc_new wr _
      have HO2 := hid (HO.out.still A2)
      have HS2 := hid (HS.out.trans A2)
      have HI := hid (fun u (hu : Still w u) => itoaV_any x.n hx.1 u (HT.out.still hu))
      obtain ⟨y, ey⟩ : ∃ y, itS x.n = y := ⟨_, rfl⟩
      rw [ey] at HI HStp
      obtain ⟨W2, eW2⟩ : ∃ X, wr.alloc (.cells (nmcs x) 76) = X := ⟨_, rfl⟩
      rw [eW2] at p2 HO2 HS2
      clear ex ey eLL hr1 hs ho hx hiL A2 hlo
      go_upto_region 5 with fail
      clear c0 c1
      have HP2 := hid p2
      clear p2
      refine region_laid 6 1 (by kernel_rfl) (by kernel_rfl) (by kernel_rfl) ?_
      apply Exists.intro
      refine And.intro ?_ (And.intro ?_ ?_)
      · intro u hu
        obtain ⟨d0, d1⟩ := (show Nmb u wr.heap.size x from hu.kept_still HP2.out).cells
        have k0 := Cl.cell d0
        have k1 := Cl.cell d1
        have hne := Aft.here u
        have G := hid (fun z : Aft u => HI.out z.u (HS2.out.trans (hu.trans z.s)))
        clear d0 d1
        simp only [List.take_succ_cons, List.take_zero]
        repeat (go_big_quiet_step ((first | (go_at_call 25; with_reducible exact Calls.cl (G.out _)))))
        exact wpQuiet_nil rfl
      · intro _ o ho u hu
        obtain rfl := Option.some.inj ho
        exact ⟨_, _, bs_st2 rfl rfl rfl u, Still.alloc u _⟩
      intro w3 h3
      simp only [List.drop_succ_cons, List.drop_zero]
      have A4 := Still.alloc w3 (.cells #[.string x.wd, .string y] 9)
      have hy4 : (w3.alloc (.cells #[.string x.wd, .string y] 9)).heap[w3.heap.size]? = some (.cells #[.string x.wd, .string y] 9 (0, 0)) := heap_alloc_new w3 _
      have HO4 := hid (HO2.out.still (h3.trans A4))
      have HS4 := hid (HS2.out.trans (h3.trans A4))
      have HY4 := hid (sr_st2 hy4)
      have HB4 : Hid (w.heap.size ≤ (w3.alloc (.cells #[.string x.wd, .string y] 9)).heap.size) := hid HS4.out.size
      have HL4 : Hid ((LL.length + [x.wd, y].length) * 16 ≤ 140737488355328) := hid (by have := HLe.out; simp only [List.length_cons, List.length_nil]; omega)
      have HL5 : Hid (LL.length + [x.wd, y].length ≤ 281474976710656) := hid (by have := HLe.out; simp only [List.length_cons, List.length_nil]; omega)
      clear A4 hy4 h3 HI HP2
      go_wp2_with (
        at_builtin
        refine wpList_appMG KSt _ rfl _ _ 59 rfl Tryd.underlying59 16 (.string ⟨#[]⟩) rfl infoSt w.heap.size (.slice lo LL.length lcp) LL [x.wd, y] (some ⟨w3.heap.size, 0, none⟩) 2 2 rfl rfl rfl HO4.out HY4.out HL4.out HL5.out HB4.out ?_
        intro v' w' ho' hf'
        have HO9 := hid ho'
        have HF9 := hid hf'
        clear ho' hf')
      refine ⟨rfl, ?_⟩
      go_wp2_with fail
      go_roundw
      case rel => exact ⟨i + 1, by omega, by go_num, by rw [HStp.out]; exact HO9.out, still_appG HS4.out HO4.out HF9.out (Nat.le_refl _)⟩
      case measure => first | (simp [intOf]; done) | (simp [intOf]; omega)
    · have hge : ¬ (i : Int) < (n : Int) := by omega
      have HTk : Hid (L.take i = L) := hid (List.take_of_length_le (by have := HL.out; omega))
      rw [HTk.out] at HO ho
      rw [HTk.out]
      have hLn := HL.out
      have hlen : (jnW L).length = 2 * n := by rw [jnW_len, hLn]
      obtain ⟨g, cap', e1, hg1, hg2⟩ := ho.head (by have := H0.out; rw [jnW_len]; omega)
      injection e1 with e1 e2 e3
      subst e1 e3
      have hcap : (jnW L).length ≤ lcp := by
        rcases ho.2 with ⟨hv, _⟩ | ⟨g', cap'', cur, hv, hb, hg, hn, _⟩
        · cases hv
        · cases hv; exact hn
      have HC := hid (Tryd.strings_Join g 0 lcp (jnW L) ⟨#[32]⟩ wr (fun j z hz => by
        have hj := (List.getElem?_eq_some_iff.1 hz).1
        have := ho.get hj 0 _ rfl
        rw [List.getD_eq_getElem?_getD, hz] at this
        simpa [KSt] using this) hg2 (by rw [hlen]; omega) hcap (Nat.le_trans HJ.out (by decide)))
      clear hs hin ho hlo hLn hlen e2 hg1 hg2 hcap
      go_wp2_with fail
      refine HC.out.mono ?_
      rintro e w4 ⟨rfl, h4⟩
      have HS4 := hid (HS.out.trans (still_of_belowV h4))
      clear h4 HC
      go_wp2_with fail
      go_ret
      exact ⟨rfl, HS4.out⟩
end Go.Proofs.YtdljmpjfiggdiaaDoor
