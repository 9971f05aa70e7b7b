/- The program's Below. -/
import Derived.Test.YtgpmjlibanoapaaQul
namespace Go.Proofs.Ytgpmjlibanoapaa
open Go.RowKit
set_option maxRecDepth 100000

def Srt (L : List En) : Prop := L.Pairwise (fun x y => kc x y < 0)
/-- O has come out of L, in order; M is left -/
structure Cm (L O M : List En) : Prop where
  pm : L.Perm (O ++ M)
  sr : Srt O
  ah : ∀ x ∈ O, ∀ y ∈ M, kc x y < 0
theorem Cm.start (L : List En) : Cm L [] L := ⟨List.Perm.refl _, List.Pairwise.nil, fun x h => by cases h⟩
theorem Cm.step {L O M M' : List En} {x : En} (h : Cm L O M) (hp : M.Perm (x :: M')) (hx : ∀ y ∈ M', kc x y < 0) : Cm L (O ++ [x]) M' := by
  refine ⟨?_, ?_, ?_⟩
  · refine h.pm.trans ?_
    rw [List.append_assoc]
    exact List.Perm.append_left O hp
  · refine List.pairwise_append.2 ⟨h.sr, List.pairwise_singleton _ _, fun a ha b hb => ?_⟩
    rw [List.mem_singleton] at hb
    subst hb
    exact h.ah a ha b (hp.mem_iff.2 (List.mem_cons_self ..))
  · intro a ha y hy
    rcases List.mem_append.1 ha with h' | h'
    · exact h.ah a h' y (hp.mem_iff.2 (List.mem_cons_of_mem _ hy))
    · rw [List.mem_singleton] at h'
      subst h'
      exact hx y hy
/-- the length of a slice -/
def slN : Value → Nat
  | .slice _ n _ => n
  | _ => 0
theorem least_fr {M : List En} (h : Hp M M.length) {f : Int} (hf : f < (att M 0).fr) : ∀ y ∈ M, f < y.fr := by
  intro y hy
  obtain ⟨k, hk, e⟩ := List.getElem_of_mem hy
  have h1 := h.least k hk
  have e2 : att M k = y := by unfold att; rw [List.getD_eq_getElem?_getD, List.getElem?_eq_getElem hk, e]; rfl
  rw [e2] at h1
  unfold le at h1
  rw [kc_lt] at h1
  omega
set_option maxHeartbeats 2000000 in
theorem qBelow_any (L : List En) (f : Int) (B p : Nat) (v : Value) (hL : Qu L) (w : World) (hq : Qk w B p v L) : Calls Try.prog 17 #[.pointer (some ⟨p, 0, none⟩), .int .i64 f] w fun e w' => ∃ ov v' O M, e = .returned ov ∧ OwG KE 38 w' w.heap.size ov O ∧ Cm L O M ∧ (∀ x ∈ O, x.fr ≤ f) ∧ (∀ y ∈ M, f < y.fr) ∧ Qu M ∧ Qk w' B p v' M ∧ Fr (fun k => k = p ∨ v.ownBlock = some k) w w' ∧ v'.ownBlock = v.ownBlock := by
  have HOB := hid (fun k e => (hq.ow.block (k := k) e).2)
  have hpl : p < w.heap.size := block_lt hq.bk
  have h4 := hL.le
  have HL := hid hL
  have HQ := hid hq
  have hta := fun x w => ta_E x w
  clear hq hL
  go_enter Try.func17, Try.ntmps17
  go_wp2_with fail
  go_loopw [5] (fun u wr => ∃ (O M : List En) (v' : Value), slN u = O.length ∧ Hid (OwG KE 38 wr w.heap.size u O ∧ Cm L O M ∧ (∀ x ∈ O, x.fr ≤ f) ∧ Qu M ∧ Qk wr B p v' M ∧ Fr (fun k => k = p ∨ v.ownBlock = some k) w wr ∧ v'.ownBlock = v.ownBlock)) (fun u _ => L.length - slN u)
  case atStart => exact ⟨[], L, v, rfl, hid ⟨OwG.nil _ _, Cm.start L, (fun x h => by cases h), HL.out, HQ.out, Fr.refl _ _, rfl⟩⟩
  case round =>
    obtain ⟨O, M, v', hu, HM⟩ := hrel
    have hlen : L.length = O.length + M.length := by rw [HM.out.2.1.pm.length_eq]; simp
    obtain ⟨ao, cap, e5, _⟩ := HM.out.1.slice
    subst e5
    by_cases h0 : M = []
    · have e0 : M.length = 0 := by rw [h0]; rfl
      obtain ⟨ao2, cap2, e6⟩ := HM.out.2.2.2.2.1.own
      subst e6
      have c0 := HM.out.2.2.2.2.1.cell.1
      rw [e0] at c0
      go_wp2_with fail
      go_ret
      exact ⟨_, _, O, M, rfl, HM.out.1, HM.out.2.1, HM.out.2.2.1, fun y hy => (by rw [h0] at hy; cases hy), HM.out.2.2.2⟩
    · have h1 : 0 < M.length := List.length_pos_iff.2 h0
      obtain ⟨g, cap2, e6, _, _⟩ := HM.out.2.2.2.2.1.ow.head h1
      subst e6
      have c0 := HM.out.2.2.2.2.1.cell.1
      obtain ⟨k0, _, _, _, _, _, _, _, _⟩ := owE HM.out.2.2.2.2.1.ow (i := 0) h1
      simp only [Nat.zero_mul] at k0
      have h1' : (0 : Int) < (M.length : Int) := by omega
      have HFR := hid (fun hf : f < (att M 0).fr => least_fr HM.out.2.2.2.1.hp hf)
      have HC := hid (hpop_any M B p _ (by omega) h1 HM.out.2.2.2.1.hp wr HM.out.2.2.2.2.1)
      have HA := hid (fun M' (hp : M.Perm (att M 0 :: M')) => HM.out.2.2.2.1.ahead hp)
      obtain ⟨x, ex⟩ : ∃ x, att M 0 = x := ⟨_, rfl⟩
      rw [ex] at k0 HFR HC HA
      clear ex
      by_cases hf : x.fr ≤ f
      · clear HFR
        go_wp2_with fail
        refine HC.out.mono ?_
        rintro e w2 ⟨he, v2, M2, hp2, hh2, hq2, hf2, hb2⟩
        rw [he]
        have A4 := Still.alloc w2 (.cells (ecs x) 38)
        have hlt : ∀ k, (k = p ∨ (Value.slice (some ⟨g, 0, none⟩) M.length cap2).ownBlock = some k) → k < w.heap.size := fun k hk => by
          rcases hk with h | h
          · omega
          · rw [HM.out.2.2.2.2.2.2] at h; exact HOB.out k h
        have ho2 : OwG KE 38 w2 w.heap.size (.slice ao O.length cap) O := HM.out.1.keep hf2 (fun k hk e => by
          have := (HM.out.1.block e).1
          have := hlt k hk
          omega)
        have HO4 := hid (ho2.still A4)
        have HX4 : Hid ((newE w2 x).heap[w2.heap.size]? = some (.cells (KE.f x).toArray 38 (0, 0))) := hid (newE_eb w2 x)
        have HQ4 := hid (hq2.still A4)
        have HF4 : Hid (Fr (fun k => k = p ∨ v.ownBlock = some k) w (newE w2 x)) := hid (Fr.trans (Fr.trans HM.out.2.2.2.2.2.1 hf2 (fun k _ hk => by
          rcases hk with h | h
          · exact .inl h
          · rw [HM.out.2.2.2.2.2.2] at h; exact .inr h)) A4 (fun _ _ e => e.elim))
        have hl2 := hp2.length_eq
        simp at hl2
        have HM2 : Hid (Qu M2) := hid ⟨hh2, fun_un hp2 HM.out.2.2.2.1, by omega⟩
        have HC2 := hid (HM.out.2.1.step hp2 (HA.out M2 hp2))
        have HV2 : Hid (v2.ownBlock = v.ownBlock) := hid (hb2.trans HM.out.2.2.2.2.2.2)
        have HFF : Hid (∀ y ∈ O ++ [x], y.fr ≤ f) := hid (fun y hy => by
          rcases List.mem_append.1 hy with h | h
          · exact HM.out.2.2.1 y h
          · rw [List.mem_singleton] at h; rw [h]; exact hf)
        have HB4 : Hid (w.heap.size ≤ (newE w2 x).heap.size) := hid HF4.out.size
        have HL4 : Hid (O.length ≤ 100000) := hid (by omega)
        clear he HC hp2 hh2 hq2 hf2 hb2 c0 k0 ho2 A4 HM HA hlt
        go_wp2_with (at_builtin; refine wpList_appG KE _ rfl _ _ _ rfl rfl 64 infoE (by omega) w.heap.size w2.heap.size _ O x rfl rfl HO4.out HX4.out HL4.out HB4.out ?_; intro v5 w5 ho5 hf5)
        have hlt : ∀ k, (Value.slice ao O.length cap).ownBlock = some k → w.heap.size ≤ k := fun k hk => (HO4.out.block hk).1
        have HR5 : Hid (OwG KE 38 w5 w.heap.size v5 (O ++ [x]) ∧ Cm L (O ++ [x]) M2 ∧ (∀ x_1 ∈ O ++ [x], x_1.fr ≤ f) ∧ Qu M2 ∧ Qk w5 B p v2 M2 ∧ Fr (fun k => k = p ∨ v.ownBlock = some k) w w5 ∧ v2.ownBlock = v.ownBlock) := hid ⟨ho5, HC2.out, HFF.out, HM2.out, HQ4.out.keep hf5 (fun e => by have := hlt p e; omega) (fun k hk e => by
          have h1 := hlt k hk
          rw [HV2.out] at e
          have := HOB.out k e
          omega), Fr.trans HF4.out hf5 (fun k hk e => by have := hlt k e; omega), HV2.out⟩
        obtain ⟨ao6, cap6, e6, _⟩ := ho5.slice
        clear ho5 hf5 HO4 HX4 HQ4 HF4
        subst e6
        go_roundw
        case rel => exact ⟨O ++ [x], M2, v2, rfl, HR5⟩
        case measure => simp [slN]; omega
      · have hf' : f < x.fr := by omega
        have HF := hid (HFR.out hf')
        go_wp2_with fail
        go_ret
        exact ⟨_, rfl, _, O, HM.out.1, M, HM.out.2.1, HM.out.2.2.1, HF.out, HM.out.2.2.2⟩
end Go.Proofs.Ytgpmjlibanoapaa
