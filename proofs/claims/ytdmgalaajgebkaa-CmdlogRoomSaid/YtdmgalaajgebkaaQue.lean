/- Push and Pop of entries. -/
import Derived.Test.YtdmgalaajgebkaaQud
namespace Go.Proofs.Ytdmgalaajgebkaa
open Go.RowKit
set_option maxRecDepth 100000

theorem ta_E (x : En) (w : World) : (Instr.typeAssert (.iface 44 (ev x)) 20 44 false).run Try.prog w = .ok (ev x) w := by kernel_rfl
theorem wpQuiet_ta {ops : Array Oper} {C : World → Prop} {Q : Act → Prop} {a : Act} {o : Oper} {rest : List Oper} (hgd : o.guard = none) {s : Operand} (hop : o.op = .typeAssert s 20 44 false) (x : En) (hs : a.eval s = .iface 44 (ev x)) (h : wpQuiet Try.prog ops C Q rest (a.put o.dst (ev x))) : wpQuiet Try.prog ops C Q (o :: rest) a :=
  BigFrame.wpQuiet_want (by simp [Region.wanted, hgd]) fun K hK => ⟨ev x, fun w _ => by
    unfold Oper.quietAt execOp
    simp only [hop, hs, Sem.run_bind, Sem.run_pure, ta_E, Result.andThen_ok]
    exact ⟨rfl, rfl⟩, hK _ h⟩
theorem bs_E {o : Oper} {ρ : Operand → Value} {s : Operand} {x : En} (ho : o.op = .buildSlice 88 1 #[(0, s)]) (hs : ρ s = ev x) (u : World) : (execOp ρ o).run Try.prog u = .ok (.value (.slice (some ⟨u.heap.size, 0, none⟩) 1 1)) (newE u x) := by
  unfold execOp
  rw [ho]
  simp only [List.map_toArray, List.map_cons, List.map_nil, hs]
  go_simp
theorem Qk.own {w : World} {B p : Nat} {v : Value} {L : List En} (h : Qk w B p v L) : ∃ ao cap, v = .slice ao L.length cap := by
  obtain ⟨ao, cap, e, _⟩ := h.ow.slice
  exact ⟨ao, cap, e⟩
set_option maxHeartbeats 2000000 in
theorem qpush_any (x : En) (B p : Nat) (v : Value) (L : List En) (hl : L.length ≤ 4096) (w : World) (hq : Qk w B p v L) (hB : B ≤ w.heap.size) : Calls Try.prog 103 #[.pointer (some ⟨p, 0, none⟩), .iface 44 (ev x)] w fun e w' => e = .returned (.tuple #[]) ∧ ∃ v', Qk w' B p v' (L ++ [x]) ∧ Fr (fun k => k = p ∨ v.ownBlock = some k) w w' ∧ ∀ k, v'.ownBlock = some k → v.ownBlock = some k ∨ w.heap.size ≤ k := by
  obtain ⟨ao, cap, rfl⟩ := hq.own
  have HQ := hid hq
  have hpl := block_lt hq.bk
  clear hq
  go_enter Try.func103, Try.ntmps103
  go_upto_region 0 with fail
  refine region_laid 6 1 (by kernel_rfl) (by kernel_rfl) (by kernel_rfl) ?_
  apply Exists.intro
  refine And.intro ?_ (And.intro ?_ ?_)
  · intro u hu
    have q0 := Cl.cell (HQ.out.still hu).cell.1
    have hne := Aft.here u
    simp only [List.take_succ_cons, List.take_zero]
    repeat (go_big_quiet_step (fail))
    refine wpQuiet_ta rfl rfl x rfl ?_
    exact wpQuiet_nil rfl
  · intro _ o ho u hu
    obtain rfl := Option.some.inj ho
    exact ⟨_, _, bs_E rfl rfl u, Still.alloc u _⟩
  intro w1 h1
  simp only [List.drop_succ_cons, List.drop_zero]
  have A4 := Still.alloc w1 (.cells (ecs x) 44)
  have hq4 := (HQ.out.still h1).still A4
  have HQ4 := hid hq4
  have HS4 := hid (h1.trans A4)
  have HX4 := hid (newE_eb w1 x)
  have HB4 := hid (show B ≤ (newE w1 x).heap.size by rw [size_alloc]; have := h1.size; omega)
  have HL4 := hid (show (L.length + 1) * 64 ≤ 140737488355328 ∧ L.length ≤ 281474976710656 by omega)
  have HO4 := hid hq4.ow
  have hp4 : p < (newE w1 x).heap.size := block_lt hq4.bk
  clear A4 hq4 h1
  go_wp2_with (
    at_builtin
    refine wpList_appQ KE _ rfl _ _ _ rfl rfl 64 infoE B w1.heap.size (.slice ao L.length cap) L x rfl rfl HO4.out HX4.out HL4.out.1 HL4.out.2 HB4.out ?_
    intro v' w' ho' hf' hb'
    have hk := hf'.kept HQ4.out.bk HQ4.out.apart
    have HK := hid hk
    have c0 : w'.cell? ⟨p, 0, none⟩ = some (.slice ao L.length cap) := by rw [cell_of_row _ _ _ _ _ _ hk]; rfl
    have cf : ∀ o, w'.frozen? ⟨p, o, none⟩ = false := fun o => frozen_of_row w' p o _ _ hk
    have HO' := hid ho'
    have HF' : Hid (Fr (fun k => (Value.slice ao L.length cap).ownBlock = some k) (newE w1 x) w') := hid hf'
    have HB' := hid hb'
    obtain ⟨g', cap', rfl, _, _⟩ := ho'.head (by simp)
    clear ho' hf' hb' hk)
  refine ⟨rfl, ?_⟩
  have HB5 : Hid (∀ k, (Value.slice (some ⟨g', 0, none⟩) (L ++ [x]).length cap').ownBlock = some k → (Value.slice ao L.length cap).ownBlock = some k ∨ w.heap.size ≤ k) := hid (fun k hk => by
    rcases HB'.out k hk with h | h
    · exact .inl h
    · have h1 : (newE w1 x).heap.size ≤ k := h
      have h2 : w.heap.size ≤ (newE w1 x).heap.size := HS4.out.size
      exact .inr (by omega))
  have hpp : (Value.slice (some ⟨g', 0, none⟩) (L ++ [x]).length cap').ownBlock ≠ some p := fun e => by
    rcases HB5.out p e with h | h
    · exact HQ.out.apart h
    · omega
  have HQ5 := hid (Qk.put HK.out HQ4.out.lo HO'.out hpp)
  have el : (L ++ [x]).length = L.length + 1 := by simp
  have HF5 : Hid (Fr (fun k => k = p ∨ (Value.slice ao L.length cap).ownBlock = some k) w (w'.setCell ⟨p, 0, none⟩ (.slice (some ⟨g', 0, none⟩) (L ++ [x]).length cap'))) := hid ((Fr.trans (Still.to HS4.out) HF'.out (fun k _ h => .inr h)).setCell _ _ (.inl (.inl rfl)))
  rw [el] at HQ5 HF5 HB5
  clear el
  go_end0
  exact ⟨rfl, _, HQ5.out, HF5.out, HB5.out⟩
theorem run_cutE (w : World) (ao : Option Addr) (n cap m : Nat) (hm : m ≤ cap) : (Instr.slice 88 (.slice ao n cap) none (some (.int .i64 (m : Int))) none).run Try.prog w = .ok (.slice ao m cap) w := by
  have := run_uptoG (P := Try.prog) (e := 44) (t := 88) rfl ⟨_, rfl⟩ w ao n cap (m : Int) (by omega) (by omega)
  rwa [Int.toNat_natCast] at this
theorem OwG.cutE {w : World} {B g n cap : Nat} {L : List En} {x : En} (h : OwG KE 44 w B (.slice (some ⟨g, 0, none⟩) n cap) (L ++ [x])) : OwG KE 44 w B (.slice (some ⟨g, 0, none⟩) L.length cap) L := by
  rcases h.2 with ⟨hv, _⟩ | ⟨g', cap', cur, hv, hb, hg, hn, hm, hs, ht⟩
  · cases hv
  · cases hv
    refine ⟨KE.row_len L, .inr ⟨g, cap, cur, rfl, hb, hg, by rw [List.length_append] at hn; omega, hm, hs, ?_⟩⟩
    have e : (L ++ [x]).length * KE.k = L.length * KE.k + KE.k := by rw [List.length_append, Nat.add_mul]; simp
    have := congrArg (List.take (L.length * KE.k)) ht
    rw [List.take_take, Nat.min_eq_left (by omega), KE.row_app, List.take_append_of_le_length (by rw [KE.row_len]; exact Nat.le_refl _), List.take_of_length_le (l := KE.row L) (by rw [KE.row_len]; exact Nat.le_refl _)] at this
    exact this
end Go.Proofs.Ytdmgalaajgebkaa
