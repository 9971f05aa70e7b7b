/- The program's New, Push, Peek, Pop, Len. -/
import Derived.Test.YtdmgalaajgebkaaQuj
namespace Go.Proofs.Ytdmgalaajgebkaa
open Go.RowKit
set_option maxRecDepth 100000

/-- what Push does: the number told, the list behind it -/
def Psh (x : En) (L L' : List En) (c : Int) : Prop := Qu L' ∧ ((hasK x L = true ∧ c = 151 ∧ L' = L) ∨ (hasK x L = false ∧ 4096 ≤ L.length ∧ c = 150 ∧ L' = L) ∨ (hasK x L = false ∧ L.length < 4096 ∧ c = 0 ∧ L'.Perm (L ++ [x])))
theorem hasK_false {x : En} {L : List En} (h : hasK x L = false) : ∀ y ∈ L, kc y x ≠ 0 := fun y hy e => by
  have : hasK x L = true := List.any_eq_true.2 ⟨y, hy, decide_eq_true (by rw [kc_eq] at *; omega)⟩
  rw [h] at this
  cases this
theorem Unl.app {x : En} {L : List En} (h : Unl L) (hx : hasK x L = false) : Unl (L ++ [x]) := by
  refine List.pairwise_append.2 ⟨h, List.pairwise_singleton _ _, fun a ha b hb => ?_⟩
  rw [List.mem_singleton] at hb
  subst hb
  exact hasK_false hx a ha
abbrev newQ (w : World) : World := w.alloc (.cells #[.slice none 0 0] 90)
theorem newQ_qk (w : World) (B : Nat) (hB : B ≤ w.heap.size) : Qk (newQ w) B w.heap.size (.slice none 0 0) [] := ⟨heap_alloc_new w _, OwG.nil _ _, hB⟩
theorem qnew_any (w : World) : Calls Try.prog 47 #[] w fun e w' => e = .returned (.pointer (some ⟨w.heap.size, 0, none⟩)) ∧ w' = newQ w := by
  go_enter Try.func47, Try.ntmps47
  go_wp2_with fail
  go_ret
  exact ⟨rfl, rfl⟩
theorem qLen_any (B p : Nat) (v : Value) (L : List En) (w : World) (hq : Qk w B p v L) : Calls Try.prog 99 #[.pointer (some ⟨p, 0, none⟩)] w fun e w' => e = .returned (.int .i64 (L.length : Int)) ∧ w' = w := by
  obtain ⟨ao, cap, rfl⟩ := hq.own
  have c0 := hq.cell.1
  clear hq
  go_enter Try.func99, Try.ntmps99
  go_wp2_with fail
  go_ret
  exact ⟨rfl, rfl⟩
set_option maxHeartbeats 2000000 in
theorem qPush_any (x : En) (L : List En) (B p : Nat) (v : Value) (hL : Qu L) (w : World) (hB : B ≤ w.heap.size) (hq : Qk w B p v L) : Calls Try.prog 48 #[.pointer (some ⟨p, 0, none⟩), ev x] w fun e w' => ∃ c v' L', e = .returned (.int .i64 c) ∧ Psh x L L' c ∧ Qk w' B p v' L' ∧ Fr (fun k => k = p ∨ v.ownBlock = some k) w w' ∧ ∀ k, v'.ownBlock = some k → v.ownBlock = some k ∨ w.heap.size ≤ k := by
  obtain ⟨ao, cap, rfl⟩ := hq.own
  have A0 := Still.alloc w (.cells (ecs x) 44)
  obtain ⟨W, eW⟩ : ∃ W, W = newE w x := ⟨_, rfl⟩
  have hq0 : Qk W B p (.slice ao L.length cap) L := by rw [eW]; exact hq.still A0
  have hx0 : Eb W w.heap.size x := by rw [eW]; exact newE_eb w x
  have HS0 : Hid (Still w W) := hid (by rw [eW]; exact A0)
  have HB : Hid (B ≤ W.heap.size) := hid (by have := HS0.out.size; omega)
  have h4 := hL.le
  have HL := hid hL
  have HC := hid (fun z : Aft W => qhas_any x L ao L.length cap z.u ((hq0.ow.rdE rfl (by omega)).still z.s))
  have HQ0 := hid hq0
  have HX0 := hid hx0
  obtain ⟨b, eb⟩ : ∃ b, hasK x L = b := ⟨_, rfl⟩
  have HE := hid eb
  rw [eb] at HC
  have q0 := Cl.cell hq0.cell.1
  obtain ⟨c0, c1, c2, c3, c4, c5, c6, c7, _⟩ := hx0.cells
  have s0 := Cl.cell c0
  have s1 := Cl.cell c1
  have s2 := Cl.cell c2
  have s3 := Cl.cell c3
  have s4 := Cl.cell c4
  have s5 := Cl.cell c5
  have s6 := Cl.cell c6
  have s7 := Cl.cell c7
  have hne := Aft.here W
  have HW := hid eW
  have hpl : p < w.heap.size := block_lt hq.bk
  obtain ⟨N, eN⟩ : ∃ N, L.length = N := ⟨_, rfl⟩
  rw [eN] at HC q0 h4
  have HN := hid eN
  clear A0 eW hq0 hx0 hq hL eb c0 c1 c2 c3 c4 c5 c6 c7 eN
  go_enter Try.func48, Try.ntmps48
  go_upto_region 1 with fail
  have e := HW.out
  simp only [newE] at e
  rw [← e]
  clear e HW
  refine region_all (by kernel_rfl) (by kernel_rfl) ?_
  repeat (go_big_quiet_step ((go_at_call 51; with_reducible exact Calls.cl (HC.out _))))
  refine wpQuiet_nil ?_
  intro w1 h1
  have HQ1 := hid (HQ0.out.still h1)
  have HX1 := hid (HX0.out.still h1)
  have HS1 := hid (HS0.out.trans h1)
  have HB1 : Hid (B ≤ w1.heap.size) := hid (by have := HS1.out.size; omega)
  clear h1 hne q0 s0 s1 s2 s3 s4 s5 s6 s7 HC HQ0 HX0 HS0 HB
  cases b with
  | true =>
    go_wp2_with fail
    (try simp only [Exit.inBlock, Exit.then])
    go_ret
    exact ⟨151, _, L, rfl, ⟨HL.out, .inl ⟨HE.out, rfl, rfl⟩⟩, HQ1.out, Still.to HS1.out, fun k hk => .inl hk⟩
  | false =>
    have c0 := HQ1.out.cell.1
    rw [HN.out] at c0
    by_cases h5 : N < 4096
    · have h5' : ¬ (4096 : Int) ≤ (N : Int) := by omega
      go_upto_region 5 with fail
      clear c0
      obtain ⟨c0, c1, c2, c3, c4, c5, c6, c7, _⟩ := HX1.out.cells
      have s0 := Cl.cell c0
      have s1 := Cl.cell c1
      have s2 := Cl.cell c2
      have s3 := Cl.cell c3
      have s4 := Cl.cell c4
      have s5 := Cl.cell c5
      have s6 := Cl.cell c6
      have s7 := Cl.cell c7
      have hne := Aft.here w1
      clear c0 c1 c2 c3 c4 c5 c6 c7
      refine region_rest 6 (by kernel_rfl) (by kernel_rfl) ?_
      simp only [List.take_succ_cons, List.take_zero, List.drop_succ_cons, List.drop_zero]
      repeat (go_big_quiet_step (fail))
      refine wpQuiet_nil ?_
      intro w2 h2
      have HS2 := hid (HS1.out.trans h2)
      have HC := hid (hpush_any x L B p (.slice ao L.length cap) (by have := HN.out; omega) HL.out.hp w2 (by have := h2.size; have := HB1.out; omega) (HQ1.out.still h2))
      clear h2 s0 s1 s2 s3 s4 s5 s6 s7 hne HQ1 HX1 HS1 HB1
      go_wp2_with fail
      refine HC.out.mono ?_
      rintro e w3 ⟨he, v3, L3, hp3, hh3, hq3, hf3, hb3⟩
      rw [he]
      have hlen : L3.length = N + 1 := by rw [hp3.length_eq]; simp; exact HN.out
      have HP : Hid (Psh x L L3 0) := hid ⟨⟨hh3, (HL.out.un.app HE.out).perm hp3.symm, by omega⟩, .inr (.inr ⟨HE.out, by have := HN.out; omega, rfl, hp3⟩)⟩
      have HF : Hid (Fr (fun k => k = p ∨ (Value.slice ao L.length cap).ownBlock = some k) w w3) := hid (Fr.trans (Still.to HS2.out) hf3 (fun _ _ e => e))
      have HB3 : Hid (∀ k, v3.ownBlock = some k → (Value.slice ao L.length cap).ownBlock = some k ∨ w.heap.size ≤ k) := hid (fun k hk => by
        rcases hb3 k hk with h | h
        · exact .inl h
        · have := HS2.out.size
          exact .inr (by omega))
      have HQ3 := hid hq3
      clear he HC hp3 hh3 hq3 hf3 hb3 HS2
      go_wp2_with fail
      (try simp only [Exit.inBlock, Exit.then])
      go_ret
      exact ⟨0, v3, L3, rfl, HP.out, HQ3.out, HF.out, HB3.out⟩
    · obtain rfl : N = 4096 := by omega
      go_wp2_with fail
      (try simp only [Exit.inBlock, Exit.then])
      go_ret
      exact ⟨150, _, L, rfl, ⟨HL.out, .inr (.inl ⟨HE.out, by have := HN.out; omega, rfl, rfl⟩)⟩, HQ1.out, Still.to HS1.out, fun k hk => .inl hk⟩
theorem Eb.load {w : World} {g : Nat} {x : En} (h : Eb w g x) : (loadVar 44 ⟨g, 0, none⟩).run Try.prog w = .ok (ev x) w := by
  obtain ⟨c0, c1, c2, c3, c4, c5, c6, c7, cf⟩ := h.cells
  go_simp
theorem Eb.rest {fn : Func} {p q : Tmp} {w : World} {g : Nat} {x : En} (hb : Eb w g x) (h : fn.results = #[.cell p 44, .tmp q]) (tmps : Array Value) (t : Value) (hp : tmps.getD p undef = .pointer (some ⟨g, 0, none⟩)) (hq : tmps.getD q undef = t) :
    (results fn tmps).run Try.prog w = .ok (.tuple #[ev x, t]) w := by
  have hp' : tmps[p]?.getD undef = .pointer (some ⟨g, 0, none⟩) := by simpa using hp
  have hq' : tmps[q]?.getD undef = t := by simpa using hq
  simp [results, h, hp', hq', asAddr, hb.load]
theorem Eb.res {fn : Func} {p : Tmp} {w : World} {g : Nat} {x : En} (hb : Eb w g x) (h : fn.results = #[.cell p 44]) (tmps : Array Value) (hp : tmps.getD p undef = .pointer (some ⟨g, 0, none⟩)) :
    (results fn tmps).run Try.prog w = .ok (ev x) w := by
  have hp' : tmps[p]?.getD undef = .pointer (some ⟨g, 0, none⟩) := by simpa using hp
  simp [results, h, hp', asAddr, hb.load]
/-- an entry that is stored -/
abbrev setE (w : World) (g : Nat) (x : En) : World := (((((((w.setCell ⟨g, 0, none⟩ (.int .i64 x.fr)).setCell ⟨g, 1, none⟩ (.int .i64 x.pe)).setCell ⟨g, 2, none⟩ (.int .i64 x.se)).setCell ⟨g, 3, none⟩ (.int .i64 x.vb)).setCell ⟨g, 4, none⟩ (.int .i64 x.a)).setCell ⟨g, 5, none⟩ (.int .i64 x.b)).setCell ⟨g, 6, none⟩ (.int .i64 x.c)).setCell ⟨g, 7, none⟩ (.int .i64 x.ms)
theorem Eb.put {w : World} {g : Nat} {y : En} (h0 : Eb w g y) (x : En) : Eb (setE w g x) g x := by
  unfold Eb at h0 ⊢
  have h1 := heap_setCell_same _ g 0 _ _ (.int .i64 x.fr) h0
  have h2 := heap_setCell_same _ g 1 _ _ (.int .i64 x.pe) h1
  have h3 := heap_setCell_same _ g 2 _ _ (.int .i64 x.se) h2
  have h4 := heap_setCell_same _ g 3 _ _ (.int .i64 x.vb) h3
  have h5 := heap_setCell_same _ g 4 _ _ (.int .i64 x.a) h4
  have h6 := heap_setCell_same _ g 5 _ _ (.int .i64 x.b) h5
  have h7 := heap_setCell_same _ g 6 _ _ (.int .i64 x.c) h6
  have h8 := heap_setCell_same _ g 7 _ _ (.int .i64 x.ms) h7
  exact h8.trans (by kernel_rfl)
theorem setE_fr {F : Nat → Prop} {a w : World} (h : Fr F a w) (g : Nat) (x : En) (hg : F g ∨ a.heap.size ≤ g) : Fr F a (setE w g x) :=
  (((((((h.setCell _ _ hg).setCell _ _ hg).setCell _ _ hg).setCell _ _ hg).setCell _ _ hg).setCell _ _ hg).setCell _ _ hg).setCell _ _ hg
end Go.Proofs.Ytdmgalaajgebkaa
