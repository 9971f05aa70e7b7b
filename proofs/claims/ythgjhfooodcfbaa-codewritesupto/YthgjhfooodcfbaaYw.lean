/- Contracts: the document's writer. -/
import Derived.Test.YthgjhfooodcfbaaCx
import Derived.Test.YthgjhfooodcfbaaFu
import Derived.Test.YthgjhfooodcfbaaSp
namespace Go.Proofs.Ythgjhfooodcfbaa
open Go.RowKit

/-- The document's writer in block p: its room, its bytes, its error. -/
structure Wy (w : World) (p : Nat) (ao : Option Addr) (n cap : Nat) (room : Int) (bs : List UInt8) (e : Int) : Prop where
  blk : w.heap[p]? = some (.cells #[.int .i64 room, .slice ao n cap, .int .i64 e] 66 (0, 0))
  own : Ow 5 w ao n cap bs
theorem Wy.lt {w : World} {p : Nat} {ao : Option Addr} {n cap : Nat} {room : Int} {bs : List UInt8} {e : Int} (h : Wy w p ao n cap room bs e) : p < w.heap.size := block_lt h.blk
theorem Wy.apart {w : World} {p : Nat} {ao : Option Addr} {n cap : Nat} {room : Int} {bs : List UInt8} {e : Int} (h : Wy w p ao n cap room bs e) : ∀ a, ao = some a → a.block ≠ p := by
  rintro a ha rfl
  obtain ⟨_, _, cur, hg, _⟩ := h.own.row a ha
  have := h.blk
  rw [hg] at this
  simp at this
theorem Wy.kept {F : Nat → Prop} {w w' : World} {p : Nat} {ao : Option Addr} {n cap : Nat} {room : Int} {bs : List UInt8} {e : Int} (h : Wy w p ao n cap room bs e) (hf : Fr F w w') (hp : ¬ F p) (ha : ∀ a, ao = some a → ¬ F a.block) : Wy w' p ao n cap room bs e :=
  ⟨hf.kept h.blk hp, h.own.kept hf ha⟩
theorem Wy.still {w w' : World} {p : Nat} {ao : Option Addr} {n cap : Nat} {room : Int} {bs : List UInt8} {e : Int} (h : Wy w p ao n cap room bs e) (hs : Still w w') : Wy w' p ao n cap room bs e := h.kept hs (fun e => e) fun _ _ e => e
/-- What the document's writer's bytes and error are, when a form is laid down. -/
def layY (room : Int) (bs : List UInt8) (e : Int) (x : List UInt8) : List UInt8 × Int :=
  if e ≠ 0 then (bs, e) else if room < (bs.length : Int) + (x.length : Int) then (bs, 22) else (bs ++ x, 0)
def LaidY (w w' : World) (p : Nat) (ao : Option Addr) (room : Int) (bs : List UInt8) (e : Int) (x : List UInt8) : Prop :=
  ∃ ao' n' cap', Wy w' p ao' n' cap' room (layY room bs e x).1 (layY room bs e x).2 ∧ Fr (Wf p ao) w w' ∧ Later w ao ao'

set_option maxRecDepth 100000 in
theorem lay_y (p : Nat) (ao : Option Addr) (n cap : Nat) (room : Int) (bs : List UInt8) (e : Int) (so : Option Addr) (m c : Nat) (cs : List UInt8) (w : World)
    (hw : Wy w p ao n cap room bs e) (hx : Rd w so m c cs) (h0 : 0 ≤ room) (h1 : room ≤ 9223372036854775807) (h47 : n + m ≤ 140737488355328) :
    Calls Try.prog 30 #[.pointer (some ⟨p, 0, none⟩), .slice so m c] w fun r w' => r = .returned (.tuple #[]) ∧ LaidY w w' p ao room bs e cs := by
  obtain ⟨i0, hi, hz, hs1, hb1⟩ := info_parts info_u8
  obtain ⟨c0, c1, c2, cf⟩ := three hw.blk
  have hblk := hw.blk
  have hlen := hw.own.rd.len
  have hlc := hx.len
  by_cases he : e = 0
  · subst he
    by_cases hr : room < (n : Int) + (m : Int)
    · have HL : Hid (layY room bs 0 cs = (bs, 22)) := by
        unfold layY; rw [if_neg (by simp), hlen, hlc, if_pos hr]; exact rfl
      go_enter Try.func30, Try.ntmps30
      go_wp2
      go_quiet (fail)
      go_wp2
      refine bodyPost_ret (results_none rfl _ _ _) rfl ?_
      refine ⟨rfl, ao, n, cap, ?_, ((Fr.refl _ w).drewN _).setCell _ _ (.inl (.inl rfl)), Later.refl _ _⟩
      rw [HL.out]
      refine ⟨set2 (w := w.drewN _) hblk, (hw.own.drewN _).kept ((Fr.refl (fun k => k = p) (w.drewN _)).setCell ⟨p, 2, none⟩ (.int .i64 22) (.inl rfl)) ?_⟩
      exact hw.apart
    · have HL : Hid (layY room bs 0 cs = (bs ++ cs, 0)) := by
        unfold layY; rw [if_neg (by simp), hlen, hlc, if_neg hr]; exact rfl
      have hpa := hw.apart
      go_enter Try.func30, Try.ntmps30
      go_wp2
      go_quiet (fail)
      go_wp2_with (at_builtin; refine wpList_app _ rfl _ _ 26 rfl 5 i0 Try.underlying26 hi hz hs1 hb1 ao so n cap m c bs cs rfl rfl (hw.own.drewN _) (hx.drewN _) h47 ?_; intro ao2 cap2 w1 ho2 hf2 hn2 _; have hb2 := hf2.kept (w := w.drewN _) hblk (by rintro ⟨a, h1, h2⟩; exact hpa a h1 h2); obtain ⟨d0, d1, d2, df⟩ := three hb2)
      go_end0
      have hfr : Fr (Wf p ao) w w1 := ((Fr.refl (Wf p ao) w).drewN _).trans hf2 (by rintro k hk ⟨a, h1, h2⟩; exact .inr ⟨a, h1, h2⟩)
      refine ⟨rfl, ao2, n + m, cap2, ?_, hfr.setCell _ _ (.inl (.inl rfl)), fun a ha => ?_⟩
      · rw [HL.out]
        refine ⟨set1 hb2, ho2.kept ((Fr.refl (fun k => k = p) w1).setCell _ _ (.inl rfl)) ?_⟩
        rintro a h1 h2
        obtain ⟨_, _, cur, hg, _⟩ := ho2.row a h1
        rw [h2, hb2] at hg
        simp at hg
      · rcases hn2 a ha with h1 | h1
        · exact .inl ⟨a, h1, rfl⟩
        · exact .inr h1
  · have HL : Hid (layY room bs e cs = (bs, e)) := by unfold layY; rw [if_pos he]; exact rfl
    have hne : (e != 0) = true := by simpa using he
    go_enter Try.func30, Try.ntmps30
    go_wp2
    refine bodyPost_ret (results_none rfl _ _ _) rfl ?_
    refine ⟨rfl, ao, n, cap, ?_, Fr.refl _ _, Later.refl _ _⟩
    rw [HL.out]; exact hw

theorem newWriter_y (most : Int) (h1 : -9223372036854775808 ≤ most) (h2 : most ≤ 9223372036854775807) (w : World) :
    Calls Try.prog 10 #[.int .i64 most] w fun r w' => r = .returned (.pointer (some ⟨w.heap.size, 0, none⟩)) ∧ Wy w' w.heap.size none 0 0 (max most 0) [] 0 ∧ Still w w' := by
  by_cases hm : most < 0
  · have e : max most 0 = 0 := by omega
    rw [e]
    go_enter Try.func10, Try.ntmps10
    go_wp2
    go_ret
    exact ⟨rfl, ⟨heap_alloc_new w _, Ow.empty _ _⟩, Still.alloc w _⟩
  · have e : max most 0 = most := by omega
    rw [e]
    go_enter Try.func10, Try.ntmps10
    go_wp2
    go_ret
    exact ⟨rfl, ⟨heap_alloc_new w _, Ow.empty _ _⟩, Still.alloc w _⟩

theorem counted_y (so : Option Addr) (m c : Nat) (cs : List UInt8) (w : World) (hx : Rd w so m c cs) (h47 : m + 10 ≤ 140737488355328) :
    Calls Try.prog 32 #[.slice so m c] w fun r w' => ∃ ao cap, r = .returned (.slice ao (Cp.counted cs).length cap) ∧ Ow 5 w' ao (Cp.counted cs).length cap (Cp.counted cs) ∧ Still w w' := by
  obtain ⟨i0, hi, hz, hs1, hb1⟩ := info_parts info_u8
  have hm := hx.small
  have hten := Cp.form_ten (n := m) (by omega)
  have HX : Hid (Cp.counted cs = Cp.form m ++ cs) := by unfold Cp.counted; rw [hx.len]; exact rfl
  have hlc := hx.len
  go_enter Try.func32, Try.ntmps32
  go_wp2_with fail
  refine (rform_any m (by omega) _).mono ?_
  rintro r w1 ⟨fo, d, rfl, ho, hst, hfo⟩
  go_wp2_with (at_builtin; refine wpList_app _ rfl _ _ 26 rfl 5 i0 Try.underlying26 hi hz hs1 hb1 fo so (Cp.form m).length d m c (Cp.form m) cs rfl rfl ho (hx.still hst) (by omega) ?_; intro ao2 cap2 w2 ho2 hf2 hn2 _)
  go_ret
  have hl : (Cp.form m).length + m = (Cp.counted cs).length := by rw [HX.out, List.length_append, hlc]
  refine ⟨ao2, cap2, by rw [← hl]; rfl, by rw [← hl, HX.out]; exact ho2, Still.trans' hst hf2 ?_⟩
  rintro k hk ⟨a, h1, rfl⟩
  have := hfo a h1
  omega

theorem done_y (p : Nat) (ao : Option Addr) (n cap : Nat) (room : Int) (bs : List UInt8) (e : Int) (w : World) (hw : Wy w p ao n cap room bs e) (h47 : n ≤ 140737488355328) :
    Calls Try.prog 33 #[.pointer (some ⟨p, 0, none⟩)] w fun r w' => ∃ ao' n' cap', r = .returned (.tuple #[.slice ao' n' cap', .int .i64 e]) ∧ Rd w' ao' n' cap' (if e ≠ 0 then [] else bs) ∧ Still w w' := by
  obtain ⟨i0, hi, hz, hs1, hb1⟩ := info_parts info_u8
  obtain ⟨c0, c1, c2, cf⟩ := three hw.blk
  by_cases he : e = 0
  · subst he
    go_enter Try.func33, Try.ntmps33
    go_wp2_with (at_builtin; refine wpList_app _ rfl _ _ 26 rfl 5 i0 Try.underlying26 hi hz hs1 hb1 none ao 0 0 n cap [] bs rfl rfl (Ow.empty _ _) hw.own.rd (by omega) ?_; intro ao2 cap2 w2 ho2 hf2 hn2 _)
    go_ret2
    have hst : Still w w2 := hf2.mono (by rintro k hk ⟨a, h, _⟩; cases h)
    exact ⟨ao2, _, cap2, rfl, by simpa using ho2.rd, hst⟩
  · have hne : (e != 0) = true := by simpa using he
    rw [if_pos he]
    go_enter Try.func33, Try.ntmps33
    go_wp2
    go_quiet (fail)
    go_wp2
    go_ret2
    exact ⟨none, 0, 0, rfl, Rd.empty _, Still.drewN _ _⟩
end Go.Proofs.Ythgjhfooodcfbaa
