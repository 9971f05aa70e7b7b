/- Contracts: a writer's functions. -/
import Derived.Test.YthgjhfooodcfbaaCw
import Derived.Deep.RegionWith
namespace Go.Proofs.Ythgjhfooodcfbaa
open Go.RowKit

/-- x was laid down (or was not, as the room says). -/
def Laid (w w' : World) (p : Nat) (ao : Option Addr) (room : Int) (bs : List UInt8) (e : Int) (x : List UInt8) : Prop :=
  ∃ ao' n' cap', Wr w' p ao' n' cap' room (layS room bs e x).1 (layS room bs e x).2 ∧ Fr (Wf p ao) w w' ∧ Later w ao ao'
theorem Laid.from {w w1 w' : World} {p : Nat} {ao : Option Addr} {room : Int} {bs : List UInt8} {e : Int} {x : List UInt8} (hs : Still w w1) (h : Laid w1 w' p ao room bs e x) : Laid w w' p ao room bs e x := by
  obtain ⟨ao', n', cap', h1, h2, h3⟩ := h
  refine ⟨ao', n', cap', h1, (Still.to hs).trans h2 (fun _ _ h => h), fun a ha => ?_⟩
  rcases h3 a ha with h | h
  · exact .inl h
  · exact .inr (Nat.le_trans hs.size h)
theorem Wr.still {w w' : World} {p : Nat} {ao : Option Addr} {n cap : Nat} {room : Int} {bs : List UInt8} {e : Int} (h : Wr w p ao n cap room bs e) (hs : Still w w') : Wr w' p ao n cap room bs e := h.kept hs (fun e => e) fun _ _ e => e
theorem Wr.wf_lt {w : World} {p : Nat} {ao : Option Addr} {n cap : Nat} {room : Int} {bs : List UInt8} {e : Int} (h : Wr w p ao n cap room bs e) : ∀ k, Wf p ao k → k < w.heap.size := by
  rintro k (rfl | ⟨a, h1, rfl⟩)
  · exact h.lt
  · exact h.own.lt a h1

/-- one part, made anew -/
theorem lay_one (p : Nat) (ao : Option Addr) (n cap : Nat) (room : Int) (bs : List UInt8) (e : Int) (so : Option Addr) (m c : Nat) (cs : List UInt8) (w : World)
    (hw : Wr w p ao n cap room bs e) (hx : Rd w so m c cs) (hxp : ∀ a, so = some a → 0 < m → ¬ Wf p ao a.block) (h0 : 0 ≤ room) (h1 : room ≤ 9223372036854775807) (h47 : n + m ≤ 140737488355328) :
    Calls Try.prog 41 #[.pointer (some ⟨p, 0, none⟩), .slice (some ⟨w.heap.size, 0, none⟩) 1 1] (w.alloc (.cells #[.slice so m c] 26)) fun r w' => r = .returned (.tuple #[]) ∧ Laid w w' p ao room bs e cs := by
  have hs := Still.alloc w (.cells #[.slice so m c] 26)
  have h := lay_any p w.heap.size 1 ao n cap room bs e (fun _ => so) (fun _ => m) (fun _ => c) (fun _ => cs) (w.alloc (.cells #[.slice so m c] 26)) (hw.still hs)
    (fun j hj => by obtain rfl : j = 0 := by omega
                    rw [cell_of_row _ _ _ _ _ _ (heap_alloc_new w _)]; rfl)
    (fun h => by have := hw.lt; omega) (fun a ha h => by have := hw.own.lt a ha; omega) (by simp) (by omega) (fun _ _ => hx.still hs) (fun _ _ => hxp) h0 h1 (by simp only [tot]; omega)
  refine h.mono ?_
  rintro r w' ⟨rfl, h⟩
  simp only [cat, List.nil_append] at h
  exact ⟨rfl, Laid.from hs h⟩

theorem wuint_any (p : Nat) (ao : Option Addr) (n cap : Nat) (room : Int) (bs : List UInt8) (e : Int) (m : Nat) (hm : m < 18446744073709551616) (w : World)
    (hw : Wr w p ao n cap room bs e) (h0 : 0 ≤ room) (h1 : room ≤ 9223372036854775807) (h47 : n + 10 ≤ 140737488355328) :
    Calls Try.prog 17 #[.pointer (some ⟨p, 0, none⟩), .int .u64 (m : Int)] w fun r w' => r = .returned (.tuple #[]) ∧ Laid w w' p ao room bs e (Cp.form m) := by
  have hten := Cp.form_ten hm
  go_enter Try.func17, Try.ntmps17
  go_wp2_with fail
  refine (form_any m hm _).mono ?_
  rintro r w1 ⟨so, c, rfl, ho, hst, hso⟩
  have hlt := hw.wf_lt
  go_wp2_with fail
  refine (lay_one p ao n cap room bs e so _ c _ w1 (hw.still hst) ho.rd (fun a ha _ hf => by have := hlt _ hf; have := hso a ha; omega) h0 h1 (by omega)).mono ?_
  rintro r w2 ⟨rfl, hl⟩
  go_wp2
  go_end0
  exact ⟨rfl, Laid.from hst hl⟩

theorem wint_any (p : Nat) (ao : Option Addr) (n cap : Nat) (room : Int) (bs : List UInt8) (e : Int) (m : Int) (hm : -9223372036854775808 ≤ m) (hm2 : m ≤ 9223372036854775807) (w : World)
    (hw : Wr w p ao n cap room bs e) (h0 : 0 ≤ room) (h1 : room ≤ 9223372036854775807) (h47 : n + 10 ≤ 140737488355328) :
    Calls Try.prog 18 #[.pointer (some ⟨p, 0, none⟩), .int .i64 m] w fun r w' => r = .returned (.tuple #[]) ∧ Laid w w' p ao room bs e (Cp.form (Cp.fold m)) := by
  have hf := Cp.fold_lt hm hm2
  have hten := Cp.form_ten hf
  go_enter Try.func18, Try.ntmps18
  go_wp2_with fail
  refine (fold_any m hm hm2 _).mono ?_
  rintro r w0 ⟨rfl, rfl⟩
  go_wp2_with fail
  refine (form_any (Cp.fold m) hf _).mono ?_
  rintro r w1 ⟨so, c, rfl, ho, hst, hso⟩
  have hlt := hw.wf_lt
  go_wp2_with fail
  refine (lay_one p ao n cap room bs e so _ c _ w1 (hw.still hst) ho.rd (fun a ha _ hf => by have := hlt _ hf; have := hso a ha; omega) h0 h1 (by omega)).mono ?_
  rintro r w2 ⟨rfl, hl⟩
  go_wp2
  go_end0
  exact ⟨rfl, Laid.from hst hl⟩

theorem wbyte_any (p : Nat) (ao : Option Addr) (n cap : Nat) (room : Int) (bs : List UInt8) (e : Int) (m : UInt8) (x : Int) (hm : x = (m.toNat : Int)) (w : World)
    (hw : Wr w p ao n cap room bs e) (h0 : 0 ≤ room) (h1 : room ≤ 9223372036854775807) (h47 : n + 10 ≤ 140737488355328) :
    Calls Try.prog 19 #[.pointer (some ⟨p, 0, none⟩), .int .u8 x] w fun r w' => r = .returned (.tuple #[]) ∧ Laid w w' p ao room bs e [m] := by
  have ho := Ow.one w m x hm
  have hst := Still.alloc w (.cells #[.int .u8 x] 5)
  have hlt := hw.wf_lt
  have hc := lay_one p ao n cap room bs e (some ⟨w.heap.size, 0, none⟩) 1 1 [m] (w.alloc (.cells #[.int .u8 x] 5)) (hw.still hst) ho.rd (fun a ha _ hf => by have := hlt _ hf; cases ha; simp at this) h0 h1 (by omega)
  have HM : Hid (x = (m.toNat : Int)) := hm
  clear hm
  have hsz : (w.alloc (.cells #[.int .u8 x] 5)).heap.size = w.heap.size + 1 := by simp
  rw [hsz] at hc
  have HC := hid hc
  clear hc hsz
  go_enter Try.func19, Try.ntmps19
  go_wp2_with fail
  refine HC.out.mono ?_
  rintro r w2 ⟨rfl, hl⟩
  go_wp2
  go_end0
  exact ⟨rfl, Laid.from hst hl⟩

/-- two parts, made anew -/
theorem lay_two (p : Nat) (ao : Option Addr) (n cap : Nat) (room : Int) (bs : List UInt8) (e : Int) (fo so : Option Addr) (l d m c : Nat) (fs cs : List UInt8) (w : World)
    (hw : Wr w p ao n cap room bs e) (hf : Rd w fo l d fs) (hfp : ∀ a, fo = some a → 0 < l → ¬ Wf p ao a.block) (hx : Rd w so m c cs) (hxp : ∀ a, so = some a → 0 < m → ¬ Wf p ao a.block) (h0 : 0 ≤ room) (h1 : room ≤ 9223372036854775807) (h47 : n + l + m ≤ 140737488355328) :
    Calls Try.prog 41 #[.pointer (some ⟨p, 0, none⟩), .slice (some ⟨w.heap.size, 0, none⟩) 2 2] (w.alloc (.cells #[.slice fo l d, .slice so m c] 26)) fun r w' => r = .returned (.tuple #[]) ∧ Laid w w' p ao room bs e (fs ++ cs) := by
  have hs := Still.alloc w (.cells #[.slice fo l d, .slice so m c] 26)
  have h := lay_any p w.heap.size 2 ao n cap room bs e (fun j => if j = 0 then fo else so) (fun j => if j = 0 then l else m) (fun j => if j = 0 then d else c) (fun j => if j = 0 then fs else cs) (w.alloc (.cells #[.slice fo l d, .slice so m c] 26)) (hw.still hs)
    (fun j hj => by
      rcases (show j = 0 ∨ j = 1 by omega) with rfl | rfl
      · rw [cell_of_row _ _ _ _ _ _ (heap_alloc_new w _)]; rfl
      · rw [cell_of_row _ _ _ _ _ _ (heap_alloc_new w _)]; rfl)
    (fun h => by have := hw.lt; omega) (fun a ha h => by have := hw.own.lt a ha; omega) (by simp) (by omega)
    (fun j hj => by
      rcases (show j = 0 ∨ j = 1 by omega) with rfl | rfl
      · exact hf.still hs
      · exact hx.still hs)
    (fun j hj => by
      rcases (show j = 0 ∨ j = 1 by omega) with rfl | rfl
      · exact hfp
      · exact hxp) h0 h1 (by simp [tot]; omega)
  refine h.mono ?_
  rintro r w' ⟨rfl, h⟩
  have e2 : cat (fun j => if j = 0 then fs else cs) 2 = fs ++ cs := by simp [cat]
  rw [e2] at h
  exact ⟨rfl, Laid.from hs h⟩

theorem wbytes_any (p : Nat) (ao : Option Addr) (n cap : Nat) (room : Int) (bs : List UInt8) (e : Int) (so : Option Addr) (m c : Nat) (cs : List UInt8) (w : World)
    (hw : Wr w p ao n cap room bs e) (hx : Rd w so m c cs) (hxp : ∀ a, so = some a → 0 < m → ¬ Wf p ao a.block) (h0 : 0 ≤ room) (h1 : room ≤ 9223372036854775807) (h47 : n + (Cp.form m).length + m ≤ 140737488355328) :
    Calls Try.prog 20 #[.pointer (some ⟨p, 0, none⟩), .slice so m c] w fun r w' => r = .returned (.tuple #[]) ∧ Laid w w' p ao room bs e (Cp.counted cs) := by
  have hm := hx.small
  have hlt := hw.wf_lt
  have HX : Hid (Cp.counted cs = Cp.form m ++ cs) := by unfold Cp.counted; rw [hx.len]; exact rfl
  go_enter Try.func20, Try.ntmps20
  go_wp2_with fail
  refine (form_any m (by omega) _).mono ?_
  rintro r w1 ⟨fo, d, rfl, ho, hst, hfo⟩
  go_wp2_with fail
  refine (lay_two p ao n cap room bs e fo so _ d m c _ cs w1 (hw.still hst) ho.rd (fun a ha _ hf => by have := hlt _ hf; have := hfo a ha; omega) (hx.still hst) hxp h0 h1 h47).mono ?_
  rintro r w2 ⟨rfl, hl⟩
  go_wp2
  go_end0
  refine ⟨rfl, ?_⟩
  rw [HX.out]
  exact Laid.from hst hl

theorem newWriter_any (most : Int) (h1 : -9223372036854775808 ≤ most) (h2 : most ≤ 9223372036854775807) (w : World) :
    Calls Try.prog 9 #[.int .i64 most] w fun r w' => r = .returned (.pointer (some ⟨w.heap.size, 0, none⟩)) ∧ Wr w' w.heap.size none 0 0 (max most 0) [] 0 ∧ Still w w' := by
  by_cases hm : most < 0
  · have e : max most 0 = 0 := by omega
    rw [e]
    go_enter Try.func9, Try.ntmps9
    go_wp2
    go_ret
    exact ⟨rfl, ⟨heap_alloc_new w _, Ow.empty _ _⟩, Still.alloc w _⟩
  · have e : max most 0 = most := by omega
    rw [e]
    go_enter Try.func9, Try.ntmps9
    go_wp2
    go_ret
    exact ⟨rfl, ⟨heap_alloc_new w _, Ow.empty _ _⟩, Still.alloc w _⟩

theorem wdone_any (p : Nat) (ao : Option Addr) (n cap : Nat) (room : Int) (bs : List UInt8) (e : Int) (w : World) (hw : Wr w p ao n cap room bs e) (h47 : n ≤ 140737488355328) :
    Calls Try.prog 21 #[.pointer (some ⟨p, 0, none⟩)] w fun r w' => ∃ ao' cap', r = .returned (.tuple #[.slice ao' n cap', .int .i64 e]) ∧ Ow 5 w' ao' n cap' bs ∧ Still w w' ∧ ∀ a, ao' = some a → w.heap.size ≤ a.block := by
  have hr := hw.own.rd
  have hb := hw.blk
  obtain ⟨c0, c1, c2, cf⟩ := three hw.blk
  go_enter Try.func21, Try.ntmps21
  go_wp2
  go_region_with (go_at_call 34; refine (clone_any ao n cap bs _ (by first | exact hr | exact hr.drew | exact hr.drewN _) h47).mono ?_; rintro r w1 ⟨ao', cap', rfl, ho, hst, hao⟩; obtain ⟨d0, d1, d2, df⟩ := three (Fr.kept_still hst hb))
  all_goals go_wp2
  all_goals go_ret2
  all_goals exact ⟨ao', cap', rfl, ho, hst.undrew, hao⟩
end Go.Proofs.Ythgjhfooodcfbaa
