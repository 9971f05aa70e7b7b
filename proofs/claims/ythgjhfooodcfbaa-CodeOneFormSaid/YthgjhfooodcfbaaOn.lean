/- CodeOneForm: a reader and a writer side by side. -/
import Derived.Test.YthgjhfooodcfbaaAw
import Derived.Test.YthgjhfooodcfbaaCo
namespace Go.Proofs.Ythgjhfooodcfbaa
open Go.RowKit

theorem newReader_lt (ao : Option Addr) (n cap : Nat) (bs : List UInt8) (w : World) (hr : Rd w ao n cap bs) (h47 : n ≤ 140737488355328) :
    Calls Try.prog 13 #[.slice ao n cap] w fun r w' => ∃ p ao' cap', r = .returned (.pointer (some ⟨p, 0, none⟩)) ∧ w.heap.size ≤ p ∧ Rr w' p ao' n cap' bs 0 ∧ Still w w' ∧ ∀ a, ao' = some a → w.heap.size ≤ a.block ∧ a.block < w'.heap.size := by
  go_enter Try.func13, Try.ntmps13
  go_wp2_with fail
  refine (clone_any ao n cap bs w hr h47).mono ?_
  rintro r w1 ⟨ao', cap', rfl, ho, hst, hao⟩
  go_wp2
  go_ret
  exact ⟨w1.heap.size, ao', cap', rfl, hst.size, ⟨heap_alloc_new w1 _, ho.rd.alloc _⟩, Fr.alloc hst _, fun a h => ⟨hao a h, by have := ho.lt a h; simp; omega⟩⟩

/-- The reader rp and the writer wp side by side: the reader's rows lie below S, the writer's from S on. -/
structure Two (W wr : World) (S rp wp : Nat) (ro : Option Addr) (rn rc : Nat) (rest : List UInt8) (e : Int) (wo : Option Addr) (wn wc : Nat) (room : Int) (bs : List UInt8) : Prop where
  still : Still W wr
  rd : Rr wr rp ro rn rc rest e
  wt : Wr wr wp wo wn wc room bs 0
  rlo : W.heap.size ≤ rp
  rhi : rp < S
  wlo : S ≤ wp
  ra : ∀ a, ro = some a → W.heap.size ≤ a.block ∧ a.block < S
  wa : ∀ a, wo = some a → S ≤ a.block
  big : S ≤ wr.heap.size
/-- the reader takes something up -/
theorem Two.took {W wr w1 : World} {S rp wp : Nat} {ro wo : Option Addr} {rn rc wn wc : Nat} {rest bs rest' : List UInt8} {e e' room : Int} (h : Two W wr S rp wp ro rn rc rest e wo wn wc room bs) (ht : Took wr w1 rp ro rest' e') :
    ∃ ro' rn' rc', Two W w1 S rp wp ro' rn' rc' rest' e' wo wn wc room bs := by
  obtain ⟨ro', rn', rc', h1, h2, h3⟩ := ht
  refine ⟨ro', rn', rc', ⟨h.still.trans' h2 (by rintro k hk rfl; have := h.rlo; omega), h1, h.wt.kept h2 (fun hp => by have := h.rhi; have := h.wlo; omega) (fun a ha hp => by have := h.wa a ha; have := h.rhi; omega), h.rlo, h.rhi, h.wlo, ?_, h.wa, by have := h.big; have := h2.size; omega⟩⟩
  intro a ha
  obtain ⟨b, h4, h5⟩ := h3 a ha
  have := h.ra b h4
  omega
/-- the writer lays something down -/
theorem Two.laid {W wr w1 : World} {S rp wp : Nat} {ro wo : Option Addr} {rn rc wn wc : Nat} {rest bs x : List UInt8} {e room : Int} (h : Two W wr S rp wp ro rn rc rest e wo wn wc room bs) (hl : Laid wr w1 wp wo room bs 0 x) (hf : (bs.length : Int) + (x.length : Int) ≤ room) :
    ∃ wo' wn' wc', Two W w1 S rp wp ro rn rc rest e wo' wn' wc' room (bs ++ x) := by
  obtain ⟨wo', wn', wc', h1, h2, h3⟩ := hl
  rw [layS_fit hf] at h1
  have hlow : ∀ k, Wf wp wo k → S ≤ k := by
    rintro k (rfl | ⟨a, h4, rfl⟩)
    · exact h.wlo
    · exact h.wa a h4
  have hWS : W.heap.size ≤ S := by have := h.rlo; have := h.rhi; omega
  refine ⟨wo', wn', wc', ⟨h.still.trans' h2 (fun k hk hf => by have := hlow k hf; omega), h.rd.kept h2 (fun hp => by have := hlow _ hp; have := h.rhi; omega) (fun a ha _ hp => by have := hlow _ hp; have := h.ra a ha; omega), h1, h.rlo, h.rhi, h.wlo, h.ra, ?_, by have := h.big; have := h2.size; omega⟩⟩
  intro a ha
  rcases h3 a ha with ⟨b, h4, h5⟩ | h4
  · have := h.wa b h4; omega
  · have := h.big; omega
end Go.Proofs.Ythgjhfooodcfbaa
