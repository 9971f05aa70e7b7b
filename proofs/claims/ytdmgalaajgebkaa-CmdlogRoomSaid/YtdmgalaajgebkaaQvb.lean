/- A list that is read: cut from a place on; appended to another one. The document's All, Pop. -/
import Derived.Test.YtdmgalaajgebkaaQuy
import Derived.Test.YtdmgalaajgebkaaQux
import Derived.Laws.AppendOwnNone
namespace Go.Proofs.Ytdmgalaajgebkaa
open Go.RowKit
set_option maxRecDepth 100000

/-- a slice that reads a list -/
structure Sr (w : World) (ao : Option Addr) (cap : Nat) (S : List En) : Prop where
  rd : RdG KE w ao S.length S
  le : S.length ≤ cap
  nl : ao = none → cap = 0
theorem Sr.still {w w' : World} {ao : Option Addr} {cap : Nat} {S : List En} (h : Sr w ao cap S) (hs : Still w w') : Sr w' ao cap S := ⟨h.rd.still hs, h.le, h.nl⟩
theorem Sr.keep {F : Nat → Prop} {w w' : World} {ao : Option Addr} {cap : Nat} {S : List En} (h : Sr w ao cap S) (hf : Fr F w w') (hF : ∀ a, ao = some a → 0 < S.length → ¬ F a.block) : Sr w' ao cap S := by
  refine ⟨⟨rfl, h.rd.2.1, ?_⟩, h.le, h.nl⟩
  rcases h.rd.2.2 with h0 | ⟨B, o, e, hc⟩
  · exact .inl h0
  · by_cases h0 : S.length = 0
    · exact .inl h0
    · exact .inr ⟨B, o, e, fun i hi j u hu => (hf.cell (World.block_lt_of_cell? w _ (hc i hi j u hu)) (fun hb => hF ⟨B, o, none⟩ e (by omega) hb)).trans (hc i hi j u hu)⟩
theorem Sr.lt {w : World} {ao : Option Addr} {cap : Nat} {S : List En} (h : Sr w ao cap S) : ∀ a, ao = some a → 0 < S.length → a.block < w.heap.size := fun a ha h0 => by
  obtain ⟨B, o, e⟩ := h.rd.at h0
  have := h.rd
  rw [e] at this
  have c := this.get h0 0 _ rfl
  rw [ha] at e
  cases e
  exact World.block_lt_of_cell? w _ c
theorem Sr.nil (w : World) : Sr w none 0 [] := ⟨RdG.nil w none, Nat.le_refl _, fun _ => rfl⟩
theorem Sr.own {w : World} {B : Nat} {ao : Option Addr} {cap : Nat} {S : List En} (h : OwG KE 44 w B (.slice ao S.length cap) S) (hm : S.length ≤ 281474976710656) : Sr w ao cap S := by
  refine ⟨h.rdE rfl hm, ?_, ?_⟩
  · rcases h.2 with ⟨hv, hn⟩ | ⟨g', cap', cur, hv, hb, hg, hn, _⟩
    · injection hv with _ _ h3; omega
    · cases hv; exact hn
  · rintro rfl
    rcases h.2 with ⟨hv, hn⟩ | ⟨g', cap', cur, hv, hb, hg, hn, _⟩
    · injection hv
    · cases hv
/-- where 's[i:]' begins -/
def cutE (ao : Option Addr) (cap i : Nat) : Option Addr := if cap = i then ao else ao.map (·.add (i * 8))
theorem run_fromE (w : World) (ao : Option Addr) (n cap i : Nat) (hi : i ≤ n) : (Instr.slice 40 (.slice ao n cap) (some (.int .i64 (i : Int))) none none).run Try.prog w = .ok (.slice (cutE ao cap i) (n - i) (cap - i)) w := by
  have ht' : Try.prog.underlying 40 = some (.slice (Try.prog.elem 40)) := by simp [Program.elem, Try.underlying40]
  have he : Try.prog.elem 40 = 44 := by simp [Program.elem, Try.underlying40]
  rw [run_slice_l w 40 ao n cap ht' .i64 (i : Int) (by omega) (by omega), he]
  obtain ⟨inf, h1, _, h2, _⟩ := infoE
  simp [sizeOf, typeInfo, h1, h2, Result.andThen, sliced, cutE, KE]
theorem run_uptoE (w : World) (ao : Option Addr) (n cap i : Nat) (hi : i ≤ cap) : (Instr.slice 40 (.slice ao n cap) none (some (.int .i64 (i : Int))) none).run Try.prog w = .ok (.slice ao i cap) w := by
  have := run_uptoG (P := Try.prog) (e := 44) (t := 40) rfl ⟨_, rfl⟩ w ao n cap (i : Int) (by omega) (by omega)
  rwa [Int.toNat_natCast] at this
theorem Sr.drop {w : World} {ao : Option Addr} {cap : Nat} {S : List En} (h : Sr w ao cap S) {i : Nat} (hi : i ≤ S.length) : Sr w (cutE ao cap i) (cap - i) (S.drop i) := by
  have hl := h.le
  refine ⟨⟨rfl, by have := h.rd.2.1; simp; omega, ?_⟩, by simp; omega, fun e => ?_⟩
  · by_cases h0 : (S.drop i).length = 0
    · exact .inl h0
    · have hpos : 0 < S.length := by simp at h0; omega
      obtain ⟨B, o, e⟩ := h.rd.at hpos
      have hrd := h.rd
      rw [e] at hrd
      refine .inr ⟨B, o + i * 8, ?_, fun k hk j u hu => ?_⟩
      · unfold cutE
        rw [if_neg (by simp at h0; omega), e]
        simp [add_plain]
      · have e2 : (S.drop i).getD k KE.d = S.getD (i + k) KE.d := by simp [List.getD_eq_getElem?_getD]
        rw [e2] at hu
        have := hrd.get (i := i + k) (by simp at hk; omega) j u hu
        rw [show o + (i + k) * KE.k + j = o + i * 8 + k * KE.k + j by simp only [KE]; omega] at this
        exact this
  · unfold cutE at e
    split at e
    · rename_i hc; have := h.nl e; omega
    · cases ao with
      | none => have := h.nl rfl; omega
      | some a => cases e
theorem cutE_block {ao : Option Addr} {cap i : Nat} : ∀ a, cutE ao cap i = some a → ∃ a0, ao = some a0 ∧ a.block = a0.block := by
  intro a ha
  unfold cutE at ha
  split at ha
  · exact ⟨a, ha, rfl⟩
  · cases ao with
    | none => cases ha
    | some a0 =>
      simp at ha
      subst ha
      refine ⟨a0, rfl, ?_⟩
      unfold Addr.add; split <;> rfl
theorem Sr.take {w : World} {ao : Option Addr} {cap : Nat} {S : List En} (h : Sr w ao cap S) {i : Nat} (hi : i ≤ S.length) : Sr w ao cap (S.take i) := by
  have hl := h.le
  have e1 : (S.take i).length = i := by simp; omega
  refine ⟨⟨rfl, by have := h.rd.2.1; omega, ?_⟩, by omega, h.nl⟩
  by_cases h0 : (S.take i).length = 0
  · exact .inl h0
  · obtain ⟨B, o, e⟩ := h.rd.at (by omega)
    have hrd := h.rd
    rw [e] at hrd
    refine .inr ⟨B, o, e, fun k hk j u hu => ?_⟩
    have e2 : (S.take i).getD k KE.d = S.getD k KE.d := by rw [List.getD_eq_getElem?_getD, List.getD_eq_getElem?_getD, List.getElem?_take_of_lt (by omega)]
    rw [e2] at hu
    exact hrd.get (i := k) (by omega) j u hu
/-- 'append(s, x...)', s its owner's -/
theorem wpList_appM (w : World) {ops : Array Oper} {rest : List Oper} {o : Oper} {a : Act} {Q : Exit → Act → World → Prop} (hgd : o.guard = none) (s x : Operand)
    (hop : o.op = .call { callee := .builtin .append, args := #[s, x], argTypes := #[40, 40] })
    (B : Nat) (v : Value) (L S : List En) (ao : Option Addr) (n cap : Nat) (hs : a.eval s = v) (hx : a.eval x = .slice ao n cap) (hn : S.length = n) (ho : OwG KE 44 w B v L) (hr : Sr w ao cap S) (h47 : L.length + S.length ≤ 100000) (hB : B ≤ w.heap.size)
    (h : ∀ v' w', OwG KE 44 w' B v' (L ++ S) → Fr (fun k => v.ownBlock = some k) w w' → wpList Try.prog ops Q rest (a.put o.dst v') w') : wpList Try.prog ops Q (o :: rest) a w := by
  obtain ⟨i, hi, hz, h1, h2⟩ := infoE
  subst hn
  cases ao with
  | none =>
    have hc := hr.nl rfl
    have hS : S = [] := List.eq_nil_of_length_eq_zero (by have := hr.le; omega)
    subst hS hc
    refine wpList_append_own_none hgd s x _ hop B 44 i KE.k rfl hi v L.length (KE.row L) hs ho hx ?_
    exact h v w (by rw [List.append_nil]; exact ho) (Fr.refl _ _)
  | some ad =>
    refine wpList_append_own (P := Try.prog) w hgd s x _ hop B 44 i (.agg (KE.f KE.d).toArray) KE.k 64 rfl hi hz h1 h2 (by simp [Value.cells, KE.len]) KE.pos v L.length (KE.row L) hs ho ad S.length cap (KE.row S) hx (by rw [KE.row_len]) hr.rd.cellsAt (KE.row_one S) (by unfold maxLen; omega) (by omega) hB ?_
    intro v' w' hown hgr _
    refine h v' w' ?_ ⟨hgr.os, hgr.tape, hgr.output, hgr.size, fun k hk hn => hgr.block k hk (fun e => hn e.symm)⟩
    unfold OwG
    rw [KE.row_app, List.length_append]
    exact hown
end Go.Proofs.Ytdmgalaajgebkaa
