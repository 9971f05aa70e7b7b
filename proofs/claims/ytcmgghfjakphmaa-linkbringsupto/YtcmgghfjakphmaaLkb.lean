/- A link in memory: what it keeps, and how many came on a frame. -/
import Derived.Test.YtcmgghfjakphmaaLka
import Derived.Test.YtcmgghfjakphmaaWmb
import Derived.Test.YtcmgghfjakphmaaBga
import Derived.Maps.RangeWalk
import Derived.Maps.Ext
namespace Go.Proofs.Ytcmgghfjakphmaa
open Go.RowKit
open Wp Vp Lp
set_option maxRecDepth 100000
set_option linter.unusedVariables false

theorem add_block (b : Addr) (n : Nat) : (b.add n).block = b.block := by
  unfold Addr.add
  split <;> rfl
theorem RdG.kept {α : Type} {K : Kd α} {w w' : World} {ao : Option Addr} {n : Nat} {L : List α} {F : Nat → Prop} (h : RdG K w ao n L) (hf : Fr F w w') (hF : ∀ a, ao = some a → ¬ F a.block) : RdG K w' ao n L := by
  refine ⟨h.1, h.2.1, ?_⟩
  rcases h.2.2 with h0 | ⟨B, o, e, hc⟩
  · exact .inl h0
  · exact .inr ⟨B, o, e, fun i hi j u hu => (hf.cell (World.block_lt_of_cell? w _ (hc i hi j u hu)) (fun e2 => hF _ e e2)).trans (hc i hi j u hu)⟩
theorem SrG.kept {α : Type} {K : Kd α} {w w' : World} {ao : Option Addr} {c : Nat} {L : List α} {F : Nat → Prop} (h : SrG K w ao c L) (hf : Fr F w w') (hF : ∀ a, ao = some a → ¬ F a.block) : SrG K w' ao c L := ⟨h.rd.kept hf hF, h.le, h.nl⟩
/-- the commands that are kept: a row of the link's own, or the end of one without room behind it -/
structure Kp (w : World) (B : Nat) (ko : Option Addr) (kc : Nat) (L : List Cc) : Prop where
  sr : SrG KCc w ko kc L
  ow : kc = L.length ∨ OwG KCc 47 w B (.slice ko L.length kc) L
  bl : ∀ a, ko = some a → B ≤ a.block ∧ ∃ cur, w.heap[a.block]? = some (.cells cur 47 (0, 0))
theorem Kp.nil (w : World) (B : Nat) : Kp w B none 0 [] := ⟨SrG.nil w, .inl rfl, fun a e => by cases e⟩
theorem Kp.keep {w w' : World} {B : Nat} {ko : Option Addr} {kc : Nat} {L : List Cc} {F : Nat → Prop} (h : Kp w B ko kc L) (hf : Fr F w w') (hF : ∀ a, ko = some a → ¬ F a.block) : Kp w' B ko kc L :=
  ⟨h.sr.kept hf hF, h.ow.imp id (fun o => o.keep hf (fun k hk e => by
    cases ko with
    | none => cases e
    | some a => simp [Value.ownBlock] at e; subst e; exact hF a rfl hk)), fun a e => ⟨(h.bl a e).1, by
    obtain ⟨cur, hc⟩ := (h.bl a e).2
    exact ⟨cur, hf.kept hc (hF a e)⟩⟩⟩
theorem Kp.still {w w' : World} {B : Nat} {ko : Option Addr} {kc : Nat} {L : List Cc} (h : Kp w B ko kc L) (hs : Still w w') : Kp w' B ko kc L := h.keep hs (fun _ _ e => e)
theorem Kp.own {w : World} {B : Nat} {ko : Option Addr} {kc : Nat} {L : List Cc} (h : OwG KCc 47 w B (.slice ko L.length kc) L) (hm : L.length ≤ 281474976710656) : Kp w B ko kc L :=
  ⟨SrG.own h hm, .inr h, fun a e => by
    subst e
    exact ⟨(h.block (k := a.block) rfl).1, ow_ty h (k := a.block) rfl⟩⟩
/-- the end of it, without room -/
theorem Kp.cut {w : World} {B : Nat} {ko : Option Addr} {kc : Nat} {L : List Cc} (h : Kp w B ko kc L) {i : Nat} (hi : i ≤ L.length) : Kp w B (cutG 7 ko L.length i) (L.length - i) (L.drop i) := by
  have hs : SrG KCc w ko L.length L := ⟨h.sr.rd, Nat.le_refl _, fun e => by have := h.sr.nl e; have := h.sr.le; omega⟩
  refine ⟨hs.drop hi, .inl (by simp), fun a e => ?_⟩
  have : ∃ b, ko = some b ∧ a.block = b.block := by
    unfold cutG at e
    split at e
    · exact ⟨a, e, rfl⟩
    · cases ko with
      | none => cases e
      | some b => simp at e; subst e; exact ⟨b, rfl, add_block b _⟩
  obtain ⟨b, hb, e2⟩ := this
  rw [e2]
  exact h.bl b hb
theorem cut_block {ko : Option Addr} {n i : Nat} {a : Addr} (e : cutG 7 ko n i = some a) : ∃ b, ko = some b ∧ a.block = b.block := by
  unfold cutG at e
  split at e
  · exact ⟨a, e, rfl⟩
  · cases ko with
    | none => cases e
    | some b => simp at e; subst e; exact ⟨b, rfl, add_block b _⟩
/-- 'append(kept, c)' -/
theorem wpList_appK (w : World) {ops : Array Oper} {rest : List Oper} {o : Oper} {a : Act} {Q : Exit → Act → World → Prop} (hgd : o.guard = none) (s x : Operand)
    (hop : o.op = .call { callee := .builtin .append, args := #[s, x], argTypes := #[29, 29] })
    (B g : Nat) (ko : Option Addr) (kc n : Nat) (L : List Cc) (c : Cc) (hn : L.length = n) (hs : a.eval s = .slice ko n kc) (hx : a.eval x = .slice (some ⟨g, 0, none⟩) 1 1) (hk : Kp w B ko kc L) (hr : Ccb w g c) (hl : L.length ≤ 100000) (hB : B ≤ w.heap.size)
    (h : ∀ ko' kc' w', Kp w' B ko' kc' (L ++ [c]) → Fr (fun k => ∃ a, ko = some a ∧ a.block = k) w w' → (∀ a, ko' = some a → (∃ b, ko = some b ∧ b.block = a.block) ∨ w.heap.size ≤ a.block) → wpList Try.prog ops Q rest (a.put o.dst (.slice ko' (n + 1) kc')) w') : wpList Try.prog ops Q (o :: rest) a w := by
  subst hn
  have hu := Try.underlying29
  have fin : ∀ v, v = Value.slice ko L.length kc → OwG KCc 47 w B v L → wpList Try.prog ops Q (o :: rest) a w := by
    rintro v rfl ho
    refine wpList_appQ KCc w hgd s x _ hop hu 56 infoCc B g _ L c hs hx ho hr (by omega) (by omega) hB ?_
    intro v' w' ho' hf hb
    obtain ⟨ao, cap, rfl, _⟩ := ho'.slice
    rw [List.length_append, List.length_singleton] at ho' ⊢
    refine h ao cap w' (Kp.own (by rw [List.length_append, List.length_singleton]; exact ho') (by rw [List.length_append, List.length_singleton]; omega)) (hf.mono (fun k _ e => ?_)) (fun ad e => ?_)
    · cases ko with
      | none => cases e
      | some b => simp [Value.ownBlock] at e; exact ⟨b, rfl, e⟩
    · subst e
      rcases hb ad.block rfl with e | e
      · cases ko with
        | none => cases e
        | some b => simp [Value.ownBlock] at e; exact .inl ⟨b, rfl, e⟩
      · exact .inr e
  rcases hk.ow with e | ho
  · subst e
    cases ko with
    | none =>
      have h0 := hk.sr.nl rfl
      have : L = [] := List.eq_nil_of_length_eq_zero h0
      subst this
      exact fin _ rfl (OwG.nil w B)
    | some ad =>
      obtain ⟨inf, hi, hz, h1, h2⟩ := infoCc
      have hnews : ∀ j u, (KCc.f c)[j]? = some u → w.cell? ((⟨g, 0, none⟩ : Addr).add j) = some u := by
        intro j u hj
        rw [add_plain, Nat.zero_add, cell_of_row _ _ _ _ _ _ hr]
        exact (Array.getElem?_toList (xs := kmc c)).symm.trans hj
      have hcap : Builtin.nextslicecap (L.length + 1) L.length * inf.bytes ≤ 281474976710656 := growslice_fits (by omega) (by rw [h2]; omega)
      have hrun := fun ty => run_append_grow (P := Try.prog) w 29 ty 47 inf _ hu hi hz ad L.length L.length (KCc.row L) (by rw [KCc.row_len, h1]) hk.sr.rd.cellsAt ⟨g, 0, none⟩ 1 1 (KCc.f c) (by rw [KCc.len, h1, Nat.one_mul]) hnews (by omega) (by omega) hcap
      have hge := grownCap_ge w (L.length + 1) L.length 47
      have hcm : grownCap w (L.length + 1) L.length 47 ≤ maxLen := grownCap_le_maxLen w (L.length + 1) L.length _ (by unfold maxLen; omega)
      obtain ⟨cap, ecap⟩ : ∃ cp, grownCap w (L.length + 1) L.length 47 = cp := ⟨_, rfl⟩
      rw [ecap] at hrun hge hcm
      refine wpList_plain hgd fun Kc hK => ?_
      unfold Oper.wp execOp
      simp only [hop, resolve, invoke, builtin, Sem.run_bind, Sem.run_pure, Result.andThen_ok, List.map_toArray, List.map_cons, List.map_nil, hs, hx, hrun]
      refine hK _ _ (h _ _ _ (Kp.own ?_ (by rw [List.length_append, List.length_singleton]; omega)) ⟨rfl, rfl, rfl, by simp, fun k hk _ => heap_alloc_old w.drew _ hk⟩ (fun ad2 e => by cases e; exact .inr (Nat.le_refl _)))
      rw [List.length_append, List.length_singleton]
      unfold OwG
      rw [KCc.row_app, List.length_append, List.length_singleton, show KCc.row [c] = KCc.f c by simp [Kd.row]]
      refine ⟨by rw [List.length_append, KCc.row_len, KCc.len, Nat.succ_mul], .inr ⟨w.heap.size, cap, _, rfl, hB, heap_alloc_new w.drew _, hge, hcm, ?_, ?_⟩⟩
      · simp only [Array.size_append, List.size_toArray, size_zeroCells, KCc.row_len, KCc.len, Value.cells]
        rw [← Nat.succ_mul, ← Nat.add_mul]
        congr 1
        omega
      · simp only [Array.toList_append, List.append_assoc]
        rw [← List.append_assoc]
        exact List.take_left' (by rw [List.length_append, KCc.row_len, KCc.len, Nat.succ_mul])
  · exact fin _ rfl ho
/-- how many came on a frame above the mark -/
def Cnt (D : DataW Value) (mk : Int) (G : List Cc) : Prop := ∀ f, ∃ n : Int, D.atKey (.int .i64 f) (.held (.int .i64 0)) = .held (.int .i64 n) ∧ 0 ≤ n ∧ n ≤ (G.length : Int) ∧ (mk < f → n = ((onN G f : Nat) : Int))
def RI (v : Value) : Option (DataW Value × List MemPlace) := some (.held v, [])
theorem lawI6 : Maps.Keyed Try.prog 2 := Maps.int_keyed Try.underlying2
theorem keyI6 {k : Int} (h : -9223372036854775808 ≤ k ∧ k ≤ 9223372036854775807) : keyOf Try.prog 2 (.int .i64 k) = some (.int .i64 k) := Maps.keyOf_int_mk Try.underlying2 (WalkArith.wf_i64 h)
theorem grown_of {F : Nat → Prop} {w w' : World} (h : Fr F w w') {b : Nat} (hb : ¬ F b) (hl : b < w.heap.size) {H : Type} {P : Program} {k : TypeId} {R : Value → Option (DataW H × List MemPlace)} {n : Nat} {D : DataW H} (ho : w.ownsMap P k R b n D) : w'.ownsMap P k R b n D := by
  obtain ⟨es, c, h1, h2⟩ := ho
  exact ⟨es, c, (h.block b hl hb).trans h1, h2⟩
theorem turned_fr {w w' : World} {b : Nat} (h : w.mapTurned w' b) : Fr (fun k => k = b) w w' := by
  have g := h.grown
  exact ⟨g.os, g.tape, g.output, g.size, fun k hk hn => g.block k hk (fun e => hn (by cases e; rfl))⟩
theorem grown_fr {w w' : World} {b : Nat} (g : w.grownBy w' (some b)) : Fr (fun k => k = b) w w' := ⟨g.os, g.tape, g.output, g.size, fun k hk hn => g.block k hk (fun e => hn (by cases e; rfl))⟩
/-- a map of counts in block mb -/
def Mpc (w : World) (mb n : Nat) (mk : Int) (G : List Cc) : Prop := ∃ D : DataW Value, w.ownsMap Try.prog 2 RI mb n D ∧ Cnt D mk G
theorem Mpc.lt {w : World} {mb n : Nat} {mk : Int} {G : List Cc} (h : Mpc w mb n mk G) : mb < w.heap.size := by
  obtain ⟨D, h, _⟩ := h
  exact h.lt
theorem Mpc.map {w : World} {mb n : Nat} {mk : Int} {G : List Cc} (h : Mpc w mb n mk G) : ∃ es c, w.heap[mb]? = some (.map es c) := by
  obtain ⟨D, ⟨es, c, hb, _⟩, _⟩ := h
  exact ⟨es, c, hb⟩
theorem Mpc.keep {F : Nat → Prop} {w w' : World} {mb n : Nat} {mk : Int} {G : List Cc} (h : Mpc w mb n mk G) (hf : Fr F w w') (hn : ¬ F mb) : Mpc w' mb n mk G := by
  obtain ⟨D, h1, h2⟩ := h
  exact ⟨D, grown_of hf hn h1.lt h1, h2⟩
abbrev lkc (s : Ln) (ko : Option Addr) (kc mb : Nat) : Array Value := #[.int .u64 s.ss, .int .i64 s.se, .int .i64 s.ot, .int .i64 (s.O.length : Int), .int .i64 (s.ak : Int), .int .i64 ((s.G.length : Int) + 1), .int .i64 s.mq, .bool s.mt, .slice ko (s.O.length - s.ak) kc, .map (some mb)]
/-- block p holds a link -/
structure Lkk (w : World) (B p mb : Nat) (ko : Option Addr) (kc : Nat) (s : Ln) : Prop where
  bk : w.heap[p]? = some (.cells (lkc s ko kc mb) 57 (0, 0))
  kp : Kp w B ko kc (s.O.drop s.ak)
  mp : Mpc w mb s.G.length s.mq s.G
  lp : B ≤ p
  lm : B ≤ mb
theorem map_ne {w : World} {a b : Nat} {x : Array Value} {t : TypeId} {es : Array MapEntry} {c : Nat} (ha : w.heap[a]? = some (.cells x t (0, 0))) (hb : w.heap[b]? = some (.map es c)) : a ≠ b := by
  rintro rfl
  rw [ha] at hb
  cases hb
theorem Lkk.lt {w : World} {B p mb : Nat} {ko : Option Addr} {kc : Nat} {s : Ln} (h : Lkk w B p mb ko kc s) : p < w.heap.size ∧ mb < w.heap.size := ⟨block_lt h.bk, h.mp.lt⟩
theorem Lkk.ne {w : World} {B p mb : Nat} {ko : Option Addr} {kc : Nat} {s : Ln} (h : Lkk w B p mb ko kc s) : p ≠ mb ∧ ∀ a, ko = some a → a.block ≠ p ∧ a.block ≠ mb ∧ a.block < w.heap.size := by
  obtain ⟨es, c, hm⟩ := h.mp.map
  refine ⟨map_ne h.bk hm, fun a ha => ?_⟩
  obtain ⟨cur, hc⟩ := (h.kp.bl a ha).2
  exact ⟨ty_ne hc h.bk (by decide), map_ne hc hm, block_lt hc⟩
theorem Lkk.keep {F : Nat → Prop} {w w' : World} {B p mb : Nat} {ko : Option Addr} {kc : Nat} {s : Ln} (h : Lkk w B p mb ko kc s) (hf : Fr F w w') (h1 : ¬ F p) (h2 : ¬ F mb) (h3 : ∀ a, ko = some a → ¬ F a.block) : Lkk w' B p mb ko kc s :=
  ⟨hf.kept h.bk h1, h.kp.keep hf h3, h.mp.keep hf h2, h.lp, h.lm⟩
theorem Lkk.still {w w' : World} {B p mb : Nat} {ko : Option Addr} {kc : Nat} {s : Ln} (h : Lkk w B p mb ko kc s) (hs : Still w w') : Lkk w' B p mb ko kc s := h.keep hs (fun e => e) (fun e => e) (fun _ _ e => e)
theorem Lkk.cells {w : World} {B p mb : Nat} {ko : Option Addr} {kc : Nat} {s : Ln} (h : Lkk w B p mb ko kc s) : w.cell? ⟨p, 0, none⟩ = some (.int .u64 s.ss) ∧ w.cell? ⟨p, 1, none⟩ = some (.int .i64 s.se) ∧ w.cell? ⟨p, 2, none⟩ = some (.int .i64 s.ot) ∧ w.cell? ⟨p, 3, none⟩ = some (.int .i64 (s.O.length : Int)) ∧ w.cell? ⟨p, 4, none⟩ = some (.int .i64 (s.ak : Int)) ∧ w.cell? ⟨p, 5, none⟩ = some (.int .i64 ((s.G.length : Int) + 1)) ∧ w.cell? ⟨p, 6, none⟩ = some (.int .i64 s.mq) ∧ w.cell? ⟨p, 7, none⟩ = some (.bool s.mt) ∧ w.cell? ⟨p, 8, none⟩ = some (.slice ko (s.O.length - s.ak) kc) ∧ w.cell? ⟨p, 9, none⟩ = some (.map (some mb)) ∧ ∀ o, w.frozen? ⟨p, o, none⟩ = false := by
  refine ⟨?_, ?_, ?_, ?_, ?_, ?_, ?_, ?_, ?_, ?_, fun o => frozen_of_row w p o _ _ h.bk⟩ <;> (rw [cell_of_row _ _ _ _ _ _ h.bk]; rfl)
/-- a new one -/
theorem Lkk.new (w : World) (ss se ot : Int) : Lkk ((w.alloc (.map #[] 0)).alloc (.cells (lkc (zLn ss se ot) none 0 w.heap.size) 57)) w.heap.size (w.heap.size + 1) w.heap.size none 0 (zLn ss se ot) := by
  have h := heap_alloc_new (w.alloc (.map #[] 0)) (.cells (lkc (zLn ss se ot) none 0 w.heap.size) 57)
  rw [size_alloc] at h
  exact ⟨h, Kp.nil _ _, ⟨.map [], (World.ownsMap_made w _ _ _).alloc _, fun f => ⟨0, rfl, by omega, by simp, fun _ => by simp [onN, zLn]⟩⟩, by omega, by omega⟩
end Go.Proofs.Ytcmgghfjakphmaa
