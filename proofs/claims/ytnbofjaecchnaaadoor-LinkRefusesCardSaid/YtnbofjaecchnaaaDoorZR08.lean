/- Parts of the proof, laid end to end. -/
import Derived.Test.YtnbofjaecchnaaaDoorZR04
import Derived.Test.YtnbofjaecchnaaaDoorZR06
import Derived.Test.YtnbofjaecchnaaaDoorZR07
import Derived.Maps.RangeWalk
import Derived.Maps.Ext
import Derived.BigQuiet
import Derived.Test.YtnbofjaecchnaaaDoorZR02
namespace Go.Proofs.YtnbofjaecchnaaaDoor
open Go.RowKit
open Wp Vp Lp
set_option maxRecDepth 100000
set_option linter.unusedVariables false
theorem add_block (b : Addr) (n : Nat) : (b.add n).block = b.block := by
 unfold Addr.add
 split <;> rfl
theorem RdG.kept {α : Type} {K : Kd α} {w w' : World} {ao : Option Addr} {n : Nat} {L : List α} {F : Nat -> Prop} (h : RdG K w ao n L) (hf : Fr F w w') (hF : ∀ a, ao = some a -> ¬ F a.block) : RdG K w' ao n L := by
 refine ⟨h.1, h.2.1, ?_⟩
 rcases h.2.2 with h0 | ⟨B, o, e, hc⟩
 ·exact .inl h0
 ·exact .inr ⟨B, o, e, fun i hi j u hu => (hf.cell (World.block_lt_of_cell? w _ (hc i hi j u hu)) (fun e2 => hF _ e e2)).trans (hc i hi j u hu)⟩
theorem SrG.kept {α : Type} {K : Kd α} {w w' : World} {ao : Option Addr} {c : Nat} {L : List α} {F : Nat -> Prop} (h : SrG K w ao c L) (hf : Fr F w w') (hF : ∀ a, ao = some a -> ¬ F a.block) : SrG K w' ao c L := ⟨h.rd.kept hf hF, h.le, h.nl⟩
structure Kp (w : World) (B : Nat) (ko : Option Addr) (kc : Nat) (L : List Cc) : Prop where
 sr : SrG KCc w ko kc L
 ow : kc = L.length \/ OwG KCc 36 w B (.slice ko L.length kc) L
 bl : ∀ a, ko = some a -> B <= a.block /\ ∃ cur, w.heap[a.block]? = some (.cells cur 36 (0, 0))
theorem Kp.nil (w : World) (B : Nat) : Kp w B none 0 [] := ⟨SrG.nil w, .inl rfl, fun a e => by cases e⟩
theorem Kp.keep {w w' : World} {B : Nat} {ko : Option Addr} {kc : Nat} {L : List Cc} {F : Nat -> Prop} (h : Kp w B ko kc L) (hf : Fr F w w') (hF : ∀ a, ko = some a -> ¬ F a.block) : Kp w' B ko kc L :=
 ⟨h.sr.kept hf hF, h.ow.imp id (fun o => o.keep hf (fun k hk e => by
  cases ko with
  | none => cases e
  | some a => simp [Value.ownBlock] at e; subst e; exact hF a rfl hk)), fun a e => ⟨(h.bl a e).1, by
  obtain ⟨cur, hc⟩ := (h.bl a e).2
  exact ⟨cur, hf.kept hc (hF a e)⟩⟩⟩
theorem Kp.still {w w' : World} {B : Nat} {ko : Option Addr} {kc : Nat} {L : List Cc} (h : Kp w B ko kc L) (hs : Still w w') : Kp w' B ko kc L := h.keep hs (fun _ _ e => e)
theorem Kp.own {w : World} {B : Nat} {ko : Option Addr} {kc : Nat} {L : List Cc} (h : OwG KCc 36 w B (.slice ko L.length kc) L) (hm : L.length <= 281474976710656) : Kp w B ko kc L :=
 ⟨SrG.own h hm, .inr h, fun a e => by
  subst e
  exact ⟨(h.block (k := a.block) rfl).1, ow_ty h (k := a.block) rfl⟩⟩
theorem Kp.cut {w : World} {B : Nat} {ko : Option Addr} {kc : Nat} {L : List Cc} (h : Kp w B ko kc L) {i : Nat} (hi : i <= L.length) : Kp w B (cutG 7 ko L.length i) (L.length - i) (L.drop i) := by
 have hs : SrG KCc w ko L.length L := ⟨h.sr.rd, Nat.le_refl _, fun e => by have := h.sr.nl e; have := h.sr.le; omega⟩
 refine ⟨hs.drop hi, .inl (by simp), fun a e => ?_⟩
 have : ∃ b, ko = some b /\ a.block = b.block := by
  unfold cutG at e
  split at e
  ·exact ⟨a, e, rfl⟩
  ·cases ko with
   | none => cases e
   | some b => simp at e; subst e; exact ⟨b, rfl, add_block b _⟩
 obtain ⟨b, hb, e2⟩ := this
 rw [e2]
 exact h.bl b hb
theorem cut_block {ko : Option Addr} {n i : Nat} {a : Addr} (e : cutG 7 ko n i = some a) : ∃ b, ko = some b /\ a.block = b.block := by
 unfold cutG at e
 split at e
 ·exact ⟨a, e, rfl⟩
 ·cases ko with
  | none => cases e
  | some b => simp at e; subst e; exact ⟨b, rfl, add_block b _⟩
theorem wpList_appK (w : World) {ops : Array Oper} {rest : List Oper} {o : Oper} {a : Act} {Q : Exit -> Act -> World -> Prop} (hgd : o.guard = none) (s x : Operand)
  (hop : o.op = .call { callee := .builtin .append, args := #[s, x], argTypes := #[37, 37] })
  (B g : Nat) (ko : Option Addr) (kc n : Nat) (L : List Cc) (c : Cc) (hn : L.length = n) (hs : a.eval s = .slice ko n kc) (hx : a.eval x = .slice (some ⟨g, 0, none⟩) 1 1) (hk : Kp w B ko kc L) (hr : Ccb w g c) (hl : L.length <= 100000) (hB : B <= w.heap.size)
  (h : ∀ ko' kc' w', Kp w' B ko' kc' (L ++ [c]) -> Fr (fun k => ∃ a, ko = some a /\ a.block = k) w w' -> (∀ a, ko' = some a -> (∃ b, ko = some b /\ b.block = a.block) \/ w.heap.size <= a.block) -> wpList Tryd.prog ops Q rest (a.put o.dst (.slice ko' (n + 1) kc')) w') : wpList Tryd.prog ops Q (o :: rest) a w := by
 subst hn
 have hu := Tryd.underlying37
 have fin : ∀ v, v = Value.slice ko L.length kc -> OwG KCc 36 w B v L -> wpList Tryd.prog ops Q (o :: rest) a w := by
  rintro v rfl ho
  refine wpList_appQ KCc w hgd s x _ hop hu 56 infoCc B g _ L c hs hx ho hr (by omega) (by omega) hB ?_
  intro v' w' ho' hf hb
  obtain ⟨ao, cap, rfl, _⟩ := ho'.slice
  rw [List.length_append, List.length_singleton] at ho' ⊢
  refine h ao cap w' (Kp.own (by rw [List.length_append, List.length_singleton]; exact ho') (by rw [List.length_append, List.length_singleton]; omega)) (hf.mono (fun k _ e => ?_)) (fun ad e => ?_)
  ·cases ko with
   | none => cases e
   | some b => simp [Value.ownBlock] at e; exact ⟨b, rfl, e⟩
  ·subst e
   rcases hb ad.block rfl with e | e
   ·cases ko with
    | none => cases e
    | some b => simp [Value.ownBlock] at e; exact .inl ⟨b, rfl, e⟩
   ·exact .inr e
 rcases hk.ow with e | ho
 ·subst e
  cases ko with
  | none =>
   have h0 := hk.sr.nl rfl
   have : L = [] := List.eq_nil_of_length_eq_zero h0
   subst this
   exact fin _ rfl (OwG.nil w B)
  | some ad =>
   obtain ⟨inf, hi, hz, h1, h2⟩ := infoCc
   have hnews : ∀ j u, (KCc.f c)[j]? = some u -> w.cell? ((⟨g, 0, none⟩ : Addr).add j) = some u := by
    intro j u hj
    rw [add_plain, Nat.zero_add, cell_of_row _ _ _ _ _ _ hr]
    exact (Array.getElem?_toList (xs := kmc c)).symm.trans hj
   have hcap : Builtin.nextslicecap (L.length + 1) L.length * inf.bytes <= 281474976710656 := growslice_fits (by omega) (by rw [h2]; omega)
   have hrun := fun ty => run_append_grow (P := Tryd.prog) w 37 ty 36 inf _ hu hi hz ad L.length L.length (KCc.row L) (by rw [KCc.row_len, h1]) hk.sr.rd.cellsAt ⟨g, 0, none⟩ 1 1 (KCc.f c) (by rw [KCc.len, h1, Nat.one_mul]) hnews (by omega) (by omega) hcap
   have hge := grownCap_ge w (L.length + 1) L.length 36
   have hcm : grownCap w (L.length + 1) L.length 36 <= maxLen := grownCap_le_maxLen w (L.length + 1) L.length _ (by unfold maxLen; omega)
   obtain ⟨cap, ecap⟩ : ∃ cp, grownCap w (L.length + 1) L.length 36 = cp := ⟨_, rfl⟩
   rw [ecap] at hrun hge hcm
   refine wpList_plain hgd fun Kc hK => ?_
   unfold Oper.wp execOp
   simp only [hop, resolve, invoke, builtin, Sem.run_bind, Sem.run_pure, Result.andThen_ok, List.map_toArray, List.map_cons, List.map_nil, hs, hx, hrun]
   refine hK _ _ (h _ _ _ (Kp.own ?_ (by rw [List.length_append, List.length_singleton]; omega)) ⟨rfl, rfl, rfl, by simp, fun k hk _ => heap_alloc_old w.drew _ hk⟩ (fun ad2 e => by cases e; exact .inr (Nat.le_refl _)))
   rw [List.length_append, List.length_singleton]
   unfold OwG
   rw [KCc.row_app, List.length_append, List.length_singleton, show KCc.row [c] = KCc.f c by simp [Kd.row]]
   refine ⟨by rw [List.length_append, KCc.row_len, KCc.len, Nat.succ_mul], .inr ⟨w.heap.size, cap, _, rfl, hB, heap_alloc_new w.drew _, hge, hcm, ?_, ?_⟩⟩
   ·simp only [Array.size_append, List.size_toArray, size_zeroCells, KCc.row_len, KCc.len, Value.cells]
    rw [<- Nat.succ_mul, <- Nat.add_mul]
    congr 1
    omega
   ·simp only [Array.toList_append, List.append_assoc]
    rw [<- List.append_assoc]
    exact List.take_left' (by rw [List.length_append, KCc.row_len, KCc.len, Nat.succ_mul])
 ·exact fin _ rfl ho
def Cnt (D : DataW Value) (mk : Int) (G : List Cc) : Prop := ∀ f, ∃ n : Int, D.atKey (.int .i64 f) (.held (.int .i64 0)) = .held (.int .i64 n) /\ 0 <= n /\ n <= (G.length : Int) /\ (mk < f -> n = ((onN G f : Nat) : Int))
def RI (v : Value) : Option (DataW Value × List MemPlace) := some (.held v, [])
theorem lawI6 : Maps.Keyed Tryd.prog 2 := Maps.int_keyed Tryd.underlying2
theorem keyI6 {k : Int} (h : -9223372036854775808 <= k /\ k <= 9223372036854775807) : keyOf Tryd.prog 2 (.int .i64 k) = some (.int .i64 k) := Maps.keyOf_int_mk Tryd.underlying2 (WalkArith.wf_i64 h)
theorem grown_of {F : Nat -> Prop} {w w' : World} (h : Fr F w w') {b : Nat} (hb : ¬ F b) (hl : b < w.heap.size) {H : Type} {P : Program} {k : TypeId} {R : Value -> Option (DataW H × List MemPlace)} {n : Nat} {D : DataW H} (ho : w.ownsMap P k R b n D) : w'.ownsMap P k R b n D := by
 obtain ⟨es, c, h1, h2⟩ := ho
 exact ⟨es, c, (h.block b hl hb).trans h1, h2⟩
theorem turned_fr {w w' : World} {b : Nat} (h : w.mapTurned w' b) : Fr (fun k => k = b) w w' := by
 have g := h.grown
 exact ⟨g.os, g.tape, g.output, g.size, fun k hk hn => g.block k hk (fun e => hn (by cases e; rfl))⟩
theorem grown_fr {w w' : World} {b : Nat} (g : w.grownBy w' (some b)) : Fr (fun k => k = b) w w' := ⟨g.os, g.tape, g.output, g.size, fun k hk hn => g.block k hk (fun e => hn (by cases e; rfl))⟩
def Mpc (w : World) (mb n : Nat) (mk : Int) (G : List Cc) : Prop := ∃ D : DataW Value, w.ownsMap Tryd.prog 2 RI mb n D /\ Cnt D mk G
theorem Mpc.lt {w : World} {mb n : Nat} {mk : Int} {G : List Cc} (h : Mpc w mb n mk G) : mb < w.heap.size := by
 obtain ⟨D, h, _⟩ := h
 exact h.lt
theorem Mpc.map {w : World} {mb n : Nat} {mk : Int} {G : List Cc} (h : Mpc w mb n mk G) : ∃ es c, w.heap[mb]? = some (.map es c) := by
 obtain ⟨D, ⟨es, c, hb, _⟩, _⟩ := h
 exact ⟨es, c, hb⟩
theorem Mpc.keep {F : Nat -> Prop} {w w' : World} {mb n : Nat} {mk : Int} {G : List Cc} (h : Mpc w mb n mk G) (hf : Fr F w w') (hn : ¬ F mb) : Mpc w' mb n mk G := by
 obtain ⟨D, h1, h2⟩ := h
 exact ⟨D, grown_of hf hn h1.lt h1, h2⟩
abbrev lkc (s : Ln) (ko : Option Addr) (kc mb : Nat) : Array Value := #[.int .u64 s.ss, .int .i64 s.se, .int .i64 s.ot, .int .i64 (s.O.length : Int), .int .i64 (s.ak : Int), .int .i64 ((s.G.length : Int) + 1), .int .i64 s.mq, .bool s.mt, .slice ko (s.O.length - s.ak) kc, .map (some mb)]
structure Lkk (w : World) (B p mb : Nat) (ko : Option Addr) (kc : Nat) (s : Ln) : Prop where
 bk : w.heap[p]? = some (.cells (lkc s ko kc mb) 70 (0, 0))
 kp : Kp w B ko kc (s.O.drop s.ak)
 mp : Mpc w mb s.G.length s.mq s.G
 lp : B <= p
 lm : B <= mb
theorem map_ne {w : World} {a b : Nat} {x : Array Value} {t : TypeId} {es : Array MapEntry} {c : Nat} (ha : w.heap[a]? = some (.cells x t (0, 0))) (hb : w.heap[b]? = some (.map es c)) : a ≠ b := by
 rintro rfl
 rw [ha] at hb
 cases hb
theorem Lkk.lt {w : World} {B p mb : Nat} {ko : Option Addr} {kc : Nat} {s : Ln} (h : Lkk w B p mb ko kc s) : p < w.heap.size /\ mb < w.heap.size := ⟨block_lt h.bk, h.mp.lt⟩
theorem Lkk.ne {w : World} {B p mb : Nat} {ko : Option Addr} {kc : Nat} {s : Ln} (h : Lkk w B p mb ko kc s) : p ≠ mb /\ ∀ a, ko = some a -> a.block ≠ p /\ a.block ≠ mb /\ a.block < w.heap.size := by
 obtain ⟨es, c, hm⟩ := h.mp.map
 refine ⟨map_ne h.bk hm, fun a ha => ?_⟩
 obtain ⟨cur, hc⟩ := (h.kp.bl a ha).2
 exact ⟨ty_ne hc h.bk (by decide), map_ne hc hm, block_lt hc⟩
theorem Lkk.keep {F : Nat -> Prop} {w w' : World} {B p mb : Nat} {ko : Option Addr} {kc : Nat} {s : Ln} (h : Lkk w B p mb ko kc s) (hf : Fr F w w') (h1 : ¬ F p) (h2 : ¬ F mb) (h3 : ∀ a, ko = some a -> ¬ F a.block) : Lkk w' B p mb ko kc s :=
 ⟨hf.kept h.bk h1, h.kp.keep hf h3, h.mp.keep hf h2, h.lp, h.lm⟩
theorem Lkk.still {w w' : World} {B p mb : Nat} {ko : Option Addr} {kc : Nat} {s : Ln} (h : Lkk w B p mb ko kc s) (hs : Still w w') : Lkk w' B p mb ko kc s := h.keep hs (fun e => e) (fun e => e) (fun _ _ e => e)
theorem Lkk.cells {w : World} {B p mb : Nat} {ko : Option Addr} {kc : Nat} {s : Ln} (h : Lkk w B p mb ko kc s) : w.cell? ⟨p, 0, none⟩ = some (.int .u64 s.ss) /\ w.cell? ⟨p, 1, none⟩ = some (.int .i64 s.se) /\ w.cell? ⟨p, 2, none⟩ = some (.int .i64 s.ot) /\ w.cell? ⟨p, 3, none⟩ = some (.int .i64 (s.O.length : Int)) /\ w.cell? ⟨p, 4, none⟩ = some (.int .i64 (s.ak : Int)) /\ w.cell? ⟨p, 5, none⟩ = some (.int .i64 ((s.G.length : Int) + 1)) /\ w.cell? ⟨p, 6, none⟩ = some (.int .i64 s.mq) /\ w.cell? ⟨p, 7, none⟩ = some (.bool s.mt) /\ w.cell? ⟨p, 8, none⟩ = some (.slice ko (s.O.length - s.ak) kc) /\ w.cell? ⟨p, 9, none⟩ = some (.map (some mb)) /\ ∀ o, w.frozen? ⟨p, o, none⟩ = false := by
 refine ⟨?_, ?_, ?_, ?_, ?_, ?_, ?_, ?_, ?_, ?_, fun o => frozen_of_row w p o _ _ h.bk⟩ <;> (rw [cell_of_row _ _ _ _ _ _ h.bk]; rfl)
theorem Lkk.new (w : World) (ss se ot : Int) : Lkk ((w.alloc (.map #[] 0)).alloc (.cells (lkc (zLn ss se ot) none 0 w.heap.size) 70)) w.heap.size (w.heap.size + 1) w.heap.size none 0 (zLn ss se ot) := by
 have h := heap_alloc_new (w.alloc (.map #[] 0)) (.cells (lkc (zLn ss se ot) none 0 w.heap.size) 70)
 rw [size_alloc] at h
 exact ⟨h, Kp.nil _ _, ⟨.map [], (World.ownsMap_made w _ _ _).alloc _, fun f => ⟨0, rfl, by omega, by simp, fun _ => by simp [onN, zLn]⟩⟩, by omega, by omega⟩
end Go.Proofs.YtnbofjaecchnaaaDoor
namespace Go.Proofs.YtnbofjaecchnaaaDoor
open Go.RowKit
open Wp Vp Lp
set_option maxRecDepth 100000
set_option linter.unusedVariables false
set_option linter.unusedSimpArgs false
abbrev setDg (w : World) (g : Nat) (d : Dg) (co : Option Addr) (cn cp : Nat) : World := (((((((w.setCell ⟨g, 0, none⟩ (.int .i64 d.kd)).setCell ⟨g, 1, none⟩ (.int .u64 d.ss)).setCell ⟨g, 2, none⟩ (.int .i64 d.fr)).setCell ⟨g, 3, none⟩ (.int .i64 d.to)).setCell ⟨g, 4, none⟩ (.int .i64 d.mrk)).setCell ⟨g, 5, none⟩ (.int .i64 d.fi)).setCell ⟨g, 6, none⟩ (.slice co cn cp)).setCell ⟨g, 7, none⟩ (.int .i64 d.ak)
theorem Dgb.set {w : World} {g : Nat} {d : Dg} {co : Option Addr} {cn cp : Nat} (h : Dgb w g d co cn cp) (d' : Dg) (co' : Option Addr) (cn' cp' : Nat) : Dgb (setDg w g d' co' cn' cp') g d' co' cn' cp' := by
 unfold Dgb at h ⊢
 have h1 : (w.setCell ⟨g, 0, none⟩ (.int .i64 d'.kd)).heap[g]? = some (.cells #[.int .i64 d'.kd, .int .u64 d.ss, .int .i64 d.fr, .int .i64 d.to, .int .i64 d.mrk, .int .i64 d.fi, .slice co cn cp, .int .i64 d.ak] 39 (0, 0)) := by rw [heap_setCell_same _ g 0 _ _ _ h]; rfl
 have h2 : ((w.setCell ⟨g, 0, none⟩ (.int .i64 d'.kd)).setCell ⟨g, 1, none⟩ (.int .u64 d'.ss)).heap[g]? = some (.cells #[.int .i64 d'.kd, .int .u64 d'.ss, .int .i64 d.fr, .int .i64 d.to, .int .i64 d.mrk, .int .i64 d.fi, .slice co cn cp, .int .i64 d.ak] 39 (0, 0)) := by rw [heap_setCell_same _ g 1 _ _ _ h1]; rfl
 have h3 : (((w.setCell ⟨g, 0, none⟩ (.int .i64 d'.kd)).setCell ⟨g, 1, none⟩ (.int .u64 d'.ss)).setCell ⟨g, 2, none⟩ (.int .i64 d'.fr)).heap[g]? = some (.cells #[.int .i64 d'.kd, .int .u64 d'.ss, .int .i64 d'.fr, .int .i64 d.to, .int .i64 d.mrk, .int .i64 d.fi, .slice co cn cp, .int .i64 d.ak] 39 (0, 0)) := by rw [heap_setCell_same _ g 2 _ _ _ h2]; rfl
 have h4 : ((((w.setCell ⟨g, 0, none⟩ (.int .i64 d'.kd)).setCell ⟨g, 1, none⟩ (.int .u64 d'.ss)).setCell ⟨g, 2, none⟩ (.int .i64 d'.fr)).setCell ⟨g, 3, none⟩ (.int .i64 d'.to)).heap[g]? = some (.cells #[.int .i64 d'.kd, .int .u64 d'.ss, .int .i64 d'.fr, .int .i64 d'.to, .int .i64 d.mrk, .int .i64 d.fi, .slice co cn cp, .int .i64 d.ak] 39 (0, 0)) := by rw [heap_setCell_same _ g 3 _ _ _ h3]; rfl
 have h5 : (((((w.setCell ⟨g, 0, none⟩ (.int .i64 d'.kd)).setCell ⟨g, 1, none⟩ (.int .u64 d'.ss)).setCell ⟨g, 2, none⟩ (.int .i64 d'.fr)).setCell ⟨g, 3, none⟩ (.int .i64 d'.to)).setCell ⟨g, 4, none⟩ (.int .i64 d'.mrk)).heap[g]? = some (.cells #[.int .i64 d'.kd, .int .u64 d'.ss, .int .i64 d'.fr, .int .i64 d'.to, .int .i64 d'.mrk, .int .i64 d.fi, .slice co cn cp, .int .i64 d.ak] 39 (0, 0)) := by rw [heap_setCell_same _ g 4 _ _ _ h4]; rfl
 have h6 : ((((((w.setCell ⟨g, 0, none⟩ (.int .i64 d'.kd)).setCell ⟨g, 1, none⟩ (.int .u64 d'.ss)).setCell ⟨g, 2, none⟩ (.int .i64 d'.fr)).setCell ⟨g, 3, none⟩ (.int .i64 d'.to)).setCell ⟨g, 4, none⟩ (.int .i64 d'.mrk)).setCell ⟨g, 5, none⟩ (.int .i64 d'.fi)).heap[g]? = some (.cells #[.int .i64 d'.kd, .int .u64 d'.ss, .int .i64 d'.fr, .int .i64 d'.to, .int .i64 d'.mrk, .int .i64 d'.fi, .slice co cn cp, .int .i64 d.ak] 39 (0, 0)) := by rw [heap_setCell_same _ g 5 _ _ _ h5]; rfl
 have h7 : (((((((w.setCell ⟨g, 0, none⟩ (.int .i64 d'.kd)).setCell ⟨g, 1, none⟩ (.int .u64 d'.ss)).setCell ⟨g, 2, none⟩ (.int .i64 d'.fr)).setCell ⟨g, 3, none⟩ (.int .i64 d'.to)).setCell ⟨g, 4, none⟩ (.int .i64 d'.mrk)).setCell ⟨g, 5, none⟩ (.int .i64 d'.fi)).setCell ⟨g, 6, none⟩ (.slice co' cn' cp')).heap[g]? = some (.cells #[.int .i64 d'.kd, .int .u64 d'.ss, .int .i64 d'.fr, .int .i64 d'.to, .int .i64 d'.mrk, .int .i64 d'.fi, .slice co' cn' cp', .int .i64 d.ak] 39 (0, 0)) := by rw [heap_setCell_same _ g 6 _ _ _ h6]; rfl
 have h8 : ((((((((w.setCell ⟨g, 0, none⟩ (.int .i64 d'.kd)).setCell ⟨g, 1, none⟩ (.int .u64 d'.ss)).setCell ⟨g, 2, none⟩ (.int .i64 d'.fr)).setCell ⟨g, 3, none⟩ (.int .i64 d'.to)).setCell ⟨g, 4, none⟩ (.int .i64 d'.mrk)).setCell ⟨g, 5, none⟩ (.int .i64 d'.fi)).setCell ⟨g, 6, none⟩ (.slice co' cn' cp')).setCell ⟨g, 7, none⟩ (.int .i64 d'.ak)).heap[g]? = some (.cells #[.int .i64 d'.kd, .int .u64 d'.ss, .int .i64 d'.fr, .int .i64 d'.to, .int .i64 d'.mrk, .int .i64 d'.fi, .slice co' cn' cp', .int .i64 d'.ak] 39 (0, 0)) := by rw [heap_setCell_same _ g 7 _ _ _ h7]; rfl
 exact h8
theorem setDg_fr {F : Nat -> Prop} {x w : World} (h : Fr F x w) (g : Nat) (d : Dg) (co : Option Addr) (cn cp : Nat) (hb : F g \/ x.heap.size <= g) : Fr F x (setDg w g d co cn cp) := (((((((h.setCell _ _ hb).setCell _ _ hb).setCell _ _ hb).setCell _ _ hb).setCell _ _ hb).setCell _ _ hb).setCell _ _ hb).setCell _ _ hb
theorem load_dg (w : World) (g : Nat) (d : Dg) (co : Option Addr) (cn cp : Nat) (c0 : w.cell? ⟨g, 0, none⟩ = some (.int .i64 d.kd)) (c1 : w.cell? ⟨g, 1, none⟩ = some (.int .u64 d.ss)) (c2 : w.cell? ⟨g, 2, none⟩ = some (.int .i64 d.fr)) (c3 : w.cell? ⟨g, 3, none⟩ = some (.int .i64 d.to)) (c4 : w.cell? ⟨g, 4, none⟩ = some (.int .i64 d.mrk)) (c5 : w.cell? ⟨g, 5, none⟩ = some (.int .i64 d.fi)) (c6 : w.cell? ⟨g, 6, none⟩ = some (.slice co cn cp)) (c7 : w.cell? ⟨g, 7, none⟩ = some (.int .i64 d.ak)) :
  (loadVar 39 ⟨g, 0, none⟩).run Tryd.prog w = .ok (dgv d co cn cp) w := by
 go_simp
theorem Dgb.res {fn : Func} {p : Tmp} {w : World} {g : Nat} {d : Dg} {co : Option Addr} {cn cp : Nat} (hb : Dgb w g d co cn cp) (h : fn.results = #[.cell p 39]) (tmps : Array Value) (hp : tmps.getD p undef = .pointer (some ⟨g, 0, none⟩)) :
  (results fn tmps).run Tryd.prog w = .ok (dgv d co cn cp) w := by
 have hp' : tmps[p]?.getD undef = .pointer (some ⟨g, 0, none⟩) := by simpa using hp
 obtain ⟨c0, c1, c2, c3, c4, c5, c6, c7, _⟩ := hb.cells
 simp [results, h, hp', asAddr, load_dg w g d co cn cp c0 c1 c2 c3 c4 c5 c6 c7]
theorem dset4 {w : World} {g : Nat} {d : Dg} {co : Option Addr} {cn cp : Nat} (h : Dgb w g d co cn cp) (m : Int) : Dgb (w.setCell ⟨g, 4, none⟩ (.int .i64 m)) g ⟨d.kd, d.ss, d.fr, d.to, m, d.fi, d.cs, d.ak⟩ co cn cp := by
 unfold Dgb; rw [heap_setCell_same _ g 4 _ _ _ h]; rfl
theorem dset5 {w : World} {g : Nat} {d : Dg} {co : Option Addr} {cn cp : Nat} (h : Dgb w g d co cn cp) (m : Int) : Dgb (w.setCell ⟨g, 5, none⟩ (.int .i64 m)) g ⟨d.kd, d.ss, d.fr, d.to, d.mrk, m, d.cs, d.ak⟩ co cn cp := by
 unfold Dgb; rw [heap_setCell_same _ g 5 _ _ _ h]; rfl
theorem dset6 {w : World} {g : Nat} {d : Dg} {co : Option Addr} {cn cp : Nat} (h : Dgb w g d co cn cp) (L : List Cc) (co' : Option Addr) (cn' cp' : Nat) : Dgb (w.setCell ⟨g, 6, none⟩ (.slice co' cn' cp')) g ⟨d.kd, d.ss, d.fr, d.to, d.mrk, d.fi, L, d.ak⟩ co' cn' cp' := by
 unfold Dgb; rw [heap_setCell_same _ g 6 _ _ _ h]; rfl
theorem dset7 {w : World} {g : Nat} {d : Dg} {co : Option Addr} {cn cp : Nat} (h : Dgb w g d co cn cp) (m : Int) : Dgb (w.setCell ⟨g, 7, none⟩ (.int .i64 m)) g ⟨d.kd, d.ss, d.fr, d.to, d.mrk, d.fi, d.cs, m⟩ co cn cp := by
 unfold Dgb; rw [heap_setCell_same _ g 7 _ _ _ h]; rfl
def stB (n : Int) : Bool := decide (0 <= n) && decide (n < 6)
theorem lseat_any (n : Int) (w : World) : Calls Tryd.prog 34 #[.int .i64 n] w fun e w' => e = .returned (.bool (stB n)) /\ w' = w := by
 by_cases h1 : 0 <= n
 ·by_cases h2 : n < 6
  ·rw [show stB n = true by simp [stB]; omega]
   go_enter Tryd.func34, Tryd.ntmps34
   go_wp2_with fail
   go_ret
   exact ⟨rfl, rfl⟩
  ·rw [show stB n = false by simp [stB]; omega]
   go_enter Tryd.func34, Tryd.ntmps34
   go_wp2_with fail
   go_ret
   exact ⟨rfl, rfl⟩
 ·rw [show stB n = false by simp [stB]; omega]
  go_enter Tryd.func34, Tryd.ntmps34
  go_wp2_with fail
  go_ret
  exact ⟨rfl, rfl⟩
def mayN (se ot : Int) : Bool := stB se && (stB ot && !(se == ot))
theorem mayN_iff {se ot : Int} : mayN se ot = true ↔ (0 <= se /\ se <= 5) /\ (0 <= ot /\ ot <= 5) /\ se ≠ ot := by
 unfold mayN stB
 simp only [Bool.and_eq_true, decide_eq_true_eq, Bool.not_eq_true', beq_eq_false_iff_ne]
 constructor
 ·rintro ⟨⟨a, b⟩, ⟨c, d⟩, e⟩; exact ⟨⟨a, by omega⟩, ⟨c, by omega⟩, e⟩
 ·rintro ⟨⟨a, b⟩, ⟨c, d⟩, e⟩; exact ⟨⟨a, by omega⟩, ⟨c, by omega⟩, e⟩
theorem lnew_no (ss se ot : Int) (h : mayN se ot = false) (w : World) : Calls Tryd.prog 13 #[.int .u64 ss, .int .i64 se, .int .i64 ot] w fun e w' => e = .returned (.tuple #[.pointer none, .int .i64 1]) /\ w' = w := by
 have H0 := hid (fun w => lseat_any se w)
 have H1 := hid (fun w => lseat_any ot w)
 unfold mayN at h
 obtain ⟨b0, e0⟩ : ∃ b, stB se = b := ⟨_, rfl⟩
 obtain ⟨b1, e1⟩ : ∃ b, stB ot = b := ⟨_, rfl⟩
 rw [e0, e1] at h
 rw [e0] at H0
 rw [e1] at H1
 clear e0 e1
 cases b0 with
 | false =>
  clear h
  go_enter Tryd.func13, Tryd.ntmps13
  go_wp2_with fail
  refine (H0.out _).mono ?_
  rintro e w1 ⟨rfl, rfl⟩
  go_wp2_with fail
  go_ret2
  exact ⟨rfl, rfl⟩
 | true =>
  cases b1 with
  | false =>
   clear h
   go_enter Tryd.func13, Tryd.ntmps13
   go_wp2_with fail
   refine (H0.out _).mono ?_
   rintro e w1 ⟨rfl, rfl⟩
   go_wp2_with fail
   refine (H1.out _).mono ?_
   rintro e w2 ⟨rfl, rfl⟩
   go_wp2_with fail
   go_ret2
   exact ⟨rfl, rfl⟩
  | true =>
   have h : (se == ot) = true := by simpa using h
   go_enter Tryd.func13, Tryd.ntmps13
   go_wp2_with fail
   refine (H0.out _).mono ?_
   rintro e w1 ⟨rfl, rfl⟩
   go_wp2_with fail
   refine (H1.out _).mono ?_
   rintro e w2 ⟨rfl, rfl⟩
   go_wp2_with fail
   go_ret2
   exact ⟨rfl, rfl⟩
theorem lnew_yes (ss se ot : Int) (h : mayN se ot = true) (w : World) : Calls Tryd.prog 13 #[.int .u64 ss, .int .i64 se, .int .i64 ot] w fun e w' => ∃ p mb, e = .returned (.tuple #[.pointer (some ⟨p, 0, none⟩), .int .i64 0]) /\ Lkk w' w.heap.size p mb none 0 (zLn ss se ot) /\ Still w w' := by
 have H0 := hid (fun w => lseat_any se w)
 have H1 := hid (fun w => lseat_any ot w)
 have hmm := @run_makeMap Tryd.prog
 have HB := hid (Lkk.new w ss se ot)
 have HS := hid ((Still.alloc w (.map #[] 0)).trans (Still.alloc _ (.cells (lkc (zLn ss se ot) none 0 w.heap.size) 70)))
 unfold mayN at h
 simp only [Bool.and_eq_true, Bool.not_eq_true'] at h
 obtain ⟨e0, e1, e2⟩ := h
 rw [e0] at H0
 rw [e1] at H1
 clear e0 e1
 go_enter Tryd.func13, Tryd.ntmps13
 go_wp2_with fail
 refine (H0.out _).mono ?_
 rintro e w1 ⟨rfl, rfl⟩
 go_wp2_with fail
 refine (H1.out _).mono ?_
 rintro e w2 ⟨rfl, rfl⟩
 go_wp2_with fail
 go_ret2
 exact ⟨_, _, rfl, HB.out, HS.out⟩
/-! State -/
abbrev lsc (s : Ln) : Array Value := #[.int .i64 (s.O.length : Int), .int .i64 (s.ak : Int), .int .i64 ((s.G.length : Int) + 1), .int .i64 s.mq, .bool s.mt]
abbrev lsv (s : Ln) : Value := .agg (lsc s)
def Lsb (w : World) (g : Nat) (s : Ln) : Prop := w.heap[g]? = some (.cells (lsc s) 44 (0, 0))
theorem Lsb.res {fn : Func} {p : Tmp} {w : World} {g : Nat} {s : Ln} (hb : Lsb w g s) (h : fn.results = #[.cell p 44]) (tmps : Array Value) (hp : tmps.getD p undef = .pointer (some ⟨g, 0, none⟩)) :
  (results fn tmps).run Tryd.prog w = .ok (lsv s) w := by
 have hp' : tmps[p]?.getD undef = .pointer (some ⟨g, 0, none⟩) := by simpa using hp
 have c0 : w.cell? ⟨g, 0, none⟩ = some (.int .i64 (s.O.length : Int)) := by rw [cell_of_row _ _ _ _ _ _ hb]; rfl
 have c1 : w.cell? ⟨g, 1, none⟩ = some (.int .i64 (s.ak : Int)) := by rw [cell_of_row _ _ _ _ _ _ hb]; rfl
 have c2 : w.cell? ⟨g, 2, none⟩ = some (.int .i64 ((s.G.length : Int) + 1)) := by rw [cell_of_row _ _ _ _ _ _ hb]; rfl
 have c3 : w.cell? ⟨g, 3, none⟩ = some (.int .i64 s.mq) := by rw [cell_of_row _ _ _ _ _ _ hb]; rfl
 have c4 : w.cell? ⟨g, 4, none⟩ = some (.bool s.mt) := by rw [cell_of_row _ _ _ _ _ _ hb]; rfl
 have hl : (loadVar 44 ⟨g, 0, none⟩).run Tryd.prog w = .ok (lsv s) w := by go_simp
 simp [results, h, hp', asAddr, hl]
set_option maxHeartbeats 1000000 in
theorem lstate_any (p : Nat) (ko : Option Addr) (kc mb B : Nat) (s : Ln) (w : World) (h : Lkk w B p mb ko kc s) : Calls Tryd.prog 7 #[.pointer (some ⟨p, 0, none⟩)] w fun e w' => e = .returned (lsv s) /\ Still w w' := by
 have A0 := Still.alloc w (.cells #[.int .i64 0, .int .i64 0, .int .i64 0, .int .i64 0, .bool false] 44)
 obtain ⟨c0, c1, c2, c3, c4, c5, c6, c7, c8, c9, cf⟩ := (h.still A0).cells
 obtain ⟨g, eg⟩ : ∃ g, w.heap.size = g := ⟨_, rfl⟩
 have hg := heap_alloc_new w (.cells #[.int .i64 0, .int .i64 0, .int .i64 0, .int .i64 0, .bool false] 44)
 have hpg : p ≠ g := by have := h.lt.1; omega
 obtain ⟨W, eW⟩ : ∃ W, w.alloc (.cells #[.int .i64 0, .int .i64 0, .int .i64 0, .int .i64 0, .bool false] 44) = W := ⟨_, rfl⟩
 rw [eW] at A0 c0 c1 c2 c3 c4 c5 c6 c7 c8 c9 cf hg
 rw [eg] at hg
 have HS := hid A0
 have HG : Hid (w.heap.size = g) := hid eg
 have HP : Hid (Lsb (W.setCells g 0 (lsc s).toList) g s) := hid (heap_setCells g 44 (lsc s).toList 0 #[.int .i64 0, .int .i64 0, .int .i64 0, .int .i64 0, .bool false] W hg (by simp))
 have HF : Hid (Still w (W.setCells g 0 (lsc s).toList)) := hid (fr_setCells g _ 0 W HS.out (.inr (by omega)))
 have d0 : W.cell? ⟨g, 0, none⟩ = some (.int .i64 0) := by rw [cell_of_row _ _ _ _ _ _ hg]; rfl
 have d1 : W.cell? ⟨g, 1, none⟩ = some (.int .i64 0) := by rw [cell_of_row _ _ _ _ _ _ hg]; rfl
 have d2 : W.cell? ⟨g, 2, none⟩ = some (.int .i64 0) := by rw [cell_of_row _ _ _ _ _ _ hg]; rfl
 have d3 : W.cell? ⟨g, 3, none⟩ = some (.int .i64 0) := by rw [cell_of_row _ _ _ _ _ _ hg]; rfl
 have d4 : W.cell? ⟨g, 4, none⟩ = some (.bool false) := by rw [cell_of_row _ _ _ _ _ _ hg]; rfl
 have df := fun o => frozen_of_row W g o _ _ hg
 clear A0 h hg
 go_enter Tryd.func7, Tryd.ntmps7
 go_wp2_with fail
 refine bodyPost_ret (HP.out.res rfl _ rfl) rfl ?_
 exact ⟨rfl, HF.out⟩
end Go.Proofs.YtnbofjaecchnaaaDoor
namespace Go.Proofs.YtnbofjaecchnaaaDoor
open Go.RowKit
open Wp Vp Lp
set_option maxRecDepth 100000
set_option linter.unusedVariables false
set_option linter.unusedSimpArgs false
theorem run_lhm (ao : Option Addr) (n cap i : Nat) (hi : i <= n) (hc : n <= cap) (w : World) : (Instr.slice 37 (.slice ao n cap) (some (.int .i64 (i : Int))) (some (.int .i64 (n : Int))) (some (.int .i64 (n : Int)))).run Tryd.prog w = .ok (.slice (cutG 7 ao n i) (n - i) (n - i)) w := by
 have hu := Tryd.underlying37
 have ht' : Tryd.prog.underlying 37 = some (.slice (Tryd.prog.elem 37)) := by simp [Program.elem, hu]
 have he : Tryd.prog.elem 37 = 36 := by simp [Program.elem, hu]
 rw [run_slice_lhm w 37 ao n cap ht' .i64 .i64 .i64 (i : Int) (n : Int) (n : Int) (by omega) (by omega) (by omega) (by omega), he]
 obtain ⟨inf, h1, _, h2, _⟩ := infoCc
 simp [sizeOf, typeInfo, h1, h2, Result.andThen, sliced, cutG, KCc]
theorem lfrom_any (ao : Option Addr) (n cap i : Nat) (hi : i <= n) (hc : n <= cap) (w : World) : Calls Tryd.prog 40 #[.slice ao n cap, .int .i64 (i : Int)] w fun e w' => e = .returned (.slice (cutG 7 ao n i) (n - i) (n - i)) /\ w' = w := by
 have hrun := fun W => run_lhm ao n cap i hi hc W
 obtain ⟨v, ev⟩ : ∃ v, Value.slice (cutG 7 ao n i) (n - i) (n - i) = v := ⟨_, rfl⟩
 rw [ev] at hrun ⊢
 clear ev
 go_enter Tryd.func40, Tryd.ntmps40
 go_wp2_with fail
 go_ret
 exact ⟨rfl, rfl⟩
theorem lcop_any (ao : Option Addr) (n cap : Nat) (L : List Cc) (hn : L.length = n) (hl : n <= 100000) (w : World) (hr : SrG KCc w ao cap L) : Calls Tryd.prog 25 #[.slice ao n cap] w fun e w' => ∃ ao' cap', e = .returned (.slice ao' n cap') /\ OwG KCc 36 w' w.heap.size (.slice ao' n cap') L /\ Still w w' := by
 have HR := hid hr
 have HN := hid hn
 clear hr hn
 go_enter Tryd.func25, Tryd.ntmps25
 go_wp2_with (at_builtin; refine wpList_appMG KCc _ rfl _ _ _ rfl Tryd.underlying37 56 _ (by rfl) infoCc w.heap.size _ [] L ao n cap rfl rfl HN.out (OwG.nil _ _) HR.out (by simp [HN.out]; omega) (by simp [HN.out]; omega) (Nat.le_refl _) ?_; intro v' w' ho' hf')
 rw [List.nil_append] at ho'
 obtain ⟨ao', cap', e, _⟩ := ho'.slice
 subst e
 have HO := hid ho'
 have HS : Hid (Still w w') := hid (hf'.mono (fun k _ e => by cases e))
 clear ho' hf'
 go_ret
 refine ⟨ao', cap', ?_, ?_, HS.out⟩
 ·rw [<- HN.out]; rfl
 ·have := HO.out; rw [HN.out] at this; exact this
def abI (s : Ln) (k : Int) : Nat := (max (k - (s.ak : Int)) 0).toNat
set_option maxHeartbeats 1000000 in
theorem labove_any (p : Nat) (ko : Option Addr) (kc mb B : Nat) (s : Ln) (k : Int) (hk : 0 <= k /\ k <= 1152921504606846976) (hi : abI s k <= s.O.length - s.ak) (ha : s.ak <= 1152921504606846976) (w : World) (h : Lkk w B p mb ko kc s) : Calls Tryd.prog 26 #[.pointer (some ⟨p, 0, none⟩), .int .i64 k] w fun e w' => e = .returned (.slice (cutG 7 ko (s.O.length - s.ak) (abI s k)) (s.O.length - s.ak - abI s k) (s.O.length - s.ak - abI s k)) /\ Still w w' := by
 obtain ⟨c0, c1, c2, c3, c4, c5, c6, c7, c8, c9, cf⟩ := h.cells
 have q4 := Cl.cell c4
 have q8 := Cl.cell c8
 have hne := Aft.here w
 have hle : s.O.length - s.ak <= kc := by have := h.kp.sr.le; rw [List.length_drop] at this; exact this
 have HC := hid (fun W => lfrom_any ko (s.O.length - s.ak) kc (abI s k) hi hle W)
 have hw : IntKind.i64.wrap (k - (s.ak : Int)) = k - (s.ak : Int) := wr64 (by omega) (by omega)
 have hm : max (k - (s.ak : Int)) 0 = (abI s k : Int) := by unfold abI; omega
 obtain ⟨i, ei⟩ : ∃ i, abI s k = i := ⟨_, rfl⟩
 rw [ei] at HC hm ⊢
 clear ei hi h hle
 go_enter Tryd.func26, Tryd.ntmps26
 go_wp2_with fail
 refine region_all (by kernel_rfl) (by kernel_rfl) ?_
 repeat (go_big_quiet_step ((go_at_call 40; exact Calls.cl_same (HC.out _))))
 refine wpQuiet_nil ?_
 intro w3 h3
 go_wp2_with fail
 go_ret
 exact ⟨rfl, h3⟩
def datD (s : Ln) (k : Int) : Dg := ⟨k, s.ss, s.se, s.ot, 0, 0, [], (s.G.length : Int)⟩
set_option maxHeartbeats 1000000 in
theorem ldat_any (p : Nat) (ko : Option Addr) (kc mb B : Nat) (s : Ln) (k : Int) (hg : s.G.length <= 1099511627776) (w : World) (h : Lkk w B p mb ko kc s) : Calls Tryd.prog 24 #[.pointer (some ⟨p, 0, none⟩), .int .i64 k] w fun e w' => e = .returned (dgv (datD s k) none 0 0) /\ Still w w' := by
 have A0 := Still.alloc w (.cells (dgc zD none 0 0) 39)
 have p0 := newDg_b w zD none 0 0
 obtain ⟨c0, c1, c2, c3, c4, c5, c6, c7, c8, c9, cf⟩ := (h.still A0).cells
 obtain ⟨g, eg⟩ : ∃ g, w.heap.size = g := ⟨_, rfl⟩
 obtain ⟨W, eW⟩ : ∃ W, newDg w zD none 0 0 = W := ⟨_, rfl⟩
 have HS : Hid (Still w W) := hid (by rw [<- eW]; exact A0)
 have HG : Hid (w.heap.size = g) := hid eg
 have HP : Hid (Dgb W g zD none 0 0) := hid (by rw [<- eW, <- eg]; exact p0)
 have hpg : p ≠ g := by have := h.lt.1; omega
 have c0 : W.cell? ⟨p, 0, none⟩ = some (.int .u64 s.ss) := by rw [<- eW]; exact c0
 have c1 : W.cell? ⟨p, 1, none⟩ = some (.int .i64 s.se) := by rw [<- eW]; exact c1
 have c2 : W.cell? ⟨p, 2, none⟩ = some (.int .i64 s.ot) := by rw [<- eW]; exact c2
 have c5 : W.cell? ⟨p, 5, none⟩ = some (.int .i64 ((s.G.length : Int) + 1)) := by rw [<- eW]; exact c5
 have q0 := Cl.cell c0
 have q1 := Cl.cell c1
 have q2 := Cl.cell c2
 have q5 := Cl.cell c5
 have hne := Aft.here W
 have hw : IntKind.i64.wrap ((s.G.length : Int) + 1 - 1) = (s.G.length : Int) := by rw [show (s.G.length : Int) + 1 - 1 = (s.G.length : Int) by omega]; exact wr64 (by omega) (by omega)
 simp only [newDg, zD] at eW
 clear A0 p0 h c0 c1 c2 c3 c4 c5 c6 c7 c8 c9 cf
 go_enter Tryd.func24, Tryd.ntmps24
 go_wp2_with fail
 refine region_rest 20 (by kernel_rfl) (by kernel_rfl) ?_
 simp only [List.take_succ_cons, List.take_zero, List.drop_succ_cons, List.drop_zero]
 repeat (go_big_quiet_step (rfl))
 refine wpQuiet_nil ?_
 intro w3 h3
 have hp3 := HP.out.still h3
 have HP3 := hid (hp3.set (datD s k) none 0 0)
 have HF3 : Hid (Still w (setDg w3 g (datD s k) none 0 0)) := hid (setDg_fr (HS.out.trans h3) _ _ _ _ _ (.inr (by rw [HG.out]; exact Nat.le_refl _)))
 obtain ⟨d0, d1, d2, d3, d4, d5, d6, d7, df⟩ := hp3.cells
 clear h3 hp3 eW q0 q1 q2 q5 hne HP HS
 go_wp2_with fail
 refine bodyPost_ret (HP3.out.res rfl _ rfl) rfl ?_
 exact ⟨rfl, HF3.out⟩
end Go.Proofs.YtnbofjaecchnaaaDoor
namespace Go.Proofs.YtnbofjaecchnaaaDoor
open Go.RowKit
open Wp Vp Lp
set_option maxRecDepth 100000
set_option linter.unusedVariables false
set_option linter.unusedSimpArgs false
set_option maxHeartbeats 1000000 in
theorem lack_any (p : Nat) (ko : Option Addr) (kc mb B : Nat) (s : Ln) (hg : s.G.length <= 1099511627776) (w : World) (h : Lkk w B p mb ko kc s) : Calls Tryd.prog 20 #[.pointer (some ⟨p, 0, none⟩)] w fun e w' => e = .returned (dgv (ackD s) none 0 0) /\ Still w w' := by
 have A0 := Still.alloc w (.cells (dgc zD none 0 0) 39)
 have p0 := newDg_b w zD none 0 0
 obtain ⟨g, eg⟩ : ∃ g, w.heap.size = g := ⟨_, rfl⟩
 have HC := hid (ldat_any p ko kc mb B s 2 hg _ (h.still A0))
 have HS := hid A0
 have HP := hid p0
 have HG : Hid (w.heap.size = g) := hid eg
 unfold newDg at HP
 obtain ⟨W, eW⟩ : ∃ W, w.alloc (.cells (dgc zD none 0 0) 39) = W := ⟨_, rfl⟩
 rw [eW] at HC HS HP
 rw [eg] at HP
 simp only [zD] at eW
 clear A0 p0 h
 go_enter Tryd.func20, Tryd.ntmps20
 go_wp2_with fail
 refine HC.out.mono ?_
 rintro e w3 ⟨he, h3⟩
 rw [he]
 have hp3 := HP.out.still h3
 have HP3 : Hid (Dgb (setDg w3 g (datD s 2) none 0 0) g (ackD s) none 0 0) := hid (hp3.set (datD s 2) none 0 0)
 have HF3 : Hid (Still w (setDg w3 g (datD s 2) none 0 0)) := hid (setDg_fr (HS.out.trans h3) _ _ _ _ _ (.inr (by rw [HG.out]; exact Nat.le_refl _)))
 obtain ⟨d0, d1, d2, d3, d4, d5, d6, d7, df⟩ := hp3.cells
 clear h3 hp3 eW he HC HP HS
 go_wp2_with fail
 refine bodyPost_ret (HP3.out.res rfl _ rfl) rfl ?_
 exact ⟨rfl, HF3.out⟩
theorem Dgb.keepD {F : Nat -> Prop} {w w' : World} {g : Nat} {d : Dg} {co : Option Addr} {cn cp : Nat} (h : Dgb w g d co cn cp) (hf : Fr F w w') (hn : ¬ F g) : Dgb w' g d co cn cp := hf.kept h hn
theorem abI_self (s : Ln) : abI s (s.ak : Int) = 0 := by unfold abI; omega
theorem clp_mm (m : Int) : min (max m 0) 1099511627776 = clp m := by
 unfold clp
 split
 ·omega
 ·split <;> omega
set_option maxHeartbeats 4000000 in
theorem lturn_any (p : Nat) (ko : Option Addr) (kc mb B : Nat) (s : Ln) (m : Int) (hg : s.G.length <= 1099511627776) (ha : s.ak <= 1152921504606846976) (hl : s.O.length - s.ak <= 336) (hal : s.ak <= s.O.length) (w : World) (h : Lkk w B p mb ko kc s) : Calls Tryd.prog 8 #[.pointer (some ⟨p, 0, none⟩), .int .i64 m] w fun e w' => ∃ co cp, e = .returned (dgv (turD s m) co (s.O.length - s.ak) cp) /\ OwG KCc 36 w' w.heap.size (.slice co (s.O.length - s.ak) cp) (s.O.drop s.ak) /\ Still w w' := by
 have A0 := Still.alloc w (.cells (dgc zD none 0 0) 39)
 have p0 := newDg_b w zD none 0 0
 obtain ⟨g, eg⟩ : ∃ g, w.heap.size = g := ⟨_, rfl⟩
 have HC := hid (ldat_any p ko kc mb B s 1 hg _ (h.still A0))
 have HS := hid A0
 have HP := hid p0
 have HG : Hid (w.heap.size = g) := hid eg
 have HL := hid (h.still A0)
 unfold newDg at HP
 obtain ⟨W, eW⟩ : ∃ W, w.alloc (.cells (dgc zD none 0 0) 39) = W := ⟨_, rfl⟩
 rw [eW] at HC HS HP HL
 rw [eg] at HP
 simp only [zD] at eW
 clear A0 p0 h
 go_enter Tryd.func8, Tryd.ntmps8
 go_wp2_with fail
 refine HC.out.mono ?_
 rintro e w3 ⟨he, h3⟩
 rw [he]
 -- the variable d
 have A1 := Still.alloc w3 (.cells (dgc zD none 0 0) 39)
 have p1 := newDg_b w3 zD none 0 0
 obtain ⟨g2, eg2⟩ : ∃ g, w3.heap.size = g := ⟨_, rfl⟩
 unfold newDg at p1
 obtain ⟨W1, eW1⟩ : ∃ W, w3.alloc (.cells (dgc zD none 0 0) 39) = W := ⟨_, rfl⟩
 rw [eW1] at A1 p1
 rw [eg2] at p1
 have hgg : g < g2 := by have := h3.size; have := HS.out.size; have := block_lt HP.out; omega
 obtain ⟨d0, d1, d2, d3, d4, d5, d6, d7, df⟩ := p1.cells
 have p2 := p1.set (datD s 1) none 0 0
 have f2 : Fr (fun k => k = g2) W1 (setDg W1 g2 (datD s 1) none 0 0) := setDg_fr (Fr.refl _ _) _ _ _ _ _ (.inl rfl)
 obtain ⟨W2, eW2⟩ : ∃ W, setDg W1 g2 (datD s 1) none 0 0 = W := ⟨_, rfl⟩
 rw [eW2] at p2 f2
 have p3 := dset4 p2 (clp m)
 have f3 : Fr (fun k => k = g2) W1 (W2.setCell ⟨g2, 4, none⟩ (.int .i64 (clp m))) := Fr.setCell f2 _ _ (.inl rfl)
 obtain ⟨e0, e1, e2, e3, e4, e5, e6, e7, ef⟩ := p2.cells
 obtain ⟨W3, eW3⟩ : ∃ W, W2.setCell ⟨g2, 4, none⟩ (.int .i64 (clp m)) = W := ⟨_, rfl⟩
 rw [eW3] at p3 f3
 have p4 := dset5 p3 ((s.ak : Int) + 1)
 have f4 : Fr (fun k => k = g2) W1 (W3.setCell ⟨g2, 5, none⟩ (.int .i64 ((s.ak : Int) + 1))) := Fr.setCell f3 _ _ (.inl rfl)
 obtain ⟨i0, i1, i2, i3, i4, i5, i6, i7, iF⟩ := p3.cells
 obtain ⟨W4, eW4⟩ : ∃ W, W3.setCell ⟨g2, 5, none⟩ (.int .i64 ((s.ak : Int) + 1)) = W := ⟨_, rfl⟩
 rw [eW4] at p4 f4
 obtain ⟨j0, j1, j2, j3, j4, j5, j6, j7, jF⟩ := p4.cells
 have L1 := (HL.out.still h3).still A1
 have hpl := L1.lt
 have hlk : ∀ V, Fr (fun k => k = g2) W1 V -> Lkk V B p mb ko kc s := fun V hV => L1.keep hV (fun e => by have := (HL.out.still h3).lt.1; omega) (fun e => by have := (HL.out.still h3).lt.2; omega) (fun a ha e => by have := ((HL.out.still h3).ne.2 a ha).2.2; omega)
 have k4 := (hlk W3 f3).cells.2.2.2.2.1
 have k5 := (hlk W4 f4).cells.2.2.2.2.1
 have HA := hid (labove_any p ko kc mb B s (s.ak : Int) ⟨by omega, by omega⟩ (by rw [abI_self]; omega) ha W4 (hlk W4 f4))
 rw [abI_self, Nat.sub_zero] at HA
 have hsr := ((hlk W4 f4).kp.cut (i := 0) (Nat.zero_le _)).sr
 rw [List.length_drop, List.drop_zero, Nat.sub_zero] at hsr
 have HR := hid hsr
 have HP4 := hid p4
 have HP0 := hid ((((HP.out.still h3).still A1)))
 have HF4 := hid f4
 have HS1 := hid ((HS.out.trans h3).trans A1)
 have HA1 := hid A1
 have HGG := hid hgg
 have HG2 := hid eg2
 have hmm := clp_mm m
 have hw : IntKind.i64.wrap ((s.ak : Int) + 1) = (s.ak : Int) + 1 := wr64 (by omega) (by omega)
 simp only [zD] at eW1
 simp only [setDg] at eW2
 have HLn : Hid ((s.O.drop s.ak).length = s.O.length - s.ak) := hid (List.length_drop ..)
 obtain ⟨c, ec⟩ : ∃ c, clp m = c := ⟨_, rfl⟩
 rw [ec] at hmm eW3 HP4
 have HCl := hid ec
 clear ec he HC A1 p1 p2 f2 p3 f3 p4 f4 L1 hpl hlk hsr h3 HP HS HL eW hgg
 go_upto_region 3 with fail
 clear d0 d1 d2 d3 d4 d5 d6 d7 df eW1 eW2
 go_upto_region 4 with fail
 clear e0 e1 e2 e3 e4 e5 e6 e7 ef eW3 i0 i1 i2 i3 i4 i5 i6 i7 iF eW4 k4
 go_wp2_with fail
 refine HA.out.mono ?_
 rintro e w5 ⟨he, h5⟩
 rw [he]
 have HB := hid (lcop_any (cutG 7 ko (s.O.length - s.ak) 0) (s.O.length - s.ak) (s.O.length - s.ak) (s.O.drop s.ak) HLn.out (by omega) w5 (HR.out.still h5))
 have HS5 := hid h5
 clear he h5 HA HR
 go_wp2_with fail
 refine HB.out.mono ?_
 rintro e w6 ⟨co, cp, he, ho6, h6⟩
 rw [he]
 have HS6 := hid (HS5.out.trans h6)
 have q6 := HP4.out.still HS6.out
 have z6 : Dgb w6 g zD none 0 0 := ((HP0.out.keepD HF4.out (by have := HGG.out; omega))).still HS6.out
 obtain ⟨d0, d1, d2, d3, d4, d5, d6, d7, df⟩ := q6.cells
 have q7 := dset6 q6 (s.O.drop s.ak) co (s.O.length - s.ak) cp
 have f7 : Fr (fun k => k = g2) w6 (w6.setCell ⟨g2, 6, none⟩ (.slice co (s.O.length - s.ak) cp)) := Fr.setCell (Fr.refl _ _) _ _ (.inl rfl)
 have z7 := z6.keepD f7 (by have := HGG.out; omega)
 have hog : (Value.slice co (s.O.length - s.ak) cp).ownBlock ≠ some g2 := fun e => by
  have := (ho6.block e).1
  have := block_lt HP4.out
  have := HS5.out.size
  omega
 have o7 := ho6.keep f7 (fun k hk e => hog (by rw [e, hk]))
 obtain ⟨W7, eW7⟩ : ∃ W, w6.setCell ⟨g2, 6, none⟩ (.slice co (s.O.length - s.ak) cp) = W := ⟨_, rfl⟩
 rw [eW7] at q7 f7 z7 o7
 obtain ⟨e0, e1, e2, e3, e4, e5, e6, e7, ef⟩ := q7.cells
 obtain ⟨i0, i1, i2, i3, i4, i5, i6, i7, iF⟩ := z7.cells
 have HE : Hid (turD s m = ⟨(datD s 1).kd, (datD s 1).ss, (datD s 1).fr, (datD s 1).to, c, (s.ak : Int) + 1, s.O.drop s.ak, (datD s 1).ak⟩) := hid (by unfold turD datD; rw [HCl.out])
 have HZ8 := hid (z7.set ⟨(datD s 1).kd, (datD s 1).ss, (datD s 1).fr, (datD s 1).to, c, (s.ak : Int) + 1, s.O.drop s.ak, (datD s 1).ak⟩ co (s.O.length - s.ak) cp)
 have hogz : (Value.slice co (s.O.length - s.ak) cp).ownBlock ≠ some g := fun e => by
  have := (ho6.block e).1
  have := HGG.out
  have := block_lt HP4.out
  have := HS5.out.size
  omega
 have f8 : Fr (fun k => k = g) W7 (setDg W7 g ⟨(datD s 1).kd, (datD s 1).ss, (datD s 1).fr, (datD s 1).to, c, (s.ak : Int) + 1, s.O.drop s.ak, (datD s 1).ak⟩ co (s.O.length - s.ak) cp) := setDg_fr (Fr.refl _ _) _ _ _ _ _ (.inl rfl)
 have HO8 := hid ((o7.keep f8 (fun k hk e => hogz (by rw [e, hk]))).less (B' := w.heap.size) (by have := HS1.out.size; have := HF4.out.size; have := HS5.out.size; omega))
 have HS8 : Hid (Still w (setDg W7 g ⟨(datD s 1).kd, (datD s 1).ss, (datD s 1).fr, (datD s 1).to, c, (s.ak : Int) + 1, s.O.drop s.ak, (datD s 1).ak⟩ co (s.O.length - s.ak) cp)) := hid (by
  have s4 : Still w W4 := Fr.trans HS1.out HF4.out (fun k hk e => by have := HG.out; have := HGG.out; omega)
  have s7 : Still w W7 := Fr.trans (s4.trans HS6.out) f7 (fun k hk e => by have := HG.out; have := HGG.out; omega)
  exact setDg_fr s7 _ _ _ _ _ (.inr (by have := HG.out; omega)))
 clear he ho6 h6 q6 z6 q7 f7 z7 hog o7 hogz f8 HB HS5 HS6 HP4 HP0 HF4 j0 j1 j2 j3 j4 j5 j6 j7 jF k5
 go_upto_region 5 with fail
 clear d0 d1 d2 d3 d4 d5 d6 d7 df eW7
 go_wp2_with fail
 refine bodyPost_ret (HZ8.out.res rfl _ rfl) rfl ?_
 exact ⟨co, cp, by rw [HE.out], HO8.out, HS8.out⟩
end Go.Proofs.YtnbofjaecchnaaaDoor
namespace Go.Proofs.YtnbofjaecchnaaaDoor
open Go.RowKit
open Wp Vp Lp
set_option maxRecDepth 100000
set_option linter.unusedVariables false
set_option linter.unusedSimpArgs false
set_option maxHeartbeats 4000000 in
theorem lmay_any (p : Nat) (ko : Option Addr) (kc mb B : Nat) (s : Ln) (c : Cc) (hO : s.O.length <= 1152921504606846976) (w : World) (h : Lkk w B p mb ko kc s) : Calls Tryd.prog 35 #[.pointer (some ⟨p, 0, none⟩), kmv c] w fun e w' => e = .returned (.bool (okL s.se s.O.length c)) /\ Still w w' := by
 have A0 := Still.alloc w (.cells (kmc c) 36)
 have p0 := newCc_b w c
 obtain ⟨_, c1, _, c3, _, _, _, _, _, _, _⟩ := (h.still A0).cells
 obtain ⟨g, eg⟩ : ∃ g, w.heap.size = g := ⟨_, rfl⟩
 unfold newCc at p0
 obtain ⟨W, eW⟩ : ∃ W, w.alloc (.cells (kmc c) 36) = W := ⟨_, rfl⟩
 rw [eW] at A0 p0 c1 c3
 rw [eg] at p0
 obtain ⟨d0, d1, d2, d3, d4, d5, d6, df⟩ := p0.cells
 have HS := hid A0
 have HC := hid (fun w => vcheck_any c.v c.a c.b c.c w)
 have HE : Hid (okL s.se s.O.length c = ((c.pe == s.se) && ((c.sq == (s.O.length : Int) + 1) && (decide (1 <= c.fr) && (decide (c.fr <= 1099511627776) && (chkO c.v c.a c.b c.c == 0)))))) := hid rfl
 have q1 := Cl.cell c1
 have q3 := Cl.cell c3
 have r0 := Cl.cell d0
 have r1 := Cl.cell d1
 have r2 := Cl.cell d2
 have r3 := Cl.cell d3
 have r4 := Cl.cell d4
 have r5 := Cl.cell d5
 have r6 := Cl.cell d6
 have hne := Aft.here W
 have hw : IntKind.i64.wrap ((s.O.length : Int) + 1) = (s.O.length : Int) + 1 := wr64 (by omega) (by omega)
 obtain ⟨M, eM⟩ : ∃ b, okL s.se s.O.length c = b := ⟨_, rfl⟩
 obtain ⟨r, er⟩ : ∃ r, chkO c.v c.a c.b c.c = r := ⟨_, rfl⟩
 rw [eM, er] at HE
 rw [eM]
 rw [er] at HC
 clear eM er A0 p0 h d0 d1 d2 d3 d4 d5 d6 df c1 c3
 cases b0 : (c.pe == s.se) with
 | false =>
  go_enter Tryd.func35, Tryd.ntmps35
  go_wp2_with fail
  refine region_all (by kernel_rfl) (by kernel_rfl) ?_
  repeat (go_big_quiet_step ((go_at_call 48; exact Calls.cl (HC.out _))))
  refine wpQuiet_nil ?_
  intro w3 h3
  go_wp2_with fail
  go_ret
  exact ⟨by rw [HE.out]; simp [b0], HS.out.trans h3⟩
 | true =>
  cases b1 : (c.sq == (s.O.length : Int) + 1) with
  | false =>
   go_enter Tryd.func35, Tryd.ntmps35
   go_wp2_with fail
   refine region_all (by kernel_rfl) (by kernel_rfl) ?_
   repeat (go_big_quiet_step ((go_at_call 48; exact Calls.cl (HC.out _))))
   refine wpQuiet_nil ?_
   intro w3 h3
   go_wp2_with fail
   go_ret
   exact ⟨by rw [HE.out]; simp [b0, b1], HS.out.trans h3⟩
  | true =>
   by_cases b2 : 1 <= c.fr
   ·have d2 : decide (1 <= c.fr) = true := by simpa using b2
    by_cases b3 : c.fr <= 1099511627776
    ·have d3 : decide (c.fr <= 1099511627776) = true := by simpa using b3
     go_enter Tryd.func35, Tryd.ntmps35
     go_wp2_with fail
     refine region_all (by kernel_rfl) (by kernel_rfl) ?_
     repeat (go_big_quiet_step ((go_at_call 48; exact Calls.cl (HC.out _))))
     refine wpQuiet_nil ?_
     intro w3 h3
     go_wp2_with fail
     go_ret
     exact ⟨by rw [HE.out]; simp [b0, b1, d2, d3], HS.out.trans h3⟩
    ·have d3 : decide (c.fr <= 1099511627776) = false := by simpa using b3
     go_enter Tryd.func35, Tryd.ntmps35
     go_wp2_with fail
     refine region_all (by kernel_rfl) (by kernel_rfl) ?_
     repeat (go_big_quiet_step ((go_at_call 48; exact Calls.cl (HC.out _))))
     refine wpQuiet_nil ?_
     intro w3 h3
     go_wp2_with fail
     go_ret
     exact ⟨by rw [HE.out]; simp [b0, b1, d2, d3], HS.out.trans h3⟩
   ·have d2 : decide (1 <= c.fr) = false := by simpa using b2
    go_enter Tryd.func35, Tryd.ntmps35
    go_wp2_with fail
    refine region_all (by kernel_rfl) (by kernel_rfl) ?_
    repeat (go_big_quiet_step ((go_at_call 48; exact Calls.cl (HC.out _))))
    refine wpQuiet_nil ?_
    intro w3 h3
    go_wp2_with fail
    go_ret
    exact ⟨by rw [HE.out]; simp [b0, b1, d2], HS.out.trans h3⟩
end Go.Proofs.YtnbofjaecchnaaaDoor
namespace Go.Proofs.YtnbofjaecchnaaaDoor
open Go.RowKit
open Wp Vp Lp
set_option maxRecDepth 100000
set_option linter.unusedVariables false
set_option linter.unusedSimpArgs false
theorem bs_cc {o : Oper} {ρ : Operand -> Value} {x : Operand} {s : Cc} (ho : o.op = .buildSlice 37 1 #[(0, x)]) (hx : ρ x = kmv s) (u : World) : (execOp ρ o).run Tryd.prog u = .ok (.value (.slice (some ⟨u.heap.size, 0, none⟩) 1 1)) (u.alloc (.cells (kmc s) 36)) := by
 unfold execOp
 rw [ho]
 simp only [List.map_toArray, List.map_cons, List.map_nil, hx]
 go_simp
 try rfl
def putO (s : Ln) (c : Cc) : Ln := ⟨s.ss, s.se, s.ot, s.O ++ [c], s.ak, s.G, s.mq, s.mt⟩
theorem Lkk.laid {w : World} {B p mb : Nat} {ko ko' : Option Addr} {kc kc' : Nat} {s : Ln} {c : Cc} (h : w.heap[p]? = some (.cells (lkc s ko kc mb) 70 (0, 0))) (hk : Kp w B ko' kc' (s.O.drop s.ak ++ [c])) (hm : Mpc w mb s.G.length s.mq s.G) (hl : s.ak <= s.O.length) (lp : B <= p) (lm : B <= mb) :
  Lkk ((w.setCell ⟨p, 8, none⟩ (.slice ko' (s.O.length - s.ak + 1) kc')).setCell ⟨p, 3, none⟩ (.int .i64 ((s.O.length : Int) + 1))) B p mb ko' kc' (putO s c) := by
 have f1 : Fr (fun k => k = p) w (w.setCell ⟨p, 8, none⟩ (.slice ko' (s.O.length - s.ak + 1) kc')) := Fr.setCell (Fr.refl _ _) _ _ (.inl rfl)
 have f2 : Fr (fun k => k = p) w ((w.setCell ⟨p, 8, none⟩ (.slice ko' (s.O.length - s.ak + 1) kc')).setCell ⟨p, 3, none⟩ (.int .i64 ((s.O.length : Int) + 1))) := Fr.setCell f1 _ _ (.inl rfl)
 have b1 := heap_setCell_same w p 8 _ _ (.slice ko' (s.O.length - s.ak + 1) kc') h
 have b2 := heap_setCell_same _ p 3 _ _ (.int .i64 ((s.O.length : Int) + 1)) b1
 refine ⟨b2.trans ?_, ?_, ?_, lp, lm⟩
 ·have e1 : (putO s c).O.length = s.O.length + 1 := by simp [putO]
  have e2 : s.O.length + 1 - s.ak = s.O.length - s.ak + 1 := by omega
  show _ = some (Obj.cells (lkc (putO s c) ko' kc' mb) _ _)
  unfold lkc
  rw [e1]
  show _ = some (Obj.cells #[_, _, _, _, _, _, _, _, .slice ko' (s.O.length + 1 - s.ak) kc', _] _ _)
  rw [e2]
  rfl
 ·have e : (putO s c).O.drop (putO s c).ak = s.O.drop s.ak ++ [c] := by
   show (s.O ++ [c]).drop s.ak = _
   rw [List.drop_append_of_le_length hl]
  rw [e]
  refine hk.keep f2 (fun a ha e => ?_)
  obtain ⟨cur, hc⟩ := (hk.bl a ha).2
  exact ty_ne hc h (by decide) e
 ·obtain ⟨es, cl, hmm⟩ := hm.map
  exact hm.keep f2 (fun e => map_ne h hmm e.symm)
set_option maxHeartbeats 4000000 in
theorem llay_any (p : Nat) (ko : Option Addr) (kc mb B : Nat) (s : Ln) (c : Cc) (hO : s.O.length <= 1152921504606846976) (hal : s.ak <= s.O.length) (w : World) (h : Lkk w B p mb ko kc s) : Calls Tryd.prog 16 #[.pointer (some ⟨p, 0, none⟩), kmv c] w fun e w' => ∃ ko' kc', e = .returned (.int .i64 (layE s c)) /\ Lkk w' B p mb ko' kc' (layS s c) /\ Fr (fun k => k = p \/ ∃ a, ko = some a /\ a.block = k) w w' /\ ∀ a, ko' = some a -> (∃ b, ko = some b /\ b.block = a.block) \/ w.heap.size <= a.block := by
 have A0 := Still.alloc w (.cells (kmc c) 36)
 have p0 := newCc_b w c
 have L0 := h.still A0
 obtain ⟨g, eg⟩ : ∃ g, w.heap.size = g := ⟨_, rfl⟩
 unfold newCc at p0
 obtain ⟨W, eW⟩ : ∃ W, w.alloc (.cells (kmc c) 36) = W := ⟨_, rfl⟩
 rw [eW] at A0 p0 L0
 rw [eg] at p0
 obtain ⟨d0, d1, d2, d3, d4, d5, d6, df⟩ := p0.cells
 have HS := hid A0
 have HC := hid (lmay_any p ko kc mb B s c hO W L0)
 have HL := hid L0
 have HP := hid p0
 have HEe : Hid (layE s c = if okL s.se s.O.length c = true then (if 336 <= s.O.length - s.ak then 2 else 0) else 1) := hid rfl
 have HEs : Hid (layS s c = if layE s c = 0 then putO s c else s) := hid rfl
 have HB : Hid (B <= w.heap.size) := hid (by have := h.lp; have := h.lt.1; omega)
 obtain ⟨b, eb⟩ : ∃ b, okL s.se s.O.length c = b := ⟨_, rfl⟩
 rw [eb] at HC HEe
 clear eb A0 p0 L0 h
 cases b with
 | false =>
  have HE1 : Hid (layE s c = 1) := hid (by rw [HEe.out]; rfl)
  have HE2 : Hid (layS s c = s) := hid (by rw [HEs.out, HE1.out]; rfl)
  go_enter Tryd.func16, Tryd.ntmps16
  go_wp2_with fail
  refine HC.out.mono ?_
  rintro e w1 ⟨rfl, h1⟩
  have HS1 := hid h1
  clear h1 d0 d1 d2 d3 d4 d5 d6 df
  go_wp2_with fail
  go_ret
  exact ⟨ko, kc, by rw [HE1.out]; rfl, by rw [HE2.out]; exact HL.out.still HS1.out, Still.to (HS.out.trans HS1.out), fun a ha => .inl ⟨a, ha, rfl⟩⟩
 | true =>
  by_cases hf : 336 <= s.O.length - s.ak
  ·have hf' : (336 : Int) <= ((s.O.length - s.ak : Nat) : Int) := by omega
   have HE1 : Hid (layE s c = 2) := hid (by rw [HEe.out, if_pos rfl, if_pos hf])
   have HE2 : Hid (layS s c = s) := hid (by rw [HEs.out, HE1.out]; rfl)
   go_enter Tryd.func16, Tryd.ntmps16
   go_wp2_with fail
   refine HC.out.mono ?_
   rintro e w1 ⟨rfl, h1⟩
   have HS1 := hid h1
   clear h1 d0 d1 d2 d3 d4 d5 d6 df
   have k8 := (HL.out.still HS1.out).cells.2.2.2.2.2.2.2.2.1
   go_wp2_with fail
   go_ret
   exact ⟨ko, kc, by rw [HE1.out]; rfl, by rw [HE2.out]; exact HL.out.still HS1.out, Still.to (HS.out.trans HS1.out), fun a ha => .inl ⟨a, ha, rfl⟩⟩
  ·have hf' : ¬ (336 : Int) <= ((s.O.length - s.ak : Nat) : Int) := by omega
   have HE1 : Hid (layE s c = 0) := hid (by rw [HEe.out, if_pos rfl, if_neg hf])
   have HE2 : Hid (layS s c = putO s c) := hid (by rw [HEs.out, HE1.out]; rfl)
   go_enter Tryd.func16, Tryd.ntmps16
   go_wp2_with fail
   refine HC.out.mono ?_
   rintro e w1 ⟨rfl, h1⟩
   have HS1 := hid (HS.out.trans h1)
   have HL1 := hid (HL.out.still h1)
   have HP1 := hid (HP.out.still h1)
   clear h1 d0 d1 d2 d3 d4 d5 d6 df eW HL HP HC HS
   have k8 := HL1.out.cells.2.2.2.2.2.2.2.2.1
   go_upto_region 5 with fail
   clear k8
   refine region_laid 6 1 (by kernel_rfl) (by kernel_rfl) (by kernel_rfl) ?_
   apply Exists.intro
   refine And.intro ?_ (And.intro ?_ ?_)
   ·intro u hu
    have q0 := Cl.cell (HL1.out.still hu).cells.2.2.2.2.2.2.2.2.1
    obtain ⟨n0, n1, n2, n3, n4, n5, n6, _⟩ := (HP1.out.still hu).cells
    have q1 := Cl.cell n0
    have q2 := Cl.cell n1
    have q3 := Cl.cell n2
    have q4 := Cl.cell n3
    have q5 := Cl.cell n4
    have q6 := Cl.cell n5
    have q7 := Cl.cell n6
    have hne := Aft.here u
    simp only [List.take_succ_cons, List.take_zero]
    repeat (go_big_quiet_step (fail))
    exact wpQuiet_nil rfl
   ·intro _ o ho u hu
    obtain rfl := Option.some.inj ho
    exact ⟨_, _, bs_cc rfl rfl u, Still.alloc u _⟩
   intro w3 h3
   simp only [List.drop_succ_cons, List.drop_zero]
   have A4 := Still.alloc w3 (.cells (kmc c) 36)
   have HL4 := hid ((HL1.out.still h3).still A4)
   have HG4 : Hid (Ccb (w3.alloc (.cells (kmc c) 36)) w3.heap.size c) := hid (newCc_b w3 c)
   have HS4 := hid ((HS1.out.trans h3).trans A4)
   have HB4 : Hid (B <= (w3.alloc (.cells (kmc c) 36)).heap.size) := hid (by have := HS4.out.size; have := HB.out; omega)
   have HLn : Hid ((s.O.drop s.ak).length = s.O.length - s.ak) := hid (List.length_drop ..)
   clear h3 A4 HL1 HS1 HP1
   go_wp2_with (
    at_builtin
    refine wpList_appK _ rfl _ _ rfl B w3.heap.size ko kc (s.O.length - s.ak) (s.O.drop s.ak) c HLn.out rfl rfl HL4.out.kp HG4.out (by rw [HLn.out]; omega) HB4.out ?_
    intro ko' kc' w' hk' hf5 hb5
    have HF5 : Hid (Fr (fun k => ∃ a, ko = some a /\ a.block = k) w w') := hid (Fr.trans (Still.to HS4.out) hf5 (fun _ _ e => e))
    have hb' := hf5.kept HL4.out.bk (fun e => by obtain ⟨a, ha, e⟩ := e; exact (HL4.out.ne.2 a ha).1 e)
    have hm' := HL4.out.mp.keep hf5 (fun e => by obtain ⟨a, ha, e⟩ := e; exact (HL4.out.ne.2 a ha).2.1 e)
    have HLk := hid (Lkk.laid hb' hk' hm' hal HL4.out.lp HL4.out.lm)
    have HBl : Hid (∀ a, ko' = some a -> (∃ b, ko = some b /\ b.block = a.block) \/ w.heap.size <= a.block) := hid (fun a ha => (hb5 a ha).imp id (fun e => Nat.le_trans HS4.out.size e))
    have e3 : w'.cell? ⟨p, 3, none⟩ = some (.int .i64 (s.O.length : Int)) := by rw [cell_of_row _ _ _ _ _ _ hb']; rfl
    have e8 : w'.cell? ⟨p, 8, none⟩ = some (.slice ko (s.O.length - s.ak) kc) := by rw [cell_of_row _ _ _ _ _ _ hb']; rfl
    have ef := fun o => frozen_of_row w' p o _ _ hb'
    clear hk' hf5 hb5 hb' hm' HL4 HG4 HS4 HB4)
   refine ⟨rfl, ?_⟩
   have hw : IntKind.i64.wrap ((s.O.length : Int) + 1) = (s.O.length : Int) + 1 := wr64 (by omega) (by omega)
   go_wp2_with fail
   (try simp only [Exit.inBlock, Exit.then])
   go_ret
   exact ⟨ko', kc', by rw [HE1.out]; rfl, by rw [HE2.out]; exact HLk.out, Fr.setCell (Fr.setCell (HF5.out.mono (fun k _ e => .inr e)) _ _ (.inl (.inl rfl))) _ _ (.inl (.inl rfl)), HBl.out⟩
end Go.Proofs.YtnbofjaecchnaaaDoor
namespace Go.Proofs.YtnbofjaecchnaaaDoor
open Go.RowKit
open Wp Vp Lp
set_option maxRecDepth 100000
set_option linter.unusedVariables false
set_option linter.unusedSimpArgs false
theorem zeroI (w : World) : (zeroValue 3).run Tryd.prog w = .ok (.int .i64 0) w := by kernel_rfl
theorem own_look {w : World} {mb n : Nat} {D : DataW Value} {f v : Int} (h : w.ownsMap Tryd.prog 2 RI mb n D) (hf : -9223372036854775808 <= f /\ f <= 9223372036854775807) (hv : D.atKey (.int .i64 f) (.held (.int .i64 0)) = .held (.int .i64 v)) : (Instr.lookup 68 (.map (some mb)) (.int .i64 f) false).run Tryd.prog w = .ok (.int .i64 v) w := by
 obtain ⟨u, ps, hrun, hu⟩ := h.lookup lawI6 Tryd.underlying68 (zeroI w) (zd := .held (.int .i64 0)) (zp := []) rfl (keyI6 hf)
 rw [hv] at hu
 injection hu with h1
 injection h1 with h2 _
 injection h2 with h3
 rw [hrun, h3]
theorem Cnt.put {D : DataW Value} {mk : Int} {G : List Cc} (h : Cnt D mk G) (hm : Maps.IsMap D) {c : Cc} (hk : WideAt.IsKeyLit (.int .i64 c.fr)) {v : Int} (hv : D.atKey (.int .i64 c.fr) (.held (.int .i64 0)) = .held (.int .i64 v)) : Cnt (D.put (.int .i64 c.fr) (.held (.int .i64 (v + 1)))) mk (G ++ [c]) := by
 intro f
 obtain ⟨n, h1, h2, h3, h4⟩ := h f
 by_cases e : f = c.fr
 ·subst e
  rw [hv] at h1
  injection h1 with h1
  injection h1 with _ h1
  subst h1
  refine ⟨v + 1, Maps.atKey_put_same hm hk _ _, by omega, by simp; omega, fun e => ?_⟩
  rw [onN_snoc, if_pos rfl, h4 e]
  omega
 ·refine ⟨n, ?_, h2, by simp; omega, fun e2 => ?_⟩
  ·rw [Maps.atKey_put_other (fun e3 => e (by injection e3))]
   exact h1
  ·rw [onN_snoc, if_neg (fun e3 => e e3.symm), h4 e2]
   omega
theorem Mpc.put {w w' : World} {mb n : Nat} {mk : Int} {G : List Cc} {D : DataW Value} {c : Cc} {v : Int} (h : w.ownsMap Tryd.prog 2 RI mb n D) (hc : Cnt D mk G) (hf : -9223372036854775808 <= c.fr /\ c.fr <= 9223372036854775807) (hv : D.atKey (.int .i64 c.fr) (.held (.int .i64 0)) = .held (.int .i64 v)) (h' : w'.ownsMap Tryd.prog 2 RI mb (n + 1) (D.put (.int .i64 c.fr) (.held (.int .i64 (v + 1))))) : Mpc w' mb (n + 1) mk (G ++ [c]) :=
 ⟨_, h', hc.put h.isMap (lawI6.key (keyI6 hf)) hv⟩
/-! fresh -/
def frI (s : Ln) (d : Dg) : Nat := min ((s.G.length : Int) + 1 - d.fi).toNat d.cs.length
theorem frs_frI (s : Ln) (d : Dg) : frs s d = d.cs.drop (frI s d) := by
 unfold frs frI
 by_cases h : ((s.G.length : Int) + 1 - d.fi).toNat <= d.cs.length
 ·rw [Nat.min_eq_left h]
 ·rw [Nat.min_eq_right (by omega), List.drop_of_length_le (Nat.le_refl _), List.drop_of_length_le (by omega)]
theorem frI_le (s : Ln) (d : Dg) : frI s d <= d.cs.length := Nat.min_le_right ..
theorem SrG.fresh {w : World} {co : Option Addr} {cp : Nat} {d : Dg} (h : SrG KCc w co cp d.cs) (s : Ln) : SrG KCc w (cutG 7 co d.cs.length (frI s d)) (d.cs.length - frI s d) (frs s d) := by
 rw [frs_frI]
 exact (SrG.drop (K := KCc) (cap := d.cs.length) ⟨h.rd, Nat.le_refl _, fun e => by have := h.nl e; have := h.le; omega⟩ (frI_le s d))
set_option maxHeartbeats 1000000 in
theorem lfresh_any (p : Nat) (ko : Option Addr) (kc mb B : Nat) (s : Ln) (d : Dg) (co : Option Addr) (cn cp : Nat) (hn : d.cs.length = cn) (hg : s.G.length <= 1099511627776) (hfi : 0 <= d.fi /\ d.fi <= (s.G.length : Int) + 1) (hcp : cn <= cp) (h48 : cn <= 281474976710656) (w : World) (h : Lkk w B p mb ko kc s) : Calls Tryd.prog 30 #[.pointer (some ⟨p, 0, none⟩), dgv d co cn cp] w fun e w' => e = .returned (.slice (cutG 7 co cn (frI s d)) (cn - frI s d) (cn - frI s d)) /\ Still w w' := by
 have A0 := Still.alloc w (.cells (dgc d co cn cp) 39)
 have p0 := newDg_b w d co cn cp
 have c5 := (h.still A0).cells.2.2.2.2.2.1
 obtain ⟨g, eg⟩ : ∃ g, w.heap.size = g := ⟨_, rfl⟩
 unfold newDg at p0
 obtain ⟨W, eW⟩ : ∃ W, w.alloc (.cells (dgc d co cn cp) 39) = W := ⟨_, rfl⟩
 rw [eW] at A0 p0 c5
 rw [eg] at p0
 obtain ⟨d0, d1, d2, d3, d4, d5, d6, d7, df⟩ := p0.cells
 have HS := hid A0
 have HP := hid p0
 have HC := hid (fun W => lfrom_any co cn cp (frI s d) (by have := frI_le s d; omega) hcp W)
 have hw : IntKind.i64.wrap ((s.G.length : Int) + 1 - d.fi) = (s.G.length : Int) + 1 - d.fi := wr64 (by omega) (by omega)
 have hmn : min ((s.G.length : Int) + 1 - d.fi) (cn : Int) = (frI s d : Int) := by unfold frI; omega
 obtain ⟨i, ei⟩ : ∃ i, frI s d = i := ⟨_, rfl⟩
 rw [ei] at HC hmn ⊢
 have q5 := Cl.cell c5
 have r5 := Cl.cell d5
 have hne := Aft.here W
 clear ei A0 p0 h d0 d1 d2 d3 d4 d5 d6 d7 df c5
 go_enter Tryd.func30, Tryd.ntmps30
 go_wp2_with fail
 refine region_all (by kernel_rfl) (by kernel_rfl) ?_
 repeat (go_big_quiet_step (rfl))
 refine wpQuiet_nil ?_
 intro w3 h3
 have HS3 := hid (HS.out.trans h3)
 obtain ⟨d0, d1, d2, d3, d4, d5, d6, d7, df⟩ := (HP.out.still h3).cells
 clear h3 q5 r5 hne eW
 go_wp2_with fail
 refine (HC.out _).mono ?_
 rintro e w4 ⟨rfl, rfl⟩
 go_wp2_with fail
 go_ret
 exact ⟨rfl, HS3.out⟩
end Go.Proofs.YtnbofjaecchnaaaDoor
namespace Go.Proofs.YtnbofjaecchnaaaDoor
open Go.RowKit
open Wp Vp Lp
set_option maxRecDepth 100000
set_option linter.unusedVariables false
set_option linter.unusedSimpArgs false
theorem lwait_any (c : Cc) (hb : Nat) (H : Int) (w : World) (h : w.cell? ⟨hb, 0, none⟩ = some (.int .i64 H)) : Calls Tryd.prog 54 #[kmv c, .pointer (some ⟨hb, 0, none⟩)] w fun e w' => e = .returned (.bool (decide (c.fr <= H))) /\ Still w w' := by
 have A0 := Still.alloc w (.cells (kmc c) 36)
 obtain ⟨d0, _⟩ := (newCc_b w c).cells
 have h0 := (A0.cell (World.block_lt_of_cell? w _ h) (fun e => e)).trans h
 have HS := hid A0
 clear A0 h
 by_cases hc : c.fr <= H
 ·go_enter Tryd.func54, Tryd.ntmps54
  go_wp2_with fail
  go_ret
  exact ⟨by simp [hc], HS.out⟩
 ·go_enter Tryd.func54, Tryd.ntmps54
  go_wp2_with fail
  go_ret
  exact ⟨by simp [hc], HS.out⟩
abbrev fvW (hb : Nat) : Value := .func (.func 54) #[] #[.pointer (some ⟨hb, 0, none⟩)]
theorem enW : ∀ args w, (callFunc 54 args).run Tryd.prog w = .ok (.enter 54 args) w := enters_of Tryd.func54 (by kernel_rfl) rfl
set_option maxHeartbeats 2000000 in
theorem lidx_any (ao : Option Addr) (n cap : Nat) (L : List Cc) (hb : Nat) (H : Int) (w : World) (hr : RdG KCc w ao n L) (h : w.cell? ⟨hb, 0, none⟩ = some (.int .i64 H)) : Calls Tryd.prog 61 #[.slice ao n cap, fvW hb] w fun e w' => ∃ r : Int, e = .returned (.int .i64 r) /\ decide (0 <= r) = L.any (fun c => decide (c.fr <= H)) /\ Still w w' := by
 have eg := enW
 have HR := hid hr
 have HN := hid hr.1
 have HB := hid hr.2.1
 have HC := hid (fun (c : Cc) (u : World) (hu : Still w u) => lwait_any c hb H u ((hu.cell (World.block_lt_of_cell? w _ h) (fun e => e)).trans h))
 clear hr h
 go_enter Tryd.func61, Tryd.ntmps61
 go_wp2_with fail
 go_loopw [5, 8] (fun _ u8 wr => ∃ i : Nat, i <= n /\ u8 = .int .i64 (i : Int) /\ Hid (∀ j, j < i -> decide ((cc L j).fr <= H) = false) /\ Hid (Still w wr)) (fun _ u8 _ => n - (intOf u8).toNat)
 case atStart => exact ⟨0, by omega, rfl, hid (fun j hj => by omega), hid (Fr.refl _ _)⟩
 case round =>
  obtain ⟨i, hi, rfl, HA, HL⟩ := hrel
  by_cases hin : i < n
  ·have hlt : (i : Int) < (n : Int) := by omega
   obtain ⟨B, o, eco⟩ := HR.out.at (by omega)
   subst eco
   obtain ⟨k0, k1, k2, k3, k4, k5, k6⟩ := rdCc (HR.out.still HL.out) hin
   have HCi := hid (HC.out (cc L i) wr HL.out)
   have hb48 := HB.out
   have HM : Hid (decide ((cc L i).fr <= H) = true -> L.any (fun c => decide (c.fr <= H)) = true) := hid (fun e => List.any_eq_true.2 ⟨cc L i, by rw [cc_at (by rw [HN.out]; exact hin)]; exact List.getElem_mem _, e⟩)
   have HA2 : Hid (decide ((cc L i).fr <= H) = false -> ∀ j, j < i + 1 -> decide ((cc L j).fr <= H) = false) := hid (fun e j hj => by
    by_cases e2 : j = i
    ·rw [e2]; exact e
    ·exact HA.out j (by omega))
   obtain ⟨x, ex⟩ : ∃ x, cc L i = x := ⟨_, rfl⟩
   rw [ex] at HCi HM HA2 k0 k1 k2 k3 k4 k5 k6
   obtain ⟨b, eb⟩ : ∃ b, decide (x.fr <= H) = b := ⟨_, rfl⟩
   rw [eb] at HCi HM HA2
   clear eb ex
   cases b with
   | true =>
    go_wp2_with fail
    refine HCi.out.mono ?_
    rintro e w3 ⟨rfl, h3⟩
    have HL3 := hid (HL.out.trans h3)
    clear h3
    go_wp2_with fail
    go_ret
    exact ⟨_, rfl, by rw [HM.out (by simp)]; simp, HL3.out⟩
   | false =>
    go_wp2_with fail
    refine HCi.out.mono ?_
    rintro e w3 ⟨rfl, h3⟩
    have HL3 := hid (HL.out.trans h3)
    clear h3
    go_wp2_with fail
    go_roundw
    case rel => exact ⟨i + 1, by omega, by go_num, hid (HA2.out (by simp)), HL3⟩
    case measure => simp [intOf]; omega
  ·have hnl : ¬ (i : Int) < (n : Int) := by omega
   have HT : Hid (L.any (fun c => decide (c.fr <= H)) = false) := hid (List.any_eq_false.2 (fun c hc => by
    obtain ⟨j, hj, rfl⟩ := mem_cc hc
    have := HA.out j (by rw [HN.out] at hj; omega)
    simpa using this))
   go_wp2_with fail
   go_ret
   exact ⟨_, rfl, by rw [HT.out]; rfl, HL.out⟩
theorem lcont_any (ao : Option Addr) (n cap : Nat) (L : List Cc) (hb : Nat) (H : Int) (w : World) (hr : RdG KCc w ao n L) (h : w.cell? ⟨hb, 0, none⟩ = some (.int .i64 H)) : Calls Tryd.prog 55 #[.slice ao n cap, fvW hb] w fun e w' => e = .returned (.bool (L.any (fun c => decide (c.fr <= H)))) /\ Still w w' := by
 have HC := hid (lidx_any ao n cap L hb H w hr h)
 clear hr h
 go_enter Tryd.func55, Tryd.ntmps55
 go_wp2_with fail
 refine HC.out.mono ?_
 rintro e w3 ⟨r, rfl, hr, h3⟩
 have HE := hid hr
 have HS := hid h3
 clear hr h3
 by_cases hc : 0 <= r
 ·go_wp2_with fail
  go_ret
  exact ⟨by rw [<- HE.out]; simp [hc], HS.out⟩
 ·go_wp2_with fail
  go_ret
  exact ⟨by rw [<- HE.out]; simp [hc], HS.out⟩
theorem latB_cut (s : Ln) (d : Dg) (h : 0 <= d.ak) : latB s d = ((s.O.drop s.ak).drop (abI s d.ak)).any (fun c => decide (c.fr <= d.mrk - 48)) := by
 unfold latB abI
 rw [List.drop_drop]
 congr 2
 omega
set_option maxHeartbeats 2000000 in
theorem lruns_any (p : Nat) (ko : Option Addr) (kc mb B : Nat) (s : Ln) (d : Dg) (co : Option Addr) (cn cp : Nat) (lead : Int) (hO : s.O.length <= 1152921504606846976) (hal : s.ak <= s.O.length) (hmk : 0 <= d.mrk /\ d.mrk <= 1099511627776) (hak : 0 <= d.ak /\ d.ak <= (s.O.length : Int)) (w : World) (h : Lkk w B p mb ko kc s) : Calls Tryd.prog 44 #[.pointer (some ⟨p, 0, none⟩), dgv d co cn cp, .int .i64 lead] w fun e w' => e = .returned (.bool (decide (lead < d.mrk - 48) || latB s d)) /\ Still w w' := by
 have A0 := Still.alloc w (.cells (dgc d co cn cp) 39)
 have p0 := newDg_b w d co cn cp
 have L0 := h.still A0
 obtain ⟨g, eg⟩ : ∃ g, w.heap.size = g := ⟨_, rfl⟩
 unfold newDg at p0
 obtain ⟨W, eW⟩ : ∃ W, w.alloc (.cells (dgc d co cn cp) 39) = W := ⟨_, rfl⟩
 rw [eW] at A0 p0 L0
 rw [eg] at p0
 have A1 := Still.alloc W (.cells #[.int .i64 0] 2)
 have b1 := heap_alloc_new W (.cells #[.int .i64 0] 2)
 obtain ⟨g1, eg1⟩ : ∃ g, W.heap.size = g := ⟨_, rfl⟩
 obtain ⟨W1, eW1⟩ : ∃ V, W.alloc (.cells #[.int .i64 0] 2) = V := ⟨_, rfl⟩
 rw [eW1] at A1 b1
 rw [eg1] at b1
 obtain ⟨d0, d1, d2, d3, d4, d5, d6, d7, df⟩ := p0.cells
 have b2 := heap_setCell_same W1 g1 0 _ _ (.int .i64 (d.mrk - 48)) b1
 have s2 : Still W (W1.setCell ⟨g1, 0, none⟩ (.int .i64 (d.mrk - 48))) := Fr.setCell A1 _ _ (.inr (by rw [eg1]; exact Nat.le_refl _))
 have z0 : W1.cell? ⟨g1, 0, none⟩ = some (.int .i64 0) := by rw [cell_of_row _ _ _ _ _ _ b1]; rfl
 have zf := fun o => frozen_of_row W1 g1 o _ _ b1
 obtain ⟨W2, eW2⟩ : ∃ V, W1.setCell ⟨g1, 0, none⟩ (.int .i64 (d.mrk - 48)) = V := ⟨_, rfl⟩
 rw [eW2] at b2 s2
 have z2 : W2.cell? ⟨g1, 0, none⟩ = some (.int .i64 (d.mrk - 48)) := by rw [cell_of_row _ _ _ _ _ _ b2]; rfl
 have L2 := L0.still s2
 obtain ⟨e0, e1, e2, e3, e4, e5, e6, e7, ef⟩ := (p0.still s2).cells
 have hab : abI s d.ak <= s.O.length - s.ak := by unfold abI; omega
 have HA := hid (labove_any p ko kc mb B s d.ak ⟨hak.1, by omega⟩ hab (by omega) W2 L2)
 have hsr := (L2.kp.cut (i := abI s d.ak) (by rw [List.length_drop]; exact hab)).sr
 rw [List.length_drop] at hsr
 have HR := hid hsr.rd
 have HLn : Hid (((s.O.drop s.ak).drop (abI s d.ak)).length = s.O.length - s.ak - abI s d.ak) := hid (by rw [List.length_drop, List.length_drop])
 have HLB := hid (latB_cut s d hak.1)
 have HS2 := hid (A0.trans s2)
 have HZ := hid z2
 have hw : IntKind.i64.wrap (d.mrk - 48) = d.mrk - 48 := wr64 (by omega) (by omega)
 obtain ⟨i, ei⟩ : ∃ i, abI s d.ak = i := ⟨_, rfl⟩
 rw [ei] at HA HR HLn HLB
 obtain ⟨lb, elb⟩ : ∃ b, latB s d = b := ⟨_, rfl⟩
 rw [elb] at HLB ⊢
 clear ei elb A0 p0 L0 h A1 b1 b2 s2 L2 hsr hab hO
 by_cases hl : lead < d.mrk - 48
 ·have hd : decide (lead < d.mrk - 48) = true := by simpa using hl
  rw [hd]
  go_enter Tryd.func44, Tryd.ntmps44
  go_wp2_with fail
  go_ret
  exact ⟨rfl, HS2.out⟩
 ·have hd : decide (lead < d.mrk - 48) = false := by simpa using hl
  rw [hd]
  go_enter Tryd.func44, Tryd.ntmps44
  go_wp2_with fail
  refine HA.out.mono ?_
  rintro e w3 ⟨he, h3⟩
  rw [he]
  have HS3 := hid (HS2.out.trans h3)
  have HB := hid (lcont_any (cutG 7 ko (s.O.length - s.ak) i) (s.O.length - s.ak - i) (s.O.length - s.ak - i) ((s.O.drop s.ak).drop i) g1 (d.mrk - 48) w3 (by have := HR.out.still h3; rw [HLn.out] at this; exact this) ((h3.cell (World.block_lt_of_cell? W2 _ HZ.out) (fun e => e)).trans HZ.out))
  rw [<- HLB.out] at HB
  clear he h3 HA HR
  go_wp2_with fail
  refine HB.out.mono ?_
  rintro e w4 ⟨he, h4⟩
  rw [he]
  have HS4 := hid (HS3.out.trans h4)
  clear he h4 HB
  go_wp2_with fail
  go_ret
  exact ⟨rfl, HS4.out⟩
end Go.Proofs.YtnbofjaecchnaaaDoor
