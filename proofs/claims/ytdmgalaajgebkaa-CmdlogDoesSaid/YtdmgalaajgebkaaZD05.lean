/- Parts of the proof, laid end to end. -/
import Derived.Test.YtdmgalaajgebkaaZD04
import Derived.Laws.AppendOwnNone
namespace Go.Proofs.Ytdmgalaajgebkaa
open Go.RowKit
set_option maxRecDepth 100000
structure Sr (w : World) (ao : Option Addr) (cap : Nat) (S : List En) : Prop where
 rd : RdG KE w ao S.length S
 le : S.length <= cap
 nl : ao = none -> cap = 0
theorem Sr.still {w w' : World} {ao : Option Addr} {cap : Nat} {S : List En} (h : Sr w ao cap S) (hs : Still w w') : Sr w' ao cap S := ⟨h.rd.still hs, h.le, h.nl⟩
theorem Sr.keep {F : Nat -> Prop} {w w' : World} {ao : Option Addr} {cap : Nat} {S : List En} (h : Sr w ao cap S) (hf : Fr F w w') (hF : ∀ a, ao = some a -> 0 < S.length -> ¬ F a.block) : Sr w' ao cap S := by
 refine ⟨⟨rfl, h.rd.2.1, ?_⟩, h.le, h.nl⟩
 rcases h.rd.2.2 with h0 | ⟨B, o, e, hc⟩
 ·exact .inl h0
 ·by_cases h0 : S.length = 0
  ·exact .inl h0
  ·exact .inr ⟨B, o, e, fun i hi j u hu => (hf.cell (World.block_lt_of_cell? w _ (hc i hi j u hu)) (fun hb => hF ⟨B, o, none⟩ e (by omega) hb)).trans (hc i hi j u hu)⟩
theorem Sr.lt {w : World} {ao : Option Addr} {cap : Nat} {S : List En} (h : Sr w ao cap S) : ∀ a, ao = some a -> 0 < S.length -> a.block < w.heap.size := fun a ha h0 => by
 obtain ⟨B, o, e⟩ := h.rd.at h0
 have := h.rd
 rw [e] at this
 have c := this.get h0 0 _ rfl
 rw [ha] at e
 cases e
 exact World.block_lt_of_cell? w _ c
theorem Sr.nil (w : World) : Sr w none 0 [] := ⟨RdG.nil w none, Nat.le_refl _, fun _ => rfl⟩
theorem Sr.own {w : World} {B : Nat} {ao : Option Addr} {cap : Nat} {S : List En} (h : OwG KE 44 w B (.slice ao S.length cap) S) (hm : S.length <= 281474976710656) : Sr w ao cap S := by
 refine ⟨h.rdE rfl hm, ?_, ?_⟩
 ·rcases h.2 with ⟨hv, hn⟩ | ⟨g', cap', cur, hv, hb, hg, hn, _⟩
  ·injection hv with _ _ h3; omega
  ·cases hv; exact hn
 ·rintro rfl
  rcases h.2 with ⟨hv, hn⟩ | ⟨g', cap', cur, hv, hb, hg, hn, _⟩
  ·injection hv
  ·cases hv
def cutE (ao : Option Addr) (cap i : Nat) : Option Addr := if cap = i then ao else ao.map (·.add (i * 8))
theorem run_fromE (w : World) (ao : Option Addr) (n cap i : Nat) (hi : i <= n) : (Instr.slice 40 (.slice ao n cap) (some (.int .i64 (i : Int))) none none).run Try.prog w = .ok (.slice (cutE ao cap i) (n - i) (cap - i)) w := by
 have ht' : Try.prog.underlying 40 = some (.slice (Try.prog.elem 40)) := by simp [Program.elem, Try.underlying40]
 have he : Try.prog.elem 40 = 44 := by simp [Program.elem, Try.underlying40]
 rw [run_slice_l w 40 ao n cap ht' .i64 (i : Int) (by omega) (by omega), he]
 obtain ⟨inf, h1, _, h2, _⟩ := infoE
 simp [sizeOf, typeInfo, h1, h2, Result.andThen, sliced, cutE, KE]
theorem run_uptoE (w : World) (ao : Option Addr) (n cap i : Nat) (hi : i <= cap) : (Instr.slice 40 (.slice ao n cap) none (some (.int .i64 (i : Int))) none).run Try.prog w = .ok (.slice ao i cap) w := by
 have := run_uptoG (P := Try.prog) (e := 44) (t := 40) rfl ⟨_, rfl⟩ w ao n cap (i : Int) (by omega) (by omega)
 rwa [Int.toNat_natCast] at this
theorem Sr.drop {w : World} {ao : Option Addr} {cap : Nat} {S : List En} (h : Sr w ao cap S) {i : Nat} (hi : i <= S.length) : Sr w (cutE ao cap i) (cap - i) (S.drop i) := by
 have hl := h.le
 refine ⟨⟨rfl, by have := h.rd.2.1; simp; omega, ?_⟩, by simp; omega, fun e => ?_⟩
 ·by_cases h0 : (S.drop i).length = 0
  ·exact .inl h0
  ·have hpos : 0 < S.length := by simp at h0; omega
   obtain ⟨B, o, e⟩ := h.rd.at hpos
   have hrd := h.rd
   rw [e] at hrd
   refine .inr ⟨B, o + i * 8, ?_, fun k hk j u hu => ?_⟩
   ·unfold cutE
    rw [if_neg (by simp at h0; omega), e]
    simp [add_plain]
   ·have e2 : (S.drop i).getD k KE.d = S.getD (i + k) KE.d := by simp [List.getD_eq_getElem?_getD]
    rw [e2] at hu
    have := hrd.get (i := i + k) (by simp at hk; omega) j u hu
    rw [show o + (i + k) * KE.k + j = o + i * 8 + k * KE.k + j by simp only [KE]; omega] at this
    exact this
 ·unfold cutE at e
  split at e
  ·rename_i hc; have := h.nl e; omega
  ·cases ao with
   | none => have := h.nl rfl; omega
   | some a => cases e
theorem cutE_block {ao : Option Addr} {cap i : Nat} : ∀ a, cutE ao cap i = some a -> ∃ a0, ao = some a0 /\ a.block = a0.block := by
 intro a ha
 unfold cutE at ha
 split at ha
 ·exact ⟨a, ha, rfl⟩
 ·cases ao with
  | none => cases ha
  | some a0 =>
   simp at ha
   subst ha
   refine ⟨a0, rfl, ?_⟩
   unfold Addr.add; split <;> rfl
theorem Sr.take {w : World} {ao : Option Addr} {cap : Nat} {S : List En} (h : Sr w ao cap S) {i : Nat} (hi : i <= S.length) : Sr w ao cap (S.take i) := by
 have hl := h.le
 have e1 : (S.take i).length = i := by simp; omega
 refine ⟨⟨rfl, by have := h.rd.2.1; omega, ?_⟩, by omega, h.nl⟩
 by_cases h0 : (S.take i).length = 0
 ·exact .inl h0
 ·obtain ⟨B, o, e⟩ := h.rd.at (by omega)
  have hrd := h.rd
  rw [e] at hrd
  refine .inr ⟨B, o, e, fun k hk j u hu => ?_⟩
  have e2 : (S.take i).getD k KE.d = S.getD k KE.d := by rw [List.getD_eq_getElem?_getD, List.getD_eq_getElem?_getD, List.getElem?_take_of_lt (by omega)]
  rw [e2] at hu
  exact hrd.get (i := k) (by omega) j u hu
theorem wpList_appM (w : World) {ops : Array Oper} {rest : List Oper} {o : Oper} {a : Act} {Q : Exit -> Act -> World -> Prop} (hgd : o.guard = none) (s x : Operand)
  (hop : o.op = .call { callee := .builtin .append, args := #[s, x], argTypes := #[40, 40] })
  (B : Nat) (v : Value) (L S : List En) (ao : Option Addr) (n cap : Nat) (hs : a.eval s = v) (hx : a.eval x = .slice ao n cap) (hn : S.length = n) (ho : OwG KE 44 w B v L) (hr : Sr w ao cap S) (h47 : L.length + S.length <= 100000) (hB : B <= w.heap.size)
  (h : ∀ v' w', OwG KE 44 w' B v' (L ++ S) -> Fr (fun k => v.ownBlock = some k) w w' -> wpList Try.prog ops Q rest (a.put o.dst v') w') : wpList Try.prog ops Q (o :: rest) a w := by
 obtain ⟨i, hi, hz, h1, h2⟩ := infoE
 subst hn
 cases ao with
 | none =>
  have hc := hr.nl rfl
  have hS : S = [] := List.eq_nil_of_length_eq_zero (by have := hr.le; omega)
  subst hS hc
  refine wpList_append_own_none hgd s x _ hop B 44 i KE.k rfl hi v L.length (KE.row L) hs ho hx ?_
  exact h v w (by rw [List.append_nil]; exact ho) (Fr.refl _ _)
 | some ad =>
  refine wpList_append_own (P := Try.prog) w hgd s x _ hop B 44 i (.agg (KE.f KE.d).toArray) KE.k 64 rfl hi hz h1 h2 (by simp [Value.cells, KE.len]) KE.pos v L.length (KE.row L) hs ho ad S.length cap (KE.row S) hx (by rw [KE.row_len]) hr.rd.cellsAt (KE.row_one S) (by unfold maxLen; omega) (by omega) hB ?_
  intro v' w' hown hgr _
  refine h v' w' ?_ ⟨hgr.os, hgr.tape, hgr.output, hgr.size, fun k hk hn => hgr.block k hk (fun e => hn e.symm)⟩
  unfold OwG
  rw [KE.row_app, List.length_append]
  exact hown
end Go.Proofs.Ytdmgalaajgebkaa
namespace Go.Proofs.Ytdmgalaajgebkaa
open Go.RowKit
set_option maxRecDepth 100000
end Go.Proofs.Ytdmgalaajgebkaa
namespace Go.Proofs.Ytdmgalaajgebkaa
open Go.RowKit
set_option maxRecDepth 100000
end Go.Proofs.Ytdmgalaajgebkaa
namespace Go.Proofs.Ytdmgalaajgebkaa
open Go.RowKit
set_option maxRecDepth 100000
theorem srt_at {S : List En} (h : Srt S) : ∀ i j, i < j -> j < S.length -> kc (att S i) (att S j) < 0 := by
 intro i j hij hj
 have := List.pairwise_iff_getElem.1 h i j (by omega) hj hij
 have e : ∀ k (hk : k < S.length), att S k = S[k] := fun k hk => by unfold att; rw [List.getD_eq_getElem?_getD, List.getElem?_eq_getElem hk]; rfl
 rw [e i (by omega), e j hj]
 exact this
theorem att_of_mem {S : List En} {y : En} (h : y ∈ S) : ∃ k, k < S.length /\ att S k = y := by
 obtain ⟨k, hk, e⟩ := List.getElem_of_mem h
 exact ⟨k, hk, by unfold att; rw [List.getD_eq_getElem?_getD, List.getElem?_eq_getElem hk, e]; rfl⟩
theorem ins_srt {S : List En} (h : Srt S) {x : En} {k : Nat} (hk : k <= S.length) (h1 : ∀ t, t < k -> kc (att S t) x < 0) (h2 : k < S.length -> 0 < kc (att S k) x) : hasK x S = false /\ (S.take k ++ [x] ++ S.drop k).Perm (S ++ [x]) /\ Srt (S.take k ++ [x] ++ S.drop k) := by
 have hx : ∀ t, k <= t -> t < S.length -> kc x (att S t) < 0 := fun t ht hl => by
  have h3 := h2 (by omega)
  have h4 : kc x (att S k) < 0 := by
   have n1 : ¬ kc (att S k) x < 0 := by omega
   have n2 : ¬ kc (att S k) x = 0 := by omega
   rw [kc_lt] at n1 ⊢
   rw [kc_eq] at n2
   omega
  by_cases e : t = k
  ·rw [e]; exact h4
  ·exact lt_tr h4 (srt_at h k t (by omega) hl)
 refine ⟨?_, ?_, ?_⟩
 ·cases hb : hasK x S with
  | false => rfl
  | true =>
   exfalso
   obtain ⟨y, hy, he⟩ := List.any_eq_true.1 hb
   have he := of_decide_eq_true he
   obtain ⟨t, ht, rfl⟩ := att_of_mem hy
   by_cases htk : t < k
   ·have := h1 t htk
    rw [kc_eq] at he
    rw [kc_lt] at this
    omega
   ·have := hx t (by omega) ht
    omega
 ·have e : S ++ [x] = S.take k ++ (S.drop k ++ [x]) := by rw [<- List.append_assoc, List.take_append_drop]
  rw [e, List.append_assoc]
  exact List.Perm.append_left _ (List.perm_append_comm)
 ·refine List.pairwise_append.2 ⟨List.pairwise_append.2 ⟨List.Pairwise.sublist (List.take_sublist k S) h, List.pairwise_singleton _ _, fun a ha b hb => ?_⟩, List.Pairwise.sublist (List.drop_sublist k S) h, fun a ha b hb => ?_⟩
  ·rw [List.mem_singleton] at hb
   subst hb
   obtain ⟨t, ht, rfl⟩ := att_of_mem ha
   have e : att (S.take k) t = att S t := by unfold att; rw [List.getD_eq_getElem?_getD, List.getD_eq_getElem?_getD, List.getElem?_take_of_lt (by simp at ht; omega)]
   rw [e]
   exact h1 t (by simp at ht; omega)
  ·obtain ⟨t, ht, rfl⟩ := att_of_mem hb
   have e : att (S.drop k) t = att S (k + t) := by unfold att; rw [List.getD_eq_getElem?_getD, List.getD_eq_getElem?_getD, List.getElem?_drop]
   rw [e]
   simp at ht
   rcases List.mem_append.1 ha with ha | ha
   ·obtain ⟨t', ht', rfl⟩ := att_of_mem ha
    have e' : att (S.take k) t' = att S t' := by unfold att; rw [List.getD_eq_getElem?_getD, List.getD_eq_getElem?_getD, List.getElem?_take_of_lt (by simp at ht'; omega)]
    rw [e']
    simp at ht'
    exact srt_at h t' (k + t) (by omega) (by omega)
   ·rw [List.mem_singleton] at ha
    subst ha
    exact hx (k + t) (by omega) (by omega)
set_option maxHeartbeats 8000000 in
theorem rPut_any (x : En) (S : List En) (cap : Nat) (ao : Option Addr) (hl : S.length <= 4096) (hS : Srt S) (w : World) (hr : Sr w ao cap S) : Calls Try.prog 41 #[.slice ao S.length cap, ev x] w fun e w' => (hasK x S = true /\ e = .returned (.tuple #[.slice ao S.length cap, .bool false]) /\ Still w w') \/ (hasK x S = false /\ ∃ ao' cap' S', e = .returned (.tuple #[.slice ao' S'.length cap', .bool true]) /\ S'.Perm (S ++ [x]) /\ Srt S' /\ OwG KE 44 w' w.heap.size (.slice ao' S'.length cap') S' /\ Still w w') := by
 have A0 := Still.alloc w (.cells (ecs x) 44)
 obtain ⟨W, eW⟩ : ∃ W, newE w x = W := ⟨_, rfl⟩
 obtain ⟨bx, ebx⟩ : ∃ g, w.heap.size = g := ⟨_, rfl⟩
 have HS0 : Hid (Still w W) := hid (by rw [<- eW]; exact A0)
 have HXW : Hid (Eb W bx x) := hid (by rw [<- eW, <- ebx]; exact newE_eb w x)
 have HSr := hid hr
 have HSS := hid hS
 have HEb := hid ebx
 clear A0 hr hS
 go_enter Try.func41, Try.ntmps41
 go_wp2_with fail
 clear eW ebx
 go_loopw [6] (fun u wr => ∃ k : Nat, k <= S.length /\ u = .int .i64 (k : Int) /\ Hid (Still W wr /\ ∀ t, t < k -> kc (att S t) x < 0)) (fun u _ => S.length - (intOf u).toNat)
 case atStart => exact ⟨0, by omega, rfl, hid ⟨Fr.refl _ _, fun t ht => by omega⟩⟩
 case round =>
  obtain ⟨k, hk, rfl, HK⟩ := hrel
  by_cases hkn : k < S.length
  ·have hlt : (k : Int) < (S.length : Int) := by omega
   obtain ⟨B, o, e⟩ := HSr.out.rd.at (by omega)
   subst e
   obtain ⟨d0, d1, d2, d3, d4, d5, d6, d7⟩ := rdE (HSr.out.still (HS0.out.trans HK.out.1)).rd hkn
   obtain ⟨b0, b1, b2, b3, b4, b5, b6, b7, _⟩ := (HXW.out.still HK.out.1).cells
   have HOr := hid (fun w => rord_any (att S k) x w)
   have HRX := hid (fun w' (h : Still w w') => rdE (HSr.out.still h).rd hkn)
   obtain ⟨z, ez⟩ : ∃ z, att S k = z := ⟨_, rfl⟩
   rw [ez] at d0 d1 d2 d3 d4 d5 d6 d7 HOr HRX
   obtain ⟨rr, err⟩ : ∃ r, kc z x = r := ⟨_, rfl⟩
   rw [err] at HOr
   have HZ : Hid (kc (att S k) x = rr) := hid (by rw [ez]; exact err)
   have k0 := Cl.cell d0
   have k1 := Cl.cell d1
   have k2 := Cl.cell d2
   have k3 := Cl.cell d3
   have k4 := Cl.cell d4
   have k5 := Cl.cell d5
   have k6 := Cl.cell d6
   have k7 := Cl.cell d7
   have l0 := Cl.cell b0
   have l1 := Cl.cell b1
   have l2 := Cl.cell b2
   have l3 := Cl.cell b3
   have l4 := Cl.cell b4
   have l5 := Cl.cell b5
   have l6 := Cl.cell b6
   have l7 := Cl.cell b7
   have hne := Aft.here wr
   clear ez err d0 d1 d2 d3 d4 d5 d6 d7 b0 b1 b2 b3 b4 b5 b6 b7
   by_cases hr0 : rr < 0
   ·have HK2 : Hid (∀ t, t < k + 1 -> kc (att S t) x < 0) := hid (fun t ht => if e : t = k then (by rw [e, HZ.out]; exact hr0) else HK.out.2 t (by omega))
    go_upto_region 2 with fail
    refine region_all (by kernel_rfl) (by kernel_rfl) ?_
    repeat (go_big_quiet_step ((first | (go_at_call 20; with_reducible exact Calls.cl (HOr.out _)) | rfl)))
    refine wpQuiet_nil ?_
    intro w2 h2
    have HS2 := hid (HK.out.1.trans h2)
    clear h2 hne HK k0 k1 k2 k3 k4 k5 k6 k7 l0 l1 l2 l3 l4 l5 l6 l7
    go_wp2_with fail
    go_roundw
    case rel => exact ⟨k + 1, by omega, by go_num, hid ⟨HS2.out, HK2.out⟩⟩
    case measure => simp [intOf]; omega
   ·go_upto_region 2 with fail
    refine region_all (by kernel_rfl) (by kernel_rfl) ?_
    repeat (go_big_quiet_step ((first | (go_at_call 20; with_reducible exact Calls.cl (HOr.out _)) | rfl)))
    refine wpQuiet_nil ?_
    intro w2 h2
    have HSt := hid (HK.out.1.trans h2)
    have HK1 := hid HK.out.2
    clear h2 hne HK k0 k1 k2 k3 k4 k5 k6 k7 l0 l1 l2 l3 l4 l5 l6 l7
    go_upto_region 4 with fail
    obtain ⟨d0, d1, d2, d3, d4, d5, d6, d7⟩ := HRX.out w2 (HS0.out.trans HSt.out)
    obtain ⟨b0, b1, b2, b3, b4, b5, b6, b7, _⟩ := (HXW.out.still HSt.out).cells
    have k0 := Cl.cell d0
    have k1 := Cl.cell d1
    have k2 := Cl.cell d2
    have k3 := Cl.cell d3
    have k4 := Cl.cell d4
    have k5 := Cl.cell d5
    have k6 := Cl.cell d6
    have k7 := Cl.cell d7
    have l0 := Cl.cell b0
    have l1 := Cl.cell b1
    have l2 := Cl.cell b2
    have l3 := Cl.cell b3
    have l4 := Cl.cell b4
    have l5 := Cl.cell b5
    have l6 := Cl.cell b6
    have l7 := Cl.cell b7
    have hne := Aft.here w2
    clear d0 d1 d2 d3 d4 d5 d6 d7 b0 b1 b2 b3 b4 b5 b6 b7
    by_cases hr1 : rr = 0
    ·subst hr1
     refine region_all (by kernel_rfl) (by kernel_rfl) ?_
     repeat (go_big_quiet_step ((first | (go_at_call 20; with_reducible exact Calls.cl (HOr.out _)) | rfl)))
     refine wpQuiet_nil ?_
     intro w3 h3
     have HS3 := hid ((HS0.out.trans HSt.out).trans h3)
     have HH : Hid (hasK x S = true) := hid (List.any_eq_true.2 ⟨_, att_mem hkn, decide_eq_true (by have := HZ.out; rw [kc_eq] at this ⊢; omega)⟩)
     clear h3 hne k0 k1 k2 k3 k4 k5 k6 k7 l0 l1 l2 l3 l4 l5 l6 l7
     go_wp2_with fail
     go_ret2
     exact .inl ⟨HH.out, rfl, HS3.out⟩
    ·have hr2 : (rr == 0) = false := beq_eq_false_iff_ne.2 hr1
     have HIN := hid (ins_srt HSS.out hk HK1.out (fun _ => by rw [HZ.out]; omega))
     refine region_all (by kernel_rfl) (by kernel_rfl) ?_
     repeat (go_big_quiet_step ((first | (go_at_call 20; with_reducible exact Calls.cl (HOr.out _)) | rfl)))
     refine wpQuiet_nil ?_
     intro wc h3
     have HSt2 := hid (HSt.out.trans h3)
     clear h3 hne k0 k1 k2 k3 k4 k5 k6 k7 l0 l1 l2 l3 l4 l5 l6 l7 HSt
     have HSt := HSt2
     clear HSt2
     have HSA : Hid (Sr wc (some ⟨B, o, none⟩) cap (S.take k)) := hid ((HSr.out.still (HS0.out.trans HSt.out)).take hk)
     have hcut := fun w => run_uptoE w (some ⟨B, o, none⟩) S.length cap k (by have := HSr.out.le; omega)
     have htk : (S.take k).length = k := by simp; omega
     have hwc : w.heap.size <= wc.heap.size := (HS0.out.trans HSt.out).size
     by_cases hck : cap = k
     ·obtain rfl : k = cap := hck.symm
      clear hck
      go_upto_region 8 with (
       at_builtin
       refine wpList_appM _ rfl _ _ rfl w.heap.size (.slice none 0 0) [] (S.take k) (some ⟨B, o, none⟩) k k rfl rfl htk (OwG.nil _ _) HSA.out (by simp; omega) hwc ?_
       intro v1 w1 ho1 hf1
       rw [List.nil_append] at ho1
       have hs1 : Still wc w1 := hf1.mono (fun k _ e => by cases e)
       have HS1 := hid (HSt.out.trans hs1)
       have HO1 := hid ho1
       obtain ⟨ao1, cap1, e1, _⟩ := ho1.slice
       subst e1
       rw [htk] at HO1 ⊢
       clear ho1 hf1 hs1)
      obtain ⟨c0, c1, c2, c3, c4, c5, c6, c7, _⟩ := (HXW.out.still HS1.out).cells
      have A2 := Still.alloc w1 (.cells (ecs x) 44)
      have HO2 := hid (HO1.out.still A2)
      have HX2 : Hid ((newE w1 x).heap[w1.heap.size]? = some (.cells (KE.f x).toArray 44 (0, 0))) := hid (newE_eb w1 x)
      have HS2 := hid ((HS0.out.trans HS1.out).trans A2)
      have hw2 : w.heap.size <= (newE w1 x).heap.size := HS2.out.size
      clear A2
      go_upto_region 9 with (
       at_builtin
       refine wpList_appG KE _ rfl _ _ _ rfl rfl 64 infoE (by omega) w.heap.size w1.heap.size (.slice ao1 k cap1) (S.take k) x rfl rfl HO2.out HX2.out (by omega) hw2 ?_
       intro v3 w3 ho3 hf3
       have HS3 : Hid (Still w w3) := hid (still_appG HS2.out HO2.out hf3 (Nat.le_refl _))
       have HO3 := hid ho3
       obtain ⟨ao3, cap3, e3, _⟩ := ho3.slice
       subst e3
       rw [show (S.take k ++ [x]).length = k + 1 by simp; omega] at HO3 ⊢
       clear ho3 hf3)
      have HSD : Hid (Sr w3 (cutE (some ⟨B, o, none⟩) k k) (k - k) (S.drop k)) := hid ((HSr.out.still HS3.out).drop hk)
      have hZ : cutE (some ⟨B, o, none⟩) k k = (some ⟨B, o, none⟩) := by simp [cutE]
      rw [hZ, Nat.sub_self] at HSD
      have hdl : (S.drop k).length = S.length - k := by simp
      have hw3 : w.heap.size <= w3.heap.size := HS3.out.size
      have hl3 : (S.take k ++ [x]).length + (S.drop k).length <= 100000 := by simp; omega
      clear c0 c1 c2 c3 c4 c5 c6 c7 hZ
      go_wp2_with (
       at_builtin
       refine wpList_appM _ rfl _ _ rfl w.heap.size (.slice ao3 (k + 1) cap3) (S.take k ++ [x]) (S.drop k) (some ⟨B, o, none⟩) (S.length - k) 0 rfl rfl hdl HO3.out HSD.out hl3 hw3 ?_
       intro v4 w4 ho4 hf4
       have HS4 : Hid (Still w w4) := hid (still_appG HS3.out HO3.out hf4 (Nat.le_refl _))
       have HO4 := hid ho4
       obtain ⟨ao4, cap4, e4, _⟩ := ho4.slice
       subst e4
       obtain ⟨N4, eN4⟩ : ∃ N, (S.take k ++ [x] ++ S.drop k).length = N := ⟨_, rfl⟩
       have HN4 := hid eN4
       rw [eN4] at HO4 ⊢
       clear ho4 hf4 eN4)
      go_ret2
      exact .inr ⟨HIN.out.1, ao4, cap4, S.take k ++ [x] ++ S.drop k, by rw [HN4.out]; rfl, HIN.out.2.1, HIN.out.2.2, by rw [HN4.out]; exact HO4.out, HS4.out⟩
     ·go_upto_region 8 with (
       at_builtin
       refine wpList_appM _ rfl _ _ rfl w.heap.size (.slice none 0 0) [] (S.take k) (some ⟨B, o, none⟩) k cap rfl rfl htk (OwG.nil _ _) HSA.out (by simp; omega) hwc ?_
       intro v1 w1 ho1 hf1
       rw [List.nil_append] at ho1
       have hs1 : Still wc w1 := hf1.mono (fun k _ e => by cases e)
       have HS1 := hid (HSt.out.trans hs1)
       have HO1 := hid ho1
       obtain ⟨ao1, cap1, e1, _⟩ := ho1.slice
       subst e1
       rw [htk] at HO1 ⊢
       clear ho1 hf1 hs1)
      obtain ⟨c0, c1, c2, c3, c4, c5, c6, c7, _⟩ := (HXW.out.still HS1.out).cells
      have A2 := Still.alloc w1 (.cells (ecs x) 44)
      have HO2 := hid (HO1.out.still A2)
      have HX2 : Hid ((newE w1 x).heap[w1.heap.size]? = some (.cells (KE.f x).toArray 44 (0, 0))) := hid (newE_eb w1 x)
      have HS2 := hid ((HS0.out.trans HS1.out).trans A2)
      have hw2 : w.heap.size <= (newE w1 x).heap.size := HS2.out.size
      clear A2
      go_upto_region 9 with (
       at_builtin
       refine wpList_appG KE _ rfl _ _ _ rfl rfl 64 infoE (by omega) w.heap.size w1.heap.size (.slice ao1 k cap1) (S.take k) x rfl rfl HO2.out HX2.out (by omega) hw2 ?_
       intro v3 w3 ho3 hf3
       have HS3 : Hid (Still w w3) := hid (still_appG HS2.out HO2.out hf3 (Nat.le_refl _))
       have HO3 := hid ho3
       obtain ⟨ao3, cap3, e3, _⟩ := ho3.slice
       subst e3
       rw [show (S.take k ++ [x]).length = k + 1 by simp; omega] at HO3 ⊢
       clear ho3 hf3)
      have HSD : Hid (Sr w3 (cutE (some ⟨B, o, none⟩) cap k) (cap - k) (S.drop k)) := hid ((HSr.out.still HS3.out).drop hk)
      have hZ : cutE (some ⟨B, o, none⟩) cap k = (some ⟨B, o + k * 8, none⟩) := by simp [cutE, hck, add_plain]
      rw [hZ] at HSD
      have hdl : (S.drop k).length = S.length - k := by simp
      have hw3 : w.heap.size <= w3.heap.size := HS3.out.size
      have hl3 : (S.take k ++ [x]).length + (S.drop k).length <= 100000 := by simp; omega
      clear c0 c1 c2 c3 c4 c5 c6 c7 hZ
      go_wp2_with (
       at_builtin
       refine wpList_appM _ rfl _ _ rfl w.heap.size (.slice ao3 (k + 1) cap3) (S.take k ++ [x]) (S.drop k) (some ⟨B, o + k * 8, none⟩) (S.length - k) (cap - k) rfl rfl hdl HO3.out HSD.out hl3 hw3 ?_
       intro v4 w4 ho4 hf4
       have HS4 : Hid (Still w w4) := hid (still_appG HS3.out HO3.out hf4 (Nat.le_refl _))
       have HO4 := hid ho4
       obtain ⟨ao4, cap4, e4, _⟩ := ho4.slice
       subst e4
       obtain ⟨N4, eN4⟩ : ∃ N, (S.take k ++ [x] ++ S.drop k).length = N := ⟨_, rfl⟩
       have HN4 := hid eN4
       rw [eN4] at HO4 ⊢
       clear ho4 hf4 eN4)
      go_ret2
      exact .inr ⟨HIN.out.1, ao4, cap4, S.take k ++ [x] ++ S.drop k, by rw [HN4.out]; rfl, HIN.out.2.1, HIN.out.2.2, by rw [HN4.out]; exact HO4.out, HS4.out⟩
  ·have hge : ¬ (k : Int) < (S.length : Int) := by omega
   have HIN := hid (ins_srt HSS.out hk HK.out.2 (fun h => absurd h hkn))
   have hne := Aft.here wr
   go_upto_region 2 with fail
   refine region_all (by kernel_rfl) (by kernel_rfl) ?_
   repeat (go_big_quiet_step (rfl))
   refine wpQuiet_nil ?_
   intro w2 h2
   have HSt1 := hid (HK.out.1.trans h2)
   clear h2 hne HK
   have hne := Aft.here w2
   go_upto_region 4 with fail
   refine region_all (by kernel_rfl) (by kernel_rfl) ?_
   repeat (go_big_quiet_step (rfl))
   refine wpQuiet_nil ?_
   intro wc h3
   have HSt := hid (HSt1.out.trans h3)
   clear h3 hne HSt1
   have HSA : Hid (Sr wc ao cap (S.take k)) := hid ((HSr.out.still (HS0.out.trans HSt.out)).take hk)
   have hcut := fun w => run_uptoE w ao S.length cap k (by have := HSr.out.le; omega)
   have htk : (S.take k).length = k := by simp; omega
   have hwc : w.heap.size <= wc.heap.size := (HS0.out.trans HSt.out).size
   by_cases hck : cap = k
   ·obtain rfl : k = cap := hck.symm
    clear hck
    go_upto_region 8 with (
     at_builtin
     refine wpList_appM _ rfl _ _ rfl w.heap.size (.slice none 0 0) [] (S.take k) ao k k rfl rfl htk (OwG.nil _ _) HSA.out (by simp; omega) hwc ?_
     intro v1 w1 ho1 hf1
     rw [List.nil_append] at ho1
     have hs1 : Still wc w1 := hf1.mono (fun k _ e => by cases e)
     have HS1 := hid (HSt.out.trans hs1)
     have HO1 := hid ho1
     obtain ⟨ao1, cap1, e1, _⟩ := ho1.slice
     subst e1
     rw [htk] at HO1 ⊢
     clear ho1 hf1 hs1)
    obtain ⟨c0, c1, c2, c3, c4, c5, c6, c7, _⟩ := (HXW.out.still HS1.out).cells
    have A2 := Still.alloc w1 (.cells (ecs x) 44)
    have HO2 := hid (HO1.out.still A2)
    have HX2 : Hid ((newE w1 x).heap[w1.heap.size]? = some (.cells (KE.f x).toArray 44 (0, 0))) := hid (newE_eb w1 x)
    have HS2 := hid ((HS0.out.trans HS1.out).trans A2)
    have hw2 : w.heap.size <= (newE w1 x).heap.size := HS2.out.size
    clear A2
    go_upto_region 9 with (
     at_builtin
     refine wpList_appG KE _ rfl _ _ _ rfl rfl 64 infoE (by omega) w.heap.size w1.heap.size (.slice ao1 k cap1) (S.take k) x rfl rfl HO2.out HX2.out (by omega) hw2 ?_
     intro v3 w3 ho3 hf3
     have HS3 : Hid (Still w w3) := hid (still_appG HS2.out HO2.out hf3 (Nat.le_refl _))
     have HO3 := hid ho3
     obtain ⟨ao3, cap3, e3, _⟩ := ho3.slice
     subst e3
     rw [show (S.take k ++ [x]).length = k + 1 by simp; omega] at HO3 ⊢
     clear ho3 hf3)
    have HSD : Hid (Sr w3 (cutE ao k k) (k - k) (S.drop k)) := hid ((HSr.out.still HS3.out).drop hk)
    have hZ : cutE ao k k = ao := by simp [cutE]
    rw [hZ, Nat.sub_self] at HSD
    have hdl : (S.drop k).length = S.length - k := by simp
    have hw3 : w.heap.size <= w3.heap.size := HS3.out.size
    have hl3 : (S.take k ++ [x]).length + (S.drop k).length <= 100000 := by simp; omega
    clear c0 c1 c2 c3 c4 c5 c6 c7 hZ
    go_wp2_with (
     at_builtin
     refine wpList_appM _ rfl _ _ rfl w.heap.size (.slice ao3 (k + 1) cap3) (S.take k ++ [x]) (S.drop k) ao (S.length - k) 0 rfl rfl hdl HO3.out HSD.out hl3 hw3 ?_
     intro v4 w4 ho4 hf4
     have HS4 : Hid (Still w w4) := hid (still_appG HS3.out HO3.out hf4 (Nat.le_refl _))
     have HO4 := hid ho4
     obtain ⟨ao4, cap4, e4, _⟩ := ho4.slice
     subst e4
     obtain ⟨N4, eN4⟩ : ∃ N, (S.take k ++ [x] ++ S.drop k).length = N := ⟨_, rfl⟩
     have HN4 := hid eN4
     rw [eN4] at HO4 ⊢
     clear ho4 hf4 eN4)
    go_ret2
    exact .inr ⟨HIN.out.1, ao4, cap4, S.take k ++ [x] ++ S.drop k, by rw [HN4.out]; rfl, HIN.out.2.1, HIN.out.2.2, by rw [HN4.out]; exact HO4.out, HS4.out⟩
   ·go_upto_region 8 with (
     at_builtin
     refine wpList_appM _ rfl _ _ rfl w.heap.size (.slice none 0 0) [] (S.take k) ao k cap rfl rfl htk (OwG.nil _ _) HSA.out (by simp; omega) hwc ?_
     intro v1 w1 ho1 hf1
     rw [List.nil_append] at ho1
     have hs1 : Still wc w1 := hf1.mono (fun k _ e => by cases e)
     have HS1 := hid (HSt.out.trans hs1)
     have HO1 := hid ho1
     obtain ⟨ao1, cap1, e1, _⟩ := ho1.slice
     subst e1
     rw [htk] at HO1 ⊢
     clear ho1 hf1 hs1)
    obtain ⟨c0, c1, c2, c3, c4, c5, c6, c7, _⟩ := (HXW.out.still HS1.out).cells
    have A2 := Still.alloc w1 (.cells (ecs x) 44)
    have HO2 := hid (HO1.out.still A2)
    have HX2 : Hid ((newE w1 x).heap[w1.heap.size]? = some (.cells (KE.f x).toArray 44 (0, 0))) := hid (newE_eb w1 x)
    have HS2 := hid ((HS0.out.trans HS1.out).trans A2)
    have hw2 : w.heap.size <= (newE w1 x).heap.size := HS2.out.size
    clear A2
    go_upto_region 9 with (
     at_builtin
     refine wpList_appG KE _ rfl _ _ _ rfl rfl 64 infoE (by omega) w.heap.size w1.heap.size (.slice ao1 k cap1) (S.take k) x rfl rfl HO2.out HX2.out (by omega) hw2 ?_
     intro v3 w3 ho3 hf3
     have HS3 : Hid (Still w w3) := hid (still_appG HS2.out HO2.out hf3 (Nat.le_refl _))
     have HO3 := hid ho3
     obtain ⟨ao3, cap3, e3, _⟩ := ho3.slice
     subst e3
     rw [show (S.take k ++ [x]).length = k + 1 by simp; omega] at HO3 ⊢
     clear ho3 hf3)
    have HSD : Hid (Sr w3 (cutE ao cap k) (cap - k) (S.drop k)) := hid ((HSr.out.still HS3.out).drop hk)
    have hZ : cutE ao cap k = (Option.map (fun x => x.add (k * 8)) ao) := by simp [cutE, hck]
    rw [hZ] at HSD
    have hdl : (S.drop k).length = S.length - k := by simp
    have hw3 : w.heap.size <= w3.heap.size := HS3.out.size
    have hl3 : (S.take k ++ [x]).length + (S.drop k).length <= 100000 := by simp; omega
    clear c0 c1 c2 c3 c4 c5 c6 c7 hZ
    go_wp2_with (
     at_builtin
     refine wpList_appM _ rfl _ _ rfl w.heap.size (.slice ao3 (k + 1) cap3) (S.take k ++ [x]) (S.drop k) (Option.map (fun x => x.add (k * 8)) ao) (S.length - k) (cap - k) rfl rfl hdl HO3.out HSD.out hl3 hw3 ?_
     intro v4 w4 ho4 hf4
     have HS4 : Hid (Still w w4) := hid (still_appG HS3.out HO3.out hf4 (Nat.le_refl _))
     have HO4 := hid ho4
     obtain ⟨ao4, cap4, e4, _⟩ := ho4.slice
     subst e4
     obtain ⟨N4, eN4⟩ : ∃ N, (S.take k ++ [x] ++ S.drop k).length = N := ⟨_, rfl⟩
     have HN4 := hid eN4
     rw [eN4] at HO4 ⊢
     clear ho4 hf4 eN4)
    go_ret2
    exact .inr ⟨HIN.out.1, ao4, cap4, S.take k ++ [x] ++ S.drop k, by rw [HN4.out]; rfl, HIN.out.2.1, HIN.out.2.2, by rw [HN4.out]; exact HO4.out, HS4.out⟩
end Go.Proofs.Ytdmgalaajgebkaa
namespace Go.Proofs.Ytdmgalaajgebkaa
open Go.RowKit
set_option maxRecDepth 100000
structure Lgs where
 np : Int
 nr : Int
 ba : Int
 S : List En
structure Lo (s : Lgs) : Prop where
 p : 2 <= s.np /\ s.np <= 6
 r : 2 <= s.nr /\ s.nr <= 5
 b : 0 <= s.ba /\ s.ba <= 1099511627776
 srt : Srt s.S
 fr : ∀ x ∈ s.S, s.ba < x.fr /\ x.fr <= s.ba + 112
 pe : ∀ x ∈ s.S, 0 <= x.pe /\ x.pe < s.np
 ms : ∀ x ∈ s.S, 0 <= x.ms /\ x.ms < s.nr
 few : ∀ f p, s.S.countP (fun x => decide (x.fr = f /\ x.pe = p)) <= 3
def onF (f : Int) (S : List En) : List En := S.filter fun x => decide (x.fr = f)
def plc (i : Nat) (S : List En) : List En := S.filter fun x => decide (x.fr % 112 = (i : Int))
def lowN (f : Int) (S : List En) : Nat := S.countP fun x => decide (x.fr < f)
theorem cntP_or {p q : En -> Bool} (h : ∀ x, ¬ (p x = true /\ q x = true)) : ∀ (S : List En), S.countP (fun x => p x || q x) = S.countP p + S.countP q
 | [] => rfl
 | x :: S => by
  have ih := cntP_or h S
  have hx := h x
  simp only [List.countP_cons, ih]
  cases hp : p x <;> cases hq : q x <;> simp [hp, hq] at hx ⊢ <;> omega
theorem lowN_next (f : Int) (S : List En) : lowN (f + 1) S = lowN f S + (onF f S).length := by
 unfold lowN onF
 rw [<- List.countP_eq_length_filter, <- cntP_or (fun x => by simp; omega)]
 congr 1
 funext x
 rw [<- Bool.decide_or]
 exact decide_eq_decide.2 (by omega)
theorem lowN_first {s : Lgs} (h : Lo s) : lowN (s.ba + 1) s.S = 0 := by
 unfold lowN
 rw [List.countP_eq_zero]
 intro x hx
 have := h.fr x hx
 simp; omega
theorem lowN_last {s : Lgs} (h : Lo s) : lowN (s.ba + 113) s.S = s.S.length := by
 unfold lowN
 rw [List.countP_eq_length]
 intro x hx
 have := h.fr x hx
 simp; omega
theorem lowN_le (f : Int) (S : List En) : lowN f S <= S.length := List.countP_le_length
theorem plc_on {s : Lgs} (h : Lo s) {f : Int} (h1 : s.ba < f) (h2 : f <= s.ba + 112) : plc (f % 112).toNat s.S = onF f s.S := by
 unfold plc onF
 apply List.filter_congr
 intro x hx
 have := h.fr x hx
 have := h.b
 exact decide_eq_decide.2 (by omega)
theorem srt_cut {S : List En} (h : Srt S) (f : Int) : S = (S.filter fun x => decide (x.fr < f)) ++ (onF f S ++ (S.filter fun x => decide (f < x.fr))) := by
 have hle : S.Pairwise (fun x y => x.fr <= y.fr) := h.imp (fun hxy => by rw [kc_lt] at hxy; omega)
 clear h
 unfold onF
 induction S with
 | nil => rfl
 | cons x S ih =>
  obtain ⟨h1, h2⟩ := List.pairwise_cons.1 hle
  have ih := ih h2
  by_cases hx : x.fr < f
  ·rw [List.filter_cons_of_pos (by simpa using hx), List.filter_cons_of_neg (by simp; omega), List.filter_cons_of_neg (by simp; omega), List.cons_append, <- ih]
  ·have e1 : (S.filter fun x => decide (x.fr < f)) = [] := by
    rw [List.filter_eq_nil_iff]
    intro y hy
    have := h1 y hy
    simp; omega
   rw [e1, List.nil_append] at ih
   rw [List.filter_cons_of_neg (by simpa using hx), e1, List.nil_append]
   by_cases hf : x.fr = f
   ·rw [List.filter_cons_of_pos (by simpa using hf), List.filter_cons_of_neg (by simp; omega), List.cons_append, <- ih]
   ·have e2 : (S.filter fun x => decide (x.fr = f)) = [] := by
     rw [List.filter_eq_nil_iff]
     intro y hy
     have := h1 y hy
     simp; omega
    rw [e2, List.nil_append] at ih
    rw [List.filter_cons_of_neg (by simpa using hf), e2, List.nil_append, List.filter_cons_of_pos (by simp; omega), <- ih]
theorem att_app_l {A B : List En} {k : Nat} (h : k < A.length) : att (A ++ B) k = att A k := by
 unfold att; rw [List.getD_eq_getElem?_getD, List.getD_eq_getElem?_getD, List.getElem?_append_left h]
theorem att_app_r {A B : List En} {k : Nat} : att (A ++ B) (A.length + k) = att B k := by
 unfold att; rw [List.getD_eq_getElem?_getD, List.getD_eq_getElem?_getD, List.getElem?_append_right (by omega), Nat.add_sub_cancel_left]
theorem att_on {S : List En} (h : Srt S) (f : Int) {j : Nat} (hj : j < (onF f S).length) : att S (lowN f S + j) = att (onF f S) j := by
 have e : lowN f S = (S.filter fun x => decide (x.fr < f)).length := by unfold lowN; rw [List.countP_eq_length_filter]
 have e2 : att S (lowN f S + j) = att ((S.filter fun x => decide (x.fr < f)) ++ (onF f S ++ (S.filter fun x => decide (f < x.fr)))) (lowN f S + j) := congrArg (fun L => att L (lowN f S + j)) (srt_cut h f)
 rw [e2, e, att_app_r, att_app_l hj]
theorem on_fr {S : List En} {f : Int} {j : Nat} (hj : j < (onF f S).length) : (att (onF f S) j).fr = f := by
 have h1 := (List.mem_filter.1 (show att (onF f S) j ∈ S.filter _ from att_mem hj)).2
 exact of_decide_eq_true h1
theorem low_on_le {f g : Int} (h : f < g) (S : List En) : lowN f S + (onF f S).length <= lowN g S := by
 rw [<- lowN_next]
 unfold lowN
 apply List.countP_mono_left
 intro x _ hx
 simp at hx ⊢; omega
theorem att_at {s : Lgs} (h : Lo s) {k : Nat} (hk : k < s.S.length) : lowN (att s.S k).fr s.S <= k /\ k - lowN (att s.S k).fr s.S < (onF (att s.S k).fr s.S).length := by
 have hm := att_mem hk
 obtain ⟨x, ex⟩ : ∃ x, att s.S k = x := ⟨_, rfl⟩
 rw [ex] at hm ⊢
 have e : lowN x.fr s.S = (s.S.filter fun y => decide (y.fr < x.fr)).length := by unfold lowN; rw [List.countP_eq_length_filter]
 have hc := srt_cut h.srt x.fr
 have h1 : lowN x.fr s.S <= k := by
  rcases Nat.lt_or_ge k (lowN x.fr s.S) with hlt | hge
  ·exfalso
   rw [e] at hlt
   have e2 : att s.S k = att (s.S.filter fun y => decide (y.fr < x.fr)) k := by
    conv => lhs; rw [hc]
    rw [att_app_l hlt]
   have := (List.mem_filter.1 (att_mem hlt)).2
   rw [<- e2, ex] at this
   simp at this
  ·exact hge
 refine ⟨h1, ?_⟩
 rcases Nat.lt_or_ge (k - lowN x.fr s.S) (onF x.fr s.S).length with hlt | hge
 ·exact hlt
 ·exfalso
  have hl : s.S.length = (s.S.filter fun y => decide (y.fr < x.fr)).length + ((onF x.fr s.S).length + (s.S.filter fun y => decide (x.fr < y.fr)).length) := by
   conv => lhs; rw [hc]
   simp
  have e2 : att s.S k = att (s.S.filter fun y => decide (x.fr < y.fr)) (k - lowN x.fr s.S - (onF x.fr s.S).length) := by
   conv => lhs; rw [hc]
   rw [show k = (s.S.filter fun y => decide (y.fr < x.fr)).length + ((onF x.fr s.S).length + (k - lowN x.fr s.S - (onF x.fr s.S).length)) by omega, att_app_r, att_app_r]
   congr 1
   omega
  have hlt : k - lowN x.fr s.S - (onF x.fr s.S).length < (s.S.filter fun y => decide (x.fr < y.fr)).length := by omega
  have := (List.mem_filter.1 (att_mem hlt)).2
  rw [<- e2, ex] at this
  simp at this
theorem att_fr {s : Lgs} (h : Lo s) {k : Nat} (hk : k < s.S.length) : s.ba < (att s.S k).fr /\ (att s.S k).fr <= s.ba + 112 := h.fr _ (att_mem hk)
def cntF (f p : Int) (S : List En) : Nat := S.countP fun x => decide (x.fr = f /\ x.pe = p)
def lowP (f p : Int) (S : List En) : Nat := S.countP fun x => decide (x.fr < f \/ (x.fr = f /\ x.pe < p))
theorem lowP_next (f p : Int) (S : List En) : lowP f (p + 1) S = lowP f p S + cntF f p S := by
 unfold lowP cntF
 rw [<- cntP_or (fun x => by simp; omega)]
 congr 1
 funext x
 rw [<- Bool.decide_or]
 exact decide_eq_decide.2 (by omega)
theorem lowP_zero {s : Lgs} (h : Lo s) (f : Int) : lowP f 0 s.S = lowN f s.S := by
 unfold lowP lowN
 apply List.countP_congr
 intro x hx
 have := h.pe x hx
 simp; omega
theorem lowP_all {s : Lgs} (h : Lo s) (f : Int) : lowP f s.np s.S = lowN (f + 1) s.S := by
 unfold lowP lowN
 apply List.countP_congr
 intro x hx
 have := h.pe x hx
 simp; omega
theorem lowP_le {s : Lgs} (h : Lo s) (f : Int) : ∀ i : Nat, lowP f (i : Int) s.S <= lowN f s.S + 3 * i
 | 0 => by rw [show ((0 : Nat) : Int) = 0 from rfl, lowP_zero h]; omega
 | i + 1 => by
  have ih := lowP_le h f i
  have := h.few f i
  rw [show ((i + 1 : Nat) : Int) = (i : Int) + 1 by omega, lowP_next]
  unfold cntF
  omega
theorem lowN_few {s : Lgs} (h : Lo s) : ∀ j : Nat, lowN (s.ba + 1 + (j : Int)) s.S <= 3 * s.np.toNat * j
 | 0 => by
  have := lowN_first h
  simp only [Int.ofNat_zero, Int.add_zero]
  omega
 | j + 1 => by
  have ih := lowN_few h j
  have h1 := lowP_le h (s.ba + 1 + (j : Int)) s.np.toNat
  have hp := h.p
  rw [Int.toNat_of_nonneg (by omega), lowP_all h] at h1
  rw [show s.ba + 1 + ((j + 1 : Nat) : Int) = s.ba + 1 + (j : Int) + 1 by omega, Nat.mul_add]
  omega
theorem len_few {s : Lgs} (h : Lo s) : s.S.length <= 3 * s.np.toNat * 112 := by
 have := lowN_few h 112
 rw [show s.ba + 1 + ((112 : Nat) : Int) = s.ba + 113 by omega, lowN_last h] at this
 exact this
theorem len_2016 {s : Lgs} (h : Lo s) : s.S.length <= 2016 := by
 have h1 := len_few h
 have h2 := h.p
 have h3 : s.np.toNat <= 6 := by omega
 have h4 : 3 * s.np.toNat * 112 <= 3 * 6 * 112 := Nat.mul_le_mul_right _ (Nat.mul_le_mul_left _ h3)
 omega
theorem on_len {s : Lgs} (h : Lo s) (f : Int) : (onF f s.S).length <= 18 := by
 have h1 := lowP_le h f s.np.toNat
 have hp := h.p
 rw [Int.toNat_of_nonneg (by omega), lowP_all h, lowN_next] at h1
 omega
end Go.Proofs.Ytdmgalaajgebkaa
