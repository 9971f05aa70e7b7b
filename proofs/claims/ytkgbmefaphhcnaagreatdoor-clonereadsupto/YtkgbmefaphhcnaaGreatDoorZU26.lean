/- Parts of the proof, laid end to end. -/
import Derived.Test.YtkgbmefaphhcnaaGreatDoorZU13
import Derived.Test.YtkgbmefaphhcnaaGreatDoorZU14
import Derived.Test.YtkgbmefaphhcnaaGreatDoorZU10
namespace Go.Proofs.YtkgbmefaphhcnaaGreatDoor
open Go.RowKit
open Np Za Ka Ja Ea Ha
set_option maxRecDepth 100000
theorem RdG.keepF {α : Type} {K : Kd α} {F : Nat -> Prop} {w w' : World} {ao : Option Addr} {n : Nat} {L : List α} (h : RdG K w ao n L) (hf : Fr F w w') (hn : ∀ a, ao = some a -> 0 < n -> ¬ F a.block) : RdG K w' ao n L := by
 refine ⟨h.1, h.2.1, ?_⟩
 rcases h.2.2 with h0 | ⟨B, o, e, hc⟩
 ·exact .inl h0
 ·by_cases h0 : n = 0
  ·exact .inl h0
  ·exact .inr ⟨B, o, e, fun i hi j u hu => (hf.cell (World.block_lt_of_cell? w _ (hc i hi j u hu)) (fun hb => hn ⟨B, o, none⟩ e (by omega) hb)).trans (hc i hi j u hu)⟩
theorem flB_le (b : Bool) : (flB b).length = 1 := by cases b <;> rfl
theorem mvB_le {m : Mv} (h : ∀ n ∈ mvN m, I64 n) : (mvB m).length <= 121 := by
 have e : mvB m = nsB (mvN m) ++ flB m.sh := by
  unfold mvB mvN
  rw [<- nsB_app, <- nsB_app, <- nsB_app]
  rfl
 have := nsB_le h
 have l : (mvN m).length = 12 := rfl
 rw [e, List.length_append, flB_le]
 omega
theorem shB_le {s : Sh} (h : ∀ n ∈ shN s, I64 n) : (shB s).length <= 80 := by
 have e : shB s = nsB (shN s) := by
  unfold shB shN
  rw [<- nsB_app, <- nsB_app, <- nsB_app]
  rfl
 have := nsB_le h
 have l : (shN s).length = 8 := rfl
 rw [e]
 omega
theorem scB_le {s : Scr} (h : ∀ n ∈ scN s, I64 n) : (scB s).length <= 40 := nsB_le h
theorem pkB_le {s : Pk} (h : ∀ n ∈ pkN s, I64 n) : (pkB s).length <= 30 := nsB_le h
theorem flat_le {α : Type} (f : α -> List UInt8) (c : Nat) : ∀ (L : List α), (∀ x ∈ L, (f x).length <= c) -> (L.flatMap f).length <= c * L.length
 | [], _ => by simp
 | x :: L, h => by
  have h1 := flat_le f c L (fun y hy => h y (List.mem_cons_of_mem _ hy))
  have h2 := h x (List.mem_cons_self ..)
  rw [List.flatMap_cons, List.length_append, List.length_cons, Nat.mul_succ]
  omega
theorem flat_step {α : Type} (f : α -> List UInt8) {L : List α} {i : Nat} (d : α) (hi : i < L.length) : (L.take (i + 1)).flatMap f = (L.take i).flatMap f ++ f (L.getD i d) := by
 rw [List.take_succ_eq_append_getElem hi, List.flatMap_append]
 simp [List.getD_eq_getElem?_getD, hi]
set_option maxHeartbeats 2000000 in
theorem emover_any (p : Nat) (ao : Option Addr) (bs : List UInt8) (mo : Option Addr) (n cap : Nat) (L : List Mv) (hl : ∀ x ∈ L, ∀ n ∈ mvN x, I64 n) (hb : bs.length + 121 * L.length <= 1000000) (w : World) (hw : Wq w p ao bs) (hr : RdG KM w mo n L) (hne : ∀ a, mo = some a -> 0 < n -> ¬ Wf p ao a.block) :
  Calls Tryz.prog 99 #[.slice mo n cap, .func (.func 100) #[wqv p] #[]] w fun r w' => r = .returned (.tuple #[]) /\ ∃ ao', Lx w w' p ao ao' bs (L.flatMap mvB) := by
 have hln := hr.1
 have hsm := hr.2.1
 have HW := hid hw
 have HR := hid hr
 have HN := hid hne
 have HLl := hid hl
 clear hw hr hne hl
 go_enter Tryz.func99, Tryz.ntmps99
 go_wp2_with fail
 go_loopw [8] (fun u8 wr => ∃ (i : Nat) (ao1 : Option Addr), i <= n /\ u8 = .int .i64 (i : Int) /\ Hid (Lx w wr p ao ao1 bs ((L.take i).flatMap mvB))) (fun u8 _ => n - (intOf u8).toNat)
 case atStart => exact ⟨0, ao, by omega, rfl, hid (Lx.nil HW.out (Fr.refl _ _))⟩
 case round =>
  obtain ⟨i, ao1, hi, rfl, HL⟩ := hrel
  by_cases hin : i < n
  ·have hlt : (i : Int) < (n : Int) := by omega
   have hil : i < L.length := by omega
   obtain ⟨b, o, rfl⟩ := HR.out.at (by omega)
   obtain ⟨d0, d1, d2, d3, d4, d5, d6, d7, d8, d9, d10, d11, d12⟩ := rdM (HR.out.keepF HL.out.f (fun a ha h0 => HN.out a ha h0)) hin
   have hmem : mm L i ∈ L := by
    show L.getD i zM ∈ L
    rw [List.getD_eq_getElem?_getD, List.getElem?_eq_getElem hil]
    exact List.getElem_mem hil
   have hlen : (bs ++ (L.take i).flatMap mvB).length + 121 <= 1000000 := by
    have := flat_le mvB 121 (L.take i) (fun x hx => mvB_le (HLl.out x (List.mem_of_mem_take hx)))
    rw [List.length_append]
    simp only [List.length_take] at this
    have hm : min i L.length = i := by omega
    rw [hm] at this
    omega
   have A1 := Still.alloc wr (.cells (mcs (mm L i)) 55)
   have hx1 := heap_alloc_new wr (.cells (mcs (mm L i)) 55)
   have HM := hid (HLl.out _ hmem)
   have HS : Hid ((L.take (i + 1)).flatMap mvB = (L.take i).flatMap mvB ++ mvB (mm L i)) := hid (flat_step mvB zM hil)
   obtain ⟨x, ex⟩ : ∃ x, mm L i = x := ⟨_, rfl⟩
   rw [ex] at d0 d1 d2 d3 d4 d5 d6 d7 d8 d9 d10 d11 d12 A1 hx1 HM HS
   clear ex hmem
   obtain ⟨W1, eW1⟩ : ∃ W, wr.alloc (.cells (mcs x) 55) = W := ⟨_, rfl⟩
   obtain ⟨gx, egx⟩ : ∃ g, wr.heap.size = g := ⟨_, rfl⟩
   rw [eW1] at A1 hx1
   rw [egx] at hx1
   have e0 := cell_of_row _ _ 0 _ _ _ hx1
   have e1 := cell_of_row _ _ 1 _ _ _ hx1
   have e2 := cell_of_row _ _ 2 _ _ _ hx1
   have e3 := cell_of_row _ _ 3 _ _ _ hx1
   have e4 := cell_of_row _ _ 4 _ _ _ hx1
   have e5 := cell_of_row _ _ 5 _ _ _ hx1
   have e6 := cell_of_row _ _ 6 _ _ _ hx1
   have e7 := cell_of_row _ _ 7 _ _ _ hx1
   have e8 := cell_of_row _ _ 8 _ _ _ hx1
   have e9 := cell_of_row _ _ 9 _ _ _ hx1
   have e10 := cell_of_row _ _ 10 _ _ _ hx1
   have e11 := cell_of_row _ _ 11 _ _ _ hx1
   have e12 := cell_of_row _ _ 12 _ _ _ hx1
   simp only [List.getElem?_toArray, List.getElem?_cons_zero, List.getElem?_cons_succ] at e0 e1 e2 e3 e4 e5 e6 e7 e8 e9 e10 e11 e12
   have HC := hid (xmover_any p ao1 (bs ++ (L.take i).flatMap mvB) x HM.out hlen W1 (HL.out.q.still A1))
   have HA1 := hid A1
   clear A1 hx1 hlen
   go_wp2_with fail
   refine HC.out.mono ?_
   rintro e w2 ⟨he, ao2, h2⟩
   rw [he]
   have HL2 : Hid (Lx w w2 p ao ao2 bs ((L.take (i + 1)).flatMap mvB)) := hid (by rw [HS.out]; exact HL.out.trans (h2.from HA1.out))
   clear he h2 HC HL HS HA1 HM d0 d1 d2 d3 d4 d5 d6 d7 d8 d9 d10 d11 d12 e0 e1 e2 e3 e4 e5 e6 e7 e8 e9 e10 e11 e12 eW1 egx
   go_wp2_with fail
   go_roundw
   case rel => exact ⟨i + 1, ao2, by omega, by go_num, HL2⟩
   case measure => simp [intOf]; omega
  ·obtain rfl : i = n := by omega
   have HL2 : Hid (Lx w wr p ao ao1 bs (L.flatMap mvB)) := hid (by
    have := HL.out
    rw [List.take_of_length_le (by omega)] at this
    exact this)
   go_wp2_with fail
   go_end0
   exact ⟨rfl, ao1, HL2.out⟩
set_option maxHeartbeats 2000000 in
theorem escore_any (p : Nat) (ao : Option Addr) (bs : List UInt8) (mo : Option Addr) (n cap : Nat) (L : List Scr) (hl : ∀ x ∈ L, ∀ n ∈ scN x, I64 n) (hb : bs.length + 40 * L.length <= 1000000) (w : World) (hw : Wq w p ao bs) (hr : RdG KC w mo n L) (hne : ∀ a, mo = some a -> 0 < n -> ¬ Wf p ao a.block) :
  Calls Tryz.prog 101 #[.slice mo n cap, .func (.func 102) #[wqv p] #[]] w fun r w' => r = .returned (.tuple #[]) /\ ∃ ao', Lx w w' p ao ao' bs (L.flatMap scB) := by
 have hln := hr.1
 have hsm := hr.2.1
 have HW := hid hw
 have HR := hid hr
 have HN := hid hne
 have HLl := hid hl
 clear hw hr hne hl
 go_enter Tryz.func101, Tryz.ntmps101
 go_wp2_with fail
 go_loopw [8] (fun u8 wr => ∃ (i : Nat) (ao1 : Option Addr), i <= n /\ u8 = .int .i64 (i : Int) /\ Hid (Lx w wr p ao ao1 bs ((L.take i).flatMap scB))) (fun u8 _ => n - (intOf u8).toNat)
 case atStart => exact ⟨0, ao, by omega, rfl, hid (Lx.nil HW.out (Fr.refl _ _))⟩
 case round =>
  obtain ⟨i, ao1, hi, rfl, HL⟩ := hrel
  by_cases hin : i < n
  ·have hlt : (i : Int) < (n : Int) := by omega
   have hil : i < L.length := by omega
   obtain ⟨b, o, rfl⟩ := HR.out.at (by omega)
   obtain ⟨d0, d1, d2, d3⟩ := rdC (HR.out.keepF HL.out.f (fun a ha h0 => HN.out a ha h0)) hin
   have hmem : sc L i ∈ L := by
    show L.getD i zC ∈ L
    rw [List.getD_eq_getElem?_getD, List.getElem?_eq_getElem hil]
    exact List.getElem_mem hil
   have hlen : (bs ++ (L.take i).flatMap scB).length + 40 <= 1000000 := by
    have := flat_le scB 40 (L.take i) (fun x hx => scB_le (HLl.out x (List.mem_of_mem_take hx)))
    rw [List.length_append]
    simp only [List.length_take] at this
    have hm : min i L.length = i := by omega
    rw [hm] at this
    omega
   have A1 := Still.alloc wr (.cells (ccs (sc L i)) 57)
   have hx1 := heap_alloc_new wr (.cells (ccs (sc L i)) 57)
   have HM := hid (HLl.out _ hmem)
   have HS : Hid ((L.take (i + 1)).flatMap scB = (L.take i).flatMap scB ++ scB (sc L i)) := hid (flat_step scB zC hil)
   obtain ⟨x, ex⟩ : ∃ x, sc L i = x := ⟨_, rfl⟩
   rw [ex] at d0 d1 d2 d3 A1 hx1 HM HS
   clear ex hmem
   obtain ⟨W1, eW1⟩ : ∃ W, wr.alloc (.cells (ccs x) 57) = W := ⟨_, rfl⟩
   obtain ⟨gx, egx⟩ : ∃ g, wr.heap.size = g := ⟨_, rfl⟩
   rw [eW1] at A1 hx1
   rw [egx] at hx1
   have e0 := cell_of_row _ _ 0 _ _ _ hx1
   have e1 := cell_of_row _ _ 1 _ _ _ hx1
   have e2 := cell_of_row _ _ 2 _ _ _ hx1
   have e3 := cell_of_row _ _ 3 _ _ _ hx1
   simp only [List.getElem?_toArray, List.getElem?_cons_zero, List.getElem?_cons_succ] at e0 e1 e2 e3
   have HC := hid (xscore_any p ao1 (bs ++ (L.take i).flatMap scB) x HM.out hlen W1 (HL.out.q.still A1))
   have HA1 := hid A1
   clear A1 hx1 hlen
   go_wp2_with fail
   refine HC.out.mono ?_
   rintro e w2 ⟨he, ao2, h2⟩
   rw [he]
   have HL2 : Hid (Lx w w2 p ao ao2 bs ((L.take (i + 1)).flatMap scB)) := hid (by rw [HS.out]; exact HL.out.trans (h2.from HA1.out))
   clear he h2 HC HL HS HA1 HM d0 d1 d2 d3 e0 e1 e2 e3 eW1 egx
   go_wp2_with fail
   go_roundw
   case rel => exact ⟨i + 1, ao2, by omega, by go_num, HL2⟩
   case measure => simp [intOf]; omega
  ·obtain rfl : i = n := by omega
   have HL2 : Hid (Lx w wr p ao ao1 bs (L.flatMap scB)) := hid (by
    have := HL.out
    rw [List.take_of_length_le (by omega)] at this
    exact this)
   go_wp2_with fail
   go_end0
   exact ⟨rfl, ao1, HL2.out⟩
set_option maxHeartbeats 2000000 in
theorem eshot_any (p : Nat) (ao : Option Addr) (bs : List UInt8) (mo : Option Addr) (n cap : Nat) (L : List Sh) (hl : ∀ x ∈ L, ∀ n ∈ shN x, I64 n) (hb : bs.length + 80 * L.length <= 1000000) (w : World) (hw : Wq w p ao bs) (hr : RdG KS w mo n L) (hne : ∀ a, mo = some a -> 0 < n -> ¬ Wf p ao a.block) :
  Calls Tryz.prog 104 #[.slice mo n cap, .func (.func 105) #[wqv p] #[]] w fun r w' => r = .returned (.tuple #[]) /\ ∃ ao', Lx w w' p ao ao' bs (L.flatMap shB) := by
 have hln := hr.1
 have hsm := hr.2.1
 have HW := hid hw
 have HR := hid hr
 have HN := hid hne
 have HLl := hid hl
 clear hw hr hne hl
 go_enter Tryz.func104, Tryz.ntmps104
 go_wp2_with fail
 go_loopw [8] (fun u8 wr => ∃ (i : Nat) (ao1 : Option Addr), i <= n /\ u8 = .int .i64 (i : Int) /\ Hid (Lx w wr p ao ao1 bs ((L.take i).flatMap shB))) (fun u8 _ => n - (intOf u8).toNat)
 case atStart => exact ⟨0, ao, by omega, rfl, hid (Lx.nil HW.out (Fr.refl _ _))⟩
 case round =>
  obtain ⟨i, ao1, hi, rfl, HL⟩ := hrel
  by_cases hin : i < n
  ·have hlt : (i : Int) < (n : Int) := by omega
   have hil : i < L.length := by omega
   obtain ⟨b, o, rfl⟩ := HR.out.at (by omega)
   obtain ⟨d0, d1, d2, d3, d4, d5, d6, d7⟩ := rdS (HR.out.keepF HL.out.f (fun a ha h0 => HN.out a ha h0)) hin
   have hmem : ss L i ∈ L := by
    show L.getD i zS ∈ L
    rw [List.getD_eq_getElem?_getD, List.getElem?_eq_getElem hil]
    exact List.getElem_mem hil
   have hlen : (bs ++ (L.take i).flatMap shB).length + 80 <= 1000000 := by
    have := flat_le shB 80 (L.take i) (fun x hx => shB_le (HLl.out x (List.mem_of_mem_take hx)))
    rw [List.length_append]
    simp only [List.length_take] at this
    have hm : min i L.length = i := by omega
    rw [hm] at this
    omega
   have A1 := Still.alloc wr (.cells (scs (ss L i)) 59)
   have hx1 := heap_alloc_new wr (.cells (scs (ss L i)) 59)
   have HM := hid (HLl.out _ hmem)
   have HS : Hid ((L.take (i + 1)).flatMap shB = (L.take i).flatMap shB ++ shB (ss L i)) := hid (flat_step shB zS hil)
   obtain ⟨x, ex⟩ : ∃ x, ss L i = x := ⟨_, rfl⟩
   rw [ex] at d0 d1 d2 d3 d4 d5 d6 d7 A1 hx1 HM HS
   clear ex hmem
   obtain ⟨W1, eW1⟩ : ∃ W, wr.alloc (.cells (scs x) 59) = W := ⟨_, rfl⟩
   obtain ⟨gx, egx⟩ : ∃ g, wr.heap.size = g := ⟨_, rfl⟩
   rw [eW1] at A1 hx1
   rw [egx] at hx1
   have e0 := cell_of_row _ _ 0 _ _ _ hx1
   have e1 := cell_of_row _ _ 1 _ _ _ hx1
   have e2 := cell_of_row _ _ 2 _ _ _ hx1
   have e3 := cell_of_row _ _ 3 _ _ _ hx1
   have e4 := cell_of_row _ _ 4 _ _ _ hx1
   have e5 := cell_of_row _ _ 5 _ _ _ hx1
   have e6 := cell_of_row _ _ 6 _ _ _ hx1
   have e7 := cell_of_row _ _ 7 _ _ _ hx1
   simp only [List.getElem?_toArray, List.getElem?_cons_zero, List.getElem?_cons_succ] at e0 e1 e2 e3 e4 e5 e6 e7
   have HC := hid (xshot_any p ao1 (bs ++ (L.take i).flatMap shB) x HM.out hlen W1 (HL.out.q.still A1))
   have HA1 := hid A1
   clear A1 hx1 hlen
   go_wp2_with fail
   refine HC.out.mono ?_
   rintro e w2 ⟨he, ao2, h2⟩
   rw [he]
   have HL2 : Hid (Lx w w2 p ao ao2 bs ((L.take (i + 1)).flatMap shB)) := hid (by rw [HS.out]; exact HL.out.trans (h2.from HA1.out))
   clear he h2 HC HL HS HA1 HM d0 d1 d2 d3 d4 d5 d6 d7 e0 e1 e2 e3 e4 e5 e6 e7 eW1 egx
   go_wp2_with fail
   go_roundw
   case rel => exact ⟨i + 1, ao2, by omega, by go_num, HL2⟩
   case measure => simp [intOf]; omega
  ·obtain rfl : i = n := by omega
   have HL2 : Hid (Lx w wr p ao ao1 bs (L.flatMap shB)) := hid (by
    have := HL.out
    rw [List.take_of_length_le (by omega)] at this
    exact this)
   go_wp2_with fail
   go_end0
   exact ⟨rfl, ao1, HL2.out⟩
set_option maxHeartbeats 2000000 in
theorem epickup_any (p : Nat) (ao : Option Addr) (bs : List UInt8) (mo : Option Addr) (n cap : Nat) (L : List Pk) (hl : ∀ x ∈ L, ∀ n ∈ pkN x, I64 n) (hb : bs.length + 30 * L.length <= 1000000) (w : World) (hw : Wq w p ao bs) (hr : RdG KQ w mo n L) (hne : ∀ a, mo = some a -> 0 < n -> ¬ Wf p ao a.block) :
  Calls Tryz.prog 106 #[.slice mo n cap, .func (.func 107) #[wqv p] #[]] w fun r w' => r = .returned (.tuple #[]) /\ ∃ ao', Lx w w' p ao ao' bs (L.flatMap pkB) := by
 have hln := hr.1
 have hsm := hr.2.1
 have HW := hid hw
 have HR := hid hr
 have HN := hid hne
 have HLl := hid hl
 clear hw hr hne hl
 go_enter Tryz.func106, Tryz.ntmps106
 go_wp2_with fail
 go_loopw [8] (fun u8 wr => ∃ (i : Nat) (ao1 : Option Addr), i <= n /\ u8 = .int .i64 (i : Int) /\ Hid (Lx w wr p ao ao1 bs ((L.take i).flatMap pkB))) (fun u8 _ => n - (intOf u8).toNat)
 case atStart => exact ⟨0, ao, by omega, rfl, hid (Lx.nil HW.out (Fr.refl _ _))⟩
 case round =>
  obtain ⟨i, ao1, hi, rfl, HL⟩ := hrel
  by_cases hin : i < n
  ·have hlt : (i : Int) < (n : Int) := by omega
   have hil : i < L.length := by omega
   obtain ⟨b, o, rfl⟩ := HR.out.at (by omega)
   obtain ⟨d0, d1, d2⟩ := rdQ (HR.out.keepF HL.out.f (fun a ha h0 => HN.out a ha h0)) hin
   have hmem : pk L i ∈ L := by
    show L.getD i zK ∈ L
    rw [List.getD_eq_getElem?_getD, List.getElem?_eq_getElem hil]
    exact List.getElem_mem hil
   have hlen : (bs ++ (L.take i).flatMap pkB).length + 30 <= 1000000 := by
    have := flat_le pkB 30 (L.take i) (fun x hx => pkB_le (HLl.out x (List.mem_of_mem_take hx)))
    rw [List.length_append]
    simp only [List.length_take] at this
    have hm : min i L.length = i := by omega
    rw [hm] at this
    omega
   have A1 := Still.alloc wr (.cells (kcs (pk L i)) 61)
   have hx1 := heap_alloc_new wr (.cells (kcs (pk L i)) 61)
   have HM := hid (HLl.out _ hmem)
   have HS : Hid ((L.take (i + 1)).flatMap pkB = (L.take i).flatMap pkB ++ pkB (pk L i)) := hid (flat_step pkB zK hil)
   obtain ⟨x, ex⟩ : ∃ x, pk L i = x := ⟨_, rfl⟩
   rw [ex] at d0 d1 d2 A1 hx1 HM HS
   clear ex hmem
   obtain ⟨W1, eW1⟩ : ∃ W, wr.alloc (.cells (kcs x) 61) = W := ⟨_, rfl⟩
   obtain ⟨gx, egx⟩ : ∃ g, wr.heap.size = g := ⟨_, rfl⟩
   rw [eW1] at A1 hx1
   rw [egx] at hx1
   have e0 := cell_of_row _ _ 0 _ _ _ hx1
   have e1 := cell_of_row _ _ 1 _ _ _ hx1
   have e2 := cell_of_row _ _ 2 _ _ _ hx1
   simp only [List.getElem?_toArray, List.getElem?_cons_zero, List.getElem?_cons_succ] at e0 e1 e2
   have HC := hid (xpickup_any p ao1 (bs ++ (L.take i).flatMap pkB) x HM.out hlen W1 (HL.out.q.still A1))
   have HA1 := hid A1
   clear A1 hx1 hlen
   go_wp2_with fail
   refine HC.out.mono ?_
   rintro e w2 ⟨he, ao2, h2⟩
   rw [he]
   have HL2 : Hid (Lx w w2 p ao ao2 bs ((L.take (i + 1)).flatMap pkB)) := hid (by rw [HS.out]; exact HL.out.trans (h2.from HA1.out))
   clear he h2 HC HL HS HA1 HM d0 d1 d2 e0 e1 e2 eW1 egx
   go_wp2_with fail
   go_roundw
   case rel => exact ⟨i + 1, ao2, by omega, by go_num, HL2⟩
   case measure => simp [intOf]; omega
  ·obtain rfl : i = n := by omega
   have HL2 : Hid (Lx w wr p ao ao1 bs (L.flatMap pkB)) := hid (by
    have := HL.out
    rw [List.take_of_length_le (by omega)] at this
    exact this)
   go_wp2_with fail
   go_end0
   exact ⟨rfl, ao1, HL2.out⟩
end Go.Proofs.YtkgbmefaphhcnaaGreatDoor
namespace Go.Proofs.YtkgbmefaphhcnaaGreatDoor
open Go.RowKit
open Np Za Ka Ja Ea Ha
set_option maxRecDepth 100000
theorem RdG.ltF {α : Type} {K : Kd α} {w : World} {ao : Option Addr} {n : Nat} {L : List α} (h : RdG K w ao n L) (h0 : 0 < n) : ∀ a, ao = some a -> a.block < w.heap.size := by
 intro a ha
 rcases h.2.2 with h1 | ⟨B, o, e, hc⟩
 ·omega
 ·have hl := K.len (L.getD 0 K.d)
  have hp := K.pos
  have hg : (K.f (L.getD 0 K.d))[0]? = some ((K.f (L.getD 0 K.d))[0]'(by omega)) := List.getElem?_eq_getElem (by omega)
  have := World.block_lt_of_cell? w _ (hc 0 h0 0 _ hg)
  rw [ha] at e
  cases e
  exact this
structure At (w0 w : World) (p : Nat) (ao : Option Addr) : Prop where
 s : Still w0 w
 b : ∀ k, Wf p ao k -> w0.heap.size <= k
theorem At.on {w0 w w1 : World} {p : Nat} {ao ao1 : Option Addr} {bs x : List UInt8} (h : At w0 w p ao) (hl : Lx w w1 p ao ao1 bs x) : At w0 w1 p ao1 := by
 refine ⟨Fr.trans h.s hl.f (fun k hk e => by have := h.b k e; omega), fun k hk => ?_⟩
 rcases hl.wf k hk with h1 | h1
 ·exact h.b k h1
 ·exact Nat.le_trans h.s.size h1
theorem At.still {w0 w w1 : World} {p : Nat} {ao : Option Addr} (h : At w0 w p ao) (hs : Still w w1) : At w0 w1 p ao := ⟨h.s.trans hs, h.b⟩
theorem At.ne {α : Type} {K : Kd α} {w0 w : World} {p n : Nat} {ao mo : Option Addr} {L : List α} (h : At w0 w p ao) (hr : RdG K w0 mo n L) : ∀ a, mo = some a -> 0 < n -> ¬ Wf p ao a.block := fun a ha h0 e => by
 have := hr.ltF h0 a ha
 have := h.b _ e
 omega
set_option maxHeartbeats 4000000 in
theorem xworld_any (p : Nat) (ao : Option Addr) (bs : List UInt8) (W : Wd) (v : Value) (hh : InW W) (hb : bs.length + 121 * W.ms.length + 40 * W.cs.length + 80 * W.hs.length + 30 * W.ks.length + 50 <= 1000000) (w0 w : World) (hw : Wq w p ao bs) (hv : RdW w0 v W) (ha : At w0 w p ao) :
  Calls Tryz.prog 61 #[wqv p, v] w fun r w' => r = .returned (.tuple #[]) /\ ∃ ao', Lx w w' p ao ao' bs (wdB W) := by
 unfold wdB
 obtain ⟨_, _, _, _, rfl, ⟨mo, c1, rfl, _, _, hr1⟩, ⟨so, c2, rfl, _, _, hr2⟩, ⟨ho, c3, rfl, _, _, hr3⟩, ⟨ko, c4, rfl, _, _, hr4⟩⟩ := hv
 have zm := flat_le mvB 121 W.ms (fun x hx => mvB_le (hh.ms x hx))
 have zc := flat_le scB 40 W.cs (fun x hx => scB_le (hh.cs x hx))
 have zh := flat_le shB 80 W.hs (fun x hx => shB_le (hh.hs x hx))
 have zk := flat_le pkB 30 W.ks (fun x hx => pkB_le (hh.ks x hx))
 have zf := form10 hh.fr
 have z3 := Cp.form_ten (n := W.hs.length) (by omega)
 have z4 := Cp.form_ten (n := W.ks.length) (by omega)
 have B0 := Bq.new hw (wdcs W.fr W.nx (.slice mo W.ms.length c1) (.slice so W.cs.length c2) (.slice ho W.hs.length c3) (.slice ko W.ks.length c4)) 27
 have A0 := (Still.alloc w (.cells #[.pointer (some ⟨p, 0, none⟩)] 100)).trans (Still.alloc _ (.cells (wdcs W.fr W.nx (.slice mo W.ms.length c1) (.slice so W.cs.length c2) (.slice ho W.hs.length c3) (.slice ko W.ks.length c4)) 27))
 obtain ⟨U, eU⟩ : ∃ U, (w.alloc (.cells #[.pointer (some ⟨p, 0, none⟩)] 100)).alloc (.cells (wdcs W.fr W.nx (.slice mo W.ms.length c1) (.slice so W.cs.length c2) (.slice ho W.hs.length c3) (.slice ko W.ks.length c4)) 27) = U := ⟨_, rfl⟩
 obtain ⟨g, eg⟩ : ∃ g, w.heap.size = g := ⟨_, rfl⟩
 rw [eU] at A0 B0
 rw [eg] at B0
 have HB := hid B0
 have HA := hid A0
 have HW := hid (hw.still A0)
 have HAt := hid (ha.still A0)
 have HI := hid hh
 have HR := hid (And.intro hr1 (And.intro hr2 (And.intro hr3 hr4)))
 have k0 := B0.cell
 have d0 := cell_of_row _ _ 0 _ _ _ B0.sb
 have d1 := cell_of_row _ _ 1 _ _ _ B0.sb
 have d2 := cell_of_row _ _ 2 _ _ _ B0.sb
 have d3 := cell_of_row _ _ 3 _ _ _ B0.sb
 have d4 := cell_of_row _ _ 4 _ _ _ B0.sb
 have d5 := cell_of_row _ _ 5 _ _ _ B0.sb
 simp only [List.getElem?_toArray, List.getElem?_cons_zero, List.getElem?_cons_succ] at d0 d1 d2 d3 d4 d5
 clear A0 B0 hw ha hh hr1 hr2 hr3 hr4
 go_enter Tryz.func61, Tryz.ntmps61
 have HC := hid (xbyte_any p ao bs 87 87 rfl (by omega) U HW.out)
 go_wp2_with fail
 refine HC.out.mono ?_
 rintro e w1 ⟨he, ao1, h1⟩
 rw [he]
 have HL1 : Hid (Lx w w1 p ao ao1 bs ([87])) := hid (h1.from HA.out)
 have HAt1 := hid (HAt.out.on h1)
 have HB1 := hid (HB.out.on h1)
 have y1 : (bs ++ ([87])).length = bs.length + ([87]).length := by simp only [List.length_append, List.length_cons, List.length_nil] <;> omega
 have y0 : ([87] : List UInt8).length = 1 := rfl
 clear he h1 HC k0 d0 d1 d2 d3 d4 d5
 have k0 := HB1.out.cell
 have d0 := cell_of_row _ _ 0 _ _ _ HB1.out.sb
 have d1 := cell_of_row _ _ 1 _ _ _ HB1.out.sb
 have d2 := cell_of_row _ _ 2 _ _ _ HB1.out.sb
 have d3 := cell_of_row _ _ 3 _ _ _ HB1.out.sb
 have d4 := cell_of_row _ _ 4 _ _ _ HB1.out.sb
 have d5 := cell_of_row _ _ 5 _ _ _ HB1.out.sb
 simp only [List.getElem?_toArray, List.getElem?_cons_zero, List.getElem?_cons_succ] at d0 d1 d2 d3 d4 d5
 have HC := hid (xint_any p ao1 (bs ++ ([87])) W.fr HI.out.fr (by omega) w1 HL1.out.q)
 go_wp2_with fail
 refine HC.out.mono ?_
 rintro e w2 ⟨he, ao2, h2⟩
 rw [he]
 have HL2 : Hid (Lx w w2 p ao ao2 bs ([87] ++ Cp.form (Cp.fold W.fr))) := hid (HL1.out.trans h2)
 have HAt2 := hid (HAt1.out.on h2)
 have HB2 := hid (HB1.out.on h2)
 have y2 : (bs ++ ([87] ++ Cp.form (Cp.fold W.fr))).length = (bs ++ ([87])).length + (Cp.form (Cp.fold W.fr)).length := by simp only [List.length_append, List.length_cons, List.length_nil] <;> omega
 clear he h2 HC k0 d0 d1 d2 d3 d4 d5
 have k0 := HB2.out.cell
 have d0 := cell_of_row _ _ 0 _ _ _ HB2.out.sb
 have d1 := cell_of_row _ _ 1 _ _ _ HB2.out.sb
 have d2 := cell_of_row _ _ 2 _ _ _ HB2.out.sb
 have d3 := cell_of_row _ _ 3 _ _ _ HB2.out.sb
 have d4 := cell_of_row _ _ 4 _ _ _ HB2.out.sb
 have d5 := cell_of_row _ _ 5 _ _ _ HB2.out.sb
 simp only [List.getElem?_toArray, List.getElem?_cons_zero, List.getElem?_cons_succ] at d0 d1 d2 d3 d4 d5
 have HC := hid (emover_any p ao2 (bs ++ ([87] ++ Cp.form (Cp.fold W.fr))) mo W.ms.length c1 W.ms HI.out.ms (by omega) w2 HL2.out.q (HR.out.1.still HAt2.out.s) (HAt2.out.ne HR.out.1))
 go_wp2_with fail
 refine HC.out.mono ?_
 rintro e w3 ⟨he, ao3, h3⟩
 rw [he]
 have HL3 : Hid (Lx w w3 p ao ao3 bs ([87] ++ Cp.form (Cp.fold W.fr) ++ W.ms.flatMap mvB)) := hid (HL2.out.trans h3)
 have HAt3 := hid (HAt2.out.on h3)
 have HB3 := hid (HB2.out.on h3)
 have y3 : (bs ++ ([87] ++ Cp.form (Cp.fold W.fr) ++ W.ms.flatMap mvB)).length = (bs ++ ([87] ++ Cp.form (Cp.fold W.fr))).length + (W.ms.flatMap mvB).length := by simp only [List.length_append, List.length_cons, List.length_nil] <;> omega
 clear he h3 HC k0 d0 d1 d2 d3 d4 d5
 have k0 := HB3.out.cell
 have d0 := cell_of_row _ _ 0 _ _ _ HB3.out.sb
 have d1 := cell_of_row _ _ 1 _ _ _ HB3.out.sb
 have d2 := cell_of_row _ _ 2 _ _ _ HB3.out.sb
 have d3 := cell_of_row _ _ 3 _ _ _ HB3.out.sb
 have d4 := cell_of_row _ _ 4 _ _ _ HB3.out.sb
 have d5 := cell_of_row _ _ 5 _ _ _ HB3.out.sb
 simp only [List.getElem?_toArray, List.getElem?_cons_zero, List.getElem?_cons_succ] at d0 d1 d2 d3 d4 d5
 have HC := hid (escore_any p ao3 (bs ++ ([87] ++ Cp.form (Cp.fold W.fr) ++ W.ms.flatMap mvB)) so W.cs.length c2 W.cs HI.out.cs (by omega) w3 HL3.out.q (HR.out.2.1.still HAt3.out.s) (HAt3.out.ne HR.out.2.1))
 go_wp2_with fail
 refine HC.out.mono ?_
 rintro e w4 ⟨he, ao4, h4⟩
 rw [he]
 have HL4 : Hid (Lx w w4 p ao ao4 bs ([87] ++ Cp.form (Cp.fold W.fr) ++ W.ms.flatMap mvB ++ W.cs.flatMap scB)) := hid (HL3.out.trans h4)
 have HAt4 := hid (HAt3.out.on h4)
 have HB4 := hid (HB3.out.on h4)
 have y4 : (bs ++ ([87] ++ Cp.form (Cp.fold W.fr) ++ W.ms.flatMap mvB ++ W.cs.flatMap scB)).length = (bs ++ ([87] ++ Cp.form (Cp.fold W.fr) ++ W.ms.flatMap mvB)).length + (W.cs.flatMap scB).length := by simp only [List.length_append, List.length_cons, List.length_nil] <;> omega
 clear he h4 HC k0 d0 d1 d2 d3 d4 d5
 have k0 := HB4.out.cell
 have d0 := cell_of_row _ _ 0 _ _ _ HB4.out.sb
 have d1 := cell_of_row _ _ 1 _ _ _ HB4.out.sb
 have d2 := cell_of_row _ _ 2 _ _ _ HB4.out.sb
 have d3 := cell_of_row _ _ 3 _ _ _ HB4.out.sb
 have d4 := cell_of_row _ _ 4 _ _ _ HB4.out.sb
 have d5 := cell_of_row _ _ 5 _ _ _ HB4.out.sb
 simp only [List.getElem?_toArray, List.getElem?_cons_zero, List.getElem?_cons_succ] at d0 d1 d2 d3 d4 d5
 have HC := hid (xcount_any p ao4 (bs ++ ([87] ++ Cp.form (Cp.fold W.fr) ++ W.ms.flatMap mvB ++ W.cs.flatMap scB)) W.hs.length (by omega) (by omega) w4 HL4.out.q)
 go_wp2_with fail
 refine HC.out.mono ?_
 rintro e w5 ⟨he, ao5, h5⟩
 rw [he]
 have HL5 : Hid (Lx w w5 p ao ao5 bs ([87] ++ Cp.form (Cp.fold W.fr) ++ W.ms.flatMap mvB ++ W.cs.flatMap scB ++ Cp.form W.hs.length)) := hid (HL4.out.trans h5)
 have HAt5 := hid (HAt4.out.on h5)
 have HB5 := hid (HB4.out.on h5)
 have y5 : (bs ++ ([87] ++ Cp.form (Cp.fold W.fr) ++ W.ms.flatMap mvB ++ W.cs.flatMap scB ++ Cp.form W.hs.length)).length = (bs ++ ([87] ++ Cp.form (Cp.fold W.fr) ++ W.ms.flatMap mvB ++ W.cs.flatMap scB)).length + (Cp.form W.hs.length).length := by simp only [List.length_append, List.length_cons, List.length_nil] <;> omega
 clear he h5 HC k0 d0 d1 d2 d3 d4 d5
 have k0 := HB5.out.cell
 have d0 := cell_of_row _ _ 0 _ _ _ HB5.out.sb
 have d1 := cell_of_row _ _ 1 _ _ _ HB5.out.sb
 have d2 := cell_of_row _ _ 2 _ _ _ HB5.out.sb
 have d3 := cell_of_row _ _ 3 _ _ _ HB5.out.sb
 have d4 := cell_of_row _ _ 4 _ _ _ HB5.out.sb
 have d5 := cell_of_row _ _ 5 _ _ _ HB5.out.sb
 simp only [List.getElem?_toArray, List.getElem?_cons_zero, List.getElem?_cons_succ] at d0 d1 d2 d3 d4 d5
 have HC := hid (eshot_any p ao5 (bs ++ ([87] ++ Cp.form (Cp.fold W.fr) ++ W.ms.flatMap mvB ++ W.cs.flatMap scB ++ Cp.form W.hs.length)) ho W.hs.length c3 W.hs HI.out.hs (by omega) w5 HL5.out.q (HR.out.2.2.1.still HAt5.out.s) (HAt5.out.ne HR.out.2.2.1))
 go_wp2_with fail
 refine HC.out.mono ?_
 rintro e w6 ⟨he, ao6, h6⟩
 rw [he]
 have HL6 : Hid (Lx w w6 p ao ao6 bs ([87] ++ Cp.form (Cp.fold W.fr) ++ W.ms.flatMap mvB ++ W.cs.flatMap scB ++ Cp.form W.hs.length ++ W.hs.flatMap shB)) := hid (HL5.out.trans h6)
 have HAt6 := hid (HAt5.out.on h6)
 have HB6 := hid (HB5.out.on h6)
 have y6 : (bs ++ ([87] ++ Cp.form (Cp.fold W.fr) ++ W.ms.flatMap mvB ++ W.cs.flatMap scB ++ Cp.form W.hs.length ++ W.hs.flatMap shB)).length = (bs ++ ([87] ++ Cp.form (Cp.fold W.fr) ++ W.ms.flatMap mvB ++ W.cs.flatMap scB ++ Cp.form W.hs.length)).length + (W.hs.flatMap shB).length := by simp only [List.length_append, List.length_cons, List.length_nil] <;> omega
 clear he h6 HC k0 d0 d1 d2 d3 d4 d5
 have k0 := HB6.out.cell
 have d0 := cell_of_row _ _ 0 _ _ _ HB6.out.sb
 have d1 := cell_of_row _ _ 1 _ _ _ HB6.out.sb
 have d2 := cell_of_row _ _ 2 _ _ _ HB6.out.sb
 have d3 := cell_of_row _ _ 3 _ _ _ HB6.out.sb
 have d4 := cell_of_row _ _ 4 _ _ _ HB6.out.sb
 have d5 := cell_of_row _ _ 5 _ _ _ HB6.out.sb
 simp only [List.getElem?_toArray, List.getElem?_cons_zero, List.getElem?_cons_succ] at d0 d1 d2 d3 d4 d5
 have HC := hid (xcount_any p ao6 (bs ++ ([87] ++ Cp.form (Cp.fold W.fr) ++ W.ms.flatMap mvB ++ W.cs.flatMap scB ++ Cp.form W.hs.length ++ W.hs.flatMap shB)) W.ks.length (by omega) (by omega) w6 HL6.out.q)
 go_wp2_with fail
 refine HC.out.mono ?_
 rintro e w7 ⟨he, ao7, h7⟩
 rw [he]
 have HL7 : Hid (Lx w w7 p ao ao7 bs ([87] ++ Cp.form (Cp.fold W.fr) ++ W.ms.flatMap mvB ++ W.cs.flatMap scB ++ Cp.form W.hs.length ++ W.hs.flatMap shB ++ Cp.form W.ks.length)) := hid (HL6.out.trans h7)
 have HAt7 := hid (HAt6.out.on h7)
 have HB7 := hid (HB6.out.on h7)
 have y7 : (bs ++ ([87] ++ Cp.form (Cp.fold W.fr) ++ W.ms.flatMap mvB ++ W.cs.flatMap scB ++ Cp.form W.hs.length ++ W.hs.flatMap shB ++ Cp.form W.ks.length)).length = (bs ++ ([87] ++ Cp.form (Cp.fold W.fr) ++ W.ms.flatMap mvB ++ W.cs.flatMap scB ++ Cp.form W.hs.length ++ W.hs.flatMap shB)).length + (Cp.form W.ks.length).length := by simp only [List.length_append, List.length_cons, List.length_nil] <;> omega
 clear he h7 HC k0 d0 d1 d2 d3 d4 d5
 have k0 := HB7.out.cell
 have d0 := cell_of_row _ _ 0 _ _ _ HB7.out.sb
 have d1 := cell_of_row _ _ 1 _ _ _ HB7.out.sb
 have d2 := cell_of_row _ _ 2 _ _ _ HB7.out.sb
 have d3 := cell_of_row _ _ 3 _ _ _ HB7.out.sb
 have d4 := cell_of_row _ _ 4 _ _ _ HB7.out.sb
 have d5 := cell_of_row _ _ 5 _ _ _ HB7.out.sb
 simp only [List.getElem?_toArray, List.getElem?_cons_zero, List.getElem?_cons_succ] at d0 d1 d2 d3 d4 d5
 have HC := hid (epickup_any p ao7 (bs ++ ([87] ++ Cp.form (Cp.fold W.fr) ++ W.ms.flatMap mvB ++ W.cs.flatMap scB ++ Cp.form W.hs.length ++ W.hs.flatMap shB ++ Cp.form W.ks.length)) ko W.ks.length c4 W.ks HI.out.ks (by omega) w7 HL7.out.q (HR.out.2.2.2.still HAt7.out.s) (HAt7.out.ne HR.out.2.2.2))
 go_wp2_with fail
 refine HC.out.mono ?_
 rintro e w8 ⟨he, ao8, h8⟩
 rw [he]
 have HL8 : Hid (Lx w w8 p ao ao8 bs ([87] ++ Cp.form (Cp.fold W.fr) ++ W.ms.flatMap mvB ++ W.cs.flatMap scB ++ Cp.form W.hs.length ++ W.hs.flatMap shB ++ Cp.form W.ks.length ++ W.ks.flatMap pkB)) := hid (HL7.out.trans h8)
 have HAt8 := hid (HAt7.out.on h8)
 have HB8 := hid (HB7.out.on h8)
 have y8 : (bs ++ ([87] ++ Cp.form (Cp.fold W.fr) ++ W.ms.flatMap mvB ++ W.cs.flatMap scB ++ Cp.form W.hs.length ++ W.hs.flatMap shB ++ Cp.form W.ks.length ++ W.ks.flatMap pkB)).length = (bs ++ ([87] ++ Cp.form (Cp.fold W.fr) ++ W.ms.flatMap mvB ++ W.cs.flatMap scB ++ Cp.form W.hs.length ++ W.hs.flatMap shB ++ Cp.form W.ks.length)).length + (W.ks.flatMap pkB).length := by simp only [List.length_append, List.length_cons, List.length_nil] <;> omega
 clear he h8 HC k0 d0 d1 d2 d3 d4 d5
 have k0 := HB8.out.cell
 have d0 := cell_of_row _ _ 0 _ _ _ HB8.out.sb
 have d1 := cell_of_row _ _ 1 _ _ _ HB8.out.sb
 have d2 := cell_of_row _ _ 2 _ _ _ HB8.out.sb
 have d3 := cell_of_row _ _ 3 _ _ _ HB8.out.sb
 have d4 := cell_of_row _ _ 4 _ _ _ HB8.out.sb
 have d5 := cell_of_row _ _ 5 _ _ _ HB8.out.sb
 simp only [List.getElem?_toArray, List.getElem?_cons_zero, List.getElem?_cons_succ] at d0 d1 d2 d3 d4 d5
 have HC := hid (xlit_any p ao8 (bs ++ ([87] ++ Cp.form (Cp.fold W.fr) ++ W.ms.flatMap mvB ++ W.cs.flatMap scB ++ Cp.form W.hs.length ++ W.hs.flatMap shB ++ Cp.form W.ks.length ++ W.ks.flatMap pkB)) [W.nx] (fun n hn => by simp only [List.mem_cons, List.not_mem_nil, or_false] at hn; rw [hn]; exact HI.out.nx) (by simp only [List.length_cons, List.length_nil]; omega) w8 HL8.out.q)
 go_wp2_with fail
 refine HC.out.mono ?_
 rintro e w9 ⟨he, ao9, h9⟩
 rw [he]
 have HL9 : Hid (Lx w w9 p ao ao9 bs ([87] ++ Cp.form (Cp.fold W.fr) ++ W.ms.flatMap mvB ++ W.cs.flatMap scB ++ Cp.form W.hs.length ++ W.hs.flatMap shB ++ Cp.form W.ks.length ++ W.ks.flatMap pkB ++ nsB [W.nx])) := hid (HL8.out.trans h9)
 clear he h9 HC
 go_wp2_with fail
 go_end0
 exact ⟨rfl, ao9, HL9.out⟩
set_option maxHeartbeats 2000000 in
theorem written_w (g : Nat) (x : List UInt8) (hx : x.length <= 1000000) (w : World) (HF : ∀ (p : Nat) (u : World), Still w u -> Wq u p none [] -> At w u p none -> Calls Tryz.prog 60 #[wqv p, .pointer (some ⟨g, 0, none⟩)] u fun r w' => r = .returned (.tuple #[]) /\ ∃ ao', Lx u w' p none ao' [] x) :
  Calls Tryz.prog 59 #[.func (.func 60) #[] #[.pointer (some ⟨g, 0, none⟩)]] w fun e w' => ∃ ao cap, e = .returned (.slice ao x.length cap) /\ Ow 5 w' ao x.length cap x /\ Still w w' /\ ∀ a, ao = some a -> w.heap.size <= a.block := by
 have HN := hid (newWriter_any 9223372036854775807 (by omega) (by omega) w)
 have HFF := hid HF
 clear HF
 go_enter Tryz.func59, Tryz.ntmps59
 go_wp2_with fail
 refine HN.out.mono ?_
 rintro e w1 ⟨he, hw1, h1⟩
 rw [he]
 obtain ⟨p, ep⟩ : ∃ p, w.heap.size = p := ⟨_, rfl⟩
 rw [ep] at hw1
 have hq1 : Wq w1 p none [] := Wq.of hw1
 have hx2 := wbox w1 p
 have A2 := Still.alloc w1 (.cells #[.pointer (some ⟨p, 0, none⟩)] 100)
 have hn2 : ¬ Wf p none w1.heap.size := fun e => by have := hq1.wf_lt _ e; omega
 obtain ⟨W2, eW2⟩ : ∃ W, w1.alloc (.cells #[.pointer (some ⟨p, 0, none⟩)] 100) = W := ⟨_, rfl⟩
 obtain ⟨g2, eg2⟩ : ∃ g, w1.heap.size = g := ⟨_, rfl⟩
 rw [eW2] at A2 hx2
 rw [eg2] at hx2 hn2
 have c0 : W2.cell? ⟨g2, 0, none⟩ = some (.pointer (some ⟨p, 0, none⟩)) := by rw [cell_of_row _ _ _ _ _ _ hx2]; rfl
 have HC := hid (HFF.out p W2 (h1.trans A2) (hq1.still A2) ⟨h1.trans A2, fun k hk => by
  rcases hk with rfl | ⟨a, ha, _⟩
  ·omega
  ·cases ha⟩)
 have HX2 := hid (And.intro hx2 hn2)
 have HS2 := hid (h1.trans A2)
 have HP := hid ep
 rw [ep]
 clear he hw1 h1 hq1 A2 hx2 hn2 HN HFF
 go_wp2_with fail
 refine HC.out.mono ?_
 rintro e w3 ⟨he, ao3, h3⟩
 rw [he]
 have hx3 := h3.f.kept HX2.out.1 HX2.out.2
 have hq3 := h3.q
 rw [List.nil_append] at hq3
 obtain ⟨cap3, hw3⟩ := hq3.wr
 have HS3 : Hid (Still w w3) := hid (Fr.trans HS2.out h3.f (fun k hk e => by
  rcases e with rfl | ⟨a, ha, _⟩
  ·have := HP.out; omega
  ·cases ha))
 clear c0
 have c0 : w3.cell? ⟨g2, 0, none⟩ = some (.pointer (some ⟨p, 0, none⟩)) := by rw [cell_of_row _ _ _ _ _ _ hx3]; rfl
 have HC := hid (wdone_any p ao3 x.length cap3 9223372036854775807 x 0 w3 hw3 (by omega))
 clear he h3 hx3 hq3 hw3 HX2 HS2 eW2 eg2
 go_wp2_with fail
 refine HC.out.mono ?_
 rintro e w4 ⟨ao4, cap4, he, ho4, h4, ha4⟩
 rw [he]
 have HO : Hid (Ow 5 w4 ao4 x.length cap4 x /\ Still w w4 /\ ∀ a, ao4 = some a -> w.heap.size <= a.block) := hid ⟨ho4, HS3.out.trans h4, fun a ha => Nat.le_trans HS3.out.size (ha4 a ha)⟩
 clear he ho4 h4 ha4 HC c0
 go_wp2_with fail
 go_ret
 exact ⟨ao4, cap4, rfl, HO.out⟩
set_option maxHeartbeats 2000000 in
theorem written_s (g : Nat) (x : List UInt8) (hx : x.length <= 1000000) (w : World) (HF : ∀ (p : Nat) (u : World), Still w u -> Wq u p none [] -> At w u p none -> Calls Tryz.prog 113 #[wqv p, .pointer (some ⟨g, 0, none⟩)] u fun r w' => r = .returned (.tuple #[]) /\ ∃ ao', Lx u w' p none ao' [] x) :
  Calls Tryz.prog 59 #[.func (.func 113) #[] #[.pointer (some ⟨g, 0, none⟩)]] w fun e w' => ∃ ao cap, e = .returned (.slice ao x.length cap) /\ Ow 5 w' ao x.length cap x /\ Still w w' /\ ∀ a, ao = some a -> w.heap.size <= a.block := by
 have HN := hid (newWriter_any 9223372036854775807 (by omega) (by omega) w)
 have HFF := hid HF
 clear HF
 go_enter Tryz.func59, Tryz.ntmps59
 go_wp2_with fail
 refine HN.out.mono ?_
 rintro e w1 ⟨he, hw1, h1⟩
 rw [he]
 obtain ⟨p, ep⟩ : ∃ p, w.heap.size = p := ⟨_, rfl⟩
 rw [ep] at hw1
 have hq1 : Wq w1 p none [] := Wq.of hw1
 have hx2 := wbox w1 p
 have A2 := Still.alloc w1 (.cells #[.pointer (some ⟨p, 0, none⟩)] 100)
 have hn2 : ¬ Wf p none w1.heap.size := fun e => by have := hq1.wf_lt _ e; omega
 obtain ⟨W2, eW2⟩ : ∃ W, w1.alloc (.cells #[.pointer (some ⟨p, 0, none⟩)] 100) = W := ⟨_, rfl⟩
 obtain ⟨g2, eg2⟩ : ∃ g, w1.heap.size = g := ⟨_, rfl⟩
 rw [eW2] at A2 hx2
 rw [eg2] at hx2 hn2
 have c0 : W2.cell? ⟨g2, 0, none⟩ = some (.pointer (some ⟨p, 0, none⟩)) := by rw [cell_of_row _ _ _ _ _ _ hx2]; rfl
 have HC := hid (HFF.out p W2 (h1.trans A2) (hq1.still A2) ⟨h1.trans A2, fun k hk => by
  rcases hk with rfl | ⟨a, ha, _⟩
  ·omega
  ·cases ha⟩)
 have HX2 := hid (And.intro hx2 hn2)
 have HS2 := hid (h1.trans A2)
 have HP := hid ep
 rw [ep]
 clear he hw1 h1 hq1 A2 hx2 hn2 HN HFF
 go_wp2_with fail
 refine HC.out.mono ?_
 rintro e w3 ⟨he, ao3, h3⟩
 rw [he]
 have hx3 := h3.f.kept HX2.out.1 HX2.out.2
 have hq3 := h3.q
 rw [List.nil_append] at hq3
 obtain ⟨cap3, hw3⟩ := hq3.wr
 have HS3 : Hid (Still w w3) := hid (Fr.trans HS2.out h3.f (fun k hk e => by
  rcases e with rfl | ⟨a, ha, _⟩
  ·have := HP.out; omega
  ·cases ha))
 clear c0
 have c0 : w3.cell? ⟨g2, 0, none⟩ = some (.pointer (some ⟨p, 0, none⟩)) := by rw [cell_of_row _ _ _ _ _ _ hx3]; rfl
 have HC := hid (wdone_any p ao3 x.length cap3 9223372036854775807 x 0 w3 hw3 (by omega))
 clear he h3 hx3 hq3 hw3 HX2 HS2 eW2 eg2
 go_wp2_with fail
 refine HC.out.mono ?_
 rintro e w4 ⟨ao4, cap4, he, ho4, h4, ha4⟩
 rw [he]
 have HO : Hid (Ow 5 w4 ao4 x.length cap4 x /\ Still w w4 /\ ∀ a, ao4 = some a -> w.heap.size <= a.block) := hid ⟨ho4, HS3.out.trans h4, fun a ha => Nat.le_trans HS3.out.size (ha4 a ha)⟩
 clear he ho4 h4 ha4 HC c0
 go_wp2_with fail
 go_ret
 exact ⟨ao4, cap4, rfl, HO.out⟩
set_option maxHeartbeats 2000000 in
theorem worldBytes1_any (p g : Nat) (W : Wd) (v : Array Value) (hh : InW W) (hb : 121 * W.ms.length + 40 * W.cs.length + 80 * W.hs.length + 30 * W.ks.length + 50 <= 1000000) (w0 w : World) (hw : Wq w p none []) (hv : RdW w0 (.agg v) W) (hg : w0.heap[g]? = some (.cells v 27 (0, 0))) (ha : At w0 w p none) :
  Calls Tryz.prog 60 #[wqv p, .pointer (some ⟨g, 0, none⟩)] w fun r w' => r = .returned (.tuple #[]) /\ ∃ ao', Lx w w' p none ao' [] (wdB W) := by
 have hv' := hv
 obtain ⟨a, b, c, d, e, _⟩ := hv'
 cases e
 have A0 := Still.alloc w (.cells #[.pointer (some ⟨p, 0, none⟩)] 100)
 have hx0 := wbox w p
 have hg1 := (ha.still A0).s.kept_still hg
 have HC := hid (xworld_any p none [] W _ hh (by simp only [List.length_nil]; omega) w0 _ (hw.still A0) hv (ha.still A0))
 have HA := hid A0
 obtain ⟨U, eU⟩ : ∃ U, w.alloc (.cells #[.pointer (some ⟨p, 0, none⟩)] 100) = U := ⟨_, rfl⟩
 obtain ⟨g0, eg⟩ : ∃ g, w.heap.size = g := ⟨_, rfl⟩
 rw [eU] at HC HA hx0 hg1
 rw [eg] at hx0
 have k0 := cell_of_row _ _ 0 _ _ _ hx0
 have d0 := cell_of_row _ _ 0 _ _ _ hg1
 have d1 := cell_of_row _ _ 1 _ _ _ hg1
 have d2 := cell_of_row _ _ 2 _ _ _ hg1
 have d3 := cell_of_row _ _ 3 _ _ _ hg1
 have d4 := cell_of_row _ _ 4 _ _ _ hg1
 have d5 := cell_of_row _ _ 5 _ _ _ hg1
 simp only [List.getElem?_toArray, List.getElem?_cons_zero, List.getElem?_cons_succ] at k0 d0 d1 d2 d3 d4 d5
 clear A0 hx0 hg1 hw hv hg ha hh
 go_enter Tryz.func60, Tryz.ntmps60
 go_wp2_with fail
 refine HC.out.mono ?_
 rintro e w2 ⟨he, ao2, h2⟩
 rw [he]
 have HL := hid (h2.from HA.out)
 clear he h2 HC k0 d0 d1 d2 d3 d4 d5
 go_wp2_with fail
 go_end0
 exact ⟨rfl, ao2, HL.out⟩
theorem wdB_le {W : Wd} (hh : InW W) (hb : 121 * W.ms.length + 40 * W.cs.length + 80 * W.hs.length + 30 * W.ks.length + 50 <= 1000000) : (wdB W).length <= 121 * W.ms.length + 40 * W.cs.length + 80 * W.hs.length + 30 * W.ks.length + 50 := by
 have zm := flat_le mvB 121 W.ms (fun x hx => mvB_le (hh.ms x hx))
 have zc := flat_le scB 40 W.cs (fun x hx => scB_le (hh.cs x hx))
 have zh := flat_le shB 80 W.hs (fun x hx => shB_le (hh.hs x hx))
 have zk := flat_le pkB 30 W.ks (fun x hx => pkB_le (hh.ks x hx))
 have zf := form10 hh.fr
 have z3 := Cp.form_ten (n := W.hs.length) (by omega)
 have z4 := Cp.form_ten (n := W.ks.length) (by omega)
 have zn := nsB_le (l := [W.nx]) (fun n hn => by simp only [List.mem_cons, List.not_mem_nil, or_false] at hn; rw [hn]; exact hh.nx)
 unfold wdB
 simp only [List.length_append, List.length_cons, List.length_nil] at zn ⊢
 omega
set_option maxHeartbeats 2000000 in
theorem worldBytes_any (W : Wd) (v : Value) (hh : InW W) (hb : 121 * W.ms.length + 40 * W.cs.length + 80 * W.hs.length + 30 * W.ks.length + 50 <= 1000000) (w : World) (hv : RdW w v W) :
  Calls Tryz.prog 32 #[v] w fun e w' => ∃ ao cap, e = .returned (.slice ao (wdB W).length cap) /\ Ow 5 w' ao (wdB W).length cap (wdB W) /\ Still w w' /\ ∀ a, ao = some a -> w.heap.size <= a.block := by
 have hv' := hv
 obtain ⟨a, b, c, d, rfl, _⟩ := hv'
 have A0 := Still.alloc w (.cells (wdcs W.fr W.nx a b c d) 27)
 have hg := newWd_wb w W.fr W.nx a b c d
 have HC := hid (written_w w.heap.size (wdB W) (by have := wdB_le hh hb; omega) (newWd w W.fr W.nx a b c d) (fun p u hu hq hat => worldBytes1_any p w.heap.size W _ hh hb (newWd w W.fr W.nx a b c d) u hq (hv.still A0) hg hat))
 have HA := hid A0
 obtain ⟨X, eX⟩ : ∃ X, wdB W = X := ⟨_, rfl⟩
 rw [eX] at HC ⊢
 clear A0 hg hv hh
 go_enter Tryz.func32, Tryz.ntmps32
 go_wp2_with fail
 refine HC.out.mono ?_
 rintro e w2 ⟨ao2, cap2, he, ho2, h2, ha2⟩
 rw [he]
 have HO : Hid (Ow 5 w2 ao2 X.length cap2 X /\ Still w w2 /\ ∀ a, ao2 = some a -> w.heap.size <= a.block) := hid ⟨ho2, HA.out.trans h2, fun a ha => Nat.le_trans HA.out.size (ha2 a ha)⟩
 clear he ho2 h2 ha2 HC
 go_wp2_with fail
 go_ret
 exact ⟨ao2, cap2, rfl, HO.out⟩
end Go.Proofs.YtkgbmefaphhcnaaGreatDoor
set_option maxRecDepth 100000
namespace Go.Proofs.YtkgbmefaphhcnaaGreatDoor
open Pu Gp Ap Vp Np Za Ka Ja Ea Ha Hi Wp
set_option linter.unusedVariables false
set_option linter.unusedSimpArgs false
theorem getmem {α : Type} {l : List α} {x : α} (d : α) (h : x ∈ l) : ∃ i, i < l.length /\ l.getD i d = x := by
 obtain ⟨i, hi, e⟩ := List.getElem_of_mem h
 exact ⟨i, hi, by rw [List.getD_eq_getElem?_getD, List.getElem?_eq_getElem hi]; exact e⟩
theorem fits_in {p : Int} {E : Env} {W : Wd} (h : Fits p E W) : InW W /\ W.ms.length = p.toNat /\ W.cs.length = p.toNat /\ W.hs.length <= 48 /\ W.ks.length <= 8 := by
 obtain ⟨⟨⟨s1, s2, s3, s4⟩, r1, r2, r3, r4, r5, r6⟩, f1, f2⟩ := h
 refine ⟨⟨⟨by omega, by omega⟩, fun x hx n hn => ?_, fun x hx n hn => ?_, fun x hx n hn => ?_, fun x hx n hn => ?_, ⟨by omega, by omega⟩⟩, s1, s3, r1.1, r3.2.1⟩
 ·obtain ⟨i, hi, e⟩ := getmem zM hx
  have hm : May x := by
   have := s2 i (by omega)
   unfold mm at this
   rw [e] at this
   exact this
  obtain ⟨⟨a1, a2, a3, a4⟩, ⟨b1, b2, b3, b4⟩, ⟨c1, c2, c3, c4⟩, ⟨d1, d2⟩, ⟨e1, e2⟩, ⟨g1, g2⟩, ⟨h1, h2⟩, ⟨i1, i2⟩, ⟨j1, j2⟩, _, _⟩ := hm
  simp only [mvN, List.mem_cons, List.not_mem_nil, or_false] at hn
  unfold I64
  rcases hn with rfl | rfl | rfl | rfl | rfl | rfl | rfl | rfl | rfl | rfl | rfl | rfl <;> (constructor <;> omega)
 ·obtain ⟨i, hi, e⟩ := getmem zC hx
  have hm : MayC x := by
   have := s4 i (by omega)
   unfold sc at this
   rw [e] at this
   exact this
  obtain ⟨⟨a1, a2⟩, ⟨b1, b2⟩, ⟨c1, c2⟩, ⟨d1, d2⟩⟩ := hm
  simp only [scN, List.mem_cons, List.not_mem_nil, or_false] at hn
  unfold I64
  rcases hn with rfl | rfl | rfl | rfl <;> (constructor <;> omega)
 ·obtain ⟨i, hi, e⟩ := getmem zS hx
  have hm : MayS x := by
   have := maySB_iff.1 (r1.2 i hi).1
   unfold ss at this
   rw [e] at this
   exact this
  obtain ⟨⟨a1, a2⟩, ⟨b1, b2⟩, ⟨c1, c2⟩, ⟨d1, d2, d3, d4⟩, ⟨e1, e2, e3, e4⟩, ⟨g1, g2⟩⟩ := hm
  simp only [shN, List.mem_cons, List.not_mem_nil, or_false] at hn
  unfold I64
  rcases hn with rfl | rfl | rfl | rfl | rfl | rfl | rfl | rfl <;> (constructor <;> omega)
 ·obtain ⟨i, hi, e⟩ := getmem zK hx
  have hf := r3.2.2 i hi
  have hs := r3.1
  have ep : pk W.ks i = x := e
  unfold Fit at hf
  rw [ep] at hf
  obtain ⟨⟨a1, a2⟩, _, ⟨b1, b2⟩, ⟨c1, c2⟩, _⟩ := hf
  simp only [pkN, List.mem_cons, List.not_mem_nil, or_false] at hn
  unfold I64
  rcases hn with rfl | rfl | rfl <;> (constructor <;> omega)
theorem fits_wr {p : Int} {E : Env} {W : Wd} (h : Fits p E W) : Wr14 p.toNat W := by
 obtain ⟨h1, h2, h3, h4, h5⟩ := fits_in h
 exact ⟨h1, h2, h3, by omega, by omega⟩
theorem fits_room {p : Int} {E : Env} {W : Wd} (h : Fits p E W) (hp : p <= 6) : 121 * W.ms.length + 40 * W.cs.length + 80 * W.hs.length + 30 * W.ks.length + 50 <= 1000000 := by
 obtain ⟨h1, h2, h3, h4, h5⟩ := fits_in h
 have : p.toNat <= 6 := by omega
 omega
end Go.Proofs.YtkgbmefaphhcnaaGreatDoor
namespace Go.Proofs.YtkgbmefaphhcnaaGreatDoor
open Go.RowKit
set_option maxRecDepth 100000
end Go.Proofs.YtkgbmefaphhcnaaGreatDoor
namespace Go.Proofs.YtkgbmefaphhcnaaGreatDoor
open Go.RowKit
open Np Za Ka Ja Ea Ha
set_option maxRecDepth 100000
end Go.Proofs.YtkgbmefaphhcnaaGreatDoor
