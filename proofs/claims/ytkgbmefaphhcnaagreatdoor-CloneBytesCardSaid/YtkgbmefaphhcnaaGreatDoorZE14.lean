/- Parts of the proof, laid end to end. -/
import Derived.Test.YtkgbmefaphhcnaaGreatDoorZE12
import Derived.Test.YtkgbmefaphhcnaaGreatDoorZE13
import Derived.Test.YtkgbmefaphhcnaaGreatDoorZE09
import Derived.Test.YtkgbmefaphhcnaaGreatDoorZE03
import Derived.Test.YtkgbmefaphhcnaaGreatDoorZE05
import Derived.Test.YtkgbmefaphhcnaaGreatDoorZE08
import Derived.Test.YtkgbmefaphhcnaaGreatDoorZE11
namespace Go.Proofs.YtkgbmefaphhcnaaGreatDoor
open Go.RowKit
open Np Za Ka Ja Ea Ha
set_option maxRecDepth 100000
theorem RdG.keepF {α : Type} {K : Kd α} {F : Nat -> Prop} {w w' : World} {ao : Option Addr} {n : Nat} {L : List α} (h : RdG K w ao n L) (hf : Fr F w w') (hn : ∀ a, ao = some a -> 0 < n -> ¬ F a.block) : RdG K w' ao n L := by
 refine ⟨h.1, h.2.1, ?_⟩
 rcases h.2.2 with h0 | ⟨B, o, e, hc⟩
 ·exact .inl h0
 ·by_cases h0 : n = 0
  ·exact .inl h0
  ·exact .inr ⟨B, o, e, fun i hi j u hu => (hf.cell (World.block_lt_of_cell? w _ (hc i hi j u hu)) (fun hb => hn ⟨B, o, none⟩ e (by omega) hb)).trans (hc i hi j u hu)⟩
theorem flB_le (b : Bool) : (flB b).length = 1 := by cases b <;> rfl
theorem mvB_le {m : Mv} (h : ∀ n ∈ mvN m, I64 n) : (mvB m).length <= 121 := by
 have e : mvB m = nsB (mvN m) ++ flB m.sh := by
  unfold mvB mvN
  rw [<- nsB_app, <- nsB_app, <- nsB_app]
  rfl
 have := nsB_le h
 have l : (mvN m).length = 12 := rfl
 rw [e, List.length_append, flB_le]
 omega
theorem shB_le {s : Sh} (h : ∀ n ∈ shN s, I64 n) : (shB s).length <= 80 := by
 have e : shB s = nsB (shN s) := by
  unfold shB shN
  rw [<- nsB_app, <- nsB_app, <- nsB_app]
  rfl
 have := nsB_le h
 have l : (shN s).length = 8 := rfl
 rw [e]
 omega
theorem scB_le {s : Scr} (h : ∀ n ∈ scN s, I64 n) : (scB s).length <= 40 := nsB_le h
theorem pkB_le {s : Pk} (h : ∀ n ∈ pkN s, I64 n) : (pkB s).length <= 30 := nsB_le h
theorem flat_le {α : Type} (f : α -> List UInt8) (c : Nat) : ∀ (L : List α), (∀ x ∈ L, (f x).length <= c) -> (L.flatMap f).length <= c * L.length
 | [], _ => by simp
 | x :: L, h => by
  have h1 := flat_le f c L (fun y hy => h y (List.mem_cons_of_mem _ hy))
  have h2 := h x (List.mem_cons_self ..)
  rw [List.flatMap_cons, List.length_append, List.length_cons, Nat.mul_succ]
  omega
theorem flat_step {α : Type} (f : α -> List UInt8) {L : List α} {i : Nat} (d : α) (hi : i < L.length) : (L.take (i + 1)).flatMap f = (L.take i).flatMap f ++ f (L.getD i d) := by
 rw [List.take_succ_eq_append_getElem hi, List.flatMap_append]
 simp [List.getD_eq_getElem?_getD, hi]
set_option maxHeartbeats 2000000 in
theorem emover_any (p : Nat) (ao : Option Addr) (bs : List UInt8) (mo : Option Addr) (n cap : Nat) (L : List Mv) (hl : ∀ x ∈ L, ∀ n ∈ mvN x, I64 n) (hb : bs.length + 121 * L.length <= 1000000) (w : World) (hw : Wq w p ao bs) (hr : RdG KM w mo n L) (hne : ∀ a, mo = some a -> 0 < n -> ¬ Wf p ao a.block) :
  Calls Tryz.prog 99 #[.slice mo n cap, .func (.func 100) #[wqv p] #[]] w fun r w' => r = .returned (.tuple #[]) /\ ∃ ao', Lx w w' p ao ao' bs (L.flatMap mvB) := by
 have hln := hr.1
 have hsm := hr.2.1
 have HW := hid hw
 have HR := hid hr
 have HN := hid hne
 have HLl := hid hl
 clear hw hr hne hl
 go_enter Tryz.func99, Tryz.ntmps99
 go_wp2_with fail
 go_loopw [8] (fun u8 wr => ∃ (i : Nat) (ao1 : Option Addr), i <= n /\ u8 = .int .i64 (i : Int) /\ Hid (Lx w wr p ao ao1 bs ((L.take i).flatMap mvB))) (fun u8 _ => n - (intOf u8).toNat)
 case atStart => exact ⟨0, ao, by omega, rfl, hid (Lx.nil HW.out (Fr.refl _ _))⟩
 case round =>
  obtain ⟨i, ao1, hi, rfl, HL⟩ := hrel
  by_cases hin : i < n
  ·have hlt : (i : Int) < (n : Int) := by omega
   have hil : i < L.length := by omega
   obtain ⟨b, o, rfl⟩ := HR.out.at (by omega)
   obtain ⟨d0, d1, d2, d3, d4, d5, d6, d7, d8, d9, d10, d11, d12⟩ := rdM (HR.out.keepF HL.out.f (fun a ha h0 => HN.out a ha h0)) hin
   have hmem : mm L i ∈ L := by
    show L.getD i zM ∈ L
    rw [List.getD_eq_getElem?_getD, List.getElem?_eq_getElem hil]
    exact List.getElem_mem hil
   have hlen : (bs ++ (L.take i).flatMap mvB).length + 121 <= 1000000 := by
    have := flat_le mvB 121 (L.take i) (fun x hx => mvB_le (HLl.out x (List.mem_of_mem_take hx)))
    rw [List.length_append]
    simp only [List.length_take] at this
    have hm : min i L.length = i := by omega
    rw [hm] at this
    omega
   have A1 := Still.alloc wr (.cells (mcs (mm L i)) 55)
   have hx1 := heap_alloc_new wr (.cells (mcs (mm L i)) 55)
   have HM := hid (HLl.out _ hmem)
   have HS : Hid ((L.take (i + 1)).flatMap mvB = (L.take i).flatMap mvB ++ mvB (mm L i)) := hid (flat_step mvB zM hil)
   obtain ⟨x, ex⟩ : ∃ x, mm L i = x := ⟨_, rfl⟩
   rw [ex] at d0 d1 d2 d3 d4 d5 d6 d7 d8 d9 d10 d11 d12 A1 hx1 HM HS
   clear ex hmem
   obtain ⟨W1, eW1⟩ : ∃ W, wr.alloc (.cells (mcs x) 55) = W := ⟨_, rfl⟩
   obtain ⟨gx, egx⟩ : ∃ g, wr.heap.size = g := ⟨_, rfl⟩
   rw [eW1] at A1 hx1
   rw [egx] at hx1
   have e0 := cell_of_row _ _ 0 _ _ _ hx1
   have e1 := cell_of_row _ _ 1 _ _ _ hx1
   have e2 := cell_of_row _ _ 2 _ _ _ hx1
   have e3 := cell_of_row _ _ 3 _ _ _ hx1
   have e4 := cell_of_row _ _ 4 _ _ _ hx1
   have e5 := cell_of_row _ _ 5 _ _ _ hx1
   have e6 := cell_of_row _ _ 6 _ _ _ hx1
   have e7 := cell_of_row _ _ 7 _ _ _ hx1
   have e8 := cell_of_row _ _ 8 _ _ _ hx1
   have e9 := cell_of_row _ _ 9 _ _ _ hx1
   have e10 := cell_of_row _ _ 10 _ _ _ hx1
   have e11 := cell_of_row _ _ 11 _ _ _ hx1
   have e12 := cell_of_row _ _ 12 _ _ _ hx1
   simp only [List.getElem?_toArray, List.getElem?_cons_zero, List.getElem?_cons_succ] at e0 e1 e2 e3 e4 e5 e6 e7 e8 e9 e10 e11 e12
   have HC := hid (xmover_any p ao1 (bs ++ (L.take i).flatMap mvB) x HM.out hlen W1 (HL.out.q.still A1))
   have HA1 := hid A1
   clear A1 hx1 hlen
   go_wp2_with fail
   refine HC.out.mono ?_
   rintro e w2 ⟨he, ao2, h2⟩
   rw [he]
   have HL2 : Hid (Lx w w2 p ao ao2 bs ((L.take (i + 1)).flatMap mvB)) := hid (by rw [HS.out]; exact HL.out.trans (h2.from HA1.out))
   clear he h2 HC HL HS HA1 HM d0 d1 d2 d3 d4 d5 d6 d7 d8 d9 d10 d11 d12 e0 e1 e2 e3 e4 e5 e6 e7 e8 e9 e10 e11 e12 eW1 egx
   go_wp2_with fail
   go_roundw
   case rel => exact ⟨i + 1, ao2, by omega, by go_num, HL2⟩
   case measure => simp [intOf]; omega
  ·obtain rfl : i = n := by omega
   have HL2 : Hid (Lx w wr p ao ao1 bs (L.flatMap mvB)) := hid (by
    have := HL.out
    rw [List.take_of_length_le (by omega)] at this
    exact this)
   go_wp2_with fail
   go_end0
   exact ⟨rfl, ao1, HL2.out⟩
set_option maxHeartbeats 2000000 in
theorem escore_any (p : Nat) (ao : Option Addr) (bs : List UInt8) (mo : Option Addr) (n cap : Nat) (L : List Scr) (hl : ∀ x ∈ L, ∀ n ∈ scN x, I64 n) (hb : bs.length + 40 * L.length <= 1000000) (w : World) (hw : Wq w p ao bs) (hr : RdG KC w mo n L) (hne : ∀ a, mo = some a -> 0 < n -> ¬ Wf p ao a.block) :
  Calls Tryz.prog 101 #[.slice mo n cap, .func (.func 102) #[wqv p] #[]] w fun r w' => r = .returned (.tuple #[]) /\ ∃ ao', Lx w w' p ao ao' bs (L.flatMap scB) := by
 have hln := hr.1
 have hsm := hr.2.1
 have HW := hid hw
 have HR := hid hr
 have HN := hid hne
 have HLl := hid hl
 clear hw hr hne hl
 go_enter Tryz.func101, Tryz.ntmps101
 go_wp2_with fail
 go_loopw [8] (fun u8 wr => ∃ (i : Nat) (ao1 : Option Addr), i <= n /\ u8 = .int .i64 (i : Int) /\ Hid (Lx w wr p ao ao1 bs ((L.take i).flatMap scB))) (fun u8 _ => n - (intOf u8).toNat)
 case atStart => exact ⟨0, ao, by omega, rfl, hid (Lx.nil HW.out (Fr.refl _ _))⟩
 case round =>
  obtain ⟨i, ao1, hi, rfl, HL⟩ := hrel
  by_cases hin : i < n
  ·have hlt : (i : Int) < (n : Int) := by omega
   have hil : i < L.length := by omega
   obtain ⟨b, o, rfl⟩ := HR.out.at (by omega)
   obtain ⟨d0, d1, d2, d3⟩ := rdC (HR.out.keepF HL.out.f (fun a ha h0 => HN.out a ha h0)) hin
   have hmem : sc L i ∈ L := by
    show L.getD i zC ∈ L
    rw [List.getD_eq_getElem?_getD, List.getElem?_eq_getElem hil]
    exact List.getElem_mem hil
   have hlen : (bs ++ (L.take i).flatMap scB).length + 40 <= 1000000 := by
    have := flat_le scB 40 (L.take i) (fun x hx => scB_le (HLl.out x (List.mem_of_mem_take hx)))
    rw [List.length_append]
    simp only [List.length_take] at this
    have hm : min i L.length = i := by omega
    rw [hm] at this
    omega
   have A1 := Still.alloc wr (.cells (ccs (sc L i)) 57)
   have hx1 := heap_alloc_new wr (.cells (ccs (sc L i)) 57)
   have HM := hid (HLl.out _ hmem)
   have HS : Hid ((L.take (i + 1)).flatMap scB = (L.take i).flatMap scB ++ scB (sc L i)) := hid (flat_step scB zC hil)
   obtain ⟨x, ex⟩ : ∃ x, sc L i = x := ⟨_, rfl⟩
   rw [ex] at d0 d1 d2 d3 A1 hx1 HM HS
   clear ex hmem
   obtain ⟨W1, eW1⟩ : ∃ W, wr.alloc (.cells (ccs x) 57) = W := ⟨_, rfl⟩
   obtain ⟨gx, egx⟩ : ∃ g, wr.heap.size = g := ⟨_, rfl⟩
   rw [eW1] at A1 hx1
   rw [egx] at hx1
   have e0 := cell_of_row _ _ 0 _ _ _ hx1
   have e1 := cell_of_row _ _ 1 _ _ _ hx1
   have e2 := cell_of_row _ _ 2 _ _ _ hx1
   have e3 := cell_of_row _ _ 3 _ _ _ hx1
   simp only [List.getElem?_toArray, List.getElem?_cons_zero, List.getElem?_cons_succ] at e0 e1 e2 e3
   have HC := hid (xscore_any p ao1 (bs ++ (L.take i).flatMap scB) x HM.out hlen W1 (HL.out.q.still A1))
   have HA1 := hid A1
   clear A1 hx1 hlen
   go_wp2_with fail
   refine HC.out.mono ?_
   rintro e w2 ⟨he, ao2, h2⟩
   rw [he]
   have HL2 : Hid (Lx w w2 p ao ao2 bs ((L.take (i + 1)).flatMap scB)) := hid (by rw [HS.out]; exact HL.out.trans (h2.from HA1.out))
   clear he h2 HC HL HS HA1 HM d0 d1 d2 d3 e0 e1 e2 e3 eW1 egx
   go_wp2_with fail
   go_roundw
   case rel => exact ⟨i + 1, ao2, by omega, by go_num, HL2⟩
   case measure => simp [intOf]; omega
  ·obtain rfl : i = n := by omega
   have HL2 : Hid (Lx w wr p ao ao1 bs (L.flatMap scB)) := hid (by
    have := HL.out
    rw [List.take_of_length_le (by omega)] at this
    exact this)
   go_wp2_with fail
   go_end0
   exact ⟨rfl, ao1, HL2.out⟩
set_option maxHeartbeats 2000000 in
theorem eshot_any (p : Nat) (ao : Option Addr) (bs : List UInt8) (mo : Option Addr) (n cap : Nat) (L : List Sh) (hl : ∀ x ∈ L, ∀ n ∈ shN x, I64 n) (hb : bs.length + 80 * L.length <= 1000000) (w : World) (hw : Wq w p ao bs) (hr : RdG KS w mo n L) (hne : ∀ a, mo = some a -> 0 < n -> ¬ Wf p ao a.block) :
  Calls Tryz.prog 104 #[.slice mo n cap, .func (.func 105) #[wqv p] #[]] w fun r w' => r = .returned (.tuple #[]) /\ ∃ ao', Lx w w' p ao ao' bs (L.flatMap shB) := by
 have hln := hr.1
 have hsm := hr.2.1
 have HW := hid hw
 have HR := hid hr
 have HN := hid hne
 have HLl := hid hl
 clear hw hr hne hl
 go_enter Tryz.func104, Tryz.ntmps104
 go_wp2_with fail
 go_loopw [8] (fun u8 wr => ∃ (i : Nat) (ao1 : Option Addr), i <= n /\ u8 = .int .i64 (i : Int) /\ Hid (Lx w wr p ao ao1 bs ((L.take i).flatMap shB))) (fun u8 _ => n - (intOf u8).toNat)
 case atStart => exact ⟨0, ao, by omega, rfl, hid (Lx.nil HW.out (Fr.refl _ _))⟩
 case round =>
  obtain ⟨i, ao1, hi, rfl, HL⟩ := hrel
  by_cases hin : i < n
  ·have hlt : (i : Int) < (n : Int) := by omega
   have hil : i < L.length := by omega
   obtain ⟨b, o, rfl⟩ := HR.out.at (by omega)
   obtain ⟨d0, d1, d2, d3, d4, d5, d6, d7⟩ := rdS (HR.out.keepF HL.out.f (fun a ha h0 => HN.out a ha h0)) hin
   have hmem : ss L i ∈ L := by
    show L.getD i zS ∈ L
    rw [List.getD_eq_getElem?_getD, List.getElem?_eq_getElem hil]
    exact List.getElem_mem hil
   have hlen : (bs ++ (L.take i).flatMap shB).length + 80 <= 1000000 := by
    have := flat_le shB 80 (L.take i) (fun x hx => shB_le (HLl.out x (List.mem_of_mem_take hx)))
    rw [List.length_append]
    simp only [List.length_take] at this
    have hm : min i L.length = i := by omega
    rw [hm] at this
    omega
   have A1 := Still.alloc wr (.cells (scs (ss L i)) 59)
   have hx1 := heap_alloc_new wr (.cells (scs (ss L i)) 59)
   have HM := hid (HLl.out _ hmem)
   have HS : Hid ((L.take (i + 1)).flatMap shB = (L.take i).flatMap shB ++ shB (ss L i)) := hid (flat_step shB zS hil)
   obtain ⟨x, ex⟩ : ∃ x, ss L i = x := ⟨_, rfl⟩
   rw [ex] at d0 d1 d2 d3 d4 d5 d6 d7 A1 hx1 HM HS
   clear ex hmem
   obtain ⟨W1, eW1⟩ : ∃ W, wr.alloc (.cells (scs x) 59) = W := ⟨_, rfl⟩
   obtain ⟨gx, egx⟩ : ∃ g, wr.heap.size = g := ⟨_, rfl⟩
   rw [eW1] at A1 hx1
   rw [egx] at hx1
   have e0 := cell_of_row _ _ 0 _ _ _ hx1
   have e1 := cell_of_row _ _ 1 _ _ _ hx1
   have e2 := cell_of_row _ _ 2 _ _ _ hx1
   have e3 := cell_of_row _ _ 3 _ _ _ hx1
   have e4 := cell_of_row _ _ 4 _ _ _ hx1
   have e5 := cell_of_row _ _ 5 _ _ _ hx1
   have e6 := cell_of_row _ _ 6 _ _ _ hx1
   have e7 := cell_of_row _ _ 7 _ _ _ hx1
   simp only [List.getElem?_toArray, List.getElem?_cons_zero, List.getElem?_cons_succ] at e0 e1 e2 e3 e4 e5 e6 e7
   have HC := hid (xshot_any p ao1 (bs ++ (L.take i).flatMap shB) x HM.out hlen W1 (HL.out.q.still A1))
   have HA1 := hid A1
   clear A1 hx1 hlen
   go_wp2_with fail
   refine HC.out.mono ?_
   rintro e w2 ⟨he, ao2, h2⟩
   rw [he]
   have HL2 : Hid (Lx w w2 p ao ao2 bs ((L.take (i + 1)).flatMap shB)) := hid (by rw [HS.out]; exact HL.out.trans (h2.from HA1.out))
   clear he h2 HC HL HS HA1 HM d0 d1 d2 d3 d4 d5 d6 d7 e0 e1 e2 e3 e4 e5 e6 e7 eW1 egx
   go_wp2_with fail
   go_roundw
   case rel => exact ⟨i + 1, ao2, by omega, by go_num, HL2⟩
   case measure => simp [intOf]; omega
  ·obtain rfl : i = n := by omega
   have HL2 : Hid (Lx w wr p ao ao1 bs (L.flatMap shB)) := hid (by
    have := HL.out
    rw [List.take_of_length_le (by omega)] at this
    exact this)
   go_wp2_with fail
   go_end0
   exact ⟨rfl, ao1, HL2.out⟩
set_option maxHeartbeats 2000000 in
theorem epickup_any (p : Nat) (ao : Option Addr) (bs : List UInt8) (mo : Option Addr) (n cap : Nat) (L : List Pk) (hl : ∀ x ∈ L, ∀ n ∈ pkN x, I64 n) (hb : bs.length + 30 * L.length <= 1000000) (w : World) (hw : Wq w p ao bs) (hr : RdG KQ w mo n L) (hne : ∀ a, mo = some a -> 0 < n -> ¬ Wf p ao a.block) :
  Calls Tryz.prog 106 #[.slice mo n cap, .func (.func 107) #[wqv p] #[]] w fun r w' => r = .returned (.tuple #[]) /\ ∃ ao', Lx w w' p ao ao' bs (L.flatMap pkB) := by
 have hln := hr.1
 have hsm := hr.2.1
 have HW := hid hw
 have HR := hid hr
 have HN := hid hne
 have HLl := hid hl
 clear hw hr hne hl
 go_enter Tryz.func106, Tryz.ntmps106
 go_wp2_with fail
 go_loopw [8] (fun u8 wr => ∃ (i : Nat) (ao1 : Option Addr), i <= n /\ u8 = .int .i64 (i : Int) /\ Hid (Lx w wr p ao ao1 bs ((L.take i).flatMap pkB))) (fun u8 _ => n - (intOf u8).toNat)
 case atStart => exact ⟨0, ao, by omega, rfl, hid (Lx.nil HW.out (Fr.refl _ _))⟩
 case round =>
  obtain ⟨i, ao1, hi, rfl, HL⟩ := hrel
  by_cases hin : i < n
  ·have hlt : (i : Int) < (n : Int) := by omega
   have hil : i < L.length := by omega
   obtain ⟨b, o, rfl⟩ := HR.out.at (by omega)
   obtain ⟨d0, d1, d2⟩ := rdQ (HR.out.keepF HL.out.f (fun a ha h0 => HN.out a ha h0)) hin
   have hmem : pk L i ∈ L := by
    show L.getD i zK ∈ L
    rw [List.getD_eq_getElem?_getD, List.getElem?_eq_getElem hil]
    exact List.getElem_mem hil
   have hlen : (bs ++ (L.take i).flatMap pkB).length + 30 <= 1000000 := by
    have := flat_le pkB 30 (L.take i) (fun x hx => pkB_le (HLl.out x (List.mem_of_mem_take hx)))
    rw [List.length_append]
    simp only [List.length_take] at this
    have hm : min i L.length = i := by omega
    rw [hm] at this
    omega
   have A1 := Still.alloc wr (.cells (kcs (pk L i)) 61)
   have hx1 := heap_alloc_new wr (.cells (kcs (pk L i)) 61)
   have HM := hid (HLl.out _ hmem)
   have HS : Hid ((L.take (i + 1)).flatMap pkB = (L.take i).flatMap pkB ++ pkB (pk L i)) := hid (flat_step pkB zK hil)
   obtain ⟨x, ex⟩ : ∃ x, pk L i = x := ⟨_, rfl⟩
   rw [ex] at d0 d1 d2 A1 hx1 HM HS
   clear ex hmem
   obtain ⟨W1, eW1⟩ : ∃ W, wr.alloc (.cells (kcs x) 61) = W := ⟨_, rfl⟩
   obtain ⟨gx, egx⟩ : ∃ g, wr.heap.size = g := ⟨_, rfl⟩
   rw [eW1] at A1 hx1
   rw [egx] at hx1
   have e0 := cell_of_row _ _ 0 _ _ _ hx1
   have e1 := cell_of_row _ _ 1 _ _ _ hx1
   have e2 := cell_of_row _ _ 2 _ _ _ hx1
   simp only [List.getElem?_toArray, List.getElem?_cons_zero, List.getElem?_cons_succ] at e0 e1 e2
   have HC := hid (xpickup_any p ao1 (bs ++ (L.take i).flatMap pkB) x HM.out hlen W1 (HL.out.q.still A1))
   have HA1 := hid A1
   clear A1 hx1 hlen
   go_wp2_with fail
   refine HC.out.mono ?_
   rintro e w2 ⟨he, ao2, h2⟩
   rw [he]
   have HL2 : Hid (Lx w w2 p ao ao2 bs ((L.take (i + 1)).flatMap pkB)) := hid (by rw [HS.out]; exact HL.out.trans (h2.from HA1.out))
   clear he h2 HC HL HS HA1 HM d0 d1 d2 e0 e1 e2 eW1 egx
   go_wp2_with fail
   go_roundw
   case rel => exact ⟨i + 1, ao2, by omega, by go_num, HL2⟩
   case measure => simp [intOf]; omega
  ·obtain rfl : i = n := by omega
   have HL2 : Hid (Lx w wr p ao ao1 bs (L.flatMap pkB)) := hid (by
    have := HL.out
    rw [List.take_of_length_le (by omega)] at this
    exact this)
   go_wp2_with fail
   go_end0
   exact ⟨rfl, ao1, HL2.out⟩
end Go.Proofs.YtkgbmefaphhcnaaGreatDoor
namespace Go.Proofs.YtkgbmefaphhcnaaGreatDoor
open Go.RowKit
open Np Za Ka Ja Ea Ha
set_option maxRecDepth 100000
theorem RdG.ltF {α : Type} {K : Kd α} {w : World} {ao : Option Addr} {n : Nat} {L : List α} (h : RdG K w ao n L) (h0 : 0 < n) : ∀ a, ao = some a -> a.block < w.heap.size := by
 intro a ha
 rcases h.2.2 with h1 | ⟨B, o, e, hc⟩
 ·omega
 ·have hl := K.len (L.getD 0 K.d)
  have hp := K.pos
  have hg : (K.f (L.getD 0 K.d))[0]? = some ((K.f (L.getD 0 K.d))[0]'(by omega)) := List.getElem?_eq_getElem (by omega)
  have := World.block_lt_of_cell? w _ (hc 0 h0 0 _ hg)
  rw [ha] at e
  cases e
  exact this
structure At (w0 w : World) (p : Nat) (ao : Option Addr) : Prop where
 s : Still w0 w
 b : ∀ k, Wf p ao k -> w0.heap.size <= k
theorem At.on {w0 w w1 : World} {p : Nat} {ao ao1 : Option Addr} {bs x : List UInt8} (h : At w0 w p ao) (hl : Lx w w1 p ao ao1 bs x) : At w0 w1 p ao1 := by
 refine ⟨Fr.trans h.s hl.f (fun k hk e => by have := h.b k e; omega), fun k hk => ?_⟩
 rcases hl.wf k hk with h1 | h1
 ·exact h.b k h1
 ·exact Nat.le_trans h.s.size h1
theorem At.still {w0 w w1 : World} {p : Nat} {ao : Option Addr} (h : At w0 w p ao) (hs : Still w w1) : At w0 w1 p ao := ⟨h.s.trans hs, h.b⟩
theorem At.ne {α : Type} {K : Kd α} {w0 w : World} {p n : Nat} {ao mo : Option Addr} {L : List α} (h : At w0 w p ao) (hr : RdG K w0 mo n L) : ∀ a, mo = some a -> 0 < n -> ¬ Wf p ao a.block := fun a ha h0 e => by
 have := hr.ltF h0 a ha
 have := h.b _ e
 omega
set_option maxHeartbeats 4000000 in
theorem xworld_any (p : Nat) (ao : Option Addr) (bs : List UInt8) (W : Wd) (v : Value) (hh : InW W) (hb : bs.length + 121 * W.ms.length + 40 * W.cs.length + 80 * W.hs.length + 30 * W.ks.length + 50 <= 1000000) (w0 w : World) (hw : Wq w p ao bs) (hv : RdW w0 v W) (ha : At w0 w p ao) :
  Calls Tryz.prog 61 #[wqv p, v] w fun r w' => r = .returned (.tuple #[]) /\ ∃ ao', Lx w w' p ao ao' bs (wdB W) := by
 unfold wdB
 obtain ⟨_, _, _, _, rfl, ⟨mo, c1, rfl, _, _, hr1⟩, ⟨so, c2, rfl, _, _, hr2⟩, ⟨ho, c3, rfl, _, _, hr3⟩, ⟨ko, c4, rfl, _, _, hr4⟩⟩ := hv
 have zm := flat_le mvB 121 W.ms (fun x hx => mvB_le (hh.ms x hx))
 have zc := flat_le scB 40 W.cs (fun x hx => scB_le (hh.cs x hx))
 have zh := flat_le shB 80 W.hs (fun x hx => shB_le (hh.hs x hx))
 have zk := flat_le pkB 30 W.ks (fun x hx => pkB_le (hh.ks x hx))
 have zf := form10 hh.fr
 have z3 := Cp.form_ten (n := W.hs.length) (by omega)
 have z4 := Cp.form_ten (n := W.ks.length) (by omega)
 have B0 := Bq.new hw (wdcs W.fr W.nx (.slice mo W.ms.length c1) (.slice so W.cs.length c2) (.slice ho W.hs.length c3) (.slice ko W.ks.length c4)) 27
 have A0 := (Still.alloc w (.cells #[.pointer (some ⟨p, 0, none⟩)] 100)).trans (Still.alloc _ (.cells (wdcs W.fr W.nx (.slice mo W.ms.length c1) (.slice so W.cs.length c2) (.slice ho W.hs.length c3) (.slice ko W.ks.length c4)) 27))
 obtain ⟨U, eU⟩ : ∃ U, (w.alloc (.cells #[.pointer (some ⟨p, 0, none⟩)] 100)).alloc (.cells (wdcs W.fr W.nx (.slice mo W.ms.length c1) (.slice so W.cs.length c2) (.slice ho W.hs.length c3) (.slice ko W.ks.length c4)) 27) = U := ⟨_, rfl⟩
 obtain ⟨g, eg⟩ : ∃ g, w.heap.size = g := ⟨_, rfl⟩
 rw [eU] at A0 B0
 rw [eg] at B0
 have HB := hid B0
 have HA := hid A0
 have HW := hid (hw.still A0)
 have HAt := hid (ha.still A0)
 have HI := hid hh
 have HR := hid (And.intro hr1 (And.intro hr2 (And.intro hr3 hr4)))
 have k0 := B0.cell
 have d0 := cell_of_row _ _ 0 _ _ _ B0.sb
 have d1 := cell_of_row _ _ 1 _ _ _ B0.sb
 have d2 := cell_of_row _ _ 2 _ _ _ B0.sb
 have d3 := cell_of_row _ _ 3 _ _ _ B0.sb
 have d4 := cell_of_row _ _ 4 _ _ _ B0.sb
 have d5 := cell_of_row _ _ 5 _ _ _ B0.sb
 simp only [List.getElem?_toArray, List.getElem?_cons_zero, List.getElem?_cons_succ] at d0 d1 d2 d3 d4 d5
 clear A0 B0 hw ha hh hr1 hr2 hr3 hr4
 go_enter Tryz.func61, Tryz.ntmps61
 have HC := hid (xbyte_any p ao bs 87 87 rfl (by omega) U HW.out)
 go_wp2_with fail
 refine HC.out.mono ?_
 rintro e w1 ⟨he, ao1, h1⟩
 rw [he]
 have HL1 : Hid (Lx w w1 p ao ao1 bs ([87])) := hid (h1.from HA.out)
 have HAt1 := hid (HAt.out.on h1)
 have HB1 := hid (HB.out.on h1)
 have y1 : (bs ++ ([87])).length = bs.length + ([87]).length := by simp only [List.length_append, List.length_cons, List.length_nil] <;> omega
 have y0 : ([87] : List UInt8).length = 1 := rfl
 clear he h1 HC k0 d0 d1 d2 d3 d4 d5
 have k0 := HB1.out.cell
 have d0 := cell_of_row _ _ 0 _ _ _ HB1.out.sb
 have d1 := cell_of_row _ _ 1 _ _ _ HB1.out.sb
 have d2 := cell_of_row _ _ 2 _ _ _ HB1.out.sb
 have d3 := cell_of_row _ _ 3 _ _ _ HB1.out.sb
 have d4 := cell_of_row _ _ 4 _ _ _ HB1.out.sb
 have d5 := cell_of_row _ _ 5 _ _ _ HB1.out.sb
 simp only [List.getElem?_toArray, List.getElem?_cons_zero, List.getElem?_cons_succ] at d0 d1 d2 d3 d4 d5
 have HC := hid (xint_any p ao1 (bs ++ ([87])) W.fr HI.out.fr (by omega) w1 HL1.out.q)
 go_wp2_with fail
 refine HC.out.mono ?_
 rintro e w2 ⟨he, ao2, h2⟩
 rw [he]
 have HL2 : Hid (Lx w w2 p ao ao2 bs ([87] ++ Cp.form (Cp.fold W.fr))) := hid (HL1.out.trans h2)
 have HAt2 := hid (HAt1.out.on h2)
 have HB2 := hid (HB1.out.on h2)
 have y2 : (bs ++ ([87] ++ Cp.form (Cp.fold W.fr))).length = (bs ++ ([87])).length + (Cp.form (Cp.fold W.fr)).length := by simp only [List.length_append, List.length_cons, List.length_nil] <;> omega
 clear he h2 HC k0 d0 d1 d2 d3 d4 d5
 have k0 := HB2.out.cell
 have d0 := cell_of_row _ _ 0 _ _ _ HB2.out.sb
 have d1 := cell_of_row _ _ 1 _ _ _ HB2.out.sb
 have d2 := cell_of_row _ _ 2 _ _ _ HB2.out.sb
 have d3 := cell_of_row _ _ 3 _ _ _ HB2.out.sb
 have d4 := cell_of_row _ _ 4 _ _ _ HB2.out.sb
 have d5 := cell_of_row _ _ 5 _ _ _ HB2.out.sb
 simp only [List.getElem?_toArray, List.getElem?_cons_zero, List.getElem?_cons_succ] at d0 d1 d2 d3 d4 d5
 have HC := hid (emover_any p ao2 (bs ++ ([87] ++ Cp.form (Cp.fold W.fr))) mo W.ms.length c1 W.ms HI.out.ms (by omega) w2 HL2.out.q (HR.out.1.still HAt2.out.s) (HAt2.out.ne HR.out.1))
 go_wp2_with fail
 refine HC.out.mono ?_
 rintro e w3 ⟨he, ao3, h3⟩
 rw [he]
 have HL3 : Hid (Lx w w3 p ao ao3 bs ([87] ++ Cp.form (Cp.fold W.fr) ++ W.ms.flatMap mvB)) := hid (HL2.out.trans h3)
 have HAt3 := hid (HAt2.out.on h3)
 have HB3 := hid (HB2.out.on h3)
 have y3 : (bs ++ ([87] ++ Cp.form (Cp.fold W.fr) ++ W.ms.flatMap mvB)).length = (bs ++ ([87] ++ Cp.form (Cp.fold W.fr))).length + (W.ms.flatMap mvB).length := by simp only [List.length_append, List.length_cons, List.length_nil] <;> omega
 clear he h3 HC k0 d0 d1 d2 d3 d4 d5
 have k0 := HB3.out.cell
 have d0 := cell_of_row _ _ 0 _ _ _ HB3.out.sb
 have d1 := cell_of_row _ _ 1 _ _ _ HB3.out.sb
 have d2 := cell_of_row _ _ 2 _ _ _ HB3.out.sb
 have d3 := cell_of_row _ _ 3 _ _ _ HB3.out.sb
 have d4 := cell_of_row _ _ 4 _ _ _ HB3.out.sb
 have d5 := cell_of_row _ _ 5 _ _ _ HB3.out.sb
 simp only [List.getElem?_toArray, List.getElem?_cons_zero, List.getElem?_cons_succ] at d0 d1 d2 d3 d4 d5
 have HC := hid (escore_any p ao3 (bs ++ ([87] ++ Cp.form (Cp.fold W.fr) ++ W.ms.flatMap mvB)) so W.cs.length c2 W.cs HI.out.cs (by omega) w3 HL3.out.q (HR.out.2.1.still HAt3.out.s) (HAt3.out.ne HR.out.2.1))
 go_wp2_with fail
 refine HC.out.mono ?_
 rintro e w4 ⟨he, ao4, h4⟩
 rw [he]
 have HL4 : Hid (Lx w w4 p ao ao4 bs ([87] ++ Cp.form (Cp.fold W.fr) ++ W.ms.flatMap mvB ++ W.cs.flatMap scB)) := hid (HL3.out.trans h4)
 have HAt4 := hid (HAt3.out.on h4)
 have HB4 := hid (HB3.out.on h4)
 have y4 : (bs ++ ([87] ++ Cp.form (Cp.fold W.fr) ++ W.ms.flatMap mvB ++ W.cs.flatMap scB)).length = (bs ++ ([87] ++ Cp.form (Cp.fold W.fr) ++ W.ms.flatMap mvB)).length + (W.cs.flatMap scB).length := by simp only [List.length_append, List.length_cons, List.length_nil] <;> omega
 clear he h4 HC k0 d0 d1 d2 d3 d4 d5
 have k0 := HB4.out.cell
 have d0 := cell_of_row _ _ 0 _ _ _ HB4.out.sb
 have d1 := cell_of_row _ _ 1 _ _ _ HB4.out.sb
 have d2 := cell_of_row _ _ 2 _ _ _ HB4.out.sb
 have d3 := cell_of_row _ _ 3 _ _ _ HB4.out.sb
 have d4 := cell_of_row _ _ 4 _ _ _ HB4.out.sb
 have d5 := cell_of_row _ _ 5 _ _ _ HB4.out.sb
 simp only [List.getElem?_toArray, List.getElem?_cons_zero, List.getElem?_cons_succ] at d0 d1 d2 d3 d4 d5
 have HC := hid (xcount_any p ao4 (bs ++ ([87] ++ Cp.form (Cp.fold W.fr) ++ W.ms.flatMap mvB ++ W.cs.flatMap scB)) W.hs.length (by omega) (by omega) w4 HL4.out.q)
 go_wp2_with fail
 refine HC.out.mono ?_
 rintro e w5 ⟨he, ao5, h5⟩
 rw [he]
 have HL5 : Hid (Lx w w5 p ao ao5 bs ([87] ++ Cp.form (Cp.fold W.fr) ++ W.ms.flatMap mvB ++ W.cs.flatMap scB ++ Cp.form W.hs.length)) := hid (HL4.out.trans h5)
 have HAt5 := hid (HAt4.out.on h5)
 have HB5 := hid (HB4.out.on h5)
 have y5 : (bs ++ ([87] ++ Cp.form (Cp.fold W.fr) ++ W.ms.flatMap mvB ++ W.cs.flatMap scB ++ Cp.form W.hs.length)).length = (bs ++ ([87] ++ Cp.form (Cp.fold W.fr) ++ W.ms.flatMap mvB ++ W.cs.flatMap scB)).length + (Cp.form W.hs.length).length := by simp only [List.length_append, List.length_cons, List.length_nil] <;> omega
 clear he h5 HC k0 d0 d1 d2 d3 d4 d5
 have k0 := HB5.out.cell
 have d0 := cell_of_row _ _ 0 _ _ _ HB5.out.sb
 have d1 := cell_of_row _ _ 1 _ _ _ HB5.out.sb
 have d2 := cell_of_row _ _ 2 _ _ _ HB5.out.sb
 have d3 := cell_of_row _ _ 3 _ _ _ HB5.out.sb
 have d4 := cell_of_row _ _ 4 _ _ _ HB5.out.sb
 have d5 := cell_of_row _ _ 5 _ _ _ HB5.out.sb
 simp only [List.getElem?_toArray, List.getElem?_cons_zero, List.getElem?_cons_succ] at d0 d1 d2 d3 d4 d5
 have HC := hid (eshot_any p ao5 (bs ++ ([87] ++ Cp.form (Cp.fold W.fr) ++ W.ms.flatMap mvB ++ W.cs.flatMap scB ++ Cp.form W.hs.length)) ho W.hs.length c3 W.hs HI.out.hs (by omega) w5 HL5.out.q (HR.out.2.2.1.still HAt5.out.s) (HAt5.out.ne HR.out.2.2.1))
 go_wp2_with fail
 refine HC.out.mono ?_
 rintro e w6 ⟨he, ao6, h6⟩
 rw [he]
 have HL6 : Hid (Lx w w6 p ao ao6 bs ([87] ++ Cp.form (Cp.fold W.fr) ++ W.ms.flatMap mvB ++ W.cs.flatMap scB ++ Cp.form W.hs.length ++ W.hs.flatMap shB)) := hid (HL5.out.trans h6)
 have HAt6 := hid (HAt5.out.on h6)
 have HB6 := hid (HB5.out.on h6)
 have y6 : (bs ++ ([87] ++ Cp.form (Cp.fold W.fr) ++ W.ms.flatMap mvB ++ W.cs.flatMap scB ++ Cp.form W.hs.length ++ W.hs.flatMap shB)).length = (bs ++ ([87] ++ Cp.form (Cp.fold W.fr) ++ W.ms.flatMap mvB ++ W.cs.flatMap scB ++ Cp.form W.hs.length)).length + (W.hs.flatMap shB).length := by simp only [List.length_append, List.length_cons, List.length_nil] <;> omega
 clear he h6 HC k0 d0 d1 d2 d3 d4 d5
 have k0 := HB6.out.cell
 have d0 := cell_of_row _ _ 0 _ _ _ HB6.out.sb
 have d1 := cell_of_row _ _ 1 _ _ _ HB6.out.sb
 have d2 := cell_of_row _ _ 2 _ _ _ HB6.out.sb
 have d3 := cell_of_row _ _ 3 _ _ _ HB6.out.sb
 have d4 := cell_of_row _ _ 4 _ _ _ HB6.out.sb
 have d5 := cell_of_row _ _ 5 _ _ _ HB6.out.sb
 simp only [List.getElem?_toArray, List.getElem?_cons_zero, List.getElem?_cons_succ] at d0 d1 d2 d3 d4 d5
 have HC := hid (xcount_any p ao6 (bs ++ ([87] ++ Cp.form (Cp.fold W.fr) ++ W.ms.flatMap mvB ++ W.cs.flatMap scB ++ Cp.form W.hs.length ++ W.hs.flatMap shB)) W.ks.length (by omega) (by omega) w6 HL6.out.q)
 go_wp2_with fail
 refine HC.out.mono ?_
 rintro e w7 ⟨he, ao7, h7⟩
 rw [he]
 have HL7 : Hid (Lx w w7 p ao ao7 bs ([87] ++ Cp.form (Cp.fold W.fr) ++ W.ms.flatMap mvB ++ W.cs.flatMap scB ++ Cp.form W.hs.length ++ W.hs.flatMap shB ++ Cp.form W.ks.length)) := hid (HL6.out.trans h7)
 have HAt7 := hid (HAt6.out.on h7)
 have HB7 := hid (HB6.out.on h7)
 have y7 : (bs ++ ([87] ++ Cp.form (Cp.fold W.fr) ++ W.ms.flatMap mvB ++ W.cs.flatMap scB ++ Cp.form W.hs.length ++ W.hs.flatMap shB ++ Cp.form W.ks.length)).length = (bs ++ ([87] ++ Cp.form (Cp.fold W.fr) ++ W.ms.flatMap mvB ++ W.cs.flatMap scB ++ Cp.form W.hs.length ++ W.hs.flatMap shB)).length + (Cp.form W.ks.length).length := by simp only [List.length_append, List.length_cons, List.length_nil] <;> omega
 clear he h7 HC k0 d0 d1 d2 d3 d4 d5
 have k0 := HB7.out.cell
 have d0 := cell_of_row _ _ 0 _ _ _ HB7.out.sb
 have d1 := cell_of_row _ _ 1 _ _ _ HB7.out.sb
 have d2 := cell_of_row _ _ 2 _ _ _ HB7.out.sb
 have d3 := cell_of_row _ _ 3 _ _ _ HB7.out.sb
 have d4 := cell_of_row _ _ 4 _ _ _ HB7.out.sb
 have d5 := cell_of_row _ _ 5 _ _ _ HB7.out.sb
 simp only [List.getElem?_toArray, List.getElem?_cons_zero, List.getElem?_cons_succ] at d0 d1 d2 d3 d4 d5
 have HC := hid (epickup_any p ao7 (bs ++ ([87] ++ Cp.form (Cp.fold W.fr) ++ W.ms.flatMap mvB ++ W.cs.flatMap scB ++ Cp.form W.hs.length ++ W.hs.flatMap shB ++ Cp.form W.ks.length)) ko W.ks.length c4 W.ks HI.out.ks (by omega) w7 HL7.out.q (HR.out.2.2.2.still HAt7.out.s) (HAt7.out.ne HR.out.2.2.2))
 go_wp2_with fail
 refine HC.out.mono ?_
 rintro e w8 ⟨he, ao8, h8⟩
 rw [he]
 have HL8 : Hid (Lx w w8 p ao ao8 bs ([87] ++ Cp.form (Cp.fold W.fr) ++ W.ms.flatMap mvB ++ W.cs.flatMap scB ++ Cp.form W.hs.length ++ W.hs.flatMap shB ++ Cp.form W.ks.length ++ W.ks.flatMap pkB)) := hid (HL7.out.trans h8)
 have HAt8 := hid (HAt7.out.on h8)
 have HB8 := hid (HB7.out.on h8)
 have y8 : (bs ++ ([87] ++ Cp.form (Cp.fold W.fr) ++ W.ms.flatMap mvB ++ W.cs.flatMap scB ++ Cp.form W.hs.length ++ W.hs.flatMap shB ++ Cp.form W.ks.length ++ W.ks.flatMap pkB)).length = (bs ++ ([87] ++ Cp.form (Cp.fold W.fr) ++ W.ms.flatMap mvB ++ W.cs.flatMap scB ++ Cp.form W.hs.length ++ W.hs.flatMap shB ++ Cp.form W.ks.length)).length + (W.ks.flatMap pkB).length := by simp only [List.length_append, List.length_cons, List.length_nil] <;> omega
 clear he h8 HC k0 d0 d1 d2 d3 d4 d5
 have k0 := HB8.out.cell
 have d0 := cell_of_row _ _ 0 _ _ _ HB8.out.sb
 have d1 := cell_of_row _ _ 1 _ _ _ HB8.out.sb
 have d2 := cell_of_row _ _ 2 _ _ _ HB8.out.sb
 have d3 := cell_of_row _ _ 3 _ _ _ HB8.out.sb
 have d4 := cell_of_row _ _ 4 _ _ _ HB8.out.sb
 have d5 := cell_of_row _ _ 5 _ _ _ HB8.out.sb
 simp only [List.getElem?_toArray, List.getElem?_cons_zero, List.getElem?_cons_succ] at d0 d1 d2 d3 d4 d5
 have HC := hid (xlit_any p ao8 (bs ++ ([87] ++ Cp.form (Cp.fold W.fr) ++ W.ms.flatMap mvB ++ W.cs.flatMap scB ++ Cp.form W.hs.length ++ W.hs.flatMap shB ++ Cp.form W.ks.length ++ W.ks.flatMap pkB)) [W.nx] (fun n hn => by simp only [List.mem_cons, List.not_mem_nil, or_false] at hn; rw [hn]; exact HI.out.nx) (by simp only [List.length_cons, List.length_nil]; omega) w8 HL8.out.q)
 go_wp2_with fail
 refine HC.out.mono ?_
 rintro e w9 ⟨he, ao9, h9⟩
 rw [he]
 have HL9 : Hid (Lx w w9 p ao ao9 bs ([87] ++ Cp.form (Cp.fold W.fr) ++ W.ms.flatMap mvB ++ W.cs.flatMap scB ++ Cp.form W.hs.length ++ W.hs.flatMap shB ++ Cp.form W.ks.length ++ W.ks.flatMap pkB ++ nsB [W.nx])) := hid (HL8.out.trans h9)
 clear he h9 HC
 go_wp2_with fail
 go_end0
 exact ⟨rfl, ao9, HL9.out⟩
set_option maxHeartbeats 2000000 in
theorem written_w (g : Nat) (x : List UInt8) (hx : x.length <= 1000000) (w : World) (HF : ∀ (p : Nat) (u : World), Still w u -> Wq u p none [] -> At w u p none -> Calls Tryz.prog 60 #[wqv p, .pointer (some ⟨g, 0, none⟩)] u fun r w' => r = .returned (.tuple #[]) /\ ∃ ao', Lx u w' p none ao' [] x) :
  Calls Tryz.prog 59 #[.func (.func 60) #[] #[.pointer (some ⟨g, 0, none⟩)]] w fun e w' => ∃ ao cap, e = .returned (.slice ao x.length cap) /\ Ow 5 w' ao x.length cap x /\ Still w w' /\ ∀ a, ao = some a -> w.heap.size <= a.block := by
 have HN := hid (newWriter_any 9223372036854775807 (by omega) (by omega) w)
 have HFF := hid HF
 clear HF
 go_enter Tryz.func59, Tryz.ntmps59
 go_wp2_with fail
 refine HN.out.mono ?_
 rintro e w1 ⟨he, hw1, h1⟩
 rw [he]
 obtain ⟨p, ep⟩ : ∃ p, w.heap.size = p := ⟨_, rfl⟩
 rw [ep] at hw1
 have hq1 : Wq w1 p none [] := Wq.of hw1
 have hx2 := wbox w1 p
 have A2 := Still.alloc w1 (.cells #[.pointer (some ⟨p, 0, none⟩)] 100)
 have hn2 : ¬ Wf p none w1.heap.size := fun e => by have := hq1.wf_lt _ e; omega
 obtain ⟨W2, eW2⟩ : ∃ W, w1.alloc (.cells #[.pointer (some ⟨p, 0, none⟩)] 100) = W := ⟨_, rfl⟩
 obtain ⟨g2, eg2⟩ : ∃ g, w1.heap.size = g := ⟨_, rfl⟩
 rw [eW2] at A2 hx2
 rw [eg2] at hx2 hn2
 have c0 : W2.cell? ⟨g2, 0, none⟩ = some (.pointer (some ⟨p, 0, none⟩)) := by rw [cell_of_row _ _ _ _ _ _ hx2]; rfl
 have HC := hid (HFF.out p W2 (h1.trans A2) (hq1.still A2) ⟨h1.trans A2, fun k hk => by
  rcases hk with rfl | ⟨a, ha, _⟩
  ·omega
  ·cases ha⟩)
 have HX2 := hid (And.intro hx2 hn2)
 have HS2 := hid (h1.trans A2)
 have HP := hid ep
 rw [ep]
 clear he hw1 h1 hq1 A2 hx2 hn2 HN HFF
 go_wp2_with fail
 refine HC.out.mono ?_
 rintro e w3 ⟨he, ao3, h3⟩
 rw [he]
 have hx3 := h3.f.kept HX2.out.1 HX2.out.2
 have hq3 := h3.q
 rw [List.nil_append] at hq3
 obtain ⟨cap3, hw3⟩ := hq3.wr
 have HS3 : Hid (Still w w3) := hid (Fr.trans HS2.out h3.f (fun k hk e => by
  rcases e with rfl | ⟨a, ha, _⟩
  ·have := HP.out; omega
  ·cases ha))
 clear c0
 have c0 : w3.cell? ⟨g2, 0, none⟩ = some (.pointer (some ⟨p, 0, none⟩)) := by rw [cell_of_row _ _ _ _ _ _ hx3]; rfl
 have HC := hid (wdone_any p ao3 x.length cap3 9223372036854775807 x 0 w3 hw3 (by omega))
 clear he h3 hx3 hq3 hw3 HX2 HS2 eW2 eg2
 go_wp2_with fail
 refine HC.out.mono ?_
 rintro e w4 ⟨ao4, cap4, he, ho4, h4, ha4⟩
 rw [he]
 have HO : Hid (Ow 5 w4 ao4 x.length cap4 x /\ Still w w4 /\ ∀ a, ao4 = some a -> w.heap.size <= a.block) := hid ⟨ho4, HS3.out.trans h4, fun a ha => Nat.le_trans HS3.out.size (ha4 a ha)⟩
 clear he ho4 h4 ha4 HC c0
 go_wp2_with fail
 go_ret
 exact ⟨ao4, cap4, rfl, HO.out⟩
set_option maxHeartbeats 2000000 in
theorem written_s (g : Nat) (x : List UInt8) (hx : x.length <= 1000000) (w : World) (HF : ∀ (p : Nat) (u : World), Still w u -> Wq u p none [] -> At w u p none -> Calls Tryz.prog 113 #[wqv p, .pointer (some ⟨g, 0, none⟩)] u fun r w' => r = .returned (.tuple #[]) /\ ∃ ao', Lx u w' p none ao' [] x) :
  Calls Tryz.prog 59 #[.func (.func 113) #[] #[.pointer (some ⟨g, 0, none⟩)]] w fun e w' => ∃ ao cap, e = .returned (.slice ao x.length cap) /\ Ow 5 w' ao x.length cap x /\ Still w w' /\ ∀ a, ao = some a -> w.heap.size <= a.block := by
 have HN := hid (newWriter_any 9223372036854775807 (by omega) (by omega) w)
 have HFF := hid HF
 clear HF
 go_enter Tryz.func59, Tryz.ntmps59
 go_wp2_with fail
 refine HN.out.mono ?_
 rintro e w1 ⟨he, hw1, h1⟩
 rw [he]
 obtain ⟨p, ep⟩ : ∃ p, w.heap.size = p := ⟨_, rfl⟩
 rw [ep] at hw1
 have hq1 : Wq w1 p none [] := Wq.of hw1
 have hx2 := wbox w1 p
 have A2 := Still.alloc w1 (.cells #[.pointer (some ⟨p, 0, none⟩)] 100)
 have hn2 : ¬ Wf p none w1.heap.size := fun e => by have := hq1.wf_lt _ e; omega
 obtain ⟨W2, eW2⟩ : ∃ W, w1.alloc (.cells #[.pointer (some ⟨p, 0, none⟩)] 100) = W := ⟨_, rfl⟩
 obtain ⟨g2, eg2⟩ : ∃ g, w1.heap.size = g := ⟨_, rfl⟩
 rw [eW2] at A2 hx2
 rw [eg2] at hx2 hn2
 have c0 : W2.cell? ⟨g2, 0, none⟩ = some (.pointer (some ⟨p, 0, none⟩)) := by rw [cell_of_row _ _ _ _ _ _ hx2]; rfl
 have HC := hid (HFF.out p W2 (h1.trans A2) (hq1.still A2) ⟨h1.trans A2, fun k hk => by
  rcases hk with rfl | ⟨a, ha, _⟩
  ·omega
  ·cases ha⟩)
 have HX2 := hid (And.intro hx2 hn2)
 have HS2 := hid (h1.trans A2)
 have HP := hid ep
 rw [ep]
 clear he hw1 h1 hq1 A2 hx2 hn2 HN HFF
 go_wp2_with fail
 refine HC.out.mono ?_
 rintro e w3 ⟨he, ao3, h3⟩
 rw [he]
 have hx3 := h3.f.kept HX2.out.1 HX2.out.2
 have hq3 := h3.q
 rw [List.nil_append] at hq3
 obtain ⟨cap3, hw3⟩ := hq3.wr
 have HS3 : Hid (Still w w3) := hid (Fr.trans HS2.out h3.f (fun k hk e => by
  rcases e with rfl | ⟨a, ha, _⟩
  ·have := HP.out; omega
  ·cases ha))
 clear c0
 have c0 : w3.cell? ⟨g2, 0, none⟩ = some (.pointer (some ⟨p, 0, none⟩)) := by rw [cell_of_row _ _ _ _ _ _ hx3]; rfl
 have HC := hid (wdone_any p ao3 x.length cap3 9223372036854775807 x 0 w3 hw3 (by omega))
 clear he h3 hx3 hq3 hw3 HX2 HS2 eW2 eg2
 go_wp2_with fail
 refine HC.out.mono ?_
 rintro e w4 ⟨ao4, cap4, he, ho4, h4, ha4⟩
 rw [he]
 have HO : Hid (Ow 5 w4 ao4 x.length cap4 x /\ Still w w4 /\ ∀ a, ao4 = some a -> w.heap.size <= a.block) := hid ⟨ho4, HS3.out.trans h4, fun a ha => Nat.le_trans HS3.out.size (ha4 a ha)⟩
 clear he ho4 h4 ha4 HC c0
 go_wp2_with fail
 go_ret
 exact ⟨ao4, cap4, rfl, HO.out⟩
set_option maxHeartbeats 2000000 in
theorem worldBytes1_any (p g : Nat) (W : Wd) (v : Array Value) (hh : InW W) (hb : 121 * W.ms.length + 40 * W.cs.length + 80 * W.hs.length + 30 * W.ks.length + 50 <= 1000000) (w0 w : World) (hw : Wq w p none []) (hv : RdW w0 (.agg v) W) (hg : w0.heap[g]? = some (.cells v 27 (0, 0))) (ha : At w0 w p none) :
  Calls Tryz.prog 60 #[wqv p, .pointer (some ⟨g, 0, none⟩)] w fun r w' => r = .returned (.tuple #[]) /\ ∃ ao', Lx w w' p none ao' [] (wdB W) := by
 have hv' := hv
 obtain ⟨a, b, c, d, e, _⟩ := hv'
 cases e
 have A0 := Still.alloc w (.cells #[.pointer (some ⟨p, 0, none⟩)] 100)
 have hx0 := wbox w p
 have hg1 := (ha.still A0).s.kept_still hg
 have HC := hid (xworld_any p none [] W _ hh (by simp only [List.length_nil]; omega) w0 _ (hw.still A0) hv (ha.still A0))
 have HA := hid A0
 obtain ⟨U, eU⟩ : ∃ U, w.alloc (.cells #[.pointer (some ⟨p, 0, none⟩)] 100) = U := ⟨_, rfl⟩
 obtain ⟨g0, eg⟩ : ∃ g, w.heap.size = g := ⟨_, rfl⟩
 rw [eU] at HC HA hx0 hg1
 rw [eg] at hx0
 have k0 := cell_of_row _ _ 0 _ _ _ hx0
 have d0 := cell_of_row _ _ 0 _ _ _ hg1
 have d1 := cell_of_row _ _ 1 _ _ _ hg1
 have d2 := cell_of_row _ _ 2 _ _ _ hg1
 have d3 := cell_of_row _ _ 3 _ _ _ hg1
 have d4 := cell_of_row _ _ 4 _ _ _ hg1
 have d5 := cell_of_row _ _ 5 _ _ _ hg1
 simp only [List.getElem?_toArray, List.getElem?_cons_zero, List.getElem?_cons_succ] at k0 d0 d1 d2 d3 d4 d5
 clear A0 hx0 hg1 hw hv hg ha hh
 go_enter Tryz.func60, Tryz.ntmps60
 go_wp2_with fail
 refine HC.out.mono ?_
 rintro e w2 ⟨he, ao2, h2⟩
 rw [he]
 have HL := hid (h2.from HA.out)
 clear he h2 HC k0 d0 d1 d2 d3 d4 d5
 go_wp2_with fail
 go_end0
 exact ⟨rfl, ao2, HL.out⟩
theorem wdB_le {W : Wd} (hh : InW W) (hb : 121 * W.ms.length + 40 * W.cs.length + 80 * W.hs.length + 30 * W.ks.length + 50 <= 1000000) : (wdB W).length <= 121 * W.ms.length + 40 * W.cs.length + 80 * W.hs.length + 30 * W.ks.length + 50 := by
 have zm := flat_le mvB 121 W.ms (fun x hx => mvB_le (hh.ms x hx))
 have zc := flat_le scB 40 W.cs (fun x hx => scB_le (hh.cs x hx))
 have zh := flat_le shB 80 W.hs (fun x hx => shB_le (hh.hs x hx))
 have zk := flat_le pkB 30 W.ks (fun x hx => pkB_le (hh.ks x hx))
 have zf := form10 hh.fr
 have z3 := Cp.form_ten (n := W.hs.length) (by omega)
 have z4 := Cp.form_ten (n := W.ks.length) (by omega)
 have zn := nsB_le (l := [W.nx]) (fun n hn => by simp only [List.mem_cons, List.not_mem_nil, or_false] at hn; rw [hn]; exact hh.nx)
 unfold wdB
 simp only [List.length_append, List.length_cons, List.length_nil] at zn ⊢
 omega
set_option maxHeartbeats 2000000 in
theorem worldBytes_any (W : Wd) (v : Value) (hh : InW W) (hb : 121 * W.ms.length + 40 * W.cs.length + 80 * W.hs.length + 30 * W.ks.length + 50 <= 1000000) (w : World) (hv : RdW w v W) :
  Calls Tryz.prog 32 #[v] w fun e w' => ∃ ao cap, e = .returned (.slice ao (wdB W).length cap) /\ Ow 5 w' ao (wdB W).length cap (wdB W) /\ Still w w' /\ ∀ a, ao = some a -> w.heap.size <= a.block := by
 have hv' := hv
 obtain ⟨a, b, c, d, rfl, _⟩ := hv'
 have A0 := Still.alloc w (.cells (wdcs W.fr W.nx a b c d) 27)
 have hg := newWd_wb w W.fr W.nx a b c d
 have HC := hid (written_w w.heap.size (wdB W) (by have := wdB_le hh hb; omega) (newWd w W.fr W.nx a b c d) (fun p u hu hq hat => worldBytes1_any p w.heap.size W _ hh hb (newWd w W.fr W.nx a b c d) u hq (hv.still A0) hg hat))
 have HA := hid A0
 obtain ⟨X, eX⟩ : ∃ X, wdB W = X := ⟨_, rfl⟩
 rw [eX] at HC ⊢
 clear A0 hg hv hh
 go_enter Tryz.func32, Tryz.ntmps32
 go_wp2_with fail
 refine HC.out.mono ?_
 rintro e w2 ⟨ao2, cap2, he, ho2, h2, ha2⟩
 rw [he]
 have HO : Hid (Ow 5 w2 ao2 X.length cap2 X /\ Still w w2 /\ ∀ a, ao2 = some a -> w.heap.size <= a.block) := hid ⟨ho2, HA.out.trans h2, fun a ha => Nat.le_trans HA.out.size (ha2 a ha)⟩
 clear he ho2 h2 ha2 HC
 go_wp2_with fail
 go_ret
 exact ⟨ao2, cap2, rfl, HO.out⟩
end Go.Proofs.YtkgbmefaphhcnaaGreatDoor
namespace Go.Proofs.YtkgbmefaphhcnaaGreatDoor
open Go.RowKit
open Np Za Ka Ja Ea Ha
set_option maxRecDepth 100000
theorem mvB_eq (m : Mv) : mvB m = nsB (mvN m) ++ flB m.sh := by
 unfold mvB mvN
 rw [<- nsB_app, <- nsB_app, <- nsB_app]
 rfl
theorem shB_eq (s : Sh) : shB s = nsB (shN s) := by
 unfold shB shN
 rw [<- nsB_app, <- nsB_app, <- nsB_app]
 rfl
theorem rlit_any (ao : Option Addr) (cap : Nat) (bs : List UInt8) (l : List Int) (hl : ∀ n ∈ l, I64 n) (hb : bs.length + 10 * l.length <= 1000000) (w : World) (ho : Ow 5 w ao bs.length cap bs) :
  Calls Tryz.prog 44 #[.slice ao bs.length cap, .slice (some ⟨w.heap.size, 0, none⟩) l.length l.length] (w.alloc (.cells (l.map (fun n => Value.int .i64 n)).toArray 3)) fun e w' => ∃ ao' cap', e = .returned (.slice ao' (bs ++ nsB l).length cap') /\ Oz w w' ao ao' cap' (bs ++ nsB l) := by
 have A := Still.alloc w (.cells (l.map (fun n => Value.int .i64 n)).toArray 3)
 refine (rnum_any ao cap bs _ _ _ l hl hb _ (ho.still A) (RdI.lit w l (by omega)) (fun a b ha _ hb' e => ?_)).mono ?_
 ·cases ha
  have := ho.lt b hb'
  simp at e
  omega
 ·rintro r w' ⟨ao', cap', rfl, h⟩
  exact ⟨ao', cap', rfl, h.from A⟩
structure Dz (w0 w : World) (ao : Option Addr) (cap : Nat) (bs : List UInt8) : Prop where
 o : Ow 5 w ao bs.length cap bs
 s : Still w0 w
 n : ∀ a, ao = some a -> w0.heap.size <= a.block
theorem Dz.on {w0 w w1 : World} {ao ao1 : Option Addr} {cap c1 : Nat} {bs b1 : List UInt8} (h : Dz w0 w ao cap bs) (k : Oz w w1 ao ao1 c1 b1) : Dz w0 w1 ao1 c1 b1 := by
 refine ⟨k.o, Fr.trans h.s k.f (fun j hj e => by obtain ⟨a, ha, rfl⟩ := e; have := h.n a ha; omega), fun a ha => ?_⟩
 rcases k.l a ha with ⟨b, hb, e⟩ | h1
 ·rw [<- e]; exact h.n b hb
 ·exact Nat.le_trans h.s.size h1
theorem Dz.still {w0 w w1 : World} {ao : Option Addr} {cap : Nat} {bs : List UInt8} (h : Dz w0 w ao cap bs) (hs : Still w w1) : Dz w0 w1 ao cap bs := ⟨h.o.still hs, h.s.trans hs, h.n⟩
set_option maxHeartbeats 8000000 in
theorem rbytes_any (W : Wd) (v : Value) (hh : InW W) (hb : 121 * W.ms.length + 40 * W.cs.length + 80 * W.hs.length + 30 * W.ks.length + 50 <= 1000000) (w : World) (hv : RdW w v W) :
  Calls Tryz.prog 35 #[v] w fun e w' => ∃ ao cap, e = .returned (.slice ao (wdB W).length cap) /\ Ow 5 w' ao (wdB W).length cap (wdB W) /\ Still w w' /\ ∀ a, ao = some a -> w.heap.size <= a.block := by
 obtain ⟨i0, hi0, hz0, hs10, hb10⟩ := info_parts info_u8
 obtain ⟨_, _, _, _, rfl, ⟨mo, c1, rfl, _, _, hr1⟩, ⟨so, c2, rfl, _, _, hr2⟩, ⟨ho, c3, rfl, _, _, hr3⟩, ⟨ko, c4, rfl, _, _, hr4⟩⟩ := hv
 have HZm := hid (fun i => flat_le mvB 121 (W.ms.take i) (fun x hx => mvB_le (hh.ms x (List.mem_of_mem_take hx))))
 have HZc := hid (fun i => flat_le scB 40 (W.cs.take i) (fun x hx => scB_le (hh.cs x (List.mem_of_mem_take hx))))
 have HZh := hid (fun i => flat_le shB 80 (W.hs.take i) (fun x hx => shB_le (hh.hs x (List.mem_of_mem_take hx))))
 have HZk := hid (fun i => flat_le pkB 30 (W.ks.take i) (fun x hx => pkB_le (hh.ks x (List.mem_of_mem_take hx))))
 have HI := hid hh
 have HW : Hid (wdB W = [87] ++ nsB [W.fr] ++ W.ms.flatMap mvB ++ W.cs.flatMap scB ++ Cp.form W.hs.length ++ W.hs.flatMap shB ++ Cp.form W.ks.length ++ W.ks.flatMap pkB ++ nsB [W.nx]) := hid (by rw [nsB_one W.fr]; rfl)
 have A0 := Still.alloc w (.cells (wdcs W.fr W.nx (.slice mo W.ms.length c1) (.slice so W.cs.length c2) (.slice ho W.hs.length c3) (.slice ko W.ks.length c4)) 27)
 have hx0 := heap_alloc_new w (.cells (wdcs W.fr W.nx (.slice mo W.ms.length c1) (.slice so W.cs.length c2) (.slice ho W.hs.length c3) (.slice ko W.ks.length c4)) 27)
 obtain ⟨U, eU⟩ : ∃ U, w.alloc (.cells (wdcs W.fr W.nx (.slice mo W.ms.length c1) (.slice so W.cs.length c2) (.slice ho W.hs.length c3) (.slice ko W.ks.length c4)) 27) = U := ⟨_, rfl⟩
 obtain ⟨g, eg⟩ : ∃ g, w.heap.size = g := ⟨_, rfl⟩
 rw [eU] at A0 hx0
 rw [eg] at hx0
 have HA := hid A0
 have HX := hid hx0
 have HR := hid (And.intro (hr1.still A0) (And.intro (hr2.still A0) (And.intro (hr3.still A0) (hr4.still A0))))
 have A1 := Still.alloc U (.cells #[.int .u8 87] 5)
 have hx1 := A1.kept_still hx0
 obtain ⟨U1, eU1⟩ : ∃ X, U.alloc (.cells #[.int .u8 87] 5) = X := ⟨_, rfl⟩
 have HD0 : Hid (Dz U U1 (some ⟨U.heap.size, 0, none⟩) 1 [87]) := hid ⟨by rw [<- eU1]; exact Ow.one U 87 87 rfl, by rw [<- eU1]; exact A1, fun a ha => by cases ha; exact Nat.le_refl _⟩
 rw [eU1] at A1 hx1
 have HC := hid (rlit_any (some ⟨U.heap.size, 0, none⟩) 1 [87] [W.fr] (fun n hn => by simp only [List.mem_cons, List.not_mem_nil, or_false] at hn; rw [hn]; exact hh.fr) (by simp) U1 HD0.out.o)
 have zf := nsB_le (l := [W.fr]) (fun n hn => by simp only [List.mem_cons, List.not_mem_nil, or_false] at hn; rw [hn]; exact hh.fr)
 have z3 := Cp.form_ten (n := W.hs.length) (by omega)
 have z4 := Cp.form_ten (n := W.ks.length) (by omega)
 have k0 := cell_of_row _ _ 0 _ _ _ hx1
 have k1 := cell_of_row _ _ 1 _ _ _ hx1
 have k2 := cell_of_row _ _ 2 _ _ _ hx1
 have k3 := cell_of_row _ _ 3 _ _ _ hx1
 have k4 := cell_of_row _ _ 4 _ _ _ hx1
 have k5 := cell_of_row _ _ 5 _ _ _ hx1
 simp only [List.getElem?_toArray, List.getElem?_cons_zero, List.getElem?_cons_succ] at k0 k1 k2 k3 k4 k5
 clear A0 A1 hx0 hx1 hr1 hr2 hr3 hr4 hh
 go_enter Tryz.func35, Tryz.ntmps35
 go_wp2_with fail
 refine HC.out.mono ?_
 rintro e w1 ⟨ao1, cp1, he, h1⟩
 rw [he]
 have HD1 := hid (HD0.out.on h1)
 have hB : ([87] ++ nsB [W.fr]).length <= 11 := by
  simp only [List.length_append, List.length_cons, List.length_nil] at zf ⊢
  omega
 obtain ⟨B1, eB1⟩ : ∃ B, [87] ++ nsB [W.fr] = B := ⟨_, rfl⟩
 rw [eB1] at HD1 HW hB ⊢
 clear he h1 HC HD0 eU eg eU1 eB1 k0 k1 k2 k3 k4 k5
 go_wp2_with fail
 go_loopw [3, 4] (fun u3 u4 wr => ∃ (i : Nat) (ao : Option Addr) (cp : Nat), i <= W.ms.length /\ u4 = .int .i64 (i : Int) /\ u3 = .slice ao (B1 ++ (W.ms.take i).flatMap mvB).length cp /\ Hid (Dz U wr ao cp (B1 ++ (W.ms.take i).flatMap mvB))) (fun _ u4 _ => W.ms.length - (intOf u4).toNat)
 case atStart => exact ⟨0, ao1, cp1, by omega, rfl, by simp, hid (by simpa using HD1.out)⟩
 case round =>
  clear HD1
  obtain ⟨i, ao, cp, hi, rfl, rfl, HD⟩ := hrel
  have hxw := HD.out.s.kept_still HX.out
  have k0 := cell_of_row _ _ 0 _ _ _ hxw
  have k1 := cell_of_row _ _ 1 _ _ _ hxw
  have k2 := cell_of_row _ _ 2 _ _ _ hxw
  have k3 := cell_of_row _ _ 3 _ _ _ hxw
  have k4 := cell_of_row _ _ 4 _ _ _ hxw
  have k5 := cell_of_row _ _ 5 _ _ _ hxw
  simp only [List.getElem?_toArray, List.getElem?_cons_zero, List.getElem?_cons_succ] at k0 k1 k2 k3 k4 k5
  clear hxw
  by_cases hin : i < W.ms.length
  ·have hlt : (i : Int) < (W.ms.length : Int) := by omega
   obtain ⟨b, o, rfl⟩ := HR.out.1.at (by omega)
   have HRi := hid (HR.out.1.still HD.out.s)
   obtain ⟨d0, d1, d2, d3, d4, d5, d6, d7, d8, d9, d10, d11, d12⟩ := rdM HRi.out hin
   have hmem : mm W.ms i ∈ W.ms := by
    show W.ms.getD i zM ∈ W.ms
    rw [List.getD_eq_getElem?_getD, List.getElem?_eq_getElem hin]
    exact List.getElem_mem hin
   have HM := hid (HI.out.ms _ hmem)
   have hlen : (B1 ++ (W.ms.take i).flatMap mvB).length + 121 <= 1000000 := by
    have := HZm.out i
    rw [List.length_append]
    simp only [List.length_take] at this
    have hm : min i W.ms.length = i := by omega
    rw [hm] at this
    omega
   have HS : Hid (B1 ++ (W.ms.take (i + 1)).flatMap mvB = B1 ++ (W.ms.take i).flatMap mvB ++ mvB (mm W.ms i)) := hid (by rw [flat_step mvB zM hin, List.append_assoc]; rfl)
   obtain ⟨x, ex⟩ : ∃ x, mm W.ms i = x := ⟨_, rfl⟩
   rw [ex] at d0 d1 d2 d3 d4 d5 d6 d7 d8 d9 d10 d11 d12 HM HS
   clear ex hmem HRi
   obtain ⟨BB, eBB⟩ : ∃ BB, B1 ++ (W.ms.take i).flatMap mvB = BB := ⟨_, rfl⟩
   rw [eBB] at HD HS hlen ⊢
   clear eBB
   have A1 := Still.alloc wr (.cells (mcs x) 55)
   have hx1 := heap_alloc_new wr (.cells (mcs x) 55)
   have hne1 : ∀ a, ao = some a -> a.block ≠ wr.heap.size := fun a ha e => by have := HD.out.o.lt a ha; omega
   obtain ⟨W1, eW1⟩ : ∃ X, wr.alloc (.cells (mcs x) 55) = X := ⟨_, rfl⟩
   obtain ⟨gx, egx⟩ : ∃ g, wr.heap.size = g := ⟨_, rfl⟩
   rw [eW1] at A1 hx1
   rw [egx] at hx1 hne1
   have e0 := cell_of_row _ _ 0 _ _ _ hx1
   have e1 := cell_of_row _ _ 1 _ _ _ hx1
   have e2 := cell_of_row _ _ 2 _ _ _ hx1
   have e3 := cell_of_row _ _ 3 _ _ _ hx1
   have e4 := cell_of_row _ _ 4 _ _ _ hx1
   have e5 := cell_of_row _ _ 5 _ _ _ hx1
   have e6 := cell_of_row _ _ 6 _ _ _ hx1
   have e7 := cell_of_row _ _ 7 _ _ _ hx1
   have e8 := cell_of_row _ _ 8 _ _ _ hx1
   have e9 := cell_of_row _ _ 9 _ _ _ hx1
   have e10 := cell_of_row _ _ 10 _ _ _ hx1
   have e11 := cell_of_row _ _ 11 _ _ _ hx1
   have e12 := cell_of_row _ _ 12 _ _ _ hx1
   simp only [List.getElem?_toArray, List.getElem?_cons_zero, List.getElem?_cons_succ] at e0 e1 e2 e3 e4 e5 e6 e7 e8 e9 e10 e11 e12
   have HC := hid (rlit_any ao cp BB (mvN x) HM.out (by have : (mvN x).length = 12 := rfl; omega) W1 (HD.out.still A1).o)
   have HDa := hid (HD.out.still A1)
   have HXx := hid (And.intro hx1 hne1)
   clear A1 hx1 hne1 HD
   go_wp2_with fail
   refine HC.out.mono ?_
   rintro e w2 ⟨ao2, cp2, he, h2⟩
   rw [he]
   have HD2 := hid (HDa.out.on h2)
   have e9' := cell_of_row _ _ 9 _ _ _ (h2.kept HXx.out.1 HXx.out.2)
   simp only [List.getElem?_toArray, List.getElem?_cons_zero, List.getElem?_cons_succ] at e9'
   have hl2 : (BB ++ nsB (mvN x)).length <= 999999 := by
    have h3 := nsB_le HM.out
    have h4 : (mvN x).length = 12 := rfl
    rw [List.length_append]
    omega
   have HS2 : Hid (B1 ++ (W.ms.take (i + 1)).flatMap mvB = BB ++ nsB (mvN x) ++ flB x.sh) := hid (by rw [HS.out, mvB_eq, List.append_assoc])
   obtain ⟨B2, eB2⟩ : ∃ X, BB ++ nsB (mvN x) = X := ⟨_, rfl⟩
   rw [eB2] at HD2 HS2 hl2 ⊢
   clear he h2 HC HDa HXx d0 d1 d2 d3 d4 d5 d6 d7 d8 d9 d10 d11 d12 e0 e1 e2 e3 e4 e5 e6 e7 e8 e9 e10 e11 e12 k0 k1 k2 k3 k4 k5 eW1 egx eB2 HS
   cases hb : x.sh with
   | true =>
    rw [hb] at e9' HS2
    clear hb
    go_wp2_with (at_builtin; refine wpList_app _ rfl _ _ 38 rfl 5 i0 Tryz.underlying38 hi0 hz0 hs10 hb10 ao2 (some ⟨w2.heap.size, 0, none⟩) B2.length cp2 1 1 B2 [1] rfl rfl (HD2.out.o.alloc _) (Rd.one w2 1 1 rfl) (by omega) ?_; intro ao4 cp4 w4 ho4 hf4 hn4 _)
    have HD4 : Hid (Dz U w4 ao4 cp4 (B1 ++ (W.ms.take (i + 1)).flatMap mvB)) := hid (by
     rw [HS2.out]
     exact (HD2.out.still (Still.alloc w2 _)).on (Oz.app rfl rfl ho4 hf4 hn4))
    have HLn : Hid ((B1 ++ (W.ms.take (i + 1)).flatMap mvB).length = B2.length + 1) := hid (by rw [HS2.out, List.length_append]; rfl)
    clear ho4 hf4 hn4 HD2 e9'
    go_wp2_with fail
    go_roundw
    case rel => exact ⟨i + 1, ao4, cp4, by omega, by go_num, by rw [HLn.out], HD4⟩
    case measure => simp [intOf]; omega
   | false =>
    rw [hb] at e9' HS2
    clear hb
    go_wp2_with (at_builtin; refine wpList_app _ rfl _ _ 38 rfl 5 i0 Tryz.underlying38 hi0 hz0 hs10 hb10 ao2 (some ⟨w2.heap.size, 0, none⟩) B2.length cp2 1 1 B2 [0] rfl rfl (HD2.out.o.alloc _) (Rd.one w2 0 0 rfl) (by omega) ?_; intro ao4 cp4 w4 ho4 hf4 hn4 _)
    have HD4 : Hid (Dz U w4 ao4 cp4 (B1 ++ (W.ms.take (i + 1)).flatMap mvB)) := hid (by
     rw [HS2.out]
     exact (HD2.out.still (Still.alloc w2 _)).on (Oz.app rfl rfl ho4 hf4 hn4))
    have HLn : Hid ((B1 ++ (W.ms.take (i + 1)).flatMap mvB).length = B2.length + 1) := hid (by rw [HS2.out, List.length_append]; rfl)
    clear ho4 hf4 hn4 HD2 e9'
    go_wp2_with fail
    go_roundw
    case rel => exact ⟨i + 1, ao4, cp4, by omega, by go_num, by rw [HLn.out], HD4⟩
    case measure => simp [intOf]; omega
  ·obtain rfl : i = W.ms.length := by omega
   rw [List.take_length] at HD ⊢
   have hB' : (B1 ++ W.ms.flatMap mvB).length <= 11 + 121 * W.ms.length := by
    have := HZm.out W.ms.length
    rw [List.take_length] at this
    rw [List.length_append]
    omega
   obtain ⟨C1, eC1⟩ : ∃ B, B1 ++ W.ms.flatMap mvB = B := ⟨_, rfl⟩
   rw [eC1] at HD HW hB' ⊢
   clear eC1
   have HD6 := HD
   clear HD
   go_wp2_with fail
   go_loopw [3, 7] (fun u3 u7 wr => ∃ (i : Nat) (ao : Option Addr) (cp : Nat), i <= W.cs.length /\ u7 = .int .i64 (i : Int) /\ u3 = .slice ao (C1 ++ (W.cs.take i).flatMap scB).length cp /\ Hid (Dz U wr ao cp (C1 ++ (W.cs.take i).flatMap scB))) (fun _ u7 _ => W.cs.length - (intOf u7).toNat)
   case atStart => exact ⟨0, ao, cp, by omega, rfl, by simp, hid (by simpa using HD6.out)⟩
   case round =>
    clear HD6 k0 k1 k2 k3 k4 k5
    obtain ⟨i, ao, cp, hi, rfl, rfl, HD⟩ := hrel
    have hxw := HD.out.s.kept_still HX.out
    have k0 := cell_of_row _ _ 0 _ _ _ hxw
    have k1 := cell_of_row _ _ 1 _ _ _ hxw
    have k2 := cell_of_row _ _ 2 _ _ _ hxw
    have k3 := cell_of_row _ _ 3 _ _ _ hxw
    have k4 := cell_of_row _ _ 4 _ _ _ hxw
    have k5 := cell_of_row _ _ 5 _ _ _ hxw
    simp only [List.getElem?_toArray, List.getElem?_cons_zero, List.getElem?_cons_succ] at k0 k1 k2 k3 k4 k5
    clear hxw
    by_cases hin : i < W.cs.length
    ·have hlt : (i : Int) < (W.cs.length : Int) := by omega
     obtain ⟨b, o, rfl⟩ := HR.out.2.1.at (by omega)
     have HRi := hid (HR.out.2.1.still HD.out.s)
     obtain ⟨d0, d1, d2, d3⟩ := rdC HRi.out hin
     have hmem : sc W.cs i ∈ W.cs := by
      show W.cs.getD i zC ∈ W.cs
      rw [List.getD_eq_getElem?_getD, List.getElem?_eq_getElem hin]
      exact List.getElem_mem hin
     have HM := hid (HI.out.cs _ hmem)
     have hlen : (C1 ++ (W.cs.take i).flatMap scB).length + 40 <= 1000000 := by
      have := HZc.out i
      rw [List.length_append]
      simp only [List.length_take] at this
      have hm : min i W.cs.length = i := by omega
      rw [hm] at this
      omega
     have HS : Hid (C1 ++ (W.cs.take (i + 1)).flatMap scB = C1 ++ (W.cs.take i).flatMap scB ++ scB (sc W.cs i)) := hid (by rw [flat_step scB zC hin, List.append_assoc]; rfl)
     obtain ⟨x, ex⟩ : ∃ x, sc W.cs i = x := ⟨_, rfl⟩
     rw [ex] at d0 d1 d2 d3 HM HS
     clear ex hmem HRi
     obtain ⟨BB, eBB⟩ : ∃ BB, C1 ++ (W.cs.take i).flatMap scB = BB := ⟨_, rfl⟩
     rw [eBB] at HD HS hlen ⊢
     clear eBB
     have A1 := Still.alloc wr (.cells (ccs x) 57)
     have hx1 := heap_alloc_new wr (.cells (ccs x) 57)
     have hne1 : ∀ a, ao = some a -> a.block ≠ wr.heap.size := fun a ha e => by have := HD.out.o.lt a ha; omega
     obtain ⟨W1, eW1⟩ : ∃ X, wr.alloc (.cells (ccs x) 57) = X := ⟨_, rfl⟩
     obtain ⟨gx, egx⟩ : ∃ g, wr.heap.size = g := ⟨_, rfl⟩
     rw [eW1] at A1 hx1
     rw [egx] at hx1 hne1
     have e0 := cell_of_row _ _ 0 _ _ _ hx1
     have e1 := cell_of_row _ _ 1 _ _ _ hx1
     have e2 := cell_of_row _ _ 2 _ _ _ hx1
     have e3 := cell_of_row _ _ 3 _ _ _ hx1
     simp only [List.getElem?_toArray, List.getElem?_cons_zero, List.getElem?_cons_succ] at e0 e1 e2 e3
     have HC := hid (rlit_any ao cp BB (scN x) HM.out (by have : (scN x).length = 4 := rfl; omega) W1 (HD.out.still A1).o)
     have HDa := hid (HD.out.still A1)
     clear A1 hx1 hne1 HD
     go_wp2_with fail
     refine HC.out.mono ?_
     rintro e w2 ⟨ao2, cp2, he, h2⟩
     rw [he]
     have HD2 := hid (HDa.out.on h2)
     have HD3 : Hid (Dz U w2 ao2 cp2 (C1 ++ (W.cs.take (i + 1)).flatMap scB)) := hid (by rw [HS.out]; exact HD2.out)
     have HLn : Hid ((C1 ++ (W.cs.take (i + 1)).flatMap scB).length = (BB ++ nsB (scN x)).length) := hid (by rw [HS.out]; rfl)
     clear he h2 HC HD2 HDa d0 d1 d2 d3 e0 e1 e2 e3 k0 k1 k2 k3 k4 k5 eW1 egx
     go_wp2_with fail
     go_roundw
     case rel => exact ⟨i + 1, ao2, cp2, by omega, by go_num, by rw [HLn.out, List.length_append], HD3⟩
     case measure => simp [intOf]; omega
    ·obtain rfl : i = W.cs.length := by omega
     rw [List.take_length] at HD ⊢
     have hB' : (C1 ++ W.cs.flatMap scB).length <= 11 + 121 * W.ms.length + 40 * W.cs.length := by
      have := HZc.out W.cs.length
      rw [List.take_length] at this
      rw [List.length_append]
      omega
     obtain ⟨C2, eC2⟩ : ∃ B, C1 ++ W.cs.flatMap scB = B := ⟨_, rfl⟩
     rw [eC2] at HD HW hB' ⊢
     clear eC2
     have HC := hid (rcount_any ao cp C2 W.hs.length (by omega) (by omega) wr HD.out.o)
     have hB2 : (C2 ++ Cp.form W.hs.length).length <= 11 + 121 * W.ms.length + 40 * W.cs.length + 10 := by rw [List.length_append]; omega
     go_wp2_with fail
     refine HC.out.mono ?_
     rintro e w7 ⟨ao7, cp7, he, h7⟩
     rw [he]
     have HD7 := hid (HD.out.on h7)
     obtain ⟨B3, eB3⟩ : ∃ B, C2 ++ Cp.form W.hs.length = B := ⟨_, rfl⟩
     rw [eB3] at HD7 HW hB2 ⊢
     clear he h7 HC HD eB3 k0 k1 k2 k3 k4 k5
     go_wp2_with fail
     go_loopw [3, 9] (fun u3 u9 wr => ∃ (i : Nat) (ao : Option Addr) (cp : Nat), i <= W.hs.length /\ u9 = .int .i64 (i : Int) /\ u3 = .slice ao (B3 ++ (W.hs.take i).flatMap shB).length cp /\ Hid (Dz U wr ao cp (B3 ++ (W.hs.take i).flatMap shB))) (fun _ u9 _ => W.hs.length - (intOf u9).toNat)
     case atStart => exact ⟨0, ao7, cp7, by omega, rfl, by simp, hid (by simpa using HD7.out)⟩
     case round =>
      clear HD7
      obtain ⟨i, ao, cp, hi, rfl, rfl, HD⟩ := hrel
      have hxw := HD.out.s.kept_still HX.out
      have k0 := cell_of_row _ _ 0 _ _ _ hxw
      have k1 := cell_of_row _ _ 1 _ _ _ hxw
      have k2 := cell_of_row _ _ 2 _ _ _ hxw
      have k3 := cell_of_row _ _ 3 _ _ _ hxw
      have k4 := cell_of_row _ _ 4 _ _ _ hxw
      have k5 := cell_of_row _ _ 5 _ _ _ hxw
      simp only [List.getElem?_toArray, List.getElem?_cons_zero, List.getElem?_cons_succ] at k0 k1 k2 k3 k4 k5
      clear hxw
      by_cases hin : i < W.hs.length
      ·have hlt : (i : Int) < (W.hs.length : Int) := by omega
       obtain ⟨b, o, rfl⟩ := HR.out.2.2.1.at (by omega)
       have HRi := hid (HR.out.2.2.1.still HD.out.s)
       obtain ⟨d0, d1, d2, d3, d4, d5, d6, d7⟩ := rdS HRi.out hin
       have hmem : ss W.hs i ∈ W.hs := by
        show W.hs.getD i zS ∈ W.hs
        rw [List.getD_eq_getElem?_getD, List.getElem?_eq_getElem hin]
        exact List.getElem_mem hin
       have HM := hid (HI.out.hs _ hmem)
       have hlen : (B3 ++ (W.hs.take i).flatMap shB).length + 80 <= 1000000 := by
        have := HZh.out i
        rw [List.length_append]
        simp only [List.length_take] at this
        have hm : min i W.hs.length = i := by omega
        rw [hm] at this
        omega
       have HS : Hid (B3 ++ (W.hs.take (i + 1)).flatMap shB = B3 ++ (W.hs.take i).flatMap shB ++ shB (ss W.hs i)) := hid (by rw [flat_step shB zS hin, List.append_assoc]; rfl)
       obtain ⟨x, ex⟩ : ∃ x, ss W.hs i = x := ⟨_, rfl⟩
       rw [ex] at d0 d1 d2 d3 d4 d5 d6 d7 HM HS
       clear ex hmem HRi
       obtain ⟨BB, eBB⟩ : ∃ BB, B3 ++ (W.hs.take i).flatMap shB = BB := ⟨_, rfl⟩
       rw [eBB] at HD HS hlen ⊢
       clear eBB
       have A1 := Still.alloc wr (.cells (scs x) 59)
       have hx1 := heap_alloc_new wr (.cells (scs x) 59)
       have hne1 : ∀ a, ao = some a -> a.block ≠ wr.heap.size := fun a ha e => by have := HD.out.o.lt a ha; omega
       obtain ⟨W1, eW1⟩ : ∃ X, wr.alloc (.cells (scs x) 59) = X := ⟨_, rfl⟩
       obtain ⟨gx, egx⟩ : ∃ g, wr.heap.size = g := ⟨_, rfl⟩
       rw [eW1] at A1 hx1
       rw [egx] at hx1 hne1
       have e0 := cell_of_row _ _ 0 _ _ _ hx1
       have e1 := cell_of_row _ _ 1 _ _ _ hx1
       have e2 := cell_of_row _ _ 2 _ _ _ hx1
       have e3 := cell_of_row _ _ 3 _ _ _ hx1
       have e4 := cell_of_row _ _ 4 _ _ _ hx1
       have e5 := cell_of_row _ _ 5 _ _ _ hx1
       have e6 := cell_of_row _ _ 6 _ _ _ hx1
       have e7 := cell_of_row _ _ 7 _ _ _ hx1
       simp only [List.getElem?_toArray, List.getElem?_cons_zero, List.getElem?_cons_succ] at e0 e1 e2 e3 e4 e5 e6 e7
       have HC := hid (rlit_any ao cp BB (shN x) HM.out (by have : (shN x).length = 8 := rfl; omega) W1 (HD.out.still A1).o)
       have HDa := hid (HD.out.still A1)
       clear A1 hx1 hne1 HD
       go_wp2_with fail
       refine HC.out.mono ?_
       rintro e w2 ⟨ao2, cp2, he, h2⟩
       rw [he]
       have HD2 := hid (HDa.out.on h2)
       have HD3 : Hid (Dz U w2 ao2 cp2 (B3 ++ (W.hs.take (i + 1)).flatMap shB)) := hid (by rw [HS.out, shB_eq]; exact HD2.out)
       have HLn : Hid ((B3 ++ (W.hs.take (i + 1)).flatMap shB).length = (BB ++ nsB (shN x)).length) := hid (by rw [HS.out, shB_eq])
       clear he h2 HC HD2 HDa d0 d1 d2 d3 d4 d5 d6 d7 e0 e1 e2 e3 e4 e5 e6 e7 k0 k1 k2 k3 k4 k5 eW1 egx
       go_wp2_with fail
       go_roundw
       case rel => exact ⟨i + 1, ao2, cp2, by omega, by go_num, by rw [HLn.out, List.length_append], HD3⟩
       case measure => simp [intOf]; omega
      ·obtain rfl : i = W.hs.length := by omega
       rw [List.take_length] at HD ⊢
       have hB' : (B3 ++ W.hs.flatMap shB).length <= 21 + 121 * W.ms.length + 40 * W.cs.length + 80 * W.hs.length := by
        have := HZh.out W.hs.length
        rw [List.take_length] at this
        rw [List.length_append]
        omega
       obtain ⟨C3, eC3⟩ : ∃ B, B3 ++ W.hs.flatMap shB = B := ⟨_, rfl⟩
       rw [eC3] at HD HW hB' ⊢
       clear eC3
       have HC := hid (rcount_any ao cp C3 W.ks.length (by omega) (by omega) wr HD.out.o)
       have hB2 : (C3 ++ Cp.form W.ks.length).length <= 21 + 121 * W.ms.length + 40 * W.cs.length + 80 * W.hs.length + 10 := by rw [List.length_append]; omega
       go_wp2_with fail
       refine HC.out.mono ?_
       rintro e w8 ⟨ao8, cp8, he, h8⟩
       rw [he]
       have HD8 := hid (HD.out.on h8)
       obtain ⟨B4, eB4⟩ : ∃ B, C3 ++ Cp.form W.ks.length = B := ⟨_, rfl⟩
       rw [eB4] at HD8 HW hB2 ⊢
       clear he h8 HC HD eB4 k0 k1 k2 k3 k4 k5
       go_wp2_with fail
       go_loopw [3, 11] (fun u3 u11 wr => ∃ (i : Nat) (ao : Option Addr) (cp : Nat), i <= W.ks.length /\ u11 = .int .i64 (i : Int) /\ u3 = .slice ao (B4 ++ (W.ks.take i).flatMap pkB).length cp /\ Hid (Dz U wr ao cp (B4 ++ (W.ks.take i).flatMap pkB))) (fun _ u11 _ => W.ks.length - (intOf u11).toNat)
       case atStart => exact ⟨0, ao8, cp8, by omega, rfl, by simp, hid (by simpa using HD8.out)⟩
       case round =>
        clear HD8
        obtain ⟨i, ao, cp, hi, rfl, rfl, HD⟩ := hrel
        have hxw := HD.out.s.kept_still HX.out
        have k0 := cell_of_row _ _ 0 _ _ _ hxw
        have k1 := cell_of_row _ _ 1 _ _ _ hxw
        have k2 := cell_of_row _ _ 2 _ _ _ hxw
        have k3 := cell_of_row _ _ 3 _ _ _ hxw
        have k4 := cell_of_row _ _ 4 _ _ _ hxw
        have k5 := cell_of_row _ _ 5 _ _ _ hxw
        simp only [List.getElem?_toArray, List.getElem?_cons_zero, List.getElem?_cons_succ] at k0 k1 k2 k3 k4 k5
        clear hxw
        by_cases hin : i < W.ks.length
        ·have hlt : (i : Int) < (W.ks.length : Int) := by omega
         obtain ⟨b, o, rfl⟩ := HR.out.2.2.2.at (by omega)
         have HRi := hid (HR.out.2.2.2.still HD.out.s)
         obtain ⟨d0, d1, d2⟩ := rdQ HRi.out hin
         have hmem : pk W.ks i ∈ W.ks := by
          show W.ks.getD i zK ∈ W.ks
          rw [List.getD_eq_getElem?_getD, List.getElem?_eq_getElem hin]
          exact List.getElem_mem hin
         have HM := hid (HI.out.ks _ hmem)
         have hlen : (B4 ++ (W.ks.take i).flatMap pkB).length + 30 <= 1000000 := by
          have := HZk.out i
          rw [List.length_append]
          simp only [List.length_take] at this
          have hm : min i W.ks.length = i := by omega
          rw [hm] at this
          omega
         have HS : Hid (B4 ++ (W.ks.take (i + 1)).flatMap pkB = B4 ++ (W.ks.take i).flatMap pkB ++ pkB (pk W.ks i)) := hid (by rw [flat_step pkB zK hin, List.append_assoc]; rfl)
         obtain ⟨x, ex⟩ : ∃ x, pk W.ks i = x := ⟨_, rfl⟩
         rw [ex] at d0 d1 d2 HM HS
         clear ex hmem HRi
         obtain ⟨BB, eBB⟩ : ∃ BB, B4 ++ (W.ks.take i).flatMap pkB = BB := ⟨_, rfl⟩
         rw [eBB] at HD HS hlen ⊢
         clear eBB
         have A1 := Still.alloc wr (.cells (kcs x) 61)
         have hx1 := heap_alloc_new wr (.cells (kcs x) 61)
         have hne1 : ∀ a, ao = some a -> a.block ≠ wr.heap.size := fun a ha e => by have := HD.out.o.lt a ha; omega
         obtain ⟨W1, eW1⟩ : ∃ X, wr.alloc (.cells (kcs x) 61) = X := ⟨_, rfl⟩
         obtain ⟨gx, egx⟩ : ∃ g, wr.heap.size = g := ⟨_, rfl⟩
         rw [eW1] at A1 hx1
         rw [egx] at hx1 hne1
         have e0 := cell_of_row _ _ 0 _ _ _ hx1
         have e1 := cell_of_row _ _ 1 _ _ _ hx1
         have e2 := cell_of_row _ _ 2 _ _ _ hx1
         simp only [List.getElem?_toArray, List.getElem?_cons_zero, List.getElem?_cons_succ] at e0 e1 e2
         have HC := hid (rlit_any ao cp BB (pkN x) HM.out (by have : (pkN x).length = 3 := rfl; omega) W1 (HD.out.still A1).o)
         have HDa := hid (HD.out.still A1)
         clear A1 hx1 hne1 HD
         go_wp2_with fail
         refine HC.out.mono ?_
         rintro e w2 ⟨ao2, cp2, he, h2⟩
         rw [he]
         have HD2 := hid (HDa.out.on h2)
         have HD3 : Hid (Dz U w2 ao2 cp2 (B4 ++ (W.ks.take (i + 1)).flatMap pkB)) := hid (by rw [HS.out]; exact HD2.out)
         have HLn : Hid ((B4 ++ (W.ks.take (i + 1)).flatMap pkB).length = (BB ++ nsB (pkN x)).length) := hid (by rw [HS.out]; rfl)
         clear he h2 HC HD2 HDa d0 d1 d2 e0 e1 e2 k0 k1 k2 k3 k4 k5 eW1 egx
         go_wp2_with fail
         go_roundw
         case rel => exact ⟨i + 1, ao2, cp2, by omega, by go_num, by rw [HLn.out, List.length_append], HD3⟩
         case measure => simp [intOf]; omega
        ·obtain rfl : i = W.ks.length := by omega
         rw [List.take_length] at HD ⊢
         have hB' : (B4 ++ W.ks.flatMap pkB).length <= 31 + 121 * W.ms.length + 40 * W.cs.length + 80 * W.hs.length + 30 * W.ks.length := by
          have := HZk.out W.ks.length
          rw [List.take_length] at this
          rw [List.length_append]
          omega
         obtain ⟨C4, eC4⟩ : ∃ B, B4 ++ W.ks.flatMap pkB = B := ⟨_, rfl⟩
         rw [eC4] at HD HW hB' ⊢
         clear eC4
         have HC := hid (rlit_any ao cp C4 [W.nx] (fun n hn => by simp only [List.mem_cons, List.not_mem_nil, or_false] at hn; rw [hn]; exact HI.out.nx) (by simp only [List.length_cons, List.length_nil]; omega) wr HD.out.o)
         go_wp2_with fail
         refine HC.out.mono ?_
         rintro e w9 ⟨ao9, cp9, he, h9⟩
         rw [he]
         have HD9 := hid (HD.out.on h9)
         rw [<- HW.out] at HD9
         have HLn : Hid ((C4 ++ nsB [W.nx]).length = (wdB W).length) := hid (by rw [HW.out])
         rw [HLn.out]
         clear he h9 HC HD HLn k0 k1 k2 k3 k4 k5
         go_wp2_with fail
         (try simp only [Exit.inBlock, Exit.then])
         go_ret
         exact ⟨ao9, cp9, rfl, HD9.out.o, HA.out.trans HD9.out.s, fun a ha => Nat.le_trans HA.out.size (HD9.out.n a ha)⟩
end Go.Proofs.YtkgbmefaphhcnaaGreatDoor
namespace Go.Proofs.YtkgbmefaphhcnaaGreatDoor
open Go.RowKit
open Np Za Ka Ja Ea Ha Wp
set_option maxRecDepth 100000
set_option linter.unusedVariables false
set_option linter.unusedSimpArgs false
def RF (q p : Nat) (k : Nat) : Prop := k = p \/ k = q
def Ub (w : World) (ao : Option Addr) : Prop := ∀ a, ao = some a -> ∃ cur, w.heap[a.block]? = some (.cells cur 5 (0, 0))
theorem Ub.ne {w : World} {ao : Option Addr} {g : Nat} {cs : Array Value} {t : TypeId} {z : Nat × Nat} (h : Ub w ao) (hg : w.heap[g]? = some (.cells cs t z)) (ht : t ≠ 5) : ∀ a, ao = some a -> a.block ≠ g := fun a ha e => by
 obtain ⟨cur, hc⟩ := h a ha
 rw [e, hg] at hc
 cases hc
 exact ht rfl
theorem Ub.kept {F : Nat -> Prop} {w w' : World} {ao : Option Addr} (h : Ub w ao) (hf : Fr F w w') (hn : ∀ a, ao = some a -> ¬ F a.block) : Ub w' ao := fun a ha => by
 obtain ⟨cur, hc⟩ := h a ha
 exact ⟨cur, hf.kept hc (hn a ha)⟩
structure Rc (w : World) (q p : Nat) (s : Rs) : Prop where
 box : w.heap[q]? = some (.cells #[.pointer (some ⟨p, 0, none⟩), .bool s.y] 118 (0, 0))
 rd : ∃ ao n cap, Rr w p ao n cap s.bs s.e /\ Ub w ao
 nq : q ≠ p
theorem Rc.still {w w' : World} {q p : Nat} {s : Rs} (h : Rc w q p s) (hs : Still w w') : Rc w' q p s := by
 obtain ⟨ao, n, cap, h1, h2⟩ := h.rd
 exact ⟨hs.kept_still h.box, ⟨ao, n, cap, h1.still hs, h2.kept hs (fun _ _ e => e)⟩, h.nq⟩
theorem Rc.ptr {w : World} {q p : Nat} {s : Rs} (h : Rc w q p s) : w.cell? ⟨q, 0, none⟩ = some (.pointer (some ⟨p, 0, none⟩)) := by rw [cell_of_row _ _ _ _ _ _ h.box]; rfl
theorem Rc.spo {w : World} {q p : Nat} {s : Rs} (h : Rc w q p s) : w.cell? ⟨q, 1, none⟩ = some (.bool s.y) := by rw [cell_of_row _ _ _ _ _ _ h.box]; rfl
theorem Rc.fro {w : World} {q p : Nat} {s : Rs} (h : Rc w q p s) : w.frozen? ⟨q, 1, none⟩ = false := frozen_of_row w q 1 _ _ h.box
theorem Rc.lt {w : World} {q p : Nat} {s : Rs} (h : Rc w q p s) : q < w.heap.size /\ p < w.heap.size := by
 obtain ⟨ao, n, cap, h1, _⟩ := h.rd
 exact ⟨block_lt h.box, block_lt h1.blk⟩
theorem Rc.put {w V : World} {q p g : Nat} {s : Rs} {cs : Array Value} {t : TypeId} {z : Nat × Nat} (h : Rc w q p s) (hn : ¬ RF q p g) (hg : w.heap[g]? = some (.cells cs t z)) (ht : t ≠ 5) (hf : Fr (fun k => k = g) w V) : Rc V q p s := by
 obtain ⟨ao, n, cap, h1, h2⟩ := h.rd
 exact ⟨hf.kept h.box (fun e => hn (.inr e.symm)), ⟨ao, n, cap, h1.kept hf (fun e => hn (.inl e.symm)) (fun a ha _ => h2.ne hg ht a ha), h2.kept hf (h2.ne hg ht)⟩, h.nq⟩
structure Tc (w w' : World) (q p : Nat) (s : Rs) : Prop where
 r : Rc w' q p s
 f : Fr (RF q p) w w'
theorem Tc.trans {w w1 w2 : World} {q p : Nat} {s s2 : Rs} (h : Tc w w1 q p s) (k : Tc w1 w2 q p s2) : Tc w w2 q p s2 := ⟨k.r, h.f.trans k.f (fun _ _ h => h)⟩
theorem Tc.still {w w1 w2 : World} {q p : Nat} {s : Rs} (h : Tc w w1 q p s) (k : Still w1 w2) : Tc w w2 q p s := ⟨h.r.still k, h.f.trans k (fun _ _ e => e.elim)⟩
theorem Tc.same {w w' : World} {q p : Nat} {s : Rs} (h : Rc w q p s) (hs : Still w w') : Tc w w' q p s := ⟨h.still hs, Still.to hs⟩
theorem Tc.of {w w' : World} {q p : Nat} {s : Rs} {ao : Option Addr} {bs : List UInt8} {e : Int} (h : Rc w q p s) (ha : Ub w ao) (hp : ∃ cs, w.heap[p]? = some (.cells cs 163 (0, 0))) (k : Took w w' p ao bs e) : Tc w w' q p ⟨bs, e, s.y⟩ := by
 obtain ⟨ao', n', cap', h1, h2, h3⟩ := k
 refine ⟨⟨h2.kept h.box h.nq, ⟨ao', n', cap', h1, fun a hb => ?_⟩, h.nq⟩, h2.mono fun k _ e => .inl e⟩
 obtain ⟨b, hb1, hb2⟩ := h3 a hb
 obtain ⟨cs, hp⟩ := hp
 obtain ⟨cur, hc⟩ := ha.kept h2 (ha.ne hp (by decide)) b hb1
 exact ⟨cur, by rw [<- hb2]; exact hc⟩
theorem Tc.fin {w W u V : World} {q p g : Nat} {s : Rs} {cs : Array Value} {t : TypeId} {z : Nat × Nat} (hA : Still w W) (hT : Tc W u q p s) (hg : u.heap[g]? = some (.cells cs t z)) (ht : t ≠ 5) (hn : ¬ RF q p g) (hge : w.heap.size <= g) (hf : Fr (fun k => k = g) u V) : Tc w V q p s :=
 ⟨hT.r.put hn hg ht hf, ((Still.to hA).trans hT.f (fun _ _ h => h)).trans hf (fun k hk e => by omega)⟩
theorem zbyte_any (q p : Nat) (s : Rs) (w : World) (h : Rc w q p s) : Calls Tryz.prog 153 #[.pointer (some ⟨p, 0, none⟩)] w fun r w' => r = .returned (.int .u8 (nm (byM s).1)) /\ Tc w w' q p (byM s).2 := by
 obtain ⟨ao, n, cap, h1, h2⟩ := h.rd
 refine (byte_any p ao n cap s.bs s.e w h1).mono ?_
 rintro r w' ⟨rfl, ht⟩
 exact ⟨rfl, Tc.of h h2 ⟨_, h1.blk⟩ ht⟩
theorem zuint_any (q p : Nat) (s : Rs) (w : World) (h : Rc w q p s) : Calls Tryz.prog 160 #[.pointer (some ⟨p, 0, none⟩)] w fun r w' => r = .returned (.int .u64 ((unM s).1 : Int)) /\ Tc w w' q p (unM s).2 := by
 obtain ⟨ao, n, cap, h1, h2⟩ := h.rd
 refine (uint_any p ao n cap s.bs s.e w h1).mono ?_
 rintro r w' ⟨rfl, ht⟩
 exact ⟨rfl, Tc.of h h2 ⟨_, h1.blk⟩ ht⟩
theorem zint_any (q p : Nat) (s : Rs) (w : World) (h : Rc w q p s) : Calls Tryz.prog 121 #[.pointer (some ⟨p, 0, none⟩)] w fun r w' => r = .returned (.int .i64 (inM s).1) /\ Tc w w' q p (inM s).2 := by
 obtain ⟨ao, n, cap, h1, h2⟩ := h.rd
 refine (int_any p ao n cap s.bs s.e w h1).mono ?_
 rintro r w' ⟨rfl, ht⟩
 exact ⟨rfl, Tc.of h h2 ⟨_, h1.blk⟩ ht⟩
theorem zdone_any (q p : Nat) (s : Rs) (w : World) (h : Rc w q p s) : Calls Tryz.prog 76 #[.pointer (some ⟨p, 0, none⟩)] w fun r w' => r = .returned (.int .i64 (if s.e = 0 /\ 0 < s.bs.length then 23 else s.e)) /\ w' = w := by
 obtain ⟨ao, n, cap, h1, h2⟩ := h.rd
 exact rdone_any p ao n cap s.bs s.e w h1
theorem zleft_any (q p : Nat) (s : Rs) (w : World) (h : Rc w q p s) : Calls Tryz.prog 161 #[.pointer (some ⟨p, 0, none⟩)] w fun r w' => r = .returned (.int .i64 (s.bs.length : Int)) /\ w' = w := by
 obtain ⟨ao, n, cap, h1, h2⟩ := h.rd
 exact left_any p ao n cap s.bs s.e w h1
theorem zlen (q p : Nat) (s : Rs) (w : World) (h : Rc w q p s) : s.bs.length <= 9223372036854775807 := by
 obtain ⟨ao, n, cap, h1, h2⟩ := h.rd
 have := h1.rd.small
 have := h1.rd.len
 unfold maxLen at *
 omega
theorem unM_lt14 (s : Rs) : (unM s).1 < 18446744073709551616 := by
 show (Cp.uintS s.bs s.e).1 < 18446744073709551616
 unfold Cp.uintS
 split
 ·exact (by omega : (0 : Nat) < 18446744073709551616)
 ·split
  ·exact (by omega : (0 : Nat) < 18446744073709551616)
  ·rcases Cp.num_err s.bs with h | h
   ·exact h.2.1
   ·rw [h.1]; decide
theorem Rc.spoil {w : World} {q p : Nat} {s : Rs} (h : Rc w q p s) : Tc w (w.setCell ⟨q, 1, none⟩ (.bool true)) q p ⟨s.bs, s.e, true⟩ := by
 obtain ⟨ao, n, cap, h1, h2⟩ := h.rd
 have hf : Fr (fun k => k = q) w (w.setCell ⟨q, 1, none⟩ (.bool true)) := (Fr.refl _ w).setCell ⟨q, 1, none⟩ _ (.inl rfl)
 exact ⟨⟨set1 h.box, ⟨ao, n, cap, h1.kept hf (fun e => h.nq e.symm) (fun a ha _ => h2.ne h.box (by decide) a ha), h2.kept hf (h2.ne h.box (by decide))⟩, h.nq⟩, hf.mono fun k _ e => .inr e⟩
theorem Kb.res {fn : Func} {p : Tmp} {w : World} {g : Nat} {x : Pk} (hb : Kb w g x) (h : fn.results = #[.cell p 61]) (tmps : Array Value) (hp : tmps.getD p undef = .pointer (some ⟨g, 0, none⟩)) :
  (results fn tmps).run Tryz.prog w = .ok (kv x) w := by
 have hp' : tmps[p]?.getD undef = .pointer (some ⟨g, 0, none⟩) := by simpa using hp
 simp [results, h, hp', asAddr, hb.load]
theorem Cb.res {fn : Func} {p : Tmp} {w : World} {g : Nat} {x : Scr} (hb : Cb w g x) (h : fn.results = #[.cell p 57]) (tmps : Array Value) (hp : tmps.getD p undef = .pointer (some ⟨g, 0, none⟩)) :
  (results fn tmps).run Tryz.prog w = .ok (cv x) w := by
 have hp' : tmps[p]?.getD undef = .pointer (some ⟨g, 0, none⟩) := by simpa using hp
 simp [results, h, hp', asAddr, hb.load]
/-! the reader's own methods -/
theorem znum_any (q p : Nat) (s : Rs) (w : World) (h : Rc w q p s) : Calls Tryz.prog 131 #[.pointer (some ⟨q, 0, none⟩)] w fun r w' => r = .returned (.int .i64 (inM s).1) /\ Tc w w' q p (inM s).2 := by
 have c0 := h.ptr
 have HC := hid (zint_any q p s w h)
 clear h
 go_enter Tryz.func131, Tryz.ntmps131
 go_wp2_with fail
 refine HC.out.mono ?_
 rintro e w1 ⟨he, h1⟩
 rw [he]
 have HT := hid h1
 clear he h1 HC
 go_wp2_with fail
 go_ret
 exact ⟨rfl, HT.out⟩
theorem by_is (c k : UInt8) : (nm c == nm k) = (c == k) := by
 rw [Bool.eq_iff_iff]
 simp only [beq_iff_eq]
 unfold nm
 constructor
 ·intro h
  apply UInt8.toNat_inj.1
  omega
 ·rintro rfl
  rfl
set_option maxHeartbeats 2000000 in
theorem zhead_any (q p : Nat) (s : Rs) (w : World) (h : Rc w q p s) : Calls Tryz.prog 120 #[.pointer (some ⟨q, 0, none⟩)] w fun r w' => r = .returned (.tuple #[]) /\ Tc w w' q p (mG ((byM s).1 == 87) (byM s).2).2 := by
 have c0 := h.ptr
 have HC := hid (zbyte_any q p s w h)
 obtain ⟨c, S, ec⟩ : ∃ c S, byM s = (c, S) := ⟨_, _, rfl⟩
 rw [ec] at HC ⊢
 dsimp only at HC ⊢
 have hq : (nm c == 87) = (c == 87) := by_is c 87
 obtain ⟨x, ex⟩ : ∃ x, nm c = x := ⟨_, rfl⟩
 rw [ex] at HC hq
 clear h ec
 cases hb : (c == 87) with
 | true =>
  rw [hb] at hq
  have hne : (x != 87) = false := by simp [bne, hq]
  go_enter Tryz.func120, Tryz.ntmps120
  go_wp2_with fail
  refine HC.out.mono ?_
  rintro e w1 ⟨he, h1⟩
  rw [he]
  have HT := hid h1
  clear he h1 HC c0
  go_wp2_with fail
  go_end0
  exact ⟨rfl, by simpa [mG] using HT.out⟩
 | false =>
  rw [hb] at hq
  have hne : (x != 87) = true := by simp [bne, hq]
  go_enter Tryz.func120, Tryz.ntmps120
  go_wp2_with fail
  refine HC.out.mono ?_
  rintro e w1 ⟨he, h1⟩
  rw [he]
  have HT := hid (h1.trans h1.r.spoil)
  have g1 := h1.r.fro
  have g2 := h1.r.spo
  clear he h1 HC c0
  go_wp2_with fail
  go_end0
  exact ⟨rfl, by simpa [mG] using HT.out⟩
set_option maxHeartbeats 2000000 in
theorem zflag_any (q p : Nat) (s : Rs) (w : World) (h : Rc w q p s) : Calls Tryz.prog 159 #[.pointer (some ⟨q, 0, none⟩)] w fun r w' => r = .returned (.bool (flM s).1) /\ Tc w w' q p (flM s).2 := by
 have c0 := h.ptr
 have HC := hid (zbyte_any q p s w h)
 have HE : Hid (flM s = ((byM s).1 == 1, (mG ((byM s).1 == 1 || (byM s).1 == 0) (byM s).2).2)) := hid rfl
 obtain ⟨c, S, ec⟩ : ∃ c S, byM s = (c, S) := ⟨_, _, rfl⟩
 rw [ec] at HC HE
 dsimp only at HC HE
 have hq : (nm c == 1) = (c == 1) := by_is c 1
 have hq0 : (nm c == 0) = (c == 0) := by_is c 0
 obtain ⟨x, ex⟩ : ∃ x, nm c = x := ⟨_, rfl⟩
 rw [ex] at HC hq hq0
 clear h ec
 cases hb : (c == 1) with
 | true =>
  rw [hb] at hq HE
  have hne : (x != 1) = false := by simp [bne, hq]
  have HE2 : Hid (flM s = (true, S)) := hid (by rw [HE.out]; simp [mG])
  clear HE hq0
  go_enter Tryz.func159, Tryz.ntmps159
  go_wp2_with fail
  refine HC.out.mono ?_
  rintro e w1 ⟨he, h1⟩
  rw [he]
  have HT := hid h1
  clear he h1 HC c0
  go_wp2_with fail
  go_ret
  exact ⟨by rw [HE2.out]; rfl, by rw [HE2.out]; exact HT.out⟩
 | false =>
  rw [hb] at hq HE
  have hne : (x != 1) = true := by simp [bne, hq]
  cases hb0 : (c == 0) with
  | true =>
   rw [hb0] at hq0 HE
   have hne0 : (x != 0) = false := by simp [bne, hq0]
   have HE2 : Hid (flM s = (false, S)) := hid (by rw [HE.out]; simp [mG])
   clear HE
   go_enter Tryz.func159, Tryz.ntmps159
   go_wp2_with fail
   refine HC.out.mono ?_
   rintro e w1 ⟨he, h1⟩
   rw [he]
   have HT := hid h1
   clear he h1 HC c0
   go_wp2_with fail
   go_ret
   exact ⟨by rw [HE2.out]; rfl, by rw [HE2.out]; exact HT.out⟩
  | false =>
   rw [hb0] at hq0 HE
   have hne0 : (x != 0) = true := by simp [bne, hq0]
   have HE2 : Hid (flM s = (false, ⟨S.bs, S.e, true⟩)) := hid (by rw [HE.out]; simp [mG])
   clear HE
   go_enter Tryz.func159, Tryz.ntmps159
   go_wp2_with fail
   refine HC.out.mono ?_
   rintro e w1 ⟨he, h1⟩
   rw [he]
   have HT := hid (h1.trans h1.r.spoil)
   have g1 := h1.r.fro
   have g2 := h1.r.spo
   clear he h1 HC c0
   go_wp2_with fail
   go_ret
   exact ⟨by rw [HE2.out]; rfl, by rw [HE2.out]; exact HT.out⟩
set_option maxHeartbeats 4000000 in
theorem zpoint_any (q p : Nat) (s : Rs) (w : World) (h : Rc w q p s) : Calls Tryz.prog 158 #[.pointer (some ⟨q, 0, none⟩)] w fun r w' => r = .returned (pt (ptM s).1.1 (ptM s).1.2) /\ Tc w w' q p (ptM s).2 := by
 have A0 := Still.alloc w (.cells #[.int .i64 0, .int .i64 0] 53)
 have B0 : Pb (w.alloc (.cells #[.int .i64 0, .int .i64 0] 53)) w.heap.size 0 0 := heap_alloc_new w _
 have h0 := h.still A0
 have hlt := h.lt
 obtain ⟨W, eW⟩ : ∃ W, w.alloc (.cells #[.int .i64 0, .int .i64 0] 53) = W := ⟨_, rfl⟩
 obtain ⟨g, eg⟩ : ∃ g, w.heap.size = g := ⟨_, rfl⟩
 rw [eW] at A0 B0 h0
 rw [eg] at B0 hlt
 have HA := hid A0
 have HG : Hid (¬ RF q p g /\ w.heap.size <= g) := hid ⟨by rintro (e | e) <;> omega, by omega⟩
 have HT0 : Hid (Tc W W q p s) := hid (Tc.same h0 (Fr.refl _ _))
 have HB0 := hid B0
 obtain ⟨x1, S1, e1⟩ : ∃ a b, inM s = (a, b) := ⟨_, _, rfl⟩
 obtain ⟨x2, S2, e2⟩ : ∃ a b, inM S1 = (a, b) := ⟨_, _, rfl⟩
 have HE : Hid (ptM s = ((x1, x2), S2)) := hid (by simp only [ptM, Wp.mB, Wp.mR, e1, e2])
 have HC1 : Hid (∀ u, Rc u q p s -> Calls Tryz.prog 131 #[.pointer (some ⟨q, 0, none⟩)] u fun r w' => r = .returned (.int .i64 x1) /\ Tc u w' q p S1) := hid (fun u hu => by
  have := znum_any q p s u hu
  rw [e1] at this
  exact this)
 have HC2 : Hid (∀ u, Rc u q p S1 -> Calls Tryz.prog 131 #[.pointer (some ⟨q, 0, none⟩)] u fun r w' => r = .returned (.int .i64 x2) /\ Tc u w' q p S2) := hid (fun u hu => by
  have := znum_any q p S1 u hu
  rw [e2] at this
  exact this)
 rw [HE.out]
 dsimp only
 clear h h0 A0 B0 hlt HE e1 e2
 go_enter Tryz.func158, Tryz.ntmps158
 go_wp2_with fail
 refine (HC1.out _ HT0.out.r).mono ?_
 rintro e w1 ⟨he, h1⟩
 rw [he]
 have HT1 := hid (HT0.out.trans h1)
 have HB1 : Hid (Pb w1 g 0 0) := hid (h1.f.kept HB0.out HG.out.1)
 clear he h1 HC1 HT0 HB0 eW
 go_wp2_with fail
 refine (HC2.out _ HT1.out.r).mono ?_
 rintro e w2 ⟨he, h2⟩
 rw [he]
 have HT2 := hid (HT1.out.trans h2)
 have HB2 : Hid (Pb w2 g 0 0) := hid (h2.f.kept HB1.out HG.out.1)
 clear he h2 HC2 HT1 HB1
 obtain ⟨c0, c1, cf⟩ := HB2.out.cells
 have f0 := cf 0
 have f1 := cf 1
 go_wp2_with fail
 refine bodyPost_ret ((HB2.out.set x1 x2).res rfl _ rfl) rfl ⟨rfl, ?_⟩
 exact Tc.fin HA.out HT2.out HB2.out (by decide) HG.out.1 HG.out.2 (Fr.setCell (Fr.setCell (Fr.refl (fun k => k = g) _) ⟨g, 0, none⟩ _ (.inl rfl)) ⟨g, 1, none⟩ _ (.inl rfl))
set_option maxHeartbeats 4000000 in
theorem zpickup_any (q p : Nat) (s : Rs) (w : World) (h : Rc w q p s) : Calls Tryz.prog 130 #[.pointer (some ⟨q, 0, none⟩)] w fun r w' => r = .returned (kv (pkM s).1) /\ Tc w w' q p (pkM s).2 := by
 have A0 := Still.alloc w (.cells (kcs ⟨0, 0, 0⟩) 61)
 have B0 : Kb (w.alloc (.cells (kcs ⟨0, 0, 0⟩) 61)) w.heap.size ⟨0, 0, 0⟩ := heap_alloc_new w _
 have h0 := h.still A0
 have hlt := h.lt
 obtain ⟨W, eW⟩ : ∃ W, w.alloc (.cells (kcs ⟨0, 0, 0⟩) 61) = W := ⟨_, rfl⟩
 obtain ⟨g, eg⟩ : ∃ g, w.heap.size = g := ⟨_, rfl⟩
 rw [eW] at A0 B0 h0
 rw [eg] at B0 hlt
 have HA := hid A0
 have HG : Hid (¬ RF q p g /\ w.heap.size <= g) := hid ⟨by rintro (e | e) <;> omega, by omega⟩
 have HT0 : Hid (Tc W W q p s) := hid (Tc.same h0 (Fr.refl _ _))
 have HB0 := hid B0
 obtain ⟨x1, S1, e1⟩ : ∃ a b, inM s = (a, b) := ⟨_, _, rfl⟩
 obtain ⟨x2, S2, e2⟩ : ∃ a b, inM S1 = (a, b) := ⟨_, _, rfl⟩
 obtain ⟨x3, S3, e3⟩ : ∃ a b, inM S2 = (a, b) := ⟨_, _, rfl⟩
 have HE : Hid (pkM s = (⟨x1, x2, x3⟩, S3)) := hid (by simp only [pkM, Wp.mB, Wp.mR, e1, e2, e3])
 have HC1 : Hid (∀ u, Rc u q p s -> Calls Tryz.prog 131 #[.pointer (some ⟨q, 0, none⟩)] u fun r w' => r = .returned (.int .i64 x1) /\ Tc u w' q p S1) := hid (fun u hu => by
  have := znum_any q p s u hu
  rw [e1] at this
  exact this)
 have HC2 : Hid (∀ u, Rc u q p S1 -> Calls Tryz.prog 131 #[.pointer (some ⟨q, 0, none⟩)] u fun r w' => r = .returned (.int .i64 x2) /\ Tc u w' q p S2) := hid (fun u hu => by
  have := znum_any q p S1 u hu
  rw [e2] at this
  exact this)
 have HC3 : Hid (∀ u, Rc u q p S2 -> Calls Tryz.prog 131 #[.pointer (some ⟨q, 0, none⟩)] u fun r w' => r = .returned (.int .i64 x3) /\ Tc u w' q p S3) := hid (fun u hu => by
  have := znum_any q p S2 u hu
  rw [e3] at this
  exact this)
 rw [HE.out]
 dsimp only
 clear h h0 A0 B0 hlt HE e1 e2 e3
 go_enter Tryz.func130, Tryz.ntmps130
 go_wp2_with fail
 refine (HC1.out _ HT0.out.r).mono ?_
 rintro e w1 ⟨he, h1⟩
 rw [he]
 have HT1 := hid (HT0.out.trans h1)
 have HB1 : Hid (Kb w1 g ⟨0, 0, 0⟩) := hid (h1.f.kept HB0.out HG.out.1)
 clear he h1 HC1 HT0 HB0 eW
 go_wp2_with fail
 refine (HC2.out _ HT1.out.r).mono ?_
 rintro e w2 ⟨he, h2⟩
 rw [he]
 have HT2 := hid (HT1.out.trans h2)
 have HB2 : Hid (Kb w2 g ⟨0, 0, 0⟩) := hid (h2.f.kept HB1.out HG.out.1)
 clear he h2 HC2 HT1 HB1
 go_wp2_with fail
 refine (HC3.out _ HT2.out.r).mono ?_
 rintro e w3 ⟨he, h3⟩
 rw [he]
 have HT3 := hid (HT2.out.trans h3)
 have HB3 : Hid (Kb w3 g ⟨0, 0, 0⟩) := hid (h3.f.kept HB2.out HG.out.1)
 clear he h3 HC3 HT2 HB2
 obtain ⟨c0, c1, c2, cf⟩ := HB3.out.cells
 have f0 := cf 0
 have f1 := cf 1
 have f2 := cf 2
 go_wp2_with fail
 refine bodyPost_ret ((HB3.out.put x1 x2 x3).res rfl _ rfl) rfl ⟨rfl, ?_⟩
 exact Tc.fin HA.out HT3.out HB3.out (by decide) HG.out.1 HG.out.2 (Fr.setCell (Fr.setCell (Fr.setCell (Fr.refl (fun k => k = g) _) ⟨g, 0, none⟩ _ (.inl rfl)) ⟨g, 1, none⟩ _ (.inl rfl)) ⟨g, 2, none⟩ _ (.inl rfl))
set_option maxHeartbeats 4000000 in
theorem zscore_any (q p : Nat) (s : Rs) (w : World) (h : Rc w q p s) : Calls Tryz.prog 125 #[.pointer (some ⟨q, 0, none⟩)] w fun r w' => r = .returned (cv (scM s).1) /\ Tc w w' q p (scM s).2 := by
 have A0 := Still.alloc w (.cells (ccs ⟨0, 0, 0, 0⟩) 57)
 have B0 : Cb (w.alloc (.cells (ccs ⟨0, 0, 0, 0⟩) 57)) w.heap.size ⟨0, 0, 0, 0⟩ := heap_alloc_new w _
 have h0 := h.still A0
 have hlt := h.lt
 obtain ⟨W, eW⟩ : ∃ W, w.alloc (.cells (ccs ⟨0, 0, 0, 0⟩) 57) = W := ⟨_, rfl⟩
 obtain ⟨g, eg⟩ : ∃ g, w.heap.size = g := ⟨_, rfl⟩
 rw [eW] at A0 B0 h0
 rw [eg] at B0 hlt
 have HA := hid A0
 have HG : Hid (¬ RF q p g /\ w.heap.size <= g) := hid ⟨by rintro (e | e) <;> omega, by omega⟩
 have HT0 : Hid (Tc W W q p s) := hid (Tc.same h0 (Fr.refl _ _))
 have HB0 := hid B0
 obtain ⟨x1, S1, e1⟩ : ∃ a b, inM s = (a, b) := ⟨_, _, rfl⟩
 obtain ⟨x2, S2, e2⟩ : ∃ a b, inM S1 = (a, b) := ⟨_, _, rfl⟩
 obtain ⟨x3, S3, e3⟩ : ∃ a b, inM S2 = (a, b) := ⟨_, _, rfl⟩
 obtain ⟨x4, S4, e4⟩ : ∃ a b, inM S3 = (a, b) := ⟨_, _, rfl⟩
 have HE : Hid (scM s = (⟨x1, x2, x3, x4⟩, S4)) := hid (by simp only [scM, Wp.mB, Wp.mR, e1, e2, e3, e4])
 have HC1 : Hid (∀ u, Rc u q p s -> Calls Tryz.prog 131 #[.pointer (some ⟨q, 0, none⟩)] u fun r w' => r = .returned (.int .i64 x1) /\ Tc u w' q p S1) := hid (fun u hu => by
  have := znum_any q p s u hu
  rw [e1] at this
  exact this)
 have HC2 : Hid (∀ u, Rc u q p S1 -> Calls Tryz.prog 131 #[.pointer (some ⟨q, 0, none⟩)] u fun r w' => r = .returned (.int .i64 x2) /\ Tc u w' q p S2) := hid (fun u hu => by
  have := znum_any q p S1 u hu
  rw [e2] at this
  exact this)
 have HC3 : Hid (∀ u, Rc u q p S2 -> Calls Tryz.prog 131 #[.pointer (some ⟨q, 0, none⟩)] u fun r w' => r = .returned (.int .i64 x3) /\ Tc u w' q p S3) := hid (fun u hu => by
  have := znum_any q p S2 u hu
  rw [e3] at this
  exact this)
 have HC4 : Hid (∀ u, Rc u q p S3 -> Calls Tryz.prog 131 #[.pointer (some ⟨q, 0, none⟩)] u fun r w' => r = .returned (.int .i64 x4) /\ Tc u w' q p S4) := hid (fun u hu => by
  have := znum_any q p S3 u hu
  rw [e4] at this
  exact this)
 rw [HE.out]
 dsimp only
 clear h h0 A0 B0 hlt HE e1 e2 e3 e4
 go_enter Tryz.func125, Tryz.ntmps125
 go_wp2_with fail
 refine (HC1.out _ HT0.out.r).mono ?_
 rintro e w1 ⟨he, h1⟩
 rw [he]
 have HT1 := hid (HT0.out.trans h1)
 have HB1 : Hid (Cb w1 g ⟨0, 0, 0, 0⟩) := hid (h1.f.kept HB0.out HG.out.1)
 clear he h1 HC1 HT0 HB0 eW
 go_wp2_with fail
 refine (HC2.out _ HT1.out.r).mono ?_
 rintro e w2 ⟨he, h2⟩
 rw [he]
 have HT2 := hid (HT1.out.trans h2)
 have HB2 : Hid (Cb w2 g ⟨0, 0, 0, 0⟩) := hid (h2.f.kept HB1.out HG.out.1)
 clear he h2 HC2 HT1 HB1
 go_wp2_with fail
 refine (HC3.out _ HT2.out.r).mono ?_
 rintro e w3 ⟨he, h3⟩
 rw [he]
 have HT3 := hid (HT2.out.trans h3)
 have HB3 : Hid (Cb w3 g ⟨0, 0, 0, 0⟩) := hid (h3.f.kept HB2.out HG.out.1)
 clear he h3 HC3 HT2 HB2
 go_wp2_with fail
 refine (HC4.out _ HT3.out.r).mono ?_
 rintro e w4 ⟨he, h4⟩
 rw [he]
 have HT4 := hid (HT3.out.trans h4)
 have HB4 : Hid (Cb w4 g ⟨0, 0, 0, 0⟩) := hid (h4.f.kept HB3.out HG.out.1)
 clear he h4 HC4 HT3 HB3
 obtain ⟨c0, c1, c2, c3, cf⟩ := HB4.out.cells
 have f0 := cf 0
 have f1 := cf 1
 have f2 := cf 2
 have f3 := cf 3
 go_wp2_with fail
 refine bodyPost_ret ((HB4.out.put x1 x2 x3 x4).res rfl _ rfl) rfl ⟨rfl, ?_⟩
 exact Tc.fin HA.out HT4.out HB4.out (by decide) HG.out.1 HG.out.2 (Fr.setCell (Fr.setCell (Fr.setCell (Fr.setCell (Fr.refl (fun k => k = g) _) ⟨g, 0, none⟩ _ (.inl rfl)) ⟨g, 1, none⟩ _ (.inl rfl)) ⟨g, 2, none⟩ _ (.inl rfl)) ⟨g, 3, none⟩ _ (.inl rfl))
set_option maxHeartbeats 4000000 in
theorem zshot_any (q p : Nat) (s : Rs) (w : World) (h : Rc w q p s) : Calls Tryz.prog 128 #[.pointer (some ⟨q, 0, none⟩)] w fun r w' => r = .returned (sv (shM s).1) /\ Tc w w' q p (shM s).2 := by
 have A0 := Still.alloc w (.cells (scs ⟨0, 0, 0, 0, 0, 0, 0, 0⟩) 59)
 have B0 : Sb (w.alloc (.cells (scs ⟨0, 0, 0, 0, 0, 0, 0, 0⟩) 59)) w.heap.size ⟨0, 0, 0, 0, 0, 0, 0, 0⟩ := heap_alloc_new w _
 have h0 := h.still A0
 have hlt := h.lt
 obtain ⟨W, eW⟩ : ∃ W, w.alloc (.cells (scs ⟨0, 0, 0, 0, 0, 0, 0, 0⟩) 59) = W := ⟨_, rfl⟩
 obtain ⟨g, eg⟩ : ∃ g, w.heap.size = g := ⟨_, rfl⟩
 rw [eW] at A0 B0 h0
 rw [eg] at B0 hlt
 have HA := hid A0
 have HG : Hid (¬ RF q p g /\ w.heap.size <= g) := hid ⟨by rintro (e | e) <;> omega, by omega⟩
 have HT0 : Hid (Tc W W q p s) := hid (Tc.same h0 (Fr.refl _ _))
 have HB0 := hid B0
 obtain ⟨x1, S1, e1⟩ : ∃ a b, inM s = (a, b) := ⟨_, _, rfl⟩
 obtain ⟨x2, S2, e2⟩ : ∃ a b, inM S1 = (a, b) := ⟨_, _, rfl⟩
 obtain ⟨x3, S3, e3⟩ : ∃ a b, inM S2 = (a, b) := ⟨_, _, rfl⟩
 obtain ⟨⟨x4, y4⟩, S4, e4⟩ : ∃ a b, ptM S3 = (a, b) := ⟨_, _, rfl⟩
 obtain ⟨⟨x5, y5⟩, S5, e5⟩ : ∃ a b, ptM S4 = (a, b) := ⟨_, _, rfl⟩
 obtain ⟨x6, S6, e6⟩ : ∃ a b, inM S5 = (a, b) := ⟨_, _, rfl⟩
 have HE : Hid (shM s = (⟨x1, x2, x3, x4, y4, x5, y5, x6⟩, S6)) := hid (by simp only [shM, Wp.mB, Wp.mR, e1, e2, e3, e4, e5, e6])
 have HC1 : Hid (∀ u, Rc u q p s -> Calls Tryz.prog 131 #[.pointer (some ⟨q, 0, none⟩)] u fun r w' => r = .returned (.int .i64 x1) /\ Tc u w' q p S1) := hid (fun u hu => by
  have := znum_any q p s u hu
  rw [e1] at this
  exact this)
 have HC2 : Hid (∀ u, Rc u q p S1 -> Calls Tryz.prog 131 #[.pointer (some ⟨q, 0, none⟩)] u fun r w' => r = .returned (.int .i64 x2) /\ Tc u w' q p S2) := hid (fun u hu => by
  have := znum_any q p S1 u hu
  rw [e2] at this
  exact this)
 have HC3 : Hid (∀ u, Rc u q p S2 -> Calls Tryz.prog 131 #[.pointer (some ⟨q, 0, none⟩)] u fun r w' => r = .returned (.int .i64 x3) /\ Tc u w' q p S3) := hid (fun u hu => by
  have := znum_any q p S2 u hu
  rw [e3] at this
  exact this)
 have HC4 : Hid (∀ u, Rc u q p S3 -> Calls Tryz.prog 158 #[.pointer (some ⟨q, 0, none⟩)] u fun r w' => r = .returned (pt x4 y4) /\ Tc u w' q p S4) := hid (fun u hu => by
  have := zpoint_any q p S3 u hu
  rw [e4] at this
  exact this)
 have HC5 : Hid (∀ u, Rc u q p S4 -> Calls Tryz.prog 158 #[.pointer (some ⟨q, 0, none⟩)] u fun r w' => r = .returned (pt x5 y5) /\ Tc u w' q p S5) := hid (fun u hu => by
  have := zpoint_any q p S4 u hu
  rw [e5] at this
  exact this)
 have HC6 : Hid (∀ u, Rc u q p S5 -> Calls Tryz.prog 131 #[.pointer (some ⟨q, 0, none⟩)] u fun r w' => r = .returned (.int .i64 x6) /\ Tc u w' q p S6) := hid (fun u hu => by
  have := znum_any q p S5 u hu
  rw [e6] at this
  exact this)
 rw [HE.out]
 dsimp only
 clear h h0 A0 B0 hlt HE e1 e2 e3 e4 e5 e6
 go_enter Tryz.func128, Tryz.ntmps128
 go_wp2_with fail
 refine (HC1.out _ HT0.out.r).mono ?_
 rintro e w1 ⟨he, h1⟩
 rw [he]
 have HT1 := hid (HT0.out.trans h1)
 have HB1 : Hid (Sb w1 g ⟨0, 0, 0, 0, 0, 0, 0, 0⟩) := hid (h1.f.kept HB0.out HG.out.1)
 clear he h1 HC1 HT0 HB0 eW
 go_wp2_with fail
 refine (HC2.out _ HT1.out.r).mono ?_
 rintro e w2 ⟨he, h2⟩
 rw [he]
 have HT2 := hid (HT1.out.trans h2)
 have HB2 : Hid (Sb w2 g ⟨0, 0, 0, 0, 0, 0, 0, 0⟩) := hid (h2.f.kept HB1.out HG.out.1)
 clear he h2 HC2 HT1 HB1
 go_wp2_with fail
 refine (HC3.out _ HT2.out.r).mono ?_
 rintro e w3 ⟨he, h3⟩
 rw [he]
 have HT3 := hid (HT2.out.trans h3)
 have HB3 : Hid (Sb w3 g ⟨0, 0, 0, 0, 0, 0, 0, 0⟩) := hid (h3.f.kept HB2.out HG.out.1)
 clear he h3 HC3 HT2 HB2
 go_wp2_with fail
 refine (HC4.out _ HT3.out.r).mono ?_
 rintro e w4 ⟨he, h4⟩
 rw [he]
 have HT4 := hid (HT3.out.trans h4)
 have HB4 : Hid (Sb w4 g ⟨0, 0, 0, 0, 0, 0, 0, 0⟩) := hid (h4.f.kept HB3.out HG.out.1)
 clear he h4 HC4 HT3 HB3
 go_wp2_with fail
 refine (HC5.out _ HT4.out.r).mono ?_
 rintro e w5 ⟨he, h5⟩
 rw [he]
 have HT5 := hid (HT4.out.trans h5)
 have HB5 : Hid (Sb w5 g ⟨0, 0, 0, 0, 0, 0, 0, 0⟩) := hid (h5.f.kept HB4.out HG.out.1)
 clear he h5 HC5 HT4 HB4
 go_wp2_with fail
 refine (HC6.out _ HT5.out.r).mono ?_
 rintro e w6 ⟨he, h6⟩
 rw [he]
 have HT6 := hid (HT5.out.trans h6)
 have HB6 : Hid (Sb w6 g ⟨0, 0, 0, 0, 0, 0, 0, 0⟩) := hid (h6.f.kept HB5.out HG.out.1)
 clear he h6 HC6 HT5 HB5
 obtain ⟨c0, c1, c2, c3, c4, c5, c6, c7, cf⟩ := HB6.out.cells
 have f0 := cf 0
 have f1 := cf 1
 have f2 := cf 2
 have f3 := cf 3
 have f4 := cf 4
 have f5 := cf 5
 have f6 := cf 6
 have f7 := cf 7
 go_wp2_with fail
 refine bodyPost_ret ((HB6.out.put x1 x2 x3 x4 y4 x5 y5 x6).res rfl _ rfl) rfl ⟨rfl, ?_⟩
 exact Tc.fin HA.out HT6.out HB6.out (by decide) HG.out.1 HG.out.2 (Fr.setCell (Fr.setCell (Fr.setCell (Fr.setCell (Fr.setCell (Fr.setCell (Fr.setCell (Fr.setCell (Fr.refl (fun k => k = g) _) ⟨g, 0, none⟩ _ (.inl rfl)) ⟨g, 1, none⟩ _ (.inl rfl)) ⟨g, 2, none⟩ _ (.inl rfl)) ⟨g, 3, none⟩ _ (.inl rfl)) ⟨g, 4, none⟩ _ (.inl rfl)) ⟨g, 5, none⟩ _ (.inl rfl)) ⟨g, 6, none⟩ _ (.inl rfl)) ⟨g, 7, none⟩ _ (.inl rfl))
set_option maxHeartbeats 4000000 in
theorem zmover_any (q p : Nat) (s : Rs) (w : World) (h : Rc w q p s) : Calls Tryz.prog 123 #[.pointer (some ⟨q, 0, none⟩)] w fun r w' => r = .returned (mv (mvM s).1) /\ Tc w w' q p (mvM s).2 := by
 have A0 := Still.alloc w (.cells (mcs ⟨0, 0, 0, 0, 0, 0, 0, 0, 0, false, 0, 0, 0⟩) 55)
 have B0 : Mb (w.alloc (.cells (mcs ⟨0, 0, 0, 0, 0, 0, 0, 0, 0, false, 0, 0, 0⟩) 55)) w.heap.size ⟨0, 0, 0, 0, 0, 0, 0, 0, 0, false, 0, 0, 0⟩ := heap_alloc_new w _
 have h0 := h.still A0
 have hlt := h.lt
 obtain ⟨W, eW⟩ : ∃ W, w.alloc (.cells (mcs ⟨0, 0, 0, 0, 0, 0, 0, 0, 0, false, 0, 0, 0⟩) 55) = W := ⟨_, rfl⟩
 obtain ⟨g, eg⟩ : ∃ g, w.heap.size = g := ⟨_, rfl⟩
 rw [eW] at A0 B0 h0
 rw [eg] at B0 hlt
 have HA := hid A0
 have HG : Hid (¬ RF q p g /\ w.heap.size <= g) := hid ⟨by rintro (e | e) <;> omega, by omega⟩
 have HT0 : Hid (Tc W W q p s) := hid (Tc.same h0 (Fr.refl _ _))
 have HB0 := hid B0
 obtain ⟨⟨x1, y1⟩, S1, e1⟩ : ∃ a b, ptM s = (a, b) := ⟨_, _, rfl⟩
 obtain ⟨⟨x2, y2⟩, S2, e2⟩ : ∃ a b, ptM S1 = (a, b) := ⟨_, _, rfl⟩
 obtain ⟨⟨x3, y3⟩, S3, e3⟩ : ∃ a b, ptM S2 = (a, b) := ⟨_, _, rfl⟩
 obtain ⟨x4, S4, e4⟩ : ∃ a b, inM S3 = (a, b) := ⟨_, _, rfl⟩
 obtain ⟨x5, S5, e5⟩ : ∃ a b, inM S4 = (a, b) := ⟨_, _, rfl⟩
 obtain ⟨x6, S6, e6⟩ : ∃ a b, inM S5 = (a, b) := ⟨_, _, rfl⟩
 obtain ⟨x7, S7, e7⟩ : ∃ a b, inM S6 = (a, b) := ⟨_, _, rfl⟩
 obtain ⟨x8, S8, e8⟩ : ∃ a b, inM S7 = (a, b) := ⟨_, _, rfl⟩
 obtain ⟨x9, S9, e9⟩ : ∃ a b, inM S8 = (a, b) := ⟨_, _, rfl⟩
 obtain ⟨x10, S10, e10⟩ : ∃ a b, flM S9 = (a, b) := ⟨_, _, rfl⟩
 have HE : Hid (mvM s = (⟨x1, y1, x2, y2, x3, y3, x4, x5, x6, x10, x7, x8, x9⟩, S10)) := hid (by simp only [mvM, Wp.mB, Wp.mR, e1, e2, e3, e4, e5, e6, e7, e8, e9, e10])
 have HC1 : Hid (∀ u, Rc u q p s -> Calls Tryz.prog 158 #[.pointer (some ⟨q, 0, none⟩)] u fun r w' => r = .returned (pt x1 y1) /\ Tc u w' q p S1) := hid (fun u hu => by
  have := zpoint_any q p s u hu
  rw [e1] at this
  exact this)
 have HC2 : Hid (∀ u, Rc u q p S1 -> Calls Tryz.prog 158 #[.pointer (some ⟨q, 0, none⟩)] u fun r w' => r = .returned (pt x2 y2) /\ Tc u w' q p S2) := hid (fun u hu => by
  have := zpoint_any q p S1 u hu
  rw [e2] at this
  exact this)
 have HC3 : Hid (∀ u, Rc u q p S2 -> Calls Tryz.prog 158 #[.pointer (some ⟨q, 0, none⟩)] u fun r w' => r = .returned (pt x3 y3) /\ Tc u w' q p S3) := hid (fun u hu => by
  have := zpoint_any q p S2 u hu
  rw [e3] at this
  exact this)
 have HC4 : Hid (∀ u, Rc u q p S3 -> Calls Tryz.prog 131 #[.pointer (some ⟨q, 0, none⟩)] u fun r w' => r = .returned (.int .i64 x4) /\ Tc u w' q p S4) := hid (fun u hu => by
  have := znum_any q p S3 u hu
  rw [e4] at this
  exact this)
 have HC5 : Hid (∀ u, Rc u q p S4 -> Calls Tryz.prog 131 #[.pointer (some ⟨q, 0, none⟩)] u fun r w' => r = .returned (.int .i64 x5) /\ Tc u w' q p S5) := hid (fun u hu => by
  have := znum_any q p S4 u hu
  rw [e5] at this
  exact this)
 have HC6 : Hid (∀ u, Rc u q p S5 -> Calls Tryz.prog 131 #[.pointer (some ⟨q, 0, none⟩)] u fun r w' => r = .returned (.int .i64 x6) /\ Tc u w' q p S6) := hid (fun u hu => by
  have := znum_any q p S5 u hu
  rw [e6] at this
  exact this)
 have HC7 : Hid (∀ u, Rc u q p S6 -> Calls Tryz.prog 131 #[.pointer (some ⟨q, 0, none⟩)] u fun r w' => r = .returned (.int .i64 x7) /\ Tc u w' q p S7) := hid (fun u hu => by
  have := znum_any q p S6 u hu
  rw [e7] at this
  exact this)
 have HC8 : Hid (∀ u, Rc u q p S7 -> Calls Tryz.prog 131 #[.pointer (some ⟨q, 0, none⟩)] u fun r w' => r = .returned (.int .i64 x8) /\ Tc u w' q p S8) := hid (fun u hu => by
  have := znum_any q p S7 u hu
  rw [e8] at this
  exact this)
 have HC9 : Hid (∀ u, Rc u q p S8 -> Calls Tryz.prog 131 #[.pointer (some ⟨q, 0, none⟩)] u fun r w' => r = .returned (.int .i64 x9) /\ Tc u w' q p S9) := hid (fun u hu => by
  have := znum_any q p S8 u hu
  rw [e9] at this
  exact this)
 have HC10 : Hid (∀ u, Rc u q p S9 -> Calls Tryz.prog 159 #[.pointer (some ⟨q, 0, none⟩)] u fun r w' => r = .returned (.bool x10) /\ Tc u w' q p S10) := hid (fun u hu => by
  have := zflag_any q p S9 u hu
  rw [e10] at this
  exact this)
 rw [HE.out]
 dsimp only
 clear h h0 A0 B0 hlt HE e1 e2 e3 e4 e5 e6 e7 e8 e9 e10
 go_enter Tryz.func123, Tryz.ntmps123
 go_wp2_with fail
 refine (HC1.out _ HT0.out.r).mono ?_
 rintro e w1 ⟨he, h1⟩
 rw [he]
 have HT1 := hid (HT0.out.trans h1)
 have HB1 : Hid (Mb w1 g ⟨0, 0, 0, 0, 0, 0, 0, 0, 0, false, 0, 0, 0⟩) := hid (h1.f.kept HB0.out HG.out.1)
 clear he h1 HC1 HT0 HB0 eW
 go_wp2_with fail
 refine (HC2.out _ HT1.out.r).mono ?_
 rintro e w2 ⟨he, h2⟩
 rw [he]
 have HT2 := hid (HT1.out.trans h2)
 have HB2 : Hid (Mb w2 g ⟨0, 0, 0, 0, 0, 0, 0, 0, 0, false, 0, 0, 0⟩) := hid (h2.f.kept HB1.out HG.out.1)
 clear he h2 HC2 HT1 HB1
 go_wp2_with fail
 refine (HC3.out _ HT2.out.r).mono ?_
 rintro e w3 ⟨he, h3⟩
 rw [he]
 have HT3 := hid (HT2.out.trans h3)
 have HB3 : Hid (Mb w3 g ⟨0, 0, 0, 0, 0, 0, 0, 0, 0, false, 0, 0, 0⟩) := hid (h3.f.kept HB2.out HG.out.1)
 clear he h3 HC3 HT2 HB2
 go_wp2_with fail
 refine (HC4.out _ HT3.out.r).mono ?_
 rintro e w4 ⟨he, h4⟩
 rw [he]
 have HT4 := hid (HT3.out.trans h4)
 have HB4 : Hid (Mb w4 g ⟨0, 0, 0, 0, 0, 0, 0, 0, 0, false, 0, 0, 0⟩) := hid (h4.f.kept HB3.out HG.out.1)
 clear he h4 HC4 HT3 HB3
 go_wp2_with fail
 refine (HC5.out _ HT4.out.r).mono ?_
 rintro e w5 ⟨he, h5⟩
 rw [he]
 have HT5 := hid (HT4.out.trans h5)
 have HB5 : Hid (Mb w5 g ⟨0, 0, 0, 0, 0, 0, 0, 0, 0, false, 0, 0, 0⟩) := hid (h5.f.kept HB4.out HG.out.1)
 clear he h5 HC5 HT4 HB4
 go_wp2_with fail
 refine (HC6.out _ HT5.out.r).mono ?_
 rintro e w6 ⟨he, h6⟩
 rw [he]
 have HT6 := hid (HT5.out.trans h6)
 have HB6 : Hid (Mb w6 g ⟨0, 0, 0, 0, 0, 0, 0, 0, 0, false, 0, 0, 0⟩) := hid (h6.f.kept HB5.out HG.out.1)
 clear he h6 HC6 HT5 HB5
 go_wp2_with fail
 refine (HC7.out _ HT6.out.r).mono ?_
 rintro e w7 ⟨he, h7⟩
 rw [he]
 have HT7 := hid (HT6.out.trans h7)
 have HB7 : Hid (Mb w7 g ⟨0, 0, 0, 0, 0, 0, 0, 0, 0, false, 0, 0, 0⟩) := hid (h7.f.kept HB6.out HG.out.1)
 clear he h7 HC7 HT6 HB6
 go_wp2_with fail
 refine (HC8.out _ HT7.out.r).mono ?_
 rintro e w8 ⟨he, h8⟩
 rw [he]
 have HT8 := hid (HT7.out.trans h8)
 have HB8 : Hid (Mb w8 g ⟨0, 0, 0, 0, 0, 0, 0, 0, 0, false, 0, 0, 0⟩) := hid (h8.f.kept HB7.out HG.out.1)
 clear he h8 HC8 HT7 HB7
 go_wp2_with fail
 refine (HC9.out _ HT8.out.r).mono ?_
 rintro e w9 ⟨he, h9⟩
 rw [he]
 have HT9 := hid (HT8.out.trans h9)
 have HB9 : Hid (Mb w9 g ⟨0, 0, 0, 0, 0, 0, 0, 0, 0, false, 0, 0, 0⟩) := hid (h9.f.kept HB8.out HG.out.1)
 clear he h9 HC9 HT8 HB8
 go_wp2_with fail
 refine (HC10.out _ HT9.out.r).mono ?_
 rintro e w10 ⟨he, h10⟩
 rw [he]
 have HT10 := hid (HT9.out.trans h10)
 have HB10 : Hid (Mb w10 g ⟨0, 0, 0, 0, 0, 0, 0, 0, 0, false, 0, 0, 0⟩) := hid (h10.f.kept HB9.out HG.out.1)
 clear he h10 HC10 HT9 HB9
 obtain ⟨c0, c1, c2, c3, c4, c5, c6, c7, c8, c9, c10, c11, c12, cf⟩ := HB10.out.cells
 have f0 := cf 0
 have f1 := cf 1
 have f2 := cf 2
 have f3 := cf 3
 have f4 := cf 4
 have f5 := cf 5
 have f6 := cf 6
 have f7 := cf 7
 have f8 := cf 8
 have f9 := cf 9
 have f10 := cf 10
 have f11 := cf 11
 have f12 := cf 12
 go_wp2_with fail
 refine bodyPost_ret ((HB10.out.put x1 y1 x2 y2 x3 y3 x4 x5 x6 x10 x7 x8 x9).res rfl _ rfl) rfl ⟨rfl, ?_⟩
 exact Tc.fin HA.out HT10.out HB10.out (by decide) HG.out.1 HG.out.2 (Fr.setCell (Fr.setCell (Fr.setCell (Fr.setCell (Fr.setCell (Fr.setCell (Fr.setCell (Fr.setCell (Fr.setCell (Fr.setCell (Fr.setCell (Fr.setCell (Fr.setCell (Fr.refl (fun k => k = g) _) ⟨g, 0, none⟩ _ (.inl rfl)) ⟨g, 1, none⟩ _ (.inl rfl)) ⟨g, 2, none⟩ _ (.inl rfl)) ⟨g, 3, none⟩ _ (.inl rfl)) ⟨g, 4, none⟩ _ (.inl rfl)) ⟨g, 5, none⟩ _ (.inl rfl)) ⟨g, 6, none⟩ _ (.inl rfl)) ⟨g, 7, none⟩ _ (.inl rfl)) ⟨g, 8, none⟩ _ (.inl rfl)) ⟨g, 9, none⟩ _ (.inl rfl)) ⟨g, 10, none⟩ _ (.inl rfl)) ⟨g, 11, none⟩ _ (.inl rfl)) ⟨g, 12, none⟩ _ (.inl rfl))
end Go.Proofs.YtkgbmefaphhcnaaGreatDoor
set_option maxRecDepth 100000
namespace Go.Proofs.YtkgbmefaphhcnaaGreatDoor
open Pu Gp Ap Vp Np Za Ka Ja Ea Ha Hi Wp
set_option linter.unusedVariables false
set_option linter.unusedSimpArgs false
theorem getmem {α : Type} {l : List α} {x : α} (d : α) (h : x ∈ l) : ∃ i, i < l.length /\ l.getD i d = x := by
 obtain ⟨i, hi, e⟩ := List.getElem_of_mem h
 exact ⟨i, hi, by rw [List.getD_eq_getElem?_getD, List.getElem?_eq_getElem hi]; exact e⟩
theorem fits_in {p : Int} {E : Env} {W : Wd} (h : Fits p E W) : InW W /\ W.ms.length = p.toNat /\ W.cs.length = p.toNat /\ W.hs.length <= 48 /\ W.ks.length <= 8 := by
 obtain ⟨⟨⟨s1, s2, s3, s4⟩, r1, r2, r3, r4, r5, r6⟩, f1, f2⟩ := h
 refine ⟨⟨⟨by omega, by omega⟩, fun x hx n hn => ?_, fun x hx n hn => ?_, fun x hx n hn => ?_, fun x hx n hn => ?_, ⟨by omega, by omega⟩⟩, s1, s3, r1.1, r3.2.1⟩
 ·obtain ⟨i, hi, e⟩ := getmem zM hx
  have hm : May x := by
   have := s2 i (by omega)
   unfold mm at this
   rw [e] at this
   exact this
  obtain ⟨⟨a1, a2, a3, a4⟩, ⟨b1, b2, b3, b4⟩, ⟨c1, c2, c3, c4⟩, ⟨d1, d2⟩, ⟨e1, e2⟩, ⟨g1, g2⟩, ⟨h1, h2⟩, ⟨i1, i2⟩, ⟨j1, j2⟩, _, _⟩ := hm
  simp only [mvN, List.mem_cons, List.not_mem_nil, or_false] at hn
  unfold I64
  rcases hn with rfl | rfl | rfl | rfl | rfl | rfl | rfl | rfl | rfl | rfl | rfl | rfl <;> (constructor <;> omega)
 ·obtain ⟨i, hi, e⟩ := getmem zC hx
  have hm : MayC x := by
   have := s4 i (by omega)
   unfold sc at this
   rw [e] at this
   exact this
  obtain ⟨⟨a1, a2⟩, ⟨b1, b2⟩, ⟨c1, c2⟩, ⟨d1, d2⟩⟩ := hm
  simp only [scN, List.mem_cons, List.not_mem_nil, or_false] at hn
  unfold I64
  rcases hn with rfl | rfl | rfl | rfl <;> (constructor <;> omega)
 ·obtain ⟨i, hi, e⟩ := getmem zS hx
  have hm : MayS x := by
   have := maySB_iff.1 (r1.2 i hi).1
   unfold ss at this
   rw [e] at this
   exact this
  obtain ⟨⟨a1, a2⟩, ⟨b1, b2⟩, ⟨c1, c2⟩, ⟨d1, d2, d3, d4⟩, ⟨e1, e2, e3, e4⟩, ⟨g1, g2⟩⟩ := hm
  simp only [shN, List.mem_cons, List.not_mem_nil, or_false] at hn
  unfold I64
  rcases hn with rfl | rfl | rfl | rfl | rfl | rfl | rfl | rfl <;> (constructor <;> omega)
 ·obtain ⟨i, hi, e⟩ := getmem zK hx
  have hf := r3.2.2 i hi
  have hs := r3.1
  have ep : pk W.ks i = x := e
  unfold Fit at hf
  rw [ep] at hf
  obtain ⟨⟨a1, a2⟩, _, ⟨b1, b2⟩, ⟨c1, c2⟩, _⟩ := hf
  simp only [pkN, List.mem_cons, List.not_mem_nil, or_false] at hn
  unfold I64
  rcases hn with rfl | rfl | rfl <;> (constructor <;> omega)
theorem fits_wr {p : Int} {E : Env} {W : Wd} (h : Fits p E W) : Wr14 p.toNat W := by
 obtain ⟨h1, h2, h3, h4, h5⟩ := fits_in h
 exact ⟨h1, h2, h3, by omega, by omega⟩
theorem fits_room {p : Int} {E : Env} {W : Wd} (h : Fits p E W) (hp : p <= 6) : 121 * W.ms.length + 40 * W.cs.length + 80 * W.hs.length + 30 * W.ks.length + 50 <= 1000000 := by
 obtain ⟨h1, h2, h3, h4, h5⟩ := fits_in h
 have : p.toNat <= 6 := by omega
 omega
end Go.Proofs.YtkgbmefaphhcnaaGreatDoor
