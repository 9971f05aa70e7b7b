/- What bytes say, sealed; the program's parse: bytes of a wrong size, another sum. -/
import Derived.Test.YtaaongbdincimaaGreatDoorWre
import Derived.Test.YtaaongbdincimaaGreatDoorWer
namespace Go.Proofs.YtaaongbdincimaaGreatDoor
open Go.RowKit
open Wp Vp
set_option maxRecDepth 100000
set_option linter.unusedVariables false
set_option linter.unusedSimpArgs false

theorem sumF_all : ∀ (l : List UInt8), ∃ m, m < 256 ^ l.length ∧ l = Wp.sumF l.length m
  | [] => ⟨0, by simp, rfl⟩
  | b :: r => by
    obtain ⟨m, hm, e⟩ := sumF_all r
    have hb := b.toNat_lt
    refine ⟨b.toNat + m * 256, ?_, ?_⟩
    · rw [List.length_cons, Nat.pow_succ]; omega
    · rw [List.length_cons]
      show b :: r = UInt8.ofNat ((b.toNat + m * 256) % 256) :: Wp.sumF r.length ((b.toNat + m * 256) / 256)
      rw [show (b.toNat + m * 256) % 256 = b.toNat by omega, show (b.toNat + m * 256) / 256 = m by omega, ← e]
      simp
theorem full_of {m : Nat} (h : m < 256 ^ 8) : fuM 8 0 0 ⟨Wp.sumF 8 m, 0, false⟩ = (m, ⟨[], 0, false⟩) := by
  have h1 := pF_form 8 0 0 m [] h
  rw [List.append_nil] at h1
  have h2 := (par_fu 8 0 0).ok _ _ _ h1
  simpa using h2
theorem sumF_inj {m n : Nat} (hm : m < 256 ^ 8) (hn : n < 256 ^ 8) (e : Wp.sumF 8 m = Wp.sumF 8 n) : m = n := by
  have h1 := full_of hm
  rw [e, full_of hn] at h1
  exact (congrArg (·.1) h1).symm
/-- what bytes say, or why they say nothing -/
def dec16 (b : List UInt8) : Dg × Int :=
  if 16384 < b.length ∨ b.length < 8 then (zD, 160)
  else if sumZ (b.take (b.length - 8)) = b.drop (b.length - 8) then (match saysD (b.take (b.length - 8)) with | none => (zD, 160) | some d => if okD d then (d, 0) else (zD, 162))
  else (zD, 161)
theorem dec_len {b : List UInt8} (h : 16384 < b.length ∨ b.length < 8) : dec16 b = (zD, 160) := by unfold dec16; rw [if_pos h]
theorem dec_sum {b : List UInt8} (h : ¬ (16384 < b.length ∨ b.length < 8)) (hs : sumZ (b.take (b.length - 8)) ≠ b.drop (b.length - 8)) : dec16 b = (zD, 161) := by unfold dec16; rw [if_neg h, if_neg hs]
theorem dec_none {b : List UInt8} (h : ¬ (16384 < b.length ∨ b.length < 8)) (hs : sumZ (b.take (b.length - 8)) = b.drop (b.length - 8)) (hd : saysD (b.take (b.length - 8)) = none) : dec16 b = (zD, 160) := by unfold dec16; rw [if_neg h, if_pos hs, hd]
theorem dec_some {b : List UInt8} (h : ¬ (16384 < b.length ∨ b.length < 8)) (hs : sumZ (b.take (b.length - 8)) = b.drop (b.length - 8)) {d : Dg} (hd : saysD (b.take (b.length - 8)) = some d) : dec16 b = if okD d then (d, 0) else (zD, 162) := by unfold dec16; rw [if_neg h, if_pos hs, hd]
/-- the error of a number -/
def wyV (a0 a1 a2 : Addr) (e : Int) : Value := if e = 0 then .nilIface else if e = 160 then efv a0 else if e = 161 then efv a1 else efv a2
theorem told_any (B : Nat) (a0 a1 a2 : Addr) (b : List UInt8) (w : World) (h : ETab w B a0 a1 a2) : Calls Tryz.prog 27 #[wyV a0 a1 a2 (dec16 b).2] w fun e w' => e = .returned (.int .i64 (dec16 b).2) ∧ w' = w := by
  have hc : (dec16 b).2 = 0 ∨ (dec16 b).2 = 160 ∨ (dec16 b).2 = 161 ∨ (dec16 b).2 = 162 := by
    unfold dec16
    split
    · exact .inr (.inl rfl)
    · split
      · split
        · exact .inr (.inl rfl)
        · split
          · exact .inl rfl
          · exact .inr (.inr (.inr rfl))
      · exact .inr (.inr (.inl rfl))
  rcases hc with e | e | e | e <;> rw [e]
  · exact told_0 B a0 a1 a2 w h
  · exact told_form B a0 a1 a2 w h
  · exact told_sum B a0 a1 a2 w h
  · exact told_data B a0 a1 a2 w h
/-- what parse leaves -/
def PrsR (w w' : World) (a0 a1 a2 : Addr) (x : Dg × Int) (e : Ending) : Prop := ∃ co cn cp, e = .returned (.tuple #[dgv x.1 co cn cp, wyV a0 a1 a2 x.2]) ∧ OwG KCc 42 w' w.heap.size (.slice co cn cp) x.1.cs ∧ Still w w'
abbrev zdo : Obj := .cells #[.int .i64 0, .int .u64 0, .int .i64 0, .int .i64 0, .int .i64 0, .int .i64 0, .slice none 0 0, .int .i64 0] 25 (0, 0)
theorem csM_le (mk f fi : Int) (k : Nat) (s : Rs) (h : k ≤ 336) : (csM mk f fi k 0 s).1.length ≤ 336 := by rw [csM_len]; exact h
theorem dgM_cs (s : Rs) : (dgM s).1.cs.length ≤ 336 := by
  unfold dgM mB
  dsimp only
  unfold tlM
  split
  · unfold mB mR
    dsimp only
    exact csM_le _ _ _ _ _ (upM_le 336 _)
  · split
    · exact Nat.zero_le _
    · exact Nat.zero_le _
theorem OwG.len16 {w : World} {B n cap : Nat} {ao : Option Addr} {l : List Cc} (h : OwG KCc 42 w B (.slice ao n cap) l) : n = l.length := by
  obtain ⟨a, c, e, _⟩ := h.slice
  injection e with _ e2 _
theorem OwG.rdz {w : World} {B cap : Nat} {ao : Option Addr} {l : List Cc} (h : OwG KCc 42 w B (.slice ao l.length cap) l) (hl : l.length ≤ 281474976710656) : RdG KCc w ao l.length l := OwG.rd (M := []) (by simpa using h) hl
theorem run_eql_iface_nil_right16 (w : World) (a : Addr) : True := trivial
end Go.Proofs.YtaaongbdincimaaGreatDoor
