/- The library's heap: up, down, Push, Pop. -/
import Derived.Test.YtdmgalaajgebkaaQue
namespace Go.Proofs.Ytdmgalaajgebkaa
open Go.RowKit
set_option maxRecDepth 100000

theorem wrapnil (t : TypeId) (a : Addr) (s : String) (w : World) : (Builtin.ssaWrapNilChk_ #[t] t #[.pointer (some a), strVal "", strVal s]).run Try.prog w = .ok (.pointer (some a)) w := rfl
/-- a method of the row behind a pointer -/
theorem m_row (nm : String) (f : Nat) (m : Method) (h1 : Array.find? (fun x => x.name == nm) Try.t93.methods = some m) (h2 : m.path = #[]) (h3 : m.func = some (f, false)) (p : Nat) (w : World) (ao : Option Addr) (n cap : Nat) (hc : w.cell? ⟨p, 0, none⟩ = some (.slice ao n cap)) : Sem.run Try.prog (method 246 93 (.pointer (some ⟨p, 0, none⟩)) nm) w = .ok (f, .slice ao n cap) w := by
  unfold method
  go_simp
  simp only [follow, receiverAt, Place.get]
  go_simp
  rw [wrapnil]
  go_simp
theorem m_ptr (nm : String) (f : Nat) (m : Method) (h1 : Array.find? (fun x => x.name == nm) Try.t93.methods = some m) (h2 : m.path = #[]) (h3 : m.func = some (f, true)) (p : Nat) (w : World) : Sem.run Try.prog (method 246 93 (.pointer (some ⟨p, 0, none⟩)) nm) w = .ok (f, .pointer (some ⟨p, 0, none⟩)) w := by
  unfold method
  go_simp
  simp only [follow, receiverAt, Place.get]
  go_simp
end Go.Proofs.Ytdmgalaajgebkaa
