/- A piece of a proof over this program: contracts of its functions, and a logic to prove them by. -/
import Derived.Test.YtfmohdliifmmfaaRK
import Derived.Test.YtfmohdliifmmfaaW1
import Derived.Test.YtfmohdliifmmfaaRows
namespace Go.Proofs.Ytfmohdliifmmfaa
open Go Go.Lg Go.RowKit Go.ChangeShapes Go.WideShapes Go.Joins
set_option maxRecDepth 100000
theorem cellsI : Try.prog.cellsOf 25 = 3 := by kernel_rfl
section
variable {H : Type} {enc : TypeId × Value → H} {w : World} {base : Nat} {spare : Nat → Bool} {held : Bool}
/-- an argument: a bool and two words -/
theorem openI {r : Reach} {b0 : Nat} {v : Value} {d : DataW H} {p : List MemPlace} (hv : Value.okWide Try.prog w r b0 25 v) (h : DataW.Trod enc Try.prog w base spare held 25 v d p) :
    ∃ (b : Bool) (N : Int), In2 N ∧ v = .agg #[.bool b, .int .u64 (N / 18446744073709551616), .int .u64 (N % 18446744073709551616)] ∧ d = .agg [.lit (.bool b), .lit (.int .u64 (N / 18446744073709551616)), .lit (.int .u64 (N % 18446744073709551616))] ∧ p = [] ∧
      (∀ (w' : World) (base' : Nat) (spare' : Nat → Bool) (held' : Bool), DataW.Trod enc Try.prog w' base' spare' held' 25 v d []) := by
  obtain ⟨c0, c1, c2, y0, y1, y2, m, rfl, rfl, rfl, hy0, hy1, hy2⟩ := open_agg3 Try.underlying25 (by kernel_rfl) cellsI hv h
  obtain ⟨b, e0, rfl⟩ := DataW.trod_bool (by kernel_rfl) hy0
  obtain ⟨x, e1, rfl, wx⟩ := DataW.trod_int (k := .u64) (by kernel_rfl) hy1
  obtain ⟨y, e2, rfl, wy⟩ := DataW.trod_int (k := .u64) (by kernel_rfl) hy2
  simp at e0 e1 e2
  subst e0 e1 e2
  have bx := bounds_u64 wx
  have by' := bounds_u64 wy
  refine ⟨b, x * 18446744073709551616 + y, ⟨by omega, by omega⟩, ?_, ?_, rfl, ?_⟩
  · rw [show (x * 18446744073709551616 + y) / 18446744073709551616 = x by omega, show (x * 18446744073709551616 + y) % 18446744073709551616 = y by omega]
  · rw [show (x * 18446744073709551616 + y) / 18446744073709551616 = x by omega, show (x * 18446744073709551616 + y) % 18446744073709551616 = y by omega]
  · intro w' base' spare' held'
    exact shut_agg3 (y0 := (.lit (.bool b), [])) (y1 := (.lit (.int .u64 x), [])) (y2 := (.lit (.int .u64 y), [])) Try.underlying25 (by kernel_rfl) cellsI
      ⟨1, by simp [DataW.trod, Try.underlying4]⟩ ⟨1, by simp [DataW.trod, Try.underlying23, wx]⟩ ⟨1, by simp [DataW.trod, Try.underlying23, wy]⟩
end
end Go.Proofs.Ytfmohdliifmmfaa
