/- A piece of a proof over this program: contracts of its functions, and a logic to prove them by. -/
import Derived.Test.YtfmohdliifmmfaaLg18
namespace Go.Lg
open Go Go.RowKit
/-- the ways through a region and what hangs on it meet in one state -/
theorem LWP.cut {P : Program} {n : Nat} {C : Ctx} {x z y : Code} {Q Q1 Q2 : Exit → St → Prop} {σ : St} (Mid : St → Prop)
    (h : LWP P n C x (thenQ (LWP P n C z (thenQ (fun σ' => ∃ σ'', Le n C σ' σ'' ∧ Mid σ'') (fun _ _ => False))) (fun _ _ => False)) σ) (hm : ∀ σ, Mid σ → LWP P n C y Q σ) :
    LWP P n C x (thenQ (LWP P n C z (thenQ (LWP P n C y Q) Q1)) Q2) σ := by
  refine h.mono ?_
  intro e σ' hq
  cases e with
  | normal => exact LWP.meet0 Mid hq hm
  | exit id' => exact hq.elim
  | goto l => exact hq.elim
  | ret => exact hq.elim
  | panic c => exact hq.elim
  | outgrown => exact hq.elim
end Go.Lg
