/- A piece of a proof over this program: contracts of its functions, and a logic to prove them by. -/
import Derived.Test.YtmimcmdeaenblaaDoorW13
import Derived.Test.YtmimcmdeaenblaaDoorRows
import Derived.Test.YtmimcmdeaenblaaDoorTie
import Derived.Test.YtmimcmdeaenblaaDoorCards
import Derived.ProofKit
import Derived.LaidMore
import Derived.OpenShut
import Derived.Stop.Joined
import Derived.Stop.LaidErr
import Derived.Lib.SmallJoins
import Derived.SevenTiedAt
namespace Go.Proofs.YtmimcmdeaenblaaDoor
open Go Go.Lg Go.RowKit Go.ChangeShapes Go.WideShapes Go.Joins
set_option maxRecDepth 100000
theorem own : ownKnob Tryd.prog.godebug = none := by kernel_rfl
abbrev laidAll : List (String × DataW Unit) := [("math/bits.deBruijn32tab", Rows.laid_math_bits_deBruijn32tab), ("math/bits.deBruijn64tab", Rows.laid_math_bits_deBruijn64tab), ("internal/strconv.uint64pow10", Rows.laid_internal_strconv_uint64pow10)]
theorem door_met (os : Os) (args : Array Value) : laidMetH Tryd.prog laidAll ((World.doorLaid Tryd.prog 400 os).forCall (fun _ _ => 0) ⟨#[], args, []⟩).memory :=
  laidMetH_of_parts3 (fuel := 8) (laidMet_of_run' 8 (by kernel_rfl) (by kernel_rfl)) (by kernel_rfl) (by kernel_rfl)
theorem tab_of_laid {W : World} (h : laidMetH Tryd.prog laidAll W) : Lib.TabIs Tryd.prog W "internal/strconv.uint64pow10" .u64 Lib.pow10Tab := by
  rw [MakeChecks.laidMetH_plain _ _ _ (by kernel_rfl)] at h
  have h3 : laidMet Tryd.prog (("internal/strconv.uint64pow10", Lib.tabData .u64 Lib.pow10Tab) :: []) W := (h.tail).tail
  exact Lib.tabIs_of_head (g := 2) (t := 108) (e := 22) (n := 20) (by kernel_rfl) (by kernel_rfl) (by kernel_rfl) (by kernel_rfl) (by kernel_rfl) (by kernel_rfl) h3
theorem xtab {W : World} (h : Lib.TabIs Tryd.prog W "internal/strconv.uint64pow10" .u64 Lib.pow10Tab) : XTab (fun b => W.heap[b]?) := by
  intro w hX
  unfold Lib.TabIs World.var? at h ⊢
  have hg : Tryd.prog.globalNamed "internal/strconv.uint64pow10" = some 2 := by kernel_rfl
  rw [hg] at h ⊢
  simp only [Option.bind_some] at h ⊢
  cases e : W.heap[2]? with
  | none => rw [e] at h; cases h
  | some o => rw [hX _ _ e]; rw [e] at h; exact h
theorem cellsI : Tryd.prog.cellsOf 24 = 3 := by kernel_rfl
section
variable {H : Type} {enc : TypeId × Value → H} {w : World} {base : Nat} {spare : Nat → Bool} {held : Bool}
/-- an argument: a bool and two words -/
theorem openI {r : Reach} {b0 : Nat} {v : Value} {d : DataW H} {p : List MemPlace} (hv : Value.okWide Tryd.prog w r b0 24 v) (h : DataW.Trod enc Tryd.prog w base spare held 24 v d p) :
    ∃ (b : Bool) (N : Int), In2 N ∧ v = .agg #[.bool b, .int .u64 (N / 18446744073709551616), .int .u64 (N % 18446744073709551616)] ∧ d = .agg [.lit (.bool b), .lit (.int .u64 (N / 18446744073709551616)), .lit (.int .u64 (N % 18446744073709551616))] ∧ p = [] ∧
      (∀ (w' : World) (base' : Nat) (spare' : Nat → Bool) (held' : Bool), DataW.Trod enc Tryd.prog w' base' spare' held' 24 v d []) := by
  obtain ⟨c0, c1, c2, y0, y1, y2, m, rfl, rfl, rfl, hy0, hy1, hy2⟩ := open_agg3 Tryd.underlying24 (by kernel_rfl) cellsI hv h
  obtain ⟨b, e0, rfl⟩ := DataW.trod_bool (by kernel_rfl) hy0
  obtain ⟨x, e1, rfl, wx⟩ := DataW.trod_int (k := .u64) (by kernel_rfl) hy1
  obtain ⟨y, e2, rfl, wy⟩ := DataW.trod_int (k := .u64) (by kernel_rfl) hy2
  simp at e0 e1 e2
  subst e0 e1 e2
  have bx := bounds_u64 wx
  have by' := bounds_u64 wy
  refine ⟨b, x * 18446744073709551616 + y, ⟨by omega, by omega⟩, ?_, ?_, rfl, ?_⟩
  · rw [show (x * 18446744073709551616 + y) / 18446744073709551616 = x by omega, show (x * 18446744073709551616 + y) % 18446744073709551616 = y by omega]
  · rw [show (x * 18446744073709551616 + y) / 18446744073709551616 = x by omega, show (x * 18446744073709551616 + y) % 18446744073709551616 = y by omega]
  · intro w' base' spare' held'
    exact shut_agg3 (y0 := (.lit (.bool b), [])) (y1 := (.lit (.int .u64 x), [])) (y2 := (.lit (.int .u64 y), [])) Tryd.underlying24 (by kernel_rfl) cellsI
      ⟨1, by simp [DataW.trod, Tryd.underlying4]⟩ ⟨1, by simp [DataW.trod, Tryd.underlying22, wx]⟩ ⟨1, by simp [DataW.trod, Tryd.underlying22, wy]⟩
end
theorem rel_args : ∀ (vals : List Value), LVs.rel noS (fun _ => 0) (vals.map toLV) vals
  | [] => trivial
  | v :: vs => ⟨toLV_rel _ _ v, rel_args vs⟩
/-- a law's contract, as the row asks it -/
theorem law_calls {f : FuncId} {W : World} (vals : List Value) (hp : PSpec Tryd.prog (fun b => W.heap[b]?) f (vals.map toLV) (Lb true)) :
    Calls Tryd.prog f vals.toArray W (fun e W' => e = .returned (.bool true) ∧ Below W.heap.size W W') := by
  refine (hp.out W vals.toArray (fun _ _ h => h) (by simpa using rel_args vals)).mono ?_
  rintro e W' ⟨v, rfl, hr, hb⟩
  simp only [LV.rel, SV.rel, CV.rel] at hr
  exact ⟨by rw [hr], hb⟩
end Go.Proofs.YtmimcmdeaenblaaDoor
