/- The law ColumnKeeps answers true for every room and every list of numbers, and changes nothing that it is handed: what was appended and not swapped out is there, each once, in as many chunks as needed. Conditions: none but the row's own. -/
import Derived.Test.YtdlilapjijpghaaP2
import Derived.Test.YtdlilapjijpghaaP5
import Derived.Test.YtdlilapjijpghaaRows
namespace Go.Proofs.Ytdlilapjijpghaa
open Go Go.Lg Go.RowKit Go.ChangeShapes Go.WideShapes Go.Joins
set_option maxRecDepth 100000
theorem own : ownKnob Try.prog.godebug = none := by kernel_rfl
theorem laidOut : laidOutB Try.prog = true := by kernel_rfl
theorem columnKeeps_lifted (os : Os) (started : os.Started) (H : Type) (enc : TypeId × Value → H) :
    ReturnsInHanded {} Try.checked os 4 .any (Rows.columnKeepsSpec.pre6 enc Try.prog Try.f4 [] false) (Rows.columnKeepsSpec.post enc Try.prog Try.f4 false true false false) := by
  refine returnsInHanded_of_change (C := Try.checked) own started (by kernel_rfl) Try.func4
    (ChangeSpec.witness6 (enc := enc) (C := Try.checked) false ⟨#[], #[.int .i64 0, .slice none 0 0], []⟩ 8 (by kernel_rfl) (by kernel_rfl) (by kernel_rfl) (by kernel_rfl)) ?_
  intro W base args ds gs before hval0 hW _ _
  have hval : ∀ (j : Nat) t v, Try.f4.params[j]? = some t → args[j]? = some v → Value.okWide Try.prog W .any base t v := hval0
  have hW' := hW
  obtain ⟨p, q, hA0, hV, rfl, hfz, hnd⟩ := hW
  have hA : DataW.TrodAll enc Try.prog W 0 (fun _ => true) true Try.f4.params.toList args.toList ds p := hA0
  rw [Try.params4] at hA hval
  have hT := hA
  obtain ⟨v0, r0, d0, e0, p0, q0, g0, rfl, rfl, h0, t0⟩ := trodAll_cons hA
  obtain ⟨v1, r1, d1, e1, p1, q1, g1, rfl, rfl, h1, t1⟩ := trodAll_cons t0
  obtain ⟨ga, rfl, rfl⟩ := trodAll_nil t1
  obtain ⟨rfl, rfl⟩ := trodVars_none hV
  obtain rfl : args = #[v0, v1] := by
    apply Array.ext'
    simp only [g0, g1, ga]
  obtain ⟨n0, f0, _, rfl, hn0⟩ := open_int (k := .i64) (by kernel_rfl) (hval 0 _ v0 rfl rfl) h0
  have bn0 := bounds_i64 hn0
  obtain ⟨ad1, cap1, ks1, f1, hk1, bk1⟩ := open_ints (e := 3) (k := .i64) (by kernel_rfl) (by kernel_rfl) (by kernel_rfl) (hval 1 _ v1 rfl rfl) h1
  clear hA0 hval0
  have hlt : ∀ x ∈ (([] ++ (p1 ++ [])) : List MemPlace), x.block < W.heap.size := fun x hx => hW'.lt x (List.mem_append_left _ hx)
  have hp : PSpec Try.prog (fun b => W.heap[b]?) 4 [.sv (.one (.val (.int .i64 n0))), .sv (.one (.val (.slice ad1 ks1.length cap1)))] (.sv (.one (.val (.bool true)))) := by
    exact ColumnKeeps_spec _ n0 ad1 cap1 ks1 hk1
  have hc := law_calls (W := W) [v0, v1] (by rw [f0, f1]; exact hp)
  refine hc.mono fun e W' ⟨he, hB⟩ => ?_
  subst he
  refine ⟨_, rfl, _, _, _, [], ([] ++ (p1 ++ [])), [], hW', ?_, ?_, rfl, hB.frame _, fun h => by cases h⟩
  · exact trodAll_mk1 (shut_bool Try.underlying4 _)
  · exact below_trodAll laidOut hB (by kernel_rfl) hT hlt
theorem columnKeeps_said : Rows.ColumnKeepsSaid :=
  OpenClaim.holds_of_wide 4 Try.f4 rfl rfl rfl rfl rfl rfl rfl ⟨rfl, rfl, rfl, rfl, rfl⟩ rfl rfl rfl rfl rfl (by kernel_rfl) Try.func4 (by kernel_rfl)
    (of_decide_eq_true (by kernel_rfl)) (by unfold Func.isWrapper; rw [if_neg (of_decide_eq_false (by kernel_rfl))]; exact ⟨rfl, rfl⟩)
    (fun os started H enc _ => columnKeeps_lifted os started H enc)
#print axioms columnKeeps_said
end Go.Proofs.Ytdlilapjijpghaa
