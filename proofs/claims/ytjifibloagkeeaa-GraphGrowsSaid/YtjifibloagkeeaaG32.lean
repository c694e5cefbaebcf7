/- In every graph that can be made, whatever is done, no table goes: the sets stay in their order, and at most one more is there. -/
import Derived.Test.YtjifibloagkeeaaP2
import Derived.Test.YtjifibloagkeeaaP3
import Derived.Test.YtjifibloagkeeaaP7
import Derived.Test.YtjifibloagkeeaaRows
namespace Go.Proofs.Ytjifibloagkeeaa
open Go Go.Lg Go.RowKit Go.ChangeShapes Go.WideShapes Go.Joins
set_option maxRecDepth 100000
theorem own : ownKnob Try.prog.godebug = none := by kernel_rfl
theorem laidOut : laidOutB Try.prog = true := by kernel_rfl
theorem graphGrows_lifted (os : Os) (started : os.Started) (H : Type) (enc : TypeId × Value → H) :
    ReturnsInHanded {} Try.checked os 4 .any (Rows.graphGrowsSpec.pre6 enc Try.prog Try.f4 [] false) (Rows.graphGrowsSpec.post enc Try.prog Try.f4 false true false false) := by
  refine returnsInHanded_of_change_sized (C := Try.checked) own started (by kernel_rfl) Try.func4
    (ChangeSpec.witness6 (enc := enc) (C := Try.checked) false ⟨#[], #[.agg #[.int .i64 0, .slice none 0 0], .int .i64 0, .slice none 0 0], []⟩ 8 (by kernel_rfl) (by kernel_rfl) (by kernel_rfl) (by kernel_rfl)) ?_
  intro W base args ds gs before hval0 hW _ hWt _
  have hval : ∀ (j : Nat) t v, Try.f4.params[j]? = some t → args[j]? = some v → Value.okWide Try.prog W .any base t v := hval0
  have hW' := hW
  obtain ⟨p, q, hA0, hV, rfl, hfz, hnd⟩ := hW
  have hA : DataW.TrodAll enc Try.prog W 0 (fun _ => true) true Try.f4.params.toList args.toList ds p := hA0
  rw [Try.params4] at hA hval
  have hT := hA
  obtain ⟨v0, r0, d0, e0, p0, q0, g0, rfl, rfl, h0, t0⟩ := trodAll_cons hA
  obtain ⟨v1, r1, d1, e1, p1, q1, g1, rfl, rfl, h1, t1⟩ := trodAll_cons t0
  obtain ⟨v2, r2, d2, e2, p2, q2, g2, rfl, rfl, h2, t2⟩ := trodAll_cons t1
  obtain ⟨ga, rfl, rfl⟩ := trodAll_nil t2
  obtain ⟨rfl, rfl⟩ := trodVars_none hV
  obtain rfl : args = #[v0, v1, v2] := by
    apply Array.ext'
    simp only [g0, g1, g2, ga]
  obtain ⟨vr0, ad0, cap0, sc0, f0, lc0, hk0, hm0⟩ := open_schema_n (hval 0 _ v0 rfl rfl) h0
  obtain ⟨n1, f1, _, rfl, hn1⟩ := open_int (k := .i64) (by kernel_rfl) (hval 1 _ v1 rfl rfl) h1
  have bn1 := bounds_i64 hn1
  obtain ⟨ad2, cap2, ls2, f2, lc2, mc2, hk2⟩ := open_acts17 (hval 2 _ v2 rfl rfl) h2
  clear hA0 hval0
  have hlt : ∀ x ∈ ((p0 ++ ([] ++ (p2 ++ []))) : List MemPlace), x.block < W.heap.size := fun x hx => hW'.lt x (List.mem_append_left _ hx)
  have hp : PSpec Try.prog (fun b => W.heap[b]?) 4 [Sx vr0 ad0 sc0.length cap0, .sv (.one (.val (.int .i64 n1))), .sv (.one (.val (.slice ad2 ls2.length cap2)))] (.sv (.one (.val (.bool true)))) := by
    exact graphGrows_law _ ⟨vr0, sc0⟩ n1 ls2 ad0 ad2 cap0 cap2 hk0 hm0 hk2 (by unfold maxLen at mc2; omega)
  have hc := law_calls (W := W) [v0, v1, v2] (by rw [f0, f1, f2]; exact hp)
  refine hc.mono fun e W' ⟨he, hB⟩ => ?_
  subst he
  refine ⟨_, rfl, _, _, _, [], (p0 ++ ([] ++ (p2 ++ []))), [], hW', ?_, ?_, rfl, hB.frame _, fun h => by cases h⟩
  · exact trodAll_mk1 (shut_bool Try.underlying4 _)
  · exact below_trodAll laidOut hB (by kernel_rfl) hT hlt
theorem graphGrows_said : Rows.GraphGrowsSaid :=
  OpenClaim.holds_of_wide 4 Try.f4 rfl rfl rfl rfl rfl rfl rfl ⟨rfl, rfl, rfl, rfl, rfl⟩ rfl rfl rfl rfl rfl (by kernel_rfl) Try.func4 (by kernel_rfl)
    (of_decide_eq_true (by kernel_rfl)) (by unfold Func.isWrapper; rw [if_neg (of_decide_eq_false (by kernel_rfl))]; exact ⟨rfl, rfl⟩)
    (fun os started H enc _ => graphGrows_lifted os started H enc)
#print axioms graphGrows_said
end Go.Proofs.Ytjifibloagkeeaa
