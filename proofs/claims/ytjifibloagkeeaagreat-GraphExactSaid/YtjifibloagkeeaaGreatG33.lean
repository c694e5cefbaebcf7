/- Of every schema and room, and row of deeds, each answer of a graph, its tables' sets, and its ways, are the document's. -/
import Derived.Test.YtjifibloagkeeaaGreatQ2
import Derived.Test.YtjifibloagkeeaaGreatQ5
import Derived.Test.YtjifibloagkeeaaGreatQ7
import Derived.Test.YtjifibloagkeeaaGreatQ8
import Derived.Test.YtjifibloagkeeaaGreatRows
namespace Go.Proofs.YtjifibloagkeeaaGreat
open Go Go.Lg Go.RowKit Go.ChangeShapes Go.WideShapes Go.Joins
set_option maxRecDepth 100000
theorem own : ownKnob Tryz.prog.godebug = none := by kernel_rfl
theorem laidOut : laidOutB Tryz.prog = true := by kernel_rfl
theorem graphExact_lifted (os : Os) (started : os.Started) (H : Type) (enc : TypeId × Value → H) :
    ReturnsInHanded {} Tryz.checked os 3 .any (Rows.graphExactSpec.pre6 enc Tryz.prog Tryz.f3 [] false) (Rows.graphExactSpec.post enc Tryz.prog Tryz.f3 false true false false) := by
  refine returnsInHanded_of_change_sized (C := Tryz.checked) own started (by kernel_rfl) Tryz.func3
    (ChangeSpec.witness6 (enc := enc) (C := Tryz.checked) false ⟨#[], #[.agg #[.int .i64 0, .slice none 0 0], .int .i64 0, .int .i64 0, .slice none 0 0], []⟩ 8 (by kernel_rfl) (by kernel_rfl) (by kernel_rfl) (by kernel_rfl)) ?_
  intro W base args ds gs before hval0 hW _ hWt _
  have hval : ∀ (j : Nat) t v, Tryz.f3.params[j]? = some t → args[j]? = some v → Value.okWide Tryz.prog W .any base t v := hval0
  have hW' := hW
  obtain ⟨p, q, hA0, hV, rfl, hfz, hnd⟩ := hW
  have hA : DataW.TrodAll enc Tryz.prog W 0 (fun _ => true) true Tryz.f3.params.toList args.toList ds p := hA0
  rw [Tryz.params3] at hA hval
  have hT := hA
  obtain ⟨v0, r0, d0, e0, p0, q0, g0, rfl, rfl, h0, t0⟩ := trodAll_cons hA
  obtain ⟨v1, r1, d1, e1, p1, q1, g1, rfl, rfl, h1, t1⟩ := trodAll_cons t0
  obtain ⟨v2, r2, d2, e2, p2, q2, g2, rfl, rfl, h2, t2⟩ := trodAll_cons t1
  obtain ⟨v3, r3, d3, e3, p3, q3, g3, rfl, rfl, h3, t3⟩ := trodAll_cons t2
  obtain ⟨ga, rfl, rfl⟩ := trodAll_nil t3
  obtain ⟨rfl, rfl⟩ := trodVars_none hV
  obtain rfl : args = #[v0, v1, v2, v3] := by
    apply Array.ext'
    simp only [g0, g1, g2, g3, ga]
  obtain ⟨vr0, ad0, cap0, sc0, f0, lc0, hk0, hm0⟩ := open_schema_n (hval 0 _ v0 rfl rfl) h0
  obtain ⟨n1, f1, _, rfl, hn1⟩ := open_int (k := .i64) (by kernel_rfl) (hval 1 _ v1 rfl rfl) h1
  have bn1 := bounds_i64 hn1
  obtain ⟨n2, f2, _, rfl, hn2⟩ := open_int (k := .i64) (by kernel_rfl) (hval 2 _ v2 rfl rfl) h2
  have bn2 := bounds_i64 hn2
  obtain ⟨ad3, cap3, ls3, f3, lc3, mc3, hk3⟩ := open_acts17 (hval 3 _ v3 rfl rfl) h3
  clear hA0 hval0
  have hlt : ∀ x ∈ ((p0 ++ ([] ++ ([] ++ (p3 ++ [])))) : List MemPlace), x.block < W.heap.size := fun x hx => hW'.lt x (List.mem_append_left _ hx)
  have hp : PSpec Tryz.prog (fun b => W.heap[b]?) 3 [Sx vr0 ad0 sc0.length cap0, .sv (.one (.val (.int .i64 n1))), .sv (.one (.val (.int .i64 n2))), .sv (.one (.val (.slice ad3 ls3.length cap3)))] (.sv (.one (.val (.bool true)))) := by
    exact graphExact_law _ ⟨vr0, sc0⟩ n1 n2 ls3 ad0 ad3 cap0 cap3 hk0 hm0 hk3 (by unfold maxLen at mc3; omega)
  have hc := law_calls (W := W) [v0, v1, v2, v3] (by rw [f0, f1, f2, f3]; exact hp)
  refine hc.mono fun e W' ⟨he, hB⟩ => ?_
  subst he
  refine ⟨_, rfl, _, _, _, [], (p0 ++ ([] ++ ([] ++ (p3 ++ [])))), [], hW', ?_, ?_, rfl, hB.frame _, fun h => by cases h⟩
  · exact trodAll_mk1 (shut_bool Tryz.underlying4 _)
  · exact below_trodAll laidOut hB (by kernel_rfl) hT hlt
theorem graphExact_said : Rows.GraphExactSaid :=
  OpenClaim.holds_of_wide 3 Tryz.f3 rfl rfl rfl rfl rfl rfl rfl ⟨rfl, rfl, rfl, rfl, rfl⟩ rfl rfl rfl rfl rfl (by kernel_rfl) Tryz.func3 (by kernel_rfl)
    (of_decide_eq_true (by kernel_rfl)) (by unfold Func.isWrapper; rw [if_neg (of_decide_eq_false (by kernel_rfl))]; exact ⟨rfl, rfl⟩)
    (fun os started H enc _ => graphExact_lifted os started H enc)
#print axioms graphExact_said
end Go.Proofs.YtjifibloagkeeaaGreat
