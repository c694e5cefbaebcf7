/- The law CheckPlain answers true for every two schemas, raw ones too, and changes nothing that it is handed: what keeps each name always passes, and without its last rule it does not. Conditions: none but the row's own. -/
import Derived.Test.YtnfbccfghgmfiaaGreatD2
import Derived.Test.YtnfbccfghgmfiaaGreatD6
import Derived.Test.YtnfbccfghgmfiaaGreatD8
import Derived.Test.YtnfbccfghgmfiaaGreatRows
namespace Go.Proofs.YtnfbccfghgmfiaaGreat
open Go Go.Lg Go.RowKit Go.ChangeShapes Go.WideShapes Go.Joins
set_option maxRecDepth 100000
theorem own : ownKnob Tryz.prog.godebug = none := by kernel_rfl
theorem laidOut : laidOutB Tryz.prog = true := by kernel_rfl
theorem checkPlain_lifted (os : Os) (started : os.Started) (H : Type) (enc : TypeId × Value → H) :
    ReturnsInHanded {} Tryz.checked os 4 .any (Rows.checkPlainSpec.pre6 enc Tryz.prog Tryz.f4 [] false) (Rows.checkPlainSpec.post enc Tryz.prog Tryz.f4 false true false false) := by
  refine returnsInHanded_of_change_sized (C := Tryz.checked) own started (by kernel_rfl) Tryz.func4
    (ChangeSpec.witness6 (enc := enc) (C := Tryz.checked) false ⟨#[], #[.agg #[.int .i64 0, .slice none 0 0], .agg #[.int .i64 0, .slice none 0 0]], []⟩ 8 (by kernel_rfl) (by kernel_rfl) (by kernel_rfl) (by kernel_rfl)) ?_
  intro W base args ds gs before hval0 hW _ hWt _
  have hval : ∀ (j : Nat) t v, Tryz.f4.params[j]? = some t → args[j]? = some v → Value.okWide Tryz.prog W .any base t v := hval0
  have hW' := hW
  obtain ⟨p, q, hA0, hV, rfl, hfz, hnd⟩ := hW
  have hA : DataW.TrodAll enc Tryz.prog W 0 (fun _ => true) true Tryz.f4.params.toList args.toList ds p := hA0
  rw [Tryz.params4] at hA hval
  have hT := hA
  obtain ⟨v0, r0, d0, e0, p0, q0, g0, rfl, rfl, h0, t0⟩ := trodAll_cons hA
  obtain ⟨v1, r1, d1, e1, p1, q1, g1, rfl, rfl, h1, t1⟩ := trodAll_cons t0
  obtain ⟨ga, rfl, rfl⟩ := trodAll_nil t1
  obtain ⟨rfl, rfl⟩ := trodVars_none hV
  obtain rfl : args = #[v0, v1] := by
    apply Array.ext'
    simp only [g0, g1, ga]
  obtain ⟨vr0, ad0, cap0, sc0, f0, bv0, lc0, hk0, hm0, hz0⟩ := open_schema_w (hval 0 _ v0 rfl rfl) h0 (Light.arg hWt (j := 0) (t := 32) rfl rfl)
  obtain ⟨vr1, ad1, cap1, sc1, f1, bv1, lc1, hk1, hm1, hz1⟩ := open_schema_w (hval 1 _ v1 rfl rfl) h1 (Light.arg hWt (j := 1) (t := 32) rfl rfl)
  clear hA0 hval0
  have hlt : ∀ x ∈ ((p0 ++ (p1 ++ [])) : List MemPlace), x.block < W.heap.size := fun x hx => hW'.lt x (List.mem_append_left _ hx)
  have hp : PSpec Tryz.prog (fun b => W.heap[b]?) 4 [Sx vr0 ad0 sc0.length cap0, Sx vr1 ad1 sc1.length cap1] (.sv (.one (.val (.bool true)))) := by
    exact checkPlain_law _ ⟨vr0, sc0⟩ ⟨vr1, sc1⟩ ad0 ad1 cap0 cap1 hk0 hk1 hm0 hm1 ⟨lc0, hz0⟩ ⟨lc1, hz1⟩
  have hc := law_calls (W := W) [v0, v1] (by rw [f0, f1]; exact hp)
  refine hc.mono fun e W' ⟨he, hB⟩ => ?_
  subst he
  refine ⟨_, rfl, _, _, _, [], (p0 ++ (p1 ++ [])), [], hW', ?_, ?_, rfl, hB.frame _, fun h => by cases h⟩
  · exact trodAll_mk1 (shut_bool Tryz.underlying4 _)
  · exact below_trodAll laidOut hB (by kernel_rfl) hT hlt
theorem checkPlain_said : Rows.CheckPlainSaid :=
  OpenClaim.holds_of_wide 4 Tryz.f4 rfl rfl rfl rfl rfl rfl rfl ⟨rfl, rfl, rfl, rfl, rfl⟩ rfl rfl rfl rfl rfl (by kernel_rfl) Tryz.func4 (by kernel_rfl)
    (of_decide_eq_true (by kernel_rfl)) (by unfold Func.isWrapper; rw [if_neg (of_decide_eq_false (by kernel_rfl))]; exact ⟨rfl, rfl⟩)
    (fun os started H enc _ => checkPlain_lifted os started H enc)
#print axioms checkPlain_said
end Go.Proofs.YtnfbccfghgmfiaaGreat
