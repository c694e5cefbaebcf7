/- The law CheckEnough answers true for every component, field and formula, raw ones too, and changes nothing that it is handed: a formula that is right finds all its elements. Conditions: none but the row's own. -/
import Derived.Test.YtnfbccfghgmfiaaGreatH2
import Derived.Test.YtnfbccfghgmfiaaGreatH3
import Derived.Test.YtnfbccfghgmfiaaGreatH6
import Derived.Test.YtnfbccfghgmfiaaGreatH8
import Derived.Test.YtnfbccfghgmfiaaGreatRows
namespace Go.Proofs.YtnfbccfghgmfiaaGreat
open Go Go.Lg Go.RowKit Go.ChangeShapes Go.WideShapes Go.Joins
set_option maxRecDepth 100000
theorem own : ownKnob Tryz.prog.godebug = none := by kernel_rfl
theorem laidOut : laidOutB Tryz.prog = true := by kernel_rfl
theorem checkEnough_lifted (os : Os) (started : os.Started) (H : Type) (enc : TypeId × Value → H) :
    ReturnsInHanded {} Tryz.checked os 5 .any (Rows.checkEnoughSpec.pre6 enc Tryz.prog Tryz.f5 [] false) (Rows.checkEnoughSpec.post enc Tryz.prog Tryz.f5 false true false false) := by
  refine returnsInHanded_of_change_sized (C := Tryz.checked) own started (by kernel_rfl) Tryz.func5
    (ChangeSpec.witness6 (enc := enc) (C := Tryz.checked) false ⟨#[], #[.agg #[.int .i64 0, .string ⟨#[]⟩, .slice none 0 0], .agg #[.string ⟨#[]⟩, .int .i64 0, .int .i64 0], .slice none 0 0], []⟩ 8 (by kernel_rfl) (by kernel_rfl) (by kernel_rfl) (by kernel_rfl)) ?_
  intro W base args ds gs before hval0 hW _ hWt _
  have hval : ∀ (j : Nat) t v, Tryz.f5.params[j]? = some t → args[j]? = some v → Value.okWide Tryz.prog W .any base t v := hval0
  have hW' := hW
  obtain ⟨p, q, hA0, hV, rfl, hfz, hnd⟩ := hW
  have hA : DataW.TrodAll enc Tryz.prog W 0 (fun _ => true) true Tryz.f5.params.toList args.toList ds p := hA0
  rw [Tryz.params5] at hA hval
  have hT := hA
  obtain ⟨v0, r0, d0, e0, p0, q0, g0, rfl, rfl, h0, t0⟩ := trodAll_cons hA
  obtain ⟨v1, r1, d1, e1, p1, q1, g1, rfl, rfl, h1, t1⟩ := trodAll_cons t0
  obtain ⟨v2, r2, d2, e2, p2, q2, g2, rfl, rfl, h2, t2⟩ := trodAll_cons t1
  obtain ⟨ga, rfl, rfl⟩ := trodAll_nil t2
  obtain ⟨rfl, rfl⟩ := trodVars_none hV
  obtain rfl : args = #[v0, v1, v2] := by
    apply Array.ext'
    simp only [g0, g1, g2, ga]
  obtain ⟨cp0, ad0, cap0, f0, bi0, lc0, hk0, hm0⟩ := open_comp (hval 0 _ v0 rfl rfl) h0 (Light.arg hWt (j := 0) (t := 24) rfl rfl)
  obtain ⟨fl1, f1, _, rfl, bk1⟩ := open_field (hval 1 _ v1 rfl rfl) h1
  obtain ⟨ad2, cap2, xs2, f2, lc2, hk2⟩ := open_inss2 (hval 2 _ v2 rfl rfl) h2 (Light.arg hWt (j := 2) (t := 50) rfl rfl)
  clear hA0 hval0
  have hlt : ∀ x ∈ ((p0 ++ ([] ++ (p2 ++ []))) : List MemPlace), x.block < W.heap.size := fun x hx => hW'.lt x (List.mem_append_left _ hx)
  have hp : PSpec Tryz.prog (fun b => W.heap[b]?) 5 [Cx cp0 ad0 cap0, .sv (.agg (fl1.vals.map .val)), Lx ad2 xs2.length cap2] (.sv (.one (.val (.bool true)))) := by
    exact checkEnough_law _ cp0 fl1 xs2 ad0 ad2 cap0 cap2 hk0 hk2 (by omega) (by omega)
  have hc := law_calls (W := W) [v0, v1, v2] (by rw [f0, f1, f2]; exact hp)
  refine hc.mono fun e W' ⟨he, hB⟩ => ?_
  subst he
  refine ⟨_, rfl, _, _, _, [], (p0 ++ ([] ++ (p2 ++ []))), [], hW', ?_, ?_, rfl, hB.frame _, fun h => by cases h⟩
  · exact trodAll_mk1 (shut_bool Tryz.underlying4 _)
  · exact below_trodAll laidOut hB (by kernel_rfl) hT hlt
theorem checkEnough_said : Rows.CheckEnoughSaid :=
  OpenClaim.holds_of_wide 5 Tryz.f5 rfl rfl rfl rfl rfl rfl rfl ⟨rfl, rfl, rfl, rfl, rfl⟩ rfl rfl rfl rfl rfl (by kernel_rfl) Tryz.func5 (by kernel_rfl)
    (of_decide_eq_true (by kernel_rfl)) (by unfold Func.isWrapper; rw [if_neg (of_decide_eq_false (by kernel_rfl))]; exact ⟨rfl, rfl⟩)
    (fun os started H enc _ => checkEnough_lifted os started H enc)
#print axioms checkEnough_said
end Go.Proofs.YtnfbccfghgmfiaaGreat
