/- EvalWhole: who has a set has, afterwards, just what it becomes: the parts that come out can be in the new schema, are of just those components, in order; each hangs on its own old part alone. -/
import Derived.Test.YtopiioklkkiedaaGreatDoorR2
import Derived.Test.YtopiioklkkiedaaGreatDoorR6
import Derived.Test.YtopiioklkkiedaaGreatDoorR7
import Derived.Test.YtopiioklkkiedaaGreatDoorR8
import Derived.Test.YtopiioklkkiedaaGreatDoorTie
import Derived.Test.YtopiioklkkiedaaGreatDoorCards
import Derived.ProofKit
import Derived.LaidMore
import Derived.OpenShut
import Derived.Stop.Joined
import Derived.Lay
import Derived.SevenTiedAt
import Derived.Test.YtopiioklkkiedaaGreatDoorRows
namespace Go.Proofs.YtopiioklkkiedaaGreatDoor
open Go Go.Lg Go.RowKit Go.ChangeShapes Go.WideShapes Go.Joins
set_option maxRecDepth 100000
theorem own : ownKnob Tryz.prog.godebug = none := by kernel_rfl
theorem laidOut : laidOutB Tryz.prog = true := by kernel_rfl
abbrev laidAll : List (String × DataW Unit) := [("unicode/utf8.acceptRanges", Rows.laid_unicode_utf8_acceptRanges), ("unicode/utf8.first", Rows.laid_unicode_utf8_first)]
theorem evalWhole_lifted (os : Os) (started : os.Started) (H : Type) (enc : TypeId × Value → H) :
    ReturnsInHanded {} Tryz.checked os 6 .any (fun w args => (Rows.evalWholeSpec.pre enc Tryz.prog Tryz.f6 [] false w args ∧ laidMetH Tryz.prog laidAll w) ∧ sizedMet enc Tryz.prog Tryz.f6 (OpenSpec.ofChange Rows.evalWholeSpec) false w args)
      (Rows.evalWholeSpec.post enc Tryz.prog Tryz.f6 false true false false) := by
  refine returnsInHanded_of_change_and (C := Tryz.checked) (X := fun w _ => laidMetH Tryz.prog laidAll w) (fun _ _ _ hh h => h.of_heap hh) own started (by kernel_rfl) Tryz.func6
    (ChangeSpec.witness_shaped (enc := enc) (C := Tryz.checked) (os := os) (X := fun w _ => laidMetH Tryz.prog laidAll w) false (World.laidAll Tryz.prog os laidAll) #[.agg #[.int .i64 0, .slice none 0 0], .agg #[.int .i64 0, .slice none 0 0], .agg #[.int .i64 0, .int .i64 0, .slice none 0 0], .slice none 0 0] 8 (World.laidAll_os _ _ _) (World.shaped_of_ZipB (by kernel_rfl) (by kernel_rfl)) (by kernel_rfl) (by kernel_rfl) (by kernel_rfl)
      (by rw [MakeChecks.laidMetH_plain _ _ _ (by kernel_rfl)]; exact laidMet_laidAll _ (by kernel_rfl) (by kernel_rfl))) ?_
  intro W base args ds gs before hval0 hW _ hWt hL _
  have hval : ∀ (j : Nat) t v, Tryz.f6.params[j]? = some t → args[j]? = some v → Value.okWide Tryz.prog W .any base t v := hval0
  have hW' := hW
  obtain ⟨p, q, hA0, hV, rfl, hfz, hnd⟩ := hW
  have hA : DataW.TrodAll enc Tryz.prog W 0 (fun _ => true) true Tryz.f6.params.toList args.toList ds p := hA0
  rw [Tryz.params6] at hA hval
  have hT := hA
  obtain ⟨v0, r0, d0, e0, p0, q0, g0, rfl, rfl, h0, t0⟩ := trodAll_cons hA
  obtain ⟨v1, r1, d1, e1, p1, q1, g1, rfl, rfl, h1, t1⟩ := trodAll_cons t0
  obtain ⟨v2, r2, d2, e2, p2, q2, g2, rfl, rfl, h2, t2⟩ := trodAll_cons t1
  obtain ⟨v3, r3, d3, e3, p3, q3, g3, rfl, rfl, h3, t3⟩ := trodAll_cons t2
  obtain ⟨ga, rfl, rfl⟩ := trodAll_nil t3
  obtain ⟨rfl, rfl⟩ := trodVars_none hV
  obtain rfl : args = #[v0, v1, v2, v3] := by
    apply Array.ext'
    simp only [g0, g1, g2, g3, ga]
  obtain ⟨vr0, ad0, cap0, sc0, f0, bv0, lc0, hk0, hm0, hz0⟩ := open_schema_w (hval 0 _ v0 rfl rfl) h0 (Light.arg hWt (j := 0) (t := 33) rfl rfl)
  obtain ⟨vr1, ad1, cap1, sc1, f1, bv1, lc1, hk1, hm1, hz1⟩ := open_schema_w (hval 1 _ v1 rfl rfl) h1 (Light.arg hWt (j := 1) (t := 33) rfl rfl)
  obtain ⟨va2, vb2, ad2, cap2, rs2, f2, _, lc2, hk2, sz2⟩ := open_prog_w (hval 2 _ v2 rfl rfl) h2 (Light.arg hWt (j := 2) (t := 36) rfl rfl)
  obtain ⟨ad3, cap3, ns3, f3, lc3, mc3, hk3, vl3⟩ := open_parts_s (hval 3 _ v3 rfl rfl) h3 (Light.arg hWt (j := 3) (t := 56) rfl rfl)
  clear hA0 hval0
  have hlt : ∀ x ∈ ((p0 ++ (p1 ++ (p2 ++ (p3 ++ [])))) : List MemPlace), x.block < W.heap.size := fun x hx => hW'.lt x (List.mem_append_left _ hx)
  have hp : PSpec Tryz.prog (fun b => W.heap[b]?) 6 [Sx vr0 ad0 sc0.length cap0, Sx vr1 ad1 sc1.length cap1, LPg va2 vb2 ad2 rs2.length cap2, Lx ad3 ns3.length cap3] (.sv (.one (.val (.bool true)))) := by
    exact evalWhole_law _ ⟨vr0, sc0⟩ ⟨vr1, sc1⟩ ⟨va2, vb2, rs2⟩ ns3 ad0 ad1 ad2 ad3 cap0 cap1 cap2 cap3 hk0 hk1 hk2 hk3 lc3 hm0 hm1 ⟨lc0, hz0⟩ ⟨lc1, hz1⟩ (by show rs2.length < _; omega) (sizeR.wide sz2) (by omega) (fun x hx => by have := vl3 x hx; omega)
  have hc := law_calls (W := W) [v0, v1, v2, v3] (by rw [f0, f1, f2, f3]; exact hp)
  refine hc.mono fun e W' ⟨he, hB⟩ => ?_
  subst he
  refine ⟨_, rfl, _, _, _, [], (p0 ++ (p1 ++ (p2 ++ (p3 ++ [])))), [], hW', ?_, ?_, rfl, hB.frame _, fun h => by cases h⟩
  · exact trodAll_mk1 (shut_bool Tryz.underlying4 _)
  · exact below_trodAll laidOut hB (by kernel_rfl) hT hlt
theorem evalWhole_said : Rows.EvalWholeSaid :=
  OpenClaim.holds_of_wide 6 Tryz.f6 rfl rfl rfl rfl rfl rfl rfl ⟨rfl, rfl, rfl, rfl, rfl⟩ rfl rfl rfl rfl rfl (by kernel_rfl) Tryz.func6 (by kernel_rfl)
    (of_decide_eq_true (by kernel_rfl)) (by unfold Func.isWrapper; rw [if_neg (of_decide_eq_false (by kernel_rfl))]; exact ⟨rfl, rfl⟩)
    (fun os started H enc _ => evalWhole_lifted os started H enc)
theorem evalWhole_card : Rows.EvalWholeCardSaid :=
  Claim7.holds_tied_plain_at .later [] [.data, .pinned] true (true, Rows.evalWholeCard.stood.harness.2) false
    evalWhole_said (fun _ h => by cases h) (by kernel_rfl) (fun _ h => by cases h) evalWhole_row_tie rfl ⟨rfl, rfl⟩ (by kernel_rfl) rfl
    (fun f fn hf hfn => by
      obtain rfl : f = 6 := Option.some.inj ((show Tryz.prog.funcNamed "retrofit/retrofitlaw14.EvalWhole" = some 6 by kernel_rfl).symm.trans hf) |>.symm
      obtain rfl : fn = Tryz.f6 := (Option.some.inj (Tryz.func6.symm.trans hfn)).symm
      exact ⟨by kernel_rfl, fun j t ht => by
        have hall : (Tryz.f6.params.toList.all fun u => !Tryz.prog.wantsStandIn u) = true := by kernel_rfl
        exact (show Tryz.prog.wantsStandIn t = false by simpa using List.all_eq_true.1 hall t (Array.mem_toList_iff.2 (Array.mem_of_getElem? ht)))⟩)
    (by kernel_rfl)
#print axioms evalWhole_card
end Go.Proofs.YtopiioklkkiedaaGreatDoor
