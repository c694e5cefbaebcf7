/- EvalParts: of every two schemas, program, parts and set, raw ones too, what the parts become, or why not, and the set, are the document's. -/
import Derived.Test.YtopiioklkkiedaaGreatDoorW3
import Derived.Test.YtopiioklkkiedaaGreatDoorW7
import Derived.Test.YtopiioklkkiedaaGreatDoorW8
import Derived.Test.YtopiioklkkiedaaGreatDoorTie
import Derived.Test.YtopiioklkkiedaaGreatDoorCards
import Derived.ProofKit
import Derived.LaidMore
import Derived.OpenShut
import Derived.Stop.Joined
import Derived.Lay
import Derived.SevenTiedAt
import Derived.Test.YtopiioklkkiedaaGreatDoorRows
set_option maxHeartbeats 12800000
set_option maxRecDepth 100000
namespace Go.Proofs.YtopiioklkkiedaaGreatDoor
open Go Go.Lg Go.RowKit Go.ChangeShapes Go.WideShapes Go.Joins
set_option maxRecDepth 100000
theorem own : ownKnob Tryz.prog.godebug = none := by kernel_rfl
theorem laidOut : laidOutB Tryz.prog = true := by kernel_rfl
abbrev laidAll : List (String × DataW Unit) := [("unicode/utf8.acceptRanges", Rows.laid_unicode_utf8_acceptRanges), ("unicode/utf8.first", Rows.laid_unicode_utf8_first)]
theorem evalParts_lifted (os : Os) (started : os.Started) (H : Type) (enc : TypeId × Value → H) :
    ReturnsInHanded {} Tryz.checked os 5 .any (fun w args => (Rows.evalPartsSpec.pre enc Tryz.prog Tryz.f5 [] false w args ∧ laidMetH Tryz.prog laidAll w) ∧ sizedMet enc Tryz.prog Tryz.f5 (OpenSpec.ofChange Rows.evalPartsSpec) false w args)
      (Rows.evalPartsSpec.post enc Tryz.prog Tryz.f5 false true false false) := by
  refine returnsInHanded_of_change_and (C := Tryz.checked) (X := fun w _ => laidMetH Tryz.prog laidAll w) (fun _ _ _ hh h => h.of_heap hh) own started V5 Tryz.func5
    (ChangeSpec.witness_shaped (enc := enc) (C := Tryz.checked) (os := os) (X := fun w _ => laidMetH Tryz.prog laidAll w) false (World.laidAll Tryz.prog os laidAll) #[.agg #[.int .i64 0, .slice none 0 0], .agg #[.int .i64 0, .slice none 0 0], .agg #[.int .i64 0, .int .i64 0, .slice none 0 0], .slice none 0 0, .int .u32 0] 8 (World.laidAll_os _ _ _) (World.shaped_of_ZipB V5 V5) V5 V5 V5
      (by rw [MakeChecks.laidMetH_plain _ _ _ V5]; exact laidMet_laidAll _ V5 V5)) ?_
  intro W base args ds gs before hval0 hW _ hWt hL _
  have hval : ∀ (j : Nat) t v, Tryz.f5.params[j]? = some t → args[j]? = some v → Value.okWide Tryz.prog W .any base t v := hval0
  have hW' := hW
  obtain ⟨p, q, hA0, hV, rfl, hfz, hnd⟩ := hW
  have hA : DataW.TrodAll enc Tryz.prog W 0 (fun _ => true) true Tryz.f5.params.toList args.toList ds p := hA0
  rw [Tryz.params5] at hA hval
  have hT := hA
  obtain ⟨v0, r0, d0, e0, p0, q0, g0, rfl, rfl, h0, t0⟩ := trodAll_cons hA
  obtain ⟨v1, r1, d1, e1, p1, q1, g1, rfl, rfl, h1, t1⟩ := trodAll_cons t0
  obtain ⟨v2, r2, d2, e2, p2, q2, g2, rfl, rfl, h2, t2⟩ := trodAll_cons t1
  obtain ⟨v3, r3, d3, e3, p3, q3, g3, rfl, rfl, h3, t3⟩ := trodAll_cons t2
  obtain ⟨v4, r4, d4, e4, p4, q4, g4, rfl, rfl, h4, t4⟩ := trodAll_cons t3
  obtain ⟨ga, rfl, rfl⟩ := trodAll_nil t4
  obtain ⟨rfl, rfl⟩ := trodVars_none hV
  obtain rfl : args = #[v0, v1, v2, v3, v4] := by
    apply Array.ext'
    simp only [g0, g1, g2, g3, g4, ga]
  obtain ⟨vr0, ad0, cap0, sc0, f0, bv0, lc0, hk0, hm0, hz0⟩ := open_schema_w (hval 0 _ v0 rfl rfl) h0 (Light.arg hWt (j := 0) (t := 33) rfl rfl)
  obtain ⟨vr1, ad1, cap1, sc1, f1, bv1, lc1, hk1, hm1, hz1⟩ := open_schema_w (hval 1 _ v1 rfl rfl) h1 (Light.arg hWt (j := 1) (t := 33) rfl rfl)
  obtain ⟨va2, vb2, ad2, cap2, rs2, f2, _, lc2, hk2, sz2⟩ := open_prog_w (hval 2 _ v2 rfl rfl) h2 (Light.arg hWt (j := 2) (t := 36) rfl rfl)
  obtain ⟨ad3, cap3, ns3, f3, lc3, mc3, hk3, vl3⟩ := open_parts_s (hval 3 _ v3 rfl rfl) h3 (Light.arg hWt (j := 3) (t := 56) rfl rfl)
  obtain ⟨n4, f4, _, rfl, hn4⟩ := open_int (k := .u32) V5 (hval 4 _ v4 rfl rfl) h4
  have bn4 := bounds_u32 hn4
  clear hA0 hval0
  have hlt : ∀ x ∈ ((p0 ++ (p1 ++ (p2 ++ (p3 ++ ([] ++ []))))) : List MemPlace), x.block < W.heap.size := fun x hx => hW'.lt x (List.mem_append_left _ hx)
  have hp : PSpec Tryz.prog (fun b => W.heap[b]?) 5 [Sx vr0 ad0 sc0.length cap0, Sx vr1 ad1 sc1.length cap1, LPg va2 vb2 ad2 rs2.length cap2, Lx ad3 ns3.length cap3, .sv (.one (.val (.int .u32 n4)))] (.sv (.one (.val (.bool true)))) := by
    obtain ⟨a4, rfl⟩ : ∃ m : Nat, n4 = (m : Int) := ⟨n4.toNat, by omega⟩
    exact evalParts_law _ ⟨vr0, sc0⟩ ⟨vr1, sc1⟩ ⟨va2, vb2, rs2⟩ ns3 a4 ad0 ad1 ad2 ad3 cap0 cap1 cap2 cap3 hk0 hk1 hk2 hk3 lc3 hm0 hm1 ⟨lc0, hz0⟩ ⟨lc1, hz1⟩ (by show rs2.length < _; omega) (sizeR.wide sz2) V3 (fun x hx => by have := vl3 x hx; omega) V3
  have hc := law_calls (W := W) [v0, v1, v2, v3, v4] (by rw [f0, f1, f2, f3, f4]; exact hp)
  refine hc.mono fun e W' ⟨he, hB⟩ => ?_
  subst he
  refine ⟨_, rfl, _, _, _, [], (p0 ++ (p1 ++ (p2 ++ (p3 ++ ([] ++ []))))), [], hW', ?_, ?_, rfl, hB.frame _, fun h => by cases h⟩
  · exact trodAll_mk1 (shut_bool Tryz.underlying4 _)
  · exact below_trodAll laidOut hB V5 hT hlt
theorem evalParts_said : Rows.EvalPartsSaid :=
  OpenClaim.holds_of_wide 5 Tryz.f5 rfl rfl rfl rfl rfl rfl rfl ⟨rfl, rfl, rfl, rfl, rfl⟩ rfl rfl rfl rfl rfl V5 Tryz.func5 V5
    (of_decide_eq_true V5) (by unfold Func.isWrapper; rw [if_neg (of_decide_eq_false V5)]; exact ⟨rfl, rfl⟩)
    (fun os started H enc _ => evalParts_lifted os started H enc)
theorem evalParts_card : Rows.EvalPartsCardSaid :=
  Claim7.holds_tied_plain_at .later [] [.data, .pinned] true (true, Rows.evalPartsCard.stood.harness.2) false
    evalParts_said (fun _ h => by cases h) V5 (fun _ h => by cases h) evalParts_row_tie rfl ⟨rfl, rfl⟩ V5 rfl
    (fun f fn hf hfn => by
      obtain rfl : f = 5 := Option.some.inj ((show Tryz.prog.funcNamed "retrofit/retrofitlaw14.EvalParts" = some 5 by kernel_rfl).symm.trans hf) |>.symm
      obtain rfl : fn = Tryz.f5 := (Option.some.inj (Tryz.func5.symm.trans hfn)).symm
      exact ⟨by kernel_rfl, fun j t ht => by
        have hall : (Tryz.f5.params.toList.all fun u => !Tryz.prog.wantsStandIn u) = true := by kernel_rfl
        exact (show Tryz.prog.wantsStandIn t = false by simpa using List.all_eq_true.1 hall t (Array.mem_toList_iff.2 (Array.mem_of_getElem? ht)))⟩)
    V5
#print axioms evalParts_card
end Go.Proofs.YtopiioklkkiedaaGreatDoor
