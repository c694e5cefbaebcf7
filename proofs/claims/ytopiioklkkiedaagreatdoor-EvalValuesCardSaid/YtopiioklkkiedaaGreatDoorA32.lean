/- EvalValues: of every two components, rule, and value, raw ones too, the new value, or why there is none, is the document's, number by number. -/
import Derived.Test.YtopiioklkkiedaaGreatDoorT3
import Derived.Test.YtopiioklkkiedaaGreatDoorT7
import Derived.Test.YtopiioklkkiedaaGreatDoorT8
import Derived.Test.YtopiioklkkiedaaGreatDoorTie
import Derived.Test.YtopiioklkkiedaaGreatDoorCards
import Derived.ProofKit
import Derived.LaidMore
import Derived.OpenShut
import Derived.Stop.Joined
import Derived.Lay
import Derived.SevenTiedAt
import Derived.Test.YtopiioklkkiedaaGreatDoorRows
set_option maxHeartbeats 12800000
set_option maxRecDepth 100000
namespace Go.Proofs.YtopiioklkkiedaaGreatDoor
open Go Go.Lg Go.RowKit Go.ChangeShapes Go.WideShapes Go.Joins
set_option maxRecDepth 100000
theorem own : ownKnob Tryz.prog.godebug = none := by kernel_rfl
theorem laidOut : laidOutB Tryz.prog = true := by kernel_rfl
abbrev laidAll : List (String × DataW Unit) := [("unicode/utf8.acceptRanges", Rows.laid_unicode_utf8_acceptRanges), ("unicode/utf8.first", Rows.laid_unicode_utf8_first)]
theorem evalValues_lifted (os : Os) (started : os.Started) (H : Type) (enc : TypeId × Value → H) :
    ReturnsInHanded {} Tryz.checked os 3 .any (fun w args => (Rows.evalValuesSpec.pre enc Tryz.prog Tryz.f3 [] false w args ∧ laidMetH Tryz.prog laidAll w) ∧ sizedMet enc Tryz.prog Tryz.f3 (OpenSpec.ofChange Rows.evalValuesSpec) false w args)
      (Rows.evalValuesSpec.post enc Tryz.prog Tryz.f3 false true false false) := by
  refine returnsInHanded_of_change_and (C := Tryz.checked) (X := fun w _ => laidMetH Tryz.prog laidAll w) (fun _ _ _ hh h => h.of_heap hh) own started y5 Tryz.func3
    (ChangeSpec.witness_shaped (enc := enc) (C := Tryz.checked) (os := os) (X := fun w _ => laidMetH Tryz.prog laidAll w) false (World.laidAll Tryz.prog os laidAll) #[.agg #[.int .i64 0, .string ⟨#[]⟩, .slice none 0 0], .agg #[.int .i64 0, .string ⟨#[]⟩, .slice none 0 0], .agg #[.int .i64 0, .int .i64 0, .slice none 0 0], .slice none 0 0] 8 (World.laidAll_os _ _ _) (World.shaped_of_ZipB y5 y5) y5 y5 y5
      (by rw [MakeChecks.laidMetH_plain _ _ _ y5]; exact laidMet_laidAll _ y5 y5)) ?_
  intro W base args ds gs before hval0 hW _ hWt hL _
  have hval : ∀ (j : Nat) t v, Tryz.f3.params[j]? = some t → args[j]? = some v → Value.okWide Tryz.prog W .any base t v := hval0
  have hW' := hW
  obtain ⟨p, q, hA0, hV, rfl, hfz, hnd⟩ := hW
  have hA : DataW.TrodAll enc Tryz.prog W 0 (fun _ => true) true Tryz.f3.params.toList args.toList ds p := hA0
  rw [Tryz.params3] at hA hval
  have hT := hA
  obtain ⟨v0, r0, d0, e0, p0, q0, g0, rfl, rfl, h0, t0⟩ := trodAll_cons hA
  obtain ⟨v1, r1, d1, e1, p1, q1, g1, rfl, rfl, h1, t1⟩ := trodAll_cons t0
  obtain ⟨v2, r2, d2, e2, p2, q2, g2, rfl, rfl, h2, t2⟩ := trodAll_cons t1
  obtain ⟨v3, r3, d3, e3, p3, q3, g3, rfl, rfl, h3, t3⟩ := trodAll_cons t2
  obtain ⟨ga, rfl, rfl⟩ := trodAll_nil t3
  obtain ⟨rfl, rfl⟩ := trodVars_none hV
  obtain rfl : args = #[v0, v1, v2, v3] := by
    apply Array.ext'
    simp only [g0, g1, g2, g3, ga]
  obtain ⟨cp0, ad0, cap0, f0, bi0, lc0, hk0, hm0⟩ := open_comp (hval 0 _ v0 rfl rfl) h0 (Light.arg hWt (j := 0) (t := 24) rfl rfl)
  obtain ⟨cp1, ad1, cap1, f1, bi1, lc1, hk1, hm1⟩ := open_comp (hval 1 _ v1 rfl rfl) h1 (Light.arg hWt (j := 1) (t := 24) rfl rfl)
  obtain ⟨ru2, ad2, cap2, f2, bs2, lc2, hk2, sz2⟩ := open_rule (hval 2 _ v2 rfl rfl) h2
  obtain ⟨ad3, cap3, ns3, f3, lc3, mc3, hk3⟩ := open_nums_s (hval 3 _ v3 rfl rfl) h3 (Light.arg hWt (j := 3) (t := 28) rfl rfl)
  clear hA0 hval0
  have hlt : ∀ x ∈ ((p0 ++ (p1 ++ (p2 ++ (p3 ++ [])))) : List MemPlace), x.block < W.heap.size := fun x hx => hW'.lt x (List.mem_append_left _ hx)
  have hp : PSpec Tryz.prog (fun b => W.heap[b]?) 3 [Cx cp0 ad0 cap0, Cx cp1 ad1 cap1, .sv (.agg [.val (.int .i64 ru2.nw), .val (.int .i64 ru2.old), .val (.slice ad2 ru2.ex.length cap2)]), Lx ad3 ns3.length cap3] (.sv (.one (.val (.bool true)))) := by
    exact evalValues_law _ cp0 cp1 ru2 ns3 ad0 ad1 ad2 ad3 cap0 cap1 cap2 cap3 hk0 lc0.2 hk1 hk2 hk3 lc3 y3 bi0 bi1 bs2 y3 y3 lc2 sz2
  have hc := law_calls (W := W) [v0, v1, v2, v3] (by rw [f0, f1, f2, f3]; exact hp)
  refine hc.mono fun e W' ⟨he, hB⟩ => ?_
  subst he
  refine ⟨_, rfl, _, _, _, [], (p0 ++ (p1 ++ (p2 ++ (p3 ++ [])))), [], hW', ?_, ?_, rfl, hB.frame _, fun h => by cases h⟩
  · exact trodAll_mk1 (shut_bool Tryz.underlying4 _)
  · exact below_trodAll laidOut hB y5 hT hlt
theorem evalValues_said : Rows.EvalValuesSaid :=
  OpenClaim.holds_of_wide 3 Tryz.f3 rfl rfl rfl rfl rfl rfl rfl ⟨rfl, rfl, rfl, rfl, rfl⟩ rfl rfl rfl rfl rfl y5 Tryz.func3 y5
    (of_decide_eq_true y5) (by unfold Func.isWrapper; rw [if_neg (of_decide_eq_false y5)]; exact ⟨rfl, rfl⟩)
    (fun os started H enc _ => evalValues_lifted os started H enc)
theorem evalValues_card : Rows.EvalValuesCardSaid :=
  Claim7.holds_tied_plain_at .later [] [.data, .pinned] true (true, Rows.evalValuesCard.stood.harness.2) false
    evalValues_said (fun _ h => by cases h) y5 (fun _ h => by cases h) evalValues_row_tie rfl ⟨rfl, rfl⟩ y5 rfl
    (fun f fn hf hfn => by
      obtain rfl : f = 3 := Option.some.inj ((show Tryz.prog.funcNamed "retrofit/retrofitlaw14.EvalValues" = some 3 by kernel_rfl).symm.trans hf) |>.symm
      obtain rfl : fn = Tryz.f3 := (Option.some.inj (Tryz.func3.symm.trans hfn)).symm
      exact ⟨by kernel_rfl, fun j t ht => by
        have hall : (Tryz.f3.params.toList.all fun u => !Tryz.prog.wantsStandIn u) = true := by kernel_rfl
        exact (show Tryz.prog.wantsStandIn t = false by simpa using List.all_eq_true.1 hall t (Array.mem_toList_iff.2 (Array.mem_of_getElem? ht)))⟩)
    y5
#print axioms evalValues_card
end Go.Proofs.YtopiioklkkiedaaGreatDoor
