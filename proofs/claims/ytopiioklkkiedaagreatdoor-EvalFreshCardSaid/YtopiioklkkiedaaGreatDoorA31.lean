/- EvalFresh: of every two sets, one within the other one, what they become is so, too; a fresh component is in neither; of nothing comes nothing. -/
import Derived.Test.YtopiioklkkiedaaGreatDoorQ2
import Derived.Test.YtopiioklkkiedaaGreatDoorQ8
import Derived.Test.YtopiioklkkiedaaGreatDoorTie
import Derived.Test.YtopiioklkkiedaaGreatDoorCards
import Derived.ProofKit
import Derived.LaidMore
import Derived.OpenShut
import Derived.Stop.Joined
import Derived.Lay
import Derived.SevenTiedAt
import Derived.Test.YtopiioklkkiedaaGreatDoorRows
namespace Go.Proofs.YtopiioklkkiedaaGreatDoor
open Go Go.Lg Go.RowKit Go.ChangeShapes Go.WideShapes Go.Joins
set_option maxRecDepth 100000
theorem own : ownKnob Tryz.prog.godebug = none := by kernel_rfl
theorem laidOut : laidOutB Tryz.prog = true := by kernel_rfl
abbrev laidAll : List (String × DataW Unit) := [("unicode/utf8.acceptRanges", Rows.laid_unicode_utf8_acceptRanges), ("unicode/utf8.first", Rows.laid_unicode_utf8_first)]
theorem evalFresh_lifted (os : Os) (started : os.Started) (H : Type) (enc : TypeId × Value → H) :
    ReturnsInHanded {} Tryz.checked os 8 .any (fun w args => (Rows.evalFreshSpec.pre enc Tryz.prog Tryz.f8 [] false w args ∧ laidMetH Tryz.prog laidAll w) ∧ sizedMet enc Tryz.prog Tryz.f8 (OpenSpec.ofChange Rows.evalFreshSpec) false w args)
      (Rows.evalFreshSpec.post enc Tryz.prog Tryz.f8 false true false false) := by
  refine returnsInHanded_of_change_and (C := Tryz.checked) (X := fun w _ => laidMetH Tryz.prog laidAll w) (fun _ _ _ hh h => h.of_heap hh) own started (by kernel_rfl) Tryz.func8
    (ChangeSpec.witness_shaped (enc := enc) (C := Tryz.checked) (os := os) (X := fun w _ => laidMetH Tryz.prog laidAll w) false (World.laidAll Tryz.prog os laidAll) #[.agg #[.int .i64 0, .int .i64 0, .slice none 0 0], .int .u32 0, .int .u32 0] 8 (World.laidAll_os _ _ _) (World.shaped_of_ZipB (by kernel_rfl) (by kernel_rfl)) (by kernel_rfl) (by kernel_rfl) (by kernel_rfl)
      (by rw [MakeChecks.laidMetH_plain _ _ _ (by kernel_rfl)]; exact laidMet_laidAll _ (by kernel_rfl) (by kernel_rfl))) ?_
  intro W base args ds gs before hval0 hW _ hWt hL _
  have hval : ∀ (j : Nat) t v, Tryz.f8.params[j]? = some t → args[j]? = some v → Value.okWide Tryz.prog W .any base t v := hval0
  have hW' := hW
  obtain ⟨p, q, hA0, hV, rfl, hfz, hnd⟩ := hW
  have hA : DataW.TrodAll enc Tryz.prog W 0 (fun _ => true) true Tryz.f8.params.toList args.toList ds p := hA0
  rw [Tryz.params8] at hA hval
  have hT := hA
  obtain ⟨v0, r0, d0, e0, p0, q0, g0, rfl, rfl, h0, t0⟩ := trodAll_cons hA
  obtain ⟨v1, r1, d1, e1, p1, q1, g1, rfl, rfl, h1, t1⟩ := trodAll_cons t0
  obtain ⟨v2, r2, d2, e2, p2, q2, g2, rfl, rfl, h2, t2⟩ := trodAll_cons t1
  obtain ⟨ga, rfl, rfl⟩ := trodAll_nil t2
  obtain ⟨rfl, rfl⟩ := trodVars_none hV
  obtain rfl : args = #[v0, v1, v2] := by
    apply Array.ext'
    simp only [g0, g1, g2, ga]
  obtain ⟨va0, vb0, ad0, cap0, rs0, f0, _, lc0, hk0, sz0⟩ := open_prog_w (hval 0 _ v0 rfl rfl) h0 (Light.arg hWt (j := 0) (t := 36) rfl rfl)
  obtain ⟨n1, f1, _, rfl, hn1⟩ := open_int (k := .u32) (by kernel_rfl) (hval 1 _ v1 rfl rfl) h1
  have bn1 := bounds_u32 hn1
  obtain ⟨n2, f2, _, rfl, hn2⟩ := open_int (k := .u32) (by kernel_rfl) (hval 2 _ v2 rfl rfl) h2
  have bn2 := bounds_u32 hn2
  clear hA0 hval0
  have hlt : ∀ x ∈ ((p0 ++ ([] ++ ([] ++ []))) : List MemPlace), x.block < W.heap.size := fun x hx => hW'.lt x (List.mem_append_left _ hx)
  have hp : PSpec Tryz.prog (fun b => W.heap[b]?) 8 [LPg va0 vb0 ad0 rs0.length cap0, .sv (.one (.val (.int .u32 n1))), .sv (.one (.val (.int .u32 n2)))] (.sv (.one (.val (.bool true)))) := by
    obtain ⟨a1, rfl⟩ : ∃ m : Nat, n1 = (m : Int) := ⟨n1.toNat, by omega⟩
    obtain ⟨a2, rfl⟩ : ∃ m : Nat, n2 = (m : Int) := ⟨n2.toNat, by omega⟩
    exact evalFresh_law _ ⟨va0, vb0, rs0⟩ ad0 cap0 a1 a2 hk0 (by show rs0.length < _; omega) sz0 (by omega) (by omega)
  have hc := law_calls (W := W) [v0, v1, v2] (by rw [f0, f1, f2]; exact hp)
  refine hc.mono fun e W' ⟨he, hB⟩ => ?_
  subst he
  refine ⟨_, rfl, _, _, _, [], (p0 ++ ([] ++ ([] ++ []))), [], hW', ?_, ?_, rfl, hB.frame _, fun h => by cases h⟩
  · exact trodAll_mk1 (shut_bool Tryz.underlying4 _)
  · exact below_trodAll laidOut hB (by kernel_rfl) hT hlt
theorem evalFresh_said : Rows.EvalFreshSaid :=
  OpenClaim.holds_of_wide 8 Tryz.f8 rfl rfl rfl rfl rfl rfl rfl ⟨rfl, rfl, rfl, rfl, rfl⟩ rfl rfl rfl rfl rfl (by kernel_rfl) Tryz.func8 (by kernel_rfl)
    (of_decide_eq_true (by kernel_rfl)) (by unfold Func.isWrapper; rw [if_neg (of_decide_eq_false (by kernel_rfl))]; exact ⟨rfl, rfl⟩)
    (fun os started H enc _ => evalFresh_lifted os started H enc)
theorem evalFresh_card : Rows.EvalFreshCardSaid :=
  Claim7.holds_tied_plain_at .later [] [.data, .pinned] true (true, Rows.evalFreshCard.stood.harness.2) false
    evalFresh_said (fun _ h => by cases h) (by kernel_rfl) (fun _ h => by cases h) evalFresh_row_tie rfl ⟨rfl, rfl⟩ (by kernel_rfl) rfl
    (fun f fn hf hfn => by
      obtain rfl : f = 8 := Option.some.inj ((show Tryz.prog.funcNamed "retrofit/retrofitlaw14.EvalFresh" = some 8 by kernel_rfl).symm.trans hf) |>.symm
      obtain rfl : fn = Tryz.f8 := (Option.some.inj (Tryz.func8.symm.trans hfn)).symm
      exact ⟨by kernel_rfl, fun j t ht => by
        have hall : (Tryz.f8.params.toList.all fun u => !Tryz.prog.wantsStandIn u) = true := by kernel_rfl
        exact (show Tryz.prog.wantsStandIn t = false by simpa using List.all_eq_true.1 hall t (Array.mem_toList_iff.2 (Array.mem_of_getElem? ht)))⟩)
    (by kernel_rfl)
#print axioms evalFresh_card
end Go.Proofs.YtopiioklkkiedaaGreatDoor
