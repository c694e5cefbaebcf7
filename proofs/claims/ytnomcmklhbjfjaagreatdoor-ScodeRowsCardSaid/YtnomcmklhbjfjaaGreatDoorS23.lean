/- The law ScodeRows answers true for every schema, parts and byte, and changes nothing that it is handed: parts that were encoded are decoded as they were, a byte more or less is refused. Conditions: the package variables that the row lists stand as the program's text lays them (the card ties them). -/
import Derived.Test.YtnomcmklhbjfjaaGreatDoorP2
import Derived.Test.YtnomcmklhbjfjaaGreatDoorP5
import Derived.Test.YtnomcmklhbjfjaaGreatDoorP9
import Derived.Test.YtnomcmklhbjfjaaGreatDoorTie
import Derived.Test.YtnomcmklhbjfjaaGreatDoorCards
import Derived.ProofKit
import Derived.LaidMore
import Derived.OpenShut
import Derived.Stop.Joined
import Derived.Lay
import Derived.SevenTiedAt
import Derived.Test.YtnomcmklhbjfjaaGreatDoorRows
namespace Go.Proofs.YtnomcmklhbjfjaaGreatDoor
open Go Go.Lg Go.RowKit Go.ChangeShapes Go.WideShapes Go.Joins
set_option maxRecDepth 100000
theorem own : ownKnob Tryz.prog.godebug = none := by kernel_rfl
theorem laidOut : laidOutB Tryz.prog = true := by kernel_rfl
abbrev laidAll : List (String × DataW Unit) := [("unicode/utf8.acceptRanges", Rows.laid_unicode_utf8_acceptRanges), ("unicode/utf8.first", Rows.laid_unicode_utf8_first)]
theorem scodeRows_lifted (os : Os) (started : os.Started) (H : Type) (enc : TypeId × Value → H) :
    ReturnsInHanded {} Tryz.checked os 6 .any (fun w args => (Rows.scodeRowsSpec.pre enc Tryz.prog Tryz.f6 [] false w args ∧ laidMetH Tryz.prog laidAll w) ∧ sizedMet enc Tryz.prog Tryz.f6 (OpenSpec.ofChange Rows.scodeRowsSpec) false w args)
      (Rows.scodeRowsSpec.post enc Tryz.prog Tryz.f6 false true false false) := by
  refine returnsInHanded_of_change_and (C := Tryz.checked) (X := fun w _ => laidMetH Tryz.prog laidAll w) (fun _ _ _ hh h => h.of_heap hh) own started (by kernel_rfl) Tryz.func6
    (ChangeSpec.witness_shaped (enc := enc) (C := Tryz.checked) (os := os) (X := fun w _ => laidMetH Tryz.prog laidAll w) false (World.laidAll Tryz.prog os laidAll) #[.agg #[.int .i64 0, .slice none 0 0], .slice none 0 0, .int .u8 0] 8 (World.laidAll_os _ _ _) (World.shaped_of_ZipB (by kernel_rfl) (by kernel_rfl)) (by kernel_rfl) (by kernel_rfl) (by kernel_rfl)
      (by rw [MakeChecks.laidMetH_plain _ _ _ (by kernel_rfl)]; exact laidMet_laidAll _ (by kernel_rfl) (by kernel_rfl))) ?_
  intro W base args ds gs before hval0 hW _ hWt hL _
  have hval : ∀ (j : Nat) t v, Tryz.f6.params[j]? = some t → args[j]? = some v → Value.okWide Tryz.prog W .any base t v := hval0
  have hW' := hW
  obtain ⟨p, q, hA0, hV, rfl, hfz, hnd⟩ := hW
  have hA : DataW.TrodAll enc Tryz.prog W 0 (fun _ => true) true Tryz.f6.params.toList args.toList ds p := hA0
  rw [Tryz.params6] at hA hval
  have hT := hA
  obtain ⟨v0, r0, d0, e0, p0, q0, g0, rfl, rfl, h0, t0⟩ := trodAll_cons hA
  obtain ⟨v1, r1, d1, e1, p1, q1, g1, rfl, rfl, h1, t1⟩ := trodAll_cons t0
  obtain ⟨v2, r2, d2, e2, p2, q2, g2, rfl, rfl, h2, t2⟩ := trodAll_cons t1
  obtain ⟨ga, rfl, rfl⟩ := trodAll_nil t2
  obtain ⟨rfl, rfl⟩ := trodVars_none hV
  obtain rfl : args = #[v0, v1, v2] := by
    apply Array.ext'
    simp only [g0, g1, g2, ga]
  obtain ⟨vr0, ad0, cap0, sc0, f0, lc0, hk0⟩ := open_schema (hval 0 _ v0 rfl rfl) h0
  obtain ⟨ad1, cap1, ps1, f1, lc1, hk1⟩ := open_parts (hval 1 _ v1 rfl rfl) h1
  obtain ⟨n2, f2, _, rfl, hn2⟩ := open_int (k := .u8) (by kernel_rfl) (hval 2 _ v2 rfl rfl) h2
  obtain ⟨c2, rfl⟩ := u8_arg hn2
  clear hA0 hval0
  have hlt : ∀ x ∈ ((p0 ++ (p1 ++ ([] ++ []))) : List MemPlace), x.block < W.heap.size := fun x hx => hW'.lt x (List.mem_append_left _ hx)
  have hp : PSpec Tryz.prog (fun b => W.heap[b]?) 6 [Sx vr0 ad0 sc0.length cap0, Lx ad1 ps1.length cap1, .sv (.one (.val (.int .u8 (c2.toNat : Nat))))] (.sv (.one (.val (.bool true)))) := by
    exact ScodeRows_spec _ ⟨vr0, sc0⟩ ad0 ad1 cap0 cap1 ps1 c2 hk0 hk1
  have hc := law_calls (W := W) [v0, v1, v2] (by rw [f0, f1, f2]; exact hp)
  refine hc.mono fun e W' ⟨he, hB⟩ => ?_
  subst he
  refine ⟨_, rfl, _, _, _, [], (p0 ++ (p1 ++ ([] ++ []))), [], hW', ?_, ?_, rfl, hB.frame _, fun h => by cases h⟩
  · exact trodAll_mk1 (shut_bool Tryz.underlying4 _)
  · exact below_trodAll laidOut hB (by kernel_rfl) hT hlt
theorem scodeRows_said : Rows.ScodeRowsSaid :=
  OpenClaim.holds_of_wide 6 Tryz.f6 rfl rfl rfl rfl rfl rfl rfl ⟨rfl, rfl, rfl, rfl, rfl⟩ rfl rfl rfl rfl rfl (by kernel_rfl) Tryz.func6 (by kernel_rfl)
    (of_decide_eq_true (by kernel_rfl)) (by unfold Func.isWrapper; rw [if_neg (of_decide_eq_false (by kernel_rfl))]; exact ⟨rfl, rfl⟩)
    (fun os started H enc _ => scodeRows_lifted os started H enc)
theorem scodeRows_card : Rows.ScodeRowsCardSaid :=
  Claim7.holds_tied_plain_at .later [] [.data, .pinned] true (true, Rows.scodeRowsCard.stood.harness.2) false
    scodeRows_said (fun _ h => by cases h) (by kernel_rfl) (fun _ h => by cases h) scodeRows_row_tie rfl ⟨rfl, rfl⟩ (by kernel_rfl) rfl
    (fun f fn hf hfn => by
      obtain rfl : f = 6 := Option.some.inj ((show Tryz.prog.funcNamed "retrofit/retrofitlaw08.ScodeRows" = some 6 by kernel_rfl).symm.trans hf) |>.symm
      obtain rfl : fn = Tryz.f6 := (Option.some.inj (Tryz.func6.symm.trans hfn)).symm
      exact ⟨by kernel_rfl, fun j t ht => by
        have hall : (Tryz.f6.params.toList.all fun u => !Tryz.prog.wantsStandIn u) = true := by kernel_rfl
        exact (show Tryz.prog.wantsStandIn t = false by simpa using List.all_eq_true.1 hall t (Array.mem_toList_iff.2 (Array.mem_of_getElem? ht)))⟩)
    (by kernel_rfl)
#print axioms scodeRows_card
end Go.Proofs.YtnomcmklhbjfjaaGreatDoor
