/- The law LayoutBack answers true for every list of fields, two lists of numbers and text, and changes nothing that it is handed: what was packed is unpacked as it was, and the other way around. Conditions: the package variables that the row lists stand as the program's text lays them (the card ties them). -/
import Derived.Test.YtfmadklfcoebhaaDoorP2
import Derived.Test.YtfmadklfcoebhaaDoorP5
import Derived.Test.YtfmadklfcoebhaaDoorP6
import Derived.Test.YtfmadklfcoebhaaDoorTie
import Derived.Test.YtfmadklfcoebhaaDoorCards
import Derived.ProofKit
import Derived.LaidMore
import Derived.OpenShut
import Derived.Stop.Joined
import Derived.Lay
import Derived.SevenTiedAt
import Derived.Test.YtfmadklfcoebhaaDoorRows
namespace Go.Proofs.YtfmadklfcoebhaaDoor
open Go Go.Lg Go.RowKit Go.ChangeShapes Go.WideShapes Go.Joins
set_option maxRecDepth 100000
theorem own : ownKnob Tryd.prog.godebug = none := by kernel_rfl
theorem laidOut : laidOutB Tryd.prog = true := by kernel_rfl
abbrev laidAll : List (String × DataW Unit) := [("unicode/utf8.acceptRanges", Rows.laid_unicode_utf8_acceptRanges), ("unicode/utf8.first", Rows.laid_unicode_utf8_first)]
theorem layoutBack_lifted (os : Os) (started : os.Started) (H : Type) (enc : TypeId × Value → H) :
    ReturnsInHanded {} Tryd.checked os 5 .any (fun w args => (Rows.layoutBackSpec.pre enc Tryd.prog Tryd.f5 [] false w args ∧ laidMetH Tryd.prog laidAll w) ∧ sizedMet enc Tryd.prog Tryd.f5 (OpenSpec.ofChange Rows.layoutBackSpec) false w args)
      (Rows.layoutBackSpec.post enc Tryd.prog Tryd.f5 false true false false) := by
  refine returnsInHanded_of_change_and (C := Tryd.checked) (X := fun w _ => laidMetH Tryd.prog laidAll w) (fun _ _ _ hh h => h.of_heap hh) own started (by kernel_rfl) Tryd.func5
    (ChangeSpec.witness_shaped (enc := enc) (C := Tryd.checked) (os := os) (X := fun w _ => laidMetH Tryd.prog laidAll w) false (World.laidAll Tryd.prog os laidAll) #[.slice none 0 0, .slice none 0 0, .slice none 0 0, .string ⟨#[]⟩] 8 (World.laidAll_os _ _ _) (World.shaped_of_ZipB (by kernel_rfl) (by kernel_rfl)) (by kernel_rfl) (by kernel_rfl) (by kernel_rfl)
      (by rw [MakeChecks.laidMetH_plain _ _ _ (by kernel_rfl)]; exact laidMet_laidAll _ (by kernel_rfl) (by kernel_rfl))) ?_
  intro W base args ds gs before hval0 hW _ hWt hL _
  have hval : ∀ (j : Nat) t v, Tryd.f5.params[j]? = some t → args[j]? = some v → Value.okWide Tryd.prog W .any base t v := hval0
  have hW' := hW
  obtain ⟨p, q, hA0, hV, rfl, hfz, hnd⟩ := hW
  have hA : DataW.TrodAll enc Tryd.prog W 0 (fun _ => true) true Tryd.f5.params.toList args.toList ds p := hA0
  rw [Tryd.params5] at hA hval
  have hT := hA
  obtain ⟨v0, r0, d0, e0, p0, q0, g0, rfl, rfl, h0, t0⟩ := trodAll_cons hA
  obtain ⟨v1, r1, d1, e1, p1, q1, g1, rfl, rfl, h1, t1⟩ := trodAll_cons t0
  obtain ⟨v2, r2, d2, e2, p2, q2, g2, rfl, rfl, h2, t2⟩ := trodAll_cons t1
  obtain ⟨v3, r3, d3, e3, p3, q3, g3, rfl, rfl, h3, t3⟩ := trodAll_cons t2
  obtain ⟨ga, rfl, rfl⟩ := trodAll_nil t3
  obtain ⟨rfl, rfl⟩ := trodVars_none hV
  obtain rfl : args = #[v0, v1, v2, v3] := by
    apply Array.ext'
    simp only [g0, g1, g2, g3, ga]
  obtain ⟨ad0, cap0, ls0, f0, lc0, mc0, hk0, sz0⟩ := open_fields (hval 0 _ v0 rfl rfl) h0
  obtain ⟨ad1, cap1, ls1, f1, lc1, mc1, hk1, sz1⟩ := open_nums (hval 1 _ v1 rfl rfl) h1
  obtain ⟨ad2, cap2, ls2, f2, lc2, mc2, hk2, sz2⟩ := open_nums (hval 2 _ v2 rfl rfl) h2
  obtain ⟨sb3, f3, _, rfl, hs3⟩ := Go.ChangeMaps.open_string (by kernel_rfl) (hval 3 _ v3 rfl rfl) h3
  clear hA0 hval0
  have hlt : ∀ x ∈ ((p0 ++ (p1 ++ (p2 ++ ([] ++ [])))) : List MemPlace), x.block < W.heap.size := fun x hx => hW'.lt x (List.mem_append_left _ hx)
  have hp : PSpec Tryd.prog (fun b => W.heap[b]?) 5 [Lx ad0 ls0.length cap0, Lx ad1 ls1.length cap1, Lx ad2 ls2.length cap2, .sv (.one (.val (.string ⟨sb3.data.toList.toArray⟩)))] (.sv (.one (.val (.bool true)))) := by
    exact lback_law _ _ _ _ _ _ _ _ _ _ _ hk0 hk1 hk2
  have hc := law_calls (W := W) [v0, v1, v2, v3] (by rw [f0, f1, f2, f3]; exact hp)
  refine hc.mono fun e W' ⟨he, hB⟩ => ?_
  subst he
  refine ⟨_, rfl, _, _, _, [], (p0 ++ (p1 ++ (p2 ++ ([] ++ [])))), [], hW', ?_, ?_, rfl, hB.frame _, fun h => by cases h⟩
  · exact trodAll_mk1 (shut_bool Tryd.underlying4 _)
  · exact below_trodAll laidOut hB (by kernel_rfl) hT hlt
theorem layoutBack_said : Rows.LayoutBackSaid :=
  OpenClaim.holds_of_wide 5 Tryd.f5 rfl rfl rfl rfl rfl rfl rfl ⟨rfl, rfl, rfl, rfl, rfl⟩ rfl rfl rfl rfl rfl (by kernel_rfl) Tryd.func5 (by kernel_rfl)
    (of_decide_eq_true (by kernel_rfl)) (by unfold Func.isWrapper; rw [if_neg (of_decide_eq_false (by kernel_rfl))]; exact ⟨rfl, rfl⟩)
    (fun os started H enc _ => layoutBack_lifted os started H enc)
theorem layoutBack_card : Rows.LayoutBackCardSaid :=
  Claim7.holds_tied_plain_at .later [] [.data, .pinned] true (true, Rows.layoutBackCard.stood.harness.2) false
    layoutBack_said (fun _ h => by cases h) (by kernel_rfl) (fun _ h => by cases h) layoutBack_row_tie rfl ⟨rfl, rfl⟩ (by kernel_rfl) rfl
    (fun f fn hf hfn => by
      obtain rfl : f = 5 := Option.some.inj ((show Tryd.prog.funcNamed "retrofit/retrofitlaw05.LayoutBack" = some 5 by kernel_rfl).symm.trans hf) |>.symm
      obtain rfl : fn = Tryd.f5 := (Option.some.inj (Tryd.func5.symm.trans hfn)).symm
      exact ⟨by kernel_rfl, fun j t ht => by
        have hall : (Tryd.f5.params.toList.all fun u => !Tryd.prog.wantsStandIn u) = true := by kernel_rfl
        exact (show Tryd.prog.wantsStandIn t = false by simpa using List.all_eq_true.1 hall t (Array.mem_toList_iff.2 (Array.mem_of_getElem? ht)))⟩)
    (by kernel_rfl)
#print axioms layoutBack_card
end Go.Proofs.YtfmadklfcoebhaaDoor
