/- For every number (in form or not), every text, every int and every word, the statement on texts answers true: Parse and Text answer as the reference does, Small tells the ints, Of, OfWord and Sign answer for an int and a word as the statement asks; the conditions are those of the given row and card, none of our own. -/
import Derived.Test.YtmimcmdeaenblaaDoorW20
import Derived.Carry
import Derived.ChangeMaps5
import Derived.Test.YtmimcmdeaenblaaDoorW45
namespace Go.Proofs.YtmimcmdeaenblaaDoor
open Go Go.Lg Go.RowKit Go.ChangeShapes Go.WideShapes Go.Joins
set_option maxRecDepth 100000
theorem texts_lifted (os : Os) (started : os.Started) (H : Type) (enc : TypeId × Value → H) :
    ReturnsInHanded {} Tryd.checked os 4 .any (fun w args => (Rows.wideTextsSpec.pre enc Tryd.prog Tryd.f4 [] false w args ∧ laidMetH Tryd.prog laidAll w) ∧ sizedMet enc Tryd.prog Tryd.f4 (OpenSpec.ofChange Rows.wideTextsSpec) false w args)
      (Rows.wideTextsSpec.post enc Tryd.prog Tryd.f4 false true false false) := by
  refine returnsInHanded_of_change_and (C := Tryd.checked) (X := fun w _ => laidMetH Tryd.prog laidAll w) (fun _ _ _ hh h => h.of_heap hh) own started (by kernel_rfl) Tryd.func4
    (ChangeSpec.witness_shaped (enc := enc) (C := Tryd.checked) (os := os) (X := fun w _ => laidMetH Tryd.prog laidAll w) false (World.doorLaid Tryd.prog 400 os) #[.agg #[.bool false, .int .u64 0, .int .u64 0], .string ⟨#[]⟩, .int .i64 0, .int .u64 0] 8 rfl (World.shaped_of_RefB (by kernel_rfl) (by kernel_rfl)) (by kernel_rfl) (by kernel_rfl) (by kernel_rfl) (door_met os _)) ?_
  intro W base args ds gs before hval0 hW _ _ hL _
  have hval : ∀ (j : Nat) t v, Tryd.f4.params[j]? = some t → args[j]? = some v → Value.okWide Tryd.prog W .any base t v := hval0
  have hW' := hW
  obtain ⟨p, q, hA0, hV, rfl, hfz, hnd⟩ := hW
  have hA : DataW.TrodAll enc Tryd.prog W 0 (fun _ => true) true Tryd.f4.params.toList args.toList ds p := hA0
  rw [Tryd.params4] at hA hval
  obtain ⟨v0, v1, v2, v3, d0, d1, d2, d3, p0, p1, p2, p3, rfl, rfl, rfl, h0, h1, h2, h3⟩ := trodAll_four hA
  obtain ⟨rfl, rfl⟩ := trodVars_none hV
  obtain ⟨a, M, hM, e0, f0, rfl, s0⟩ := openI (hval 0 _ v0 rfl rfl) h0
  obtain ⟨sb, e1, f1, rfl, hsb⟩ := Go.ChangeMaps.open_string (by kernel_rfl) (hval 1 _ v1 rfl rfl) h1
  obtain ⟨n, e2, f2, rfl, hn⟩ := open_int (k := .i64) (by kernel_rfl) (hval 2 _ v2 rfl rfl) h2
  obtain ⟨u, e3, f3, rfl, hu⟩ := open_int (k := .u64) (by kernel_rfl) (hval 3 _ v3 rfl rfl) h3
  have bn := bounds_i64 hn
  clear hA0 hval0
  simp only [List.append_nil] at hW'
  have hT := xtab (tab_of_laid hL)
  have hp : PSpec Tryd.prog (fun b => W.heap[b]?) 4 [LI a M, Ls sb.data.toList, Ln .i64 n, Ln .u64 u] (Lb true) := by
    exact texts_spec _ hT _ _ hM _ _ _ (by omega)
  have hc := law_calls (W := W) [v0, v1, v2, v3] (by rw [e0, e1, e2, e3]; exact hp)
  refine hc.mono fun e W' ⟨he, hB⟩ => ?_
  subst he
  refine ⟨_, rfl, _, _, _, [], [], [], hW', ?_, ?_, rfl, hB.frame _, fun h => by cases h⟩
  · exact trodAll_mk1 (shut_bool Tryd.underlying4 _)
  · rw [e1, e2, e3, f1, f2, f3]
    exact trodAll_mk4 (s0 _ _ _ _) (Go.ChangeMaps.shut_string (by kernel_rfl) hsb) (shut_int (by kernel_rfl) hn) (shut_int (by kernel_rfl) hu)
theorem texts_said : Rows.WideTextsSaid :=
  OpenClaim.holds_of_wide 4 Tryd.f4 rfl rfl rfl rfl rfl rfl rfl ⟨rfl, rfl, rfl, rfl, rfl⟩ rfl rfl rfl rfl rfl (by kernel_rfl) Tryd.func4 (by kernel_rfl)
    (of_decide_eq_true (by kernel_rfl)) (by unfold Func.isWrapper; rw [if_neg (of_decide_eq_false (by kernel_rfl))]; exact ⟨rfl, rfl⟩)
    (fun os started H enc _ => texts_lifted os started H enc)
theorem texts_card : Rows.WideTextsCardSaid :=
  Claim7.holds_tied_plain_at .later [] [.data, .data, .data] true (true, Rows.wideTextsCard.stood.harness.2) false
    texts_said (fun _ h => by cases h) (by kernel_rfl) (fun _ h => by cases h) wideTexts_row_tie rfl ⟨rfl, rfl⟩ (by kernel_rfl) rfl
    (fun f fn hf hfn => by
      obtain rfl : f = 4 := Option.some.inj ((show Tryd.prog.funcNamed "retrofit/retrofitlaw01.WideTexts" = some 4 by kernel_rfl).symm.trans hf) |>.symm
      obtain rfl : fn = Tryd.f4 := (Option.some.inj (Tryd.func4.symm.trans hfn)).symm
      exact ⟨by kernel_rfl, fun j t ht => by
        rw [Tryd.params4] at ht
        have hm : t ∈ [24, 9, 3, 22] := by simpa using Array.mem_of_getElem? ht
        have hall : ([24, 9, 3, 22].all fun u => !Tryd.prog.wantsStandIn u) = true := by kernel_rfl
        exact (show Tryd.prog.wantsStandIn t = false by simpa using List.all_eq_true.1 hall t hm)⟩)
    (by kernel_rfl)
#print axioms texts_card
end Go.Proofs.YtmimcmdeaenblaaDoor
