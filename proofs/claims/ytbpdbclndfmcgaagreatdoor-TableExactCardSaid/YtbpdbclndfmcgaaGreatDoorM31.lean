/- TableExact: of every schema, set, and room, raw ones too, and row of deeds, each answer, all rows, and their bytes, are the document's (up to 30 components of 12 fields, 80 deeds of 12 parts of 100 numbers). The package variables that the row lists are laid as the start-up code lays them. -/
import Derived.Test.YtbpdbclndfmcgaaGreatDoorS3
import Derived.Test.YtbpdbclndfmcgaaGreatDoorS5
import Derived.Test.YtbpdbclndfmcgaaGreatDoorS7
import Derived.Test.YtbpdbclndfmcgaaGreatDoorS8
import Derived.Test.YtbpdbclndfmcgaaGreatDoorTie
import Derived.Test.YtbpdbclndfmcgaaGreatDoorCards
import Derived.ProofKit
import Derived.LaidMore
import Derived.OpenShut
import Derived.Stop.Joined
import Derived.Lay
import Derived.SevenTiedAt
import Derived.Test.YtbpdbclndfmcgaaGreatDoorRows
set_option maxHeartbeats 12800000
set_option maxRecDepth 100000
namespace Go.Proofs.YtbpdbclndfmcgaaGreatDoor
open Go Go.Lg Go.RowKit Go.ChangeShapes Go.WideShapes Go.Joins
set_option maxRecDepth 100000
theorem own : ownKnob Tryz.prog.godebug = none := by kernel_rfl
theorem laidOut : laidOutB Tryz.prog = true := by kernel_rfl
abbrev laidAll : List (String × DataW Unit) := [("unicode/utf8.acceptRanges", Rows.laid_unicode_utf8_acceptRanges), ("unicode/utf8.first", Rows.laid_unicode_utf8_first)]
theorem tableExact_lifted (os : Os) (started : os.Started) (H : Type) (enc : TypeId × Value → H) :
    ReturnsInHanded {} Tryz.checked os 3 .any (fun w args => (Rows.tableExactSpec.pre enc Tryz.prog Tryz.f3 [] false w args ∧ laidMetH Tryz.prog laidAll w) ∧ sizedMet enc Tryz.prog Tryz.f3 (OpenSpec.ofChange Rows.tableExactSpec) false w args)
      (Rows.tableExactSpec.post enc Tryz.prog Tryz.f3 false true false false) := by
  refine returnsInHanded_of_change_and (C := Tryz.checked) (X := fun w _ => laidMetH Tryz.prog laidAll w) (fun _ _ _ hh h => h.of_heap hh) own started V5 Tryz.func3
    (ChangeSpec.witness_shaped (enc := enc) (C := Tryz.checked) (os := os) (X := fun w _ => laidMetH Tryz.prog laidAll w) false (World.laidAll Tryz.prog os laidAll) #[.agg #[.int .i64 0, .slice none 0 0], .int .u32 0, .int .i64 0, .slice none 0 0] 8 (World.laidAll_os _ _ _) (World.shaped_of_ZipB V5 V5) V5 V5 V5
      (by rw [MakeChecks.laidMetH_plain _ _ _ V5]; exact laidMet_laidAll _ V5 V5)) ?_
  intro W base args ds gs before hval0 hW _ hWt hL _
  have hval : ∀ (j : Nat) t v, Tryz.f3.params[j]? = some t → args[j]? = some v → Value.okWide Tryz.prog W .any base t v := hval0
  have hW' := hW
  obtain ⟨p, q, hA0, hV, rfl, hfz, hnd⟩ := hW
  have hA : DataW.TrodAll enc Tryz.prog W 0 (fun _ => true) true Tryz.f3.params.toList args.toList ds p := hA0
  rw [Tryz.params3] at hA hval
  have hT := hA
  obtain ⟨v0, r0, d0, e0, p0, q0, g0, rfl, rfl, h0, t0⟩ := trodAll_cons hA
  obtain ⟨v1, r1, d1, e1, p1, q1, g1, rfl, rfl, h1, t1⟩ := trodAll_cons t0
  obtain ⟨v2, r2, d2, e2, p2, q2, g2, rfl, rfl, h2, t2⟩ := trodAll_cons t1
  obtain ⟨v3, r3, d3, e3, p3, q3, g3, rfl, rfl, h3, t3⟩ := trodAll_cons t2
  obtain ⟨ga, rfl, rfl⟩ := trodAll_nil t3
  obtain ⟨rfl, rfl⟩ := trodVars_none hV
  obtain rfl : args = #[v0, v1, v2, v3] := by
    apply Array.ext'
    simp only [g0, g1, g2, g3, ga]
  obtain ⟨vr0, ad0, cap0, sc0, f0, lc0, hk0, hm0⟩ := open_schema_n (hval 0 _ v0 rfl rfl) h0
  obtain ⟨n1, f1, _, rfl, hn1⟩ := open_int (k := .u32) V5 (hval 1 _ v1 rfl rfl) h1
  have bn1 := bounds_u32 hn1
  obtain ⟨n2, f2, _, rfl, hn2⟩ := open_int (k := .i64) V5 (hval 2 _ v2 rfl rfl) h2
  have bn2 := bounds_i64 hn2
  obtain ⟨ad3, cap3, ls3, f3, lc3, hk3⟩ := open_acts16 (hval 3 _ v3 rfl rfl) h3 (Light.arg hWt (j := 3) (t := 26) rfl rfl)
  clear hA0 hval0
  have hlt : ∀ x ∈ ((p0 ++ ([] ++ ([] ++ (p3 ++ [])))) : List MemPlace), x.block < W.heap.size := fun x hx => hW'.lt x (List.mem_append_left _ hx)
  have hp : PSpec Tryz.prog (fun b => W.heap[b]?) 3 [Sx vr0 ad0 sc0.length cap0, .sv (.one (.val (.int .u32 n1))), .sv (.one (.val (.int .i64 n2))), .sv (.one (.val (.slice ad3 ls3.length cap3)))] (.sv (.one (.val (.bool true)))) := by
    obtain ⟨a1, rfl⟩ : ∃ m : Nat, n1 = (m : Int) := ⟨n1.toNat, by omega⟩
    exact tableExact_law _ ⟨vr0, sc0⟩ a1 n2 ls3 ad0 ad3 cap0 cap3 hk0 hm0 V3 hk3 V3
  have hc := law_calls (W := W) [v0, v1, v2, v3] (by rw [f0, f1, f2, f3]; exact hp)
  refine hc.mono fun e W' ⟨he, hB⟩ => ?_
  subst he
  refine ⟨_, rfl, _, _, _, [], (p0 ++ ([] ++ ([] ++ (p3 ++ [])))), [], hW', ?_, ?_, rfl, hB.frame _, fun h => by cases h⟩
  · exact trodAll_mk1 (shut_bool Tryz.underlying4 _)
  · exact below_trodAll laidOut hB V5 hT hlt
theorem tableExact_said : Rows.TableExactSaid :=
  OpenClaim.holds_of_wide 3 Tryz.f3 rfl rfl rfl rfl rfl rfl rfl ⟨rfl, rfl, rfl, rfl, rfl⟩ rfl rfl rfl rfl rfl V5 Tryz.func3 V5
    (of_decide_eq_true V5) (by unfold Func.isWrapper; rw [if_neg (of_decide_eq_false V5)]; exact ⟨rfl, rfl⟩)
    (fun os started H enc _ => tableExact_lifted os started H enc)
theorem tableExact_card : Rows.TableExactCardSaid :=
  Claim7.holds_tied_plain_at .later [] [.data, .pinned] true (true, Rows.tableExactCard.stood.harness.2) false
    tableExact_said (fun _ h => by cases h) V5 (fun _ h => by cases h) tableExact_row_tie rfl ⟨rfl, rfl⟩ V5 rfl
    (fun f fn hf hfn => by
      obtain rfl : f = 3 := Option.some.inj ((show Tryz.prog.funcNamed "retrofit/retrofitlaw16.TableExact" = some 3 by kernel_rfl).symm.trans hf) |>.symm
      obtain rfl : fn = Tryz.f3 := (Option.some.inj (Tryz.func3.symm.trans hfn)).symm
      exact ⟨by kernel_rfl, fun j t ht => by
        have hall : (Tryz.f3.params.toList.all fun u => !Tryz.prog.wantsStandIn u) = true := by kernel_rfl
        exact (show Tryz.prog.wantsStandIn t = false by simpa using List.all_eq_true.1 hall t (Array.mem_toList_iff.2 (Array.mem_of_getElem? ht)))⟩)
    V5
#print axioms tableExact_card
end Go.Proofs.YtbpdbclndfmcgaaGreatDoor
