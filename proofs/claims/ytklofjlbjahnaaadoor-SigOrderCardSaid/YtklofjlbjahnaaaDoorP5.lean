/- A piece of a proof over this program: contracts of its functions, and a logic to prove them by. -/
import Derived.Test.YtklofjlbjahnaaaDoorP4
section
namespace Go.Lg.Sg
open Go Go.Lg Go.Lg.Fld
theorem pts_len (l : List Int) : (ptsV l).length = l.length * 2 := by
  unfold ptsV
  induction l with
  | nil => rfl
  | cons x t ih => rw [List.map_cons, List.flatten_cons, List.length_append, ih, List.length_cons]; simp; omega
theorem pts_snoc (l : List Int) (x : Int) : ptsV (l ++ [x]) = ptsV l ++ [.int .i64 x, .slice none 0 0] := by
  unfold ptsV
  rw [List.map_append, List.flatten_append]
  rfl
theorem prE_cases (ids : List Int) : (okIds ids = true ∧ twiceTo ids ids.length = true ∧ prE ids = 7 ∧ prN ids = 0) ∨ (okIds ids = true ∧ twiceTo ids ids.length = false ∧ prE ids = 0 ∧ prN ids = ofA ids) ∨ (okIds ids = false ∧ prE ids = 1 ∧ prN ids = 0) := by
  unfold prN prE ofA
  cases h : okIds ids <;> cases h2 : twiceTo ids ids.length <;> simp
end Go.Lg.Sg
namespace Go.Proofs.YtklofjlbjahnaaaDoor
open Go Go.Lg Go.Lg.Fld Go.Lg.Sg
set_option maxRecDepth 100000
variable (X : Nat → Option Obj)
set_option maxHeartbeats 6400000 in
theorem SigTexts_spec (a : Nat) (ids : List Int) (ad : Option Addr) (cap : Nat) (s : List UInt8) (ha : a < 4294967296) (hin : NuIn X ad ids) (hcap : ids.length ≤ cap) (hr : ∀ id ∈ ids, -9223372036854775808 ≤ id ∧ id < 9223372036854775808) :
    PSpec Tryd.prog X 4 [Ln .u32 (a : Nat), Vn ad ids.length cap, Ls s] (Lb true) := by
  have hW := awake10_spec X
  refine PSpec.intro Tryd.func4 rfl (by kernel_rfl) rfl rfl ?_
  intro C
  have hlen : (⟨s.toArray⟩ : ByteArray).size = s.length := rfl
  by_cases h40 : 40 < ids.length
  · (refine LWP.seq <| LWP.region (by kernel_rfl) <| kas rfl <| RunK.nil <| LWP.seq <| LWP.seq <| LWP.region (by kernel_rfl) <| kca rfl rfl (hW) <| K.not rfl rfl .plain <| RunK.nil <| LWP.condF rfl ?_; refine LWP.skip ?_; refine LWP.seq <| LWP.seq <| LWP.region (by kernel_rfl) <| kmv rfl <| K.lenX rfl SliceT.h rfl .plain ?_; refine K.gtr rfl rfl (decide_eq_true (by omega)) .plain <| kmv rfl <| RunK.passed rfl rfl rfl <| RunK.passed rfl rfl rfl <| RunK.passed rfl rfl rfl <| kpt rfl rfl <| RunK.nil <| LWP.condT rfl ?_; refine LWP.seq <| LWP.region (by kernel_rfl) <| kas rfl <| RunK.nil <| LWP.ret ?_)
    exact ⟨[_], ⟨rfl, trivial⟩, rfl⟩
  by_cases h100 : 100 < s.length
  · (refine LWP.seq <| LWP.region (by kernel_rfl) <| kas rfl <| RunK.nil <| LWP.seq <| LWP.seq <| LWP.region (by kernel_rfl) <| kca rfl rfl (hW) <| K.not rfl rfl .plain <| RunK.nil <| LWP.condF rfl ?_; refine LWP.skip ?_; refine LWP.seq <| LWP.seq <| LWP.region (by kernel_rfl) <| kmv rfl <| K.lenX rfl SliceT.h rfl .plain ?_; refine K.gtr rfl rfl (decide_eq_false (by omega)) .plain <| kmv rfl <| gmv rfl rfl rfl <| K.lenStr rfl (.taken rfl rfl) ?_; refine K.gtr rfl rfl (decide_eq_true (by rw [hlen]; omega)) (.taken rfl rfl) ?_; refine kpf rfl rfl <| RunK.nil <| LWP.condT rfl ?_; refine LWP.seq <| LWP.region (by kernel_rfl) <| kas rfl <| RunK.nil <| LWP.ret ?_)
    exact ⟨[_], ⟨rfl, trivial⟩, rfl⟩
  have o1 := sgOf_spec X ids ad cap hin (by omega)
  have o2 := gOf X ids ad cap hin (by omega)
  (refine LWP.seq <| LWP.region (by kernel_rfl) <| kas rfl <| RunK.nil <| LWP.seq <| LWP.seq <| LWP.region (by kernel_rfl) <| kca rfl rfl (hW) <| K.not rfl rfl .plain <| RunK.nil <| LWP.condF rfl ?_; refine LWP.skip ?_; refine LWP.seq <| LWP.seq <| LWP.region (by kernel_rfl) <| kmv rfl <| K.lenX rfl SliceT.h rfl .plain ?_; refine K.gtr rfl rfl (decide_eq_false (by omega)) .plain <| kmv rfl <| gmv rfl rfl rfl <| K.lenStr rfl (.taken rfl rfl) ?_; refine K.gtr rfl rfl (decide_eq_false (by rw [hlen]; omega)) (.taken rfl rfl) ?_; refine kpf rfl rfl <| RunK.nil <| LWP.condF rfl ?_; refine LWP.skip ?_; refine LWP.seq <| LWP.region (by kernel_rfl) <| kmv rfl <| kca rfl rfl o1 <| kmv rfl <| kex rfl rfl <| kex rfl rfl <| kas rfl <| kas rfl <| RunK.nil <| LWP.seq <| LWP.region (by kernel_rfl) <| kmv rfl <| kca rfl rfl o2 ?_; refine kmv rfl <| kex rfl rfl <| kex rfl rfl <| kas rfl <| kas rfl <| RunK.nil <| LWP.seq <| LWP.seq ?_)
  repeat refine LWP.seq ?_
  refine LWP.cut (fun σ => σ = (⟨[(0, Ln .u32 (a : Nat)), (1, Vn ad ids.length cap), (2, Ls s), (7, Ln .u32 (ofA ids : Nat)), (8, Lb (okIds ids))], [], X⟩ : St)) ?_ ?_
  · have hE : ofE ids = if okIds ids = true then 0 else 1 := rfl
    cases hok : okIds ids with
    | true =>
      rw [hok, if_pos rfl] at hE
      rw [hE]
      (refine LWP.region (by kernel_rfl) <| kmv rfl <| kmv rfl <| kne rfl rfl (r := false) (by simp) <| kmv rfl <| gmv rfl rfl rfl <| gmv rfl rfl rfl <| K.eql rfl rfl (r := true) rfl (.taken rfl rfl) ?_; refine K.neqB rfl rfl (r := false) rfl (.taken rfl rfl) ?_; refine kpf rfl rfl <| kmv rfl <| gmv rfl rfl rfl <| K.not rfl rfl (.taken rfl rfl) ?_; refine gmv rfl rfl rfl <| RunK.passed rfl rfl rfl <| RunK.passed rfl rfl rfl <| K.pickF rfl rfl (.taken rfl rfl) ?_; refine kpf rfl rfl <| RunK.nil <| LWP.condF rfl ?_; refine LWP.skip ?_)
      exact ⟨_, Le.of (by exact ⟨rfl, rfl, rfl, rfl, rfl, trivial⟩) (by exact trivial) (by exact rfl) (by exact rfl) (by repeat' (first | refine all_cons_true ?_ ?_ | rfl | exact bytes_inUse | exact vals_inUse | exact mid_inUse rfl)), rfl⟩
    | false =>
      rw [hok, if_neg (by decide)] at hE
      rw [hE]
      (refine LWP.region (by kernel_rfl) <| kmv rfl <| kmv rfl <| kne rfl rfl (r := false) (by simp) <| kmv rfl <| gmv rfl rfl rfl <| gmv rfl rfl rfl <| K.eql rfl rfl (r := false) rfl (.taken rfl rfl) ?_; refine K.neqB rfl rfl (r := false) rfl (.taken rfl rfl) ?_; refine kpf rfl rfl <| kmv rfl <| gmv rfl rfl rfl <| K.not rfl rfl (.taken rfl rfl) ?_; refine gmv rfl rfl rfl <| gmv rfl rfl rfl <| K.neq rfl rfl (r := false) rfl (.taken rfl rfl) ?_; refine K.pickT rfl rfl (.taken rfl rfl) ?_; refine kpf rfl rfl <| RunK.nil <| LWP.condF rfl ?_; refine LWP.skip ?_)
      exact ⟨_, Le.of (by exact ⟨rfl, rfl, rfl, rfl, rfl, trivial⟩) (by exact trivial) (by exact rfl) (by exact rfl) (by repeat' (first | refine all_cons_true ?_ ?_ | rfl | exact bytes_inUse | exact vals_inUse | exact mid_inUse rfl)), rfl⟩
  rintro σ rfl
  have hpl : ∀ l : List Int, ((ptsV l).map CV.val).length = l.length * 2 := fun l => by rw [List.length_map, pts_len]
  (refine LWP.seq <| LWP.region (by kernel_rfl) <| K.buildSlc (zs := []) (sz := 2) (e := 45) (by kernel_rfl) rfl rfl rfl rfl rfl rfl .plain <| kas rfl <| RunK.nil <| LWP.seq <| LWP.region (by kernel_rfl) <| kas rfl <| RunK.nil <| LWP.seq <| LWP.seq <| LWP.region (by kernel_rfl) <| kas rfl <| RunK.nil ?_; refine LWP.block ?_)
  refine LWP.loop (fun m σ => ∃ (i : Nat) (r : Bool), i ≤ ids.length ∧ m = ids.length - i ∧ σ = (⟨[(0, Ln .u32 (a : Nat)), (1, Vn ad ids.length cap), (2, Ls s), (7, Ln .u32 (ofA ids : Nat)), (8, Lb (okIds ids)), (11, .sv (.one (.slc 500 0 (i) 2))), (12, Lb (twiceTo ids i)), (13, Ln .i64 (i : Nat))], [(500, some ⟨45, (ptsV (ids.take i)).map .val, r⟩)], X⟩ : St)) ids.length
    ⟨(⟨[(0, Ln .u32 (a : Nat)), (1, Vn ad ids.length cap), (2, Ls s), (7, Ln .u32 (ofA ids : Nat)), (8, Lb (okIds ids)), (11, .sv (.one (.slc 500 0 (0) 2))), (12, Lb (false)), (13, Ln .i64 (0 : Nat))], [(500, some ⟨45, (ptsV ([])).map .val, false⟩)], X⟩ : St), Le.ofR [(500, 57)] (by exact ⟨rfl, rfl, rfl, rfl, rfl, rfl, rfl, rfl, trivial⟩) (by repeat' (first | exact trivial | refine And.intro ⟨_, rfl, ?_⟩ ?_ | refine And.intro ⟨_, rfl⟩ ?_ | rfl | exact Box.ren_bytes _ _ _ _ | exact Box.ren_vals _ _ _ _ | exact Box.ren_mid rfl)) (by exact rfl) (by exact rfl) (by repeat' (first | refine all_cons_true ?_ ?_ | rfl | exact bytes_inUse | exact vals_inUse | exact mid_inUse rfl)) (by exact rfl) (by exact rfl), 0, false, by omega, rfl, rfl⟩ ?_
  rintro m σ ⟨i, r, hi, rfl, rfl⟩
  by_cases hlt : i < ids.length
  · obtain ⟨x, hx⟩ : ∃ x, ids[i]? = some x := ⟨_, List.getElem?_eq_getElem hlt⟩
    obtain ⟨blk, off, arr, el, fr, rfl, hX, hc⟩ := hin.at hx
    have hio : off + Int.toNat (i : Int) * 1 = off + i * 1 := by simp
    have hti : (ids.take i).length = i := by rw [List.length_take]; omega
    have hH := has_spec X (ids.take i) (some ⟨blk, off, none⟩) cap x (fun j r hj => by
      rw [List.getElem?_map, List.getElem?_take] at hj
      split at hj
      · exact hin j r (by rw [List.getElem?_map]; exact hj)
      · cases hj) (by omega)
    rw [hti] at hH
    have hts := twiceTo_succ hx
    have hsn := pts_snoc (ids.take i) x
    rw [← take_snoc hx] at hsn
    have hpi := hpl (ids.take i)
    rw [hti] at hpi
    have hnc : (ptsV (ids.take i)).map CV.val ++ [.val (.int .i64 x), .val (.slice none 0 0)] = (ptsV (ids.take (i + 1))).map CV.val := by rw [hsn, List.map_append]; rfl
    have hnl : i + 1 = i + 1 := rfl
    cases htw : twiceTo ids i with
    | true =>
      rw [htw, Bool.true_or] at hts
      (refine LWP.seq <| LWP.seq <| LWP.region (by kernel_rfl) <| kmv rfl <| kmv rfl <| K.lenX rfl SliceT.h rfl .plain ?_; refine klt rfl rfl (decide_eq_true (by omega)) <| RunK.nil <| LWP.condT rfl ?_; refine LWP.skip ?_; refine LWP.seq <| LWP.block <| LWP.seq <| LWP.draws mixed (by kernel_rfl) <| kmv rfl <| kmv rfl <| RunK.passed rfl rfl rfl <| RunK.passed rfl rfl rfl <| RunK.passed rfl rfl rfl <| RunK.passed rfl rfl rfl <| RunK.passed rfl rfl rfl <| RunK.passed rfl rfl rfl <| RunK.passed rfl rfl rfl <| RunK.passed rfl rfl rfl ?_; refine kpt rfl rfl <| kas rfl <| RunK.nil <| And.intro (by kernel_rfl) ?_; refine LWP.region (by kernel_rfl) <| kmv rfl <| kmv rfl <| kmv rfl <| K.indexX rfl rfl SliceT.h (by omega) hio .plain <| K.loadX rfl hX rfl hc .plain <| K.build rfl rfl (by exact rfl) (by exact nl2 rfl rfl rfl) .plain ?_; refine K.buildSlc (zs := [.int .i64 0, .slice none 0 0]) (sz := 2) (e := 45) (cs' := [.val (.int .i64 x), .val (.slice none 0 0)]) (by kernel_rfl) rfl rfl rfl rfl rfl rfl .plain <| K.appendSlc (by_ := 32) (e2 := 45) (l2 := [.val (.int .i64 x), .val (.slice none 0 0)]) (nl := i + 1) (nc := (ptsV (ids.take (i + 1))).map .val) rfl rfl hpi rfl rfl (Nat.le_refl _) rfl rfl (by kernel_rfl) (by kernel_rfl) (by omega) (by omega) rfl hnl hnc .plain <| kas rfl <| RunK.nil <| LWP.region (by kernel_rfl) <| kmv rfl <| kad rfl rfl (wrap_i64 (by omega)) <| kas rfl <| RunK.nil ?_)
      exact ⟨_, (⟨[(0, Ln .u32 (a : Nat)), (1, Vn (some ⟨blk, off, none⟩) ids.length cap), (2, Ls s), (7, Ln .u32 (ofA ids : Nat)), (8, Lb (okIds ids)), (11, .sv (.one (.slc 500 0 (i + 1) 2))), (12, Lb (true)), (13, Ln .i64 (i + 1 : Nat))], [(500, some ⟨45, (ptsV (ids.take (i + 1))).map .val, true⟩)], X⟩ : St), by omega, Le.ofR [(500, 82)] (by exact ⟨rfl, rfl, rfl, rfl, rfl, rfl, rfl, rfl, trivial⟩) (by repeat' (first | exact trivial | refine And.intro ⟨_, rfl, ?_⟩ ?_ | refine And.intro ⟨_, rfl⟩ ?_ | rfl | exact Box.ren_bytes _ _ _ _ | exact Box.ren_vals _ _ _ _ | exact Box.ren_mid rfl)) (by exact rfl) (by exact rfl) (by repeat' (first | refine all_cons_true ?_ ?_ | rfl | exact bytes_inUse | exact vals_inUse | exact mid_inUse rfl)) (by exact rfl) (by exact rfl), i + 1, true, by omega, rfl, by rw [hts]⟩
    | false =>
      rw [htw, Bool.false_or] at hts
      (refine LWP.seq <| LWP.seq <| LWP.region (by kernel_rfl) <| kmv rfl <| kmv rfl <| K.lenX rfl SliceT.h rfl .plain ?_; refine klt rfl rfl (decide_eq_true (by omega)) <| RunK.nil <| LWP.condT rfl ?_; refine LWP.skip ?_; refine LWP.seq <| LWP.block <| LWP.seq <| LWP.draws mixed (by kernel_rfl) <| kmv rfl <| kmv rfl <| gmv rfl rfl rfl <| gmv rfl rfl rfl <| K.cutX (h := i) (kh := .i64) rfl rfl SliceT.h (by omega) (by omega) (.taken rfl rfl) ?_; refine gmv rfl rfl rfl <| gmv rfl rfl rfl <| K.indexX rfl rfl SliceT.h (by omega) hio (.taken rfl rfl) ?_; refine K.loadX rfl hX rfl hc (.taken rfl rfl) ?_; refine gca rfl rfl hH rfl rfl <| kpf rfl rfl <| kas rfl <| RunK.nil <| And.intro (by kernel_rfl) ?_; refine LWP.region (by kernel_rfl) <| kmv rfl <| kmv rfl <| kmv rfl <| K.indexX rfl rfl SliceT.h (by omega) hio .plain <| K.loadX rfl hX rfl hc .plain <| K.build rfl rfl (by exact rfl) (by exact nl2 rfl rfl rfl) .plain ?_; refine K.buildSlc (zs := [.int .i64 0, .slice none 0 0]) (sz := 2) (e := 45) (cs' := [.val (.int .i64 x), .val (.slice none 0 0)]) (by kernel_rfl) rfl rfl rfl rfl rfl rfl .plain <| K.appendSlc (by_ := 32) (e2 := 45) (l2 := [.val (.int .i64 x), .val (.slice none 0 0)]) (nl := i + 1) (nc := (ptsV (ids.take (i + 1))).map .val) rfl rfl hpi rfl rfl (Nat.le_refl _) rfl rfl (by kernel_rfl) (by kernel_rfl) (by omega) (by omega) rfl hnl hnc .plain <| kas rfl <| RunK.nil <| LWP.region (by kernel_rfl) <| kmv rfl <| kad rfl rfl (wrap_i64 (by omega)) <| kas rfl <| RunK.nil ?_)
      exact ⟨_, (⟨[(0, Ln .u32 (a : Nat)), (1, Vn (some ⟨blk, off, none⟩) ids.length cap), (2, Ls s), (7, Ln .u32 (ofA ids : Nat)), (8, Lb (okIds ids)), (11, .sv (.one (.slc 500 0 (i + 1) 2))), (12, Lb ((ids.take i).any (fun y => y == x))), (13, Ln .i64 (i + 1 : Nat))], [(500, some ⟨45, (ptsV (ids.take (i + 1))).map .val, true⟩)], X⟩ : St), by omega, Le.ofR [(500, 82)] (by exact ⟨rfl, rfl, rfl, rfl, rfl, rfl, rfl, rfl, trivial⟩) (by repeat' (first | exact trivial | refine And.intro ⟨_, rfl, ?_⟩ ?_ | refine And.intro ⟨_, rfl⟩ ?_ | rfl | exact Box.ren_bytes _ _ _ _ | exact Box.ren_vals _ _ _ _ | exact Box.ren_mid rfl)) (by exact rfl) (by exact rfl) (by repeat' (first | refine all_cons_true ?_ ?_ | rfl | exact bytes_inUse | exact vals_inUse | exact mid_inUse rfl)) (by exact rfl) (by exact rfl), i + 1, true, by omega, rfl, by rw [hts]⟩
  have e : i = ids.length := by omega
  subst e
  rw [List.take_length]
  (refine LWP.seq <| LWP.seq <| LWP.region (by kernel_rfl) <| kmv rfl <| kmv rfl <| K.lenX rfl SliceT.h rfl .plain ?_; refine klt rfl rfl (decide_eq_false (by omega)) <| RunK.nil <| LWP.condF rfl ?_; refine LWP.exit <| LWP.seq ?_)
  refine LWP.le (σ' := ⟨[(11, .sv (.one (.slc 500 0 ids.length 2))), (0, Ln .u32 (a : Nat)), (2, Ls s), (7, Ln .u32 (ofA ids : Nat)), (8, Lb (okIds ids)), (12, Lb (twiceTo ids ids.length))], [(500, some ⟨45, (ptsV (ids)).map .val, r⟩)], X⟩) (Le.of (by exact ⟨rfl, rfl, rfl, rfl, rfl, rfl, trivial⟩) (by exact ⟨rfl, trivial⟩) (by exact rfl) (by exact rfl) (by repeat' (first | refine all_cons_true ?_ ?_ | rfl | exact bytes_inUse | exact vals_inUse | exact mid_inUse rfl))) ?_
  refine LWP.freeze rfl rfl rfl fun blk pc arr fr hn _ _ _ hsp => ?_
  have hps := parts_mem (X := withBlock X blk (.cells arr 45 fr)) (withBlock_at _ _ _) hr hsp
  generalize withBlock X blk (.cells arr 45 fr) = Z at *
  have hP := gParts Z (barePs ids) (some ⟨blk, 0, none⟩) pc hps (by unfold barePs; rw [List.length_map]; omega)
  rw [barePs_comp, show (barePs ids).length = ids.length from List.length_map _] at hP
  (refine LWP.region (by kernel_rfl) <| kmv rfl <| kca rfl rfl hP <| kmv rfl <| kex rfl rfl <| kex rfl rfl <| kas rfl <| kas rfl <| RunK.nil <| LWP.seq <| LWP.seq ?_)
  repeat refine LWP.seq ?_
  refine LWP.cut (fun σ => σ = ⟨[(0, Ln .u32 (a : Nat)), (2, Ls s)], [], Z⟩) ?_ ?_
  · rcases prE_cases ids with ⟨h1, h2, h3, h4⟩ | ⟨h1, h2, h3, h4⟩ | ⟨h1, h3, h4⟩
    · rw [h1, h2, h3, h4]
      (refine LWP.region (by kernel_rfl) <| kmv rfl <| kmv rfl <| gmv rfl rfl rfl <| kpt rfl rfl <| kmv rfl <| gmv rfl rfl rfl <| K.neq rfl rfl (r := false) rfl (.taken rfl rfl) ?_; refine gmv rfl rfl rfl <| gmv rfl rfl rfl <| K.neq rfl rfl (r := false) rfl (.taken rfl rfl) ?_; refine K.pickF rfl rfl (.taken rfl rfl) ?_; refine kpt rfl rfl <| kmv rfl <| gmv rfl rfl rfl <| gmv rfl rfl rfl <| gmv rfl rfl rfl <| K.not rfl rfl (.taken rfl rfl) ?_; refine K.pickT rfl rfl (.taken rfl rfl) ?_; refine gmv rfl rfl rfl <| RunK.passed rfl rfl rfl <| RunK.passed rfl rfl rfl <| RunK.passed rfl rfl rfl <| RunK.passedU rfl rfl <| RunK.passedU rfl rfl <| RunK.passedU rfl rfl <| RunK.passed rfl rfl rfl <| K.pickF rfl rfl (.taken rfl rfl) ?_; refine kpf rfl rfl <| kmv rfl <| gmv rfl rfl rfl <| K.not rfl rfl (.taken rfl rfl) ?_; refine gmv rfl rfl rfl <| RunK.passed rfl rfl rfl <| RunK.passed rfl rfl rfl <| RunK.passed rfl rfl rfl <| RunK.passedU rfl rfl <| RunK.passedU rfl rfl <| RunK.passed rfl rfl rfl <| K.pickF rfl rfl (.taken rfl rfl) ?_; refine kpf rfl rfl <| RunK.nil <| LWP.condF rfl ?_; refine LWP.skip ?_)
      exact ⟨_, Le.of (by exact ⟨rfl, rfl, trivial⟩) (by exact trivial) (by exact rfl) (by exact rfl) (by repeat' (first | refine all_cons_true ?_ ?_ | rfl | exact bytes_inUse | exact vals_inUse | exact mid_inUse rfl)), rfl⟩
    · rw [h1, h2, h3, h4]
      (refine LWP.region (by kernel_rfl) <| kmv rfl <| kmv rfl <| gmv rfl rfl rfl <| kpt rfl rfl <| kmv rfl <| RunK.passed rfl rfl rfl <| RunK.passed rfl rfl rfl <| RunK.passed rfl rfl rfl <| RunK.passedU rfl rfl <| RunK.passedU rfl rfl <| RunK.passed rfl rfl rfl <| kpf rfl rfl <| kmv rfl ?_; refine gmv rfl rfl rfl <| gmv rfl rfl rfl <| gmv rfl rfl rfl <| K.not rfl rfl (.taken rfl rfl) ?_; refine K.pickT rfl rfl (.taken rfl rfl) ?_; refine gmv rfl rfl rfl <| gmv rfl rfl rfl <| K.neq rfl rfl (r := false) rfl (.taken rfl rfl) ?_; refine gmv rfl rfl rfl <| gmv rfl rfl rfl <| gmv rfl rfl rfl <| K.neq rfl rfl (r := false) (by simp) (.taken rfl rfl) ?_; refine K.pickF rfl rfl (.taken rfl rfl) ?_; refine K.pickT rfl rfl (.taken rfl rfl) ?_; refine kpf rfl rfl <| kmv rfl <| gmv rfl rfl rfl <| K.not rfl rfl (.taken rfl rfl) ?_; refine gmv rfl rfl rfl <| RunK.passed rfl rfl rfl <| RunK.passed rfl rfl rfl <| RunK.passed rfl rfl rfl <| RunK.passedU rfl rfl <| RunK.passedU rfl rfl <| RunK.passed rfl rfl rfl <| K.pickF rfl rfl (.taken rfl rfl) ?_; refine kpf rfl rfl <| RunK.nil <| LWP.condF rfl ?_; refine LWP.skip ?_)
      exact ⟨_, Le.of (by exact ⟨rfl, rfl, trivial⟩) (by exact trivial) (by exact rfl) (by exact rfl) (by repeat' (first | refine all_cons_true ?_ ?_ | rfl | exact bytes_inUse | exact vals_inUse | exact mid_inUse rfl)), rfl⟩
    · rw [h1, h3, h4]
      (refine LWP.region (by kernel_rfl) <| kmv rfl <| kmv rfl <| RunK.passed rfl rfl rfl <| kpf rfl rfl <| kmv rfl <| RunK.passed rfl rfl rfl <| RunK.passed rfl rfl rfl <| RunK.passed rfl rfl rfl <| RunK.passedU rfl rfl <| RunK.passedU rfl rfl <| RunK.passed rfl rfl rfl <| kpf rfl rfl <| kmv rfl ?_; refine gmv rfl rfl rfl <| gmv rfl rfl rfl <| RunK.passed rfl rfl rfl <| RunK.passed rfl rfl rfl <| K.pickF rfl rfl (.taken rfl rfl) ?_; refine gmv rfl rfl rfl <| RunK.passed rfl rfl rfl <| RunK.passed rfl rfl rfl <| RunK.passed rfl rfl rfl <| RunK.passedU rfl rfl <| RunK.passedU rfl rfl <| RunK.passedU rfl rfl <| RunK.passed rfl rfl rfl <| K.pickF rfl rfl (.taken rfl rfl) ?_; refine kpf rfl rfl <| kmv rfl <| gmv rfl rfl rfl <| K.not rfl rfl (.taken rfl rfl) ?_; refine gmv rfl rfl rfl <| gmv rfl rfl rfl <| K.neq rfl rfl (r := false) rfl (.taken rfl rfl) ?_; refine gmv rfl rfl rfl <| gmv rfl rfl rfl <| K.neq rfl rfl (r := false) rfl (.taken rfl rfl) ?_; refine K.pickF rfl rfl (.taken rfl rfl) ?_; refine K.pickT rfl rfl (.taken rfl rfl) ?_; refine kpf rfl rfl <| RunK.nil <| LWP.condF rfl ?_; refine LWP.skip ?_)
      exact ⟨_, Le.of (by exact ⟨rfl, rfl, trivial⟩) (by exact trivial) (by exact rfl) (by exact rfl) (by repeat' (first | refine all_cons_true ?_ ?_ | rfl | exact bytes_inUse | exact vals_inUse | exact mid_inUse rfl)), rfl⟩
  rintro σ rfl
  have q1 := rParse_spec Z s (by omega)
  have q2 := gParse Z s (by omega)
  have q3 := gText Z a ha
  have q4 := rText_spec Z a ha
  have hpe : (parT s).2 = true ∧ parE s = 0 ∨ (parT s).2 = false ∧ parE s = 4 := by
    unfold parE
    cases h : parseA s with
    | some n => exact .inl ⟨by rw [parT_yes h], rfl⟩
    | none => exact .inr ⟨by rw [parT_no h], rfl⟩
  generalize (parT s).1 = pn at *
  rcases hpe with ⟨e1, e2⟩ | ⟨e1, e2⟩
  · rw [e1] at q1
    rw [e2] at q2
    (refine LWP.seq <| LWP.region (by kernel_rfl) <| kmv rfl <| kca rfl rfl q1 <| kmv rfl <| kex rfl rfl <| kex rfl rfl <| kas rfl <| kas rfl <| RunK.nil <| LWP.seq <| LWP.region (by kernel_rfl) <| kmv rfl <| kca rfl rfl q2 ?_; refine kmv rfl <| kex rfl rfl <| kex rfl rfl <| kas rfl <| kas rfl <| RunK.nil <| LWP.seq <| LWP.region (by kernel_rfl) <| kmv rfl <| kca rfl rfl q3 <| kmv rfl <| kca rfl rfl q4 <| kse rfl rfl (strs_eq (r := true) (by simp)) <| kmv rfl ?_; refine gmv rfl rfl rfl <| gmv rfl rfl rfl <| K.eql rfl rfl (r := true) (by simp) (.taken rfl rfl) ?_; refine kpt rfl rfl <| kmv rfl <| gmv rfl rfl rfl <| gmv rfl rfl rfl <| K.eql rfl rfl (r := true) rfl (.taken rfl rfl) ?_; refine K.eqlB rfl rfl (r := true) rfl (.taken rfl rfl) ?_; refine kpt rfl rfl <| kmv rfl <| gmv rfl rfl rfl <| gmv rfl rfl rfl <| RunK.passed rfl rfl rfl <| RunK.passed rfl rfl rfl <| K.pickT rfl rfl (.taken rfl rfl) ?_; refine kpt rfl rfl <| kas rfl <| RunK.nil <| LWP.ret ?_)
    exact ⟨[_], ⟨rfl, trivial⟩, rfl⟩
  · rw [e1] at q1
    rw [e2] at q2
    (refine LWP.seq <| LWP.region (by kernel_rfl) <| kmv rfl <| kca rfl rfl q1 <| kmv rfl <| kex rfl rfl <| kex rfl rfl <| kas rfl <| kas rfl <| RunK.nil <| LWP.seq <| LWP.region (by kernel_rfl) <| kmv rfl <| kca rfl rfl q2 ?_; refine kmv rfl <| kex rfl rfl <| kex rfl rfl <| kas rfl <| kas rfl <| RunK.nil <| LWP.seq <| LWP.region (by kernel_rfl) <| kmv rfl <| kca rfl rfl q3 <| kmv rfl <| kca rfl rfl q4 <| kse rfl rfl (strs_eq (r := true) (by simp)) <| kmv rfl ?_; refine gmv rfl rfl rfl <| gmv rfl rfl rfl <| K.eql rfl rfl (r := true) (by simp) (.taken rfl rfl) ?_; refine kpt rfl rfl <| kmv rfl <| gmv rfl rfl rfl <| gmv rfl rfl rfl <| K.eql rfl rfl (r := false) rfl (.taken rfl rfl) ?_; refine K.eqlB rfl rfl (r := true) rfl (.taken rfl rfl) ?_; refine kpt rfl rfl <| kmv rfl <| gmv rfl rfl rfl <| gmv rfl rfl rfl <| gmv rfl rfl rfl <| K.eql rfl rfl (r := true) rfl (.taken rfl rfl) ?_; refine K.pickF rfl rfl (.taken rfl rfl) ?_; refine kpt rfl rfl <| kas rfl <| RunK.nil <| LWP.ret ?_)
    exact ⟨[_], ⟨rfl, trivial⟩, rfl⟩
end Go.Proofs.YtklofjlbjahnaaaDoor
end
section
namespace Go.Lg.Sg
open Go Go.Lg Go.Lg.Fld
theorem withinB_iff {a b : Nat} : withinB a b = true ↔ ∀ i : Nat, 1 ≤ i → i ≤ 24 → a.testBit i = true → b.testBit i = true := by
  unfold withinB
  rw [List.all_eq_true]
  constructor
  · intro h i h1 h2 h3
    have := h (i : Int) (mem_ids.2 ⟨by omega, by omega, h3⟩)
    unfold hasB at this
    rw [Bool.and_eq_true] at this
    exact this.2
  · intro h x hx
    obtain ⟨h1, h2, h3⟩ := mem_ids.1 hx
    unfold hasB
    rw [Bool.and_eq_true, okI_iff]
    exact ⟨⟨h1, by omega⟩, h x.toNat (by omega) (by omega) h3⟩
theorem meetsB_iff {a b : Nat} : meetsB a b = true ↔ ∃ i : Nat, 1 ≤ i ∧ i ≤ 24 ∧ a.testBit i = true ∧ b.testBit i = true := by
  unfold meetsB
  rw [List.any_eq_true]
  constructor
  · rintro ⟨x, hx, h⟩
    obtain ⟨h1, h2, h3⟩ := mem_ids.1 hx
    unfold hasB at h
    rw [Bool.and_eq_true] at h
    exact ⟨x.toNat, by omega, by omega, h3, h.2⟩
  · rintro ⟨i, h1, h2, h3, h4⟩
    refine ⟨(i : Int), mem_ids.2 ⟨by omega, by omega, h3⟩, ?_⟩
    unfold hasB
    rw [Bool.and_eq_true, okI_iff]
    exact ⟨⟨by omega, by omega⟩, h4⟩
theorem with_isB {a : Nat} {id : Int} (h : isB a = true) : isB (withN a id) = true := by
  rw [isB_iff] at h ⊢
  intro i hi hb
  rw [with_bit, Bool.or_eq_true, Bool.and_eq_true, okI_iff] at hb
  rcases hb with hb | ⟨hb, e⟩
  · exact h i hi hb
  · have := of_decide_eq_true e
    omega
theorem without_isB {a : Nat} {id : Int} (h : isB a = true) : isB (withoutN a id) = true := by
  rw [isB_iff] at h ⊢
  intro i hi hb
  rw [without_bit, Bool.and_eq_true] at hb
  exact h i hi hb.1
theorem within_with {a : Nat} {id : Int} : withinB a (withN a id) = true := withinB_iff.2 fun i _ _ h => by rw [with_bit, h]; rfl
theorem without_within {a : Nat} {id : Int} : withinB (withoutN a id) a = true := withinB_iff.2 fun i _ _ h => by
  rw [without_bit, Bool.and_eq_true] at h
  exact h.1
theorem has_without {a : Nat} {id : Int} : hasB (withoutN a id) id = false := by
  unfold hasB
  rw [without_bit]
  cases okI id <;> simp
theorem has_with {a : Nat} {id : Int} : hasB (withN a id) id = okI id := by
  unfold hasB
  rw [with_bit]
  cases okI id <;> simp
theorem with_other {a : Nat} {id o : Int} (h : o ≠ id) : hasB (withN a id) o = hasB a o := by
  unfold hasB
  rw [with_bit]
  cases ho : okI o with
  | false => rfl
  | true =>
    cases hi : okI id with
    | false => simp
    | true =>
      have h1 := okI_iff.1 ho
      have h2 := okI_iff.1 hi
      rw [decide_eq_false (by omega)]
      simp
theorem without_other {a : Nat} {id o : Int} (h : o ≠ id) : hasB (withoutN a id) o = hasB a o := by
  unfold hasB
  rw [without_bit]
  cases ho : okI o with
  | false => rfl
  | true =>
    cases hi : okI id with
    | false => simp
    | true =>
      have h1 := okI_iff.1 ho
      have h2 := okI_iff.1 hi
      rw [decide_eq_false (by omega)]
      simp
theorem without_with {a : Nat} {id : Int} : withoutN (withN a id) id = withoutN a id := by
  apply Nat.eq_of_testBit_eq
  intro j
  rw [without_bit, without_bit, with_bit]
  cases (okI id && decide (id.toNat = j)) <;> simp
end Go.Lg.Sg
namespace Go.Proofs.YtklofjlbjahnaaaDoor
open Go Go.Lg Go.Lg.Fld Go.Lg.Sg
set_option maxRecDepth 100000
variable (X : Nat → Option Obj)
set_option maxHeartbeats 6400000 in
theorem SigBack_spec (a : Nat) (id o : Int) (ha : a < 4294967296) (_hi : -9223372036854775808 ≤ id ∧ id < 9223372036854775808) (_ho : -9223372036854775808 ≤ o ∧ o < 9223372036854775808) :
    PSpec Tryd.prog X 5 [Ln .u32 (a : Nat), Ln .i64 id, Ln .i64 o] (Lb true) := by
  have hW := awake10_spec X
  have c1 := gIs X a ha
  refine PSpec.intro Tryd.func5 rfl (by kernel_rfl) rfl rfl ?_
  intro C
  cases hB : isB a with
  | false =>
    rw [hB] at c1
    (refine LWP.seq <| LWP.region (by kernel_rfl) <| kas rfl <| RunK.nil <| LWP.seq <| LWP.seq <| LWP.region (by kernel_rfl) <| kca rfl rfl (hW) <| K.not rfl rfl .plain <| RunK.nil <| LWP.condF rfl ?_; refine LWP.skip ?_; refine LWP.seq <| LWP.region (by kernel_rfl) <| kmv rfl <| kas rfl <| RunK.nil <| LWP.seq <| LWP.seq <| LWP.region (by kernel_rfl) <| kmv rfl <| kca rfl rfl c1 <| K.not rfl rfl .plain <| RunK.nil <| LWP.condT rfl ?_; refine LWP.seq <| LWP.region (by kernel_rfl) <| kas rfl <| RunK.nil <| LWP.ret ?_)
    exact ⟨[_], ⟨rfl, trivial⟩, rfl⟩
  | true =>
    rw [hB] at c1
    have hok : ∀ x ∈ idsL a, okI x = true := fun x hx => okI_iff.2 (idsL_ok x hx)
    have hio : ∀ x ∈ idsL a, -9223372036854775808 ≤ x ∧ x < 9223372036854775808 := fun x hx => by have := idsL_ok x hx; omega
    have hoi : okIds (idsL a) = true := List.all_eq_true.2 hok
    have hl24 : (idsL a).length ≤ 24 := idsTo_len a 24
    have hof : ofA (idsL a) = a := by unfold ofA; rw [if_pos hoi]; exact ofN_ids hB ha
    have hoe : ofE (idsL a) = 0 := if_pos hoi
    (refine LWP.seq <| LWP.region (by kernel_rfl) <| kas rfl <| RunK.nil <| LWP.seq <| LWP.seq <| LWP.region (by kernel_rfl) <| kca rfl rfl (hW) <| K.not rfl rfl .plain <| RunK.nil <| LWP.condF rfl ?_; refine LWP.skip ?_; refine LWP.seq <| LWP.region (by kernel_rfl) <| kmv rfl <| kas rfl <| RunK.nil <| LWP.seq <| LWP.seq <| LWP.region (by kernel_rfl) <| kmv rfl <| kca rfl rfl c1 <| K.not rfl rfl .plain <| RunK.nil <| LWP.condF rfl ?_; refine LWP.skip ?_; refine LWP.seq ?_)
    refine LWP.meetL (fun σ => σ = ⟨[(1, Ln .i64 id), (2, Ln .i64 o), (7, Ln .u32 (a : Nat)), (8, Ln .u32 (a : Nat)), (9, Ln .i64 0)], [], X⟩) ?_ ?_
    · have c0 := gIds X a ha
      have hL : ∀ {S : Nat → Option (Option Box)} {k : Nat} {el : TypeId} {row : Bool}, S k = some (some ⟨el, (nuV (idsL a)).map .val, row⟩) → ∀ (Y : Nat → Option Obj) (us : List Value), (∀ b o, X b = some o → Y b = some o) → LentLs S Y [.sv (.one (.slc k 0 (idsL a).length))] us → PSpec Tryd.prog Y 21 (us.map toLV) (.tup [Sn .u32 (a : Nat), Sn .i64 0]) := fun hk => by
        have h := of_lent X (l := idsL a) (by omega) hk
        rw [hof, hoe] at h
        exact h
      (refine LWP.region (by kernel_rfl) <| kmv rfl <| K.callMp [(1000001, 700)] (.sv (.one (.slc 700 0 (idsL a).length))) [nuB 700 (idsL a)] (c0) rfl rfl (by exact trivial) rfl rfl rfl rfl rfl (by exact (.box rfl (Box.ren_vals _ _ _ _) .nil)) .plain <| K.callL [700] rfl rfl rfl (hL rfl) .plain ?_; refine kmv rfl <| kex rfl rfl <| kex rfl rfl <| kas rfl <| kas rfl <| RunK.nil ?_)
      exact Leads.here (Le.of (by exact ⟨rfl, rfl, rfl, rfl, rfl, trivial⟩) (by exact trivial) (by exact rfl) (by exact rfl) (by repeat' (first | refine all_cons_true ?_ ?_ | rfl | exact bytes_inUse | exact vals_inUse | exact mid_inUse rfl))) rfl
    rintro σ rfl
    have t1 := gText X a ha
    have p1 := gParse X (textT a) (textT_len a)
    rw [parT_yes (parse_text hB ha), show parE (textT a) = 0 by unfold parE; rw [parse_text hB ha]; rfl] at p1
    have w1' := gWith X a ha id
    have w2' := gWithout X a ha id
    have hwl := with_lt (id := id) ha
    have hol := without_lt (id := id) ha
    have d1 := gIs X (withN a id) hwl
    rw [with_isB hB] at d1
    have d2 := gIs X (withoutN a id) hol
    rw [without_isB hB] at d2
    have d3 := gWithin X a (withN a id) ha hwl
    rw [within_with] at d3
    have d4 := gWithin X (withoutN a id) a hol ha
    rw [without_within] at d4
    have d5 := gHas X (withoutN a id) hol id
    rw [has_without] at d5
    have d6 := gWithout X (withN a id) hwl id
    rw [without_with] at d6
    have d7 := gHas X (withN a id) hwl id
    rw [has_with] at d7
    have e1 := gHas X (withN a id) hwl o
    have e2 := gHas X (withoutN a id) hol o
    have e3 := gHas X a ha o
    have k1 : o ≠ id → hasB (withN a id) o = hasB a o := with_other
    have k2 : o ≠ id → hasB (withoutN a id) o = hasB a o := without_other
    generalize textT a = s at *
    clear hwl hol
    generalize withN a id = wn at *
    generalize withoutN a id = wo at *
    (refine LWP.seq <| LWP.region (by kernel_rfl) <| kmv rfl <| kca rfl rfl t1 <| kca rfl rfl p1 <| kmv rfl <| kex rfl rfl <| kex rfl rfl <| kas rfl <| kas rfl <| RunK.nil <| LWP.seq <| LWP.seq <| LWP.region (by kernel_rfl) ?_; refine kmv rfl <| kne rfl rfl (r := false) rfl <| kmv rfl <| gmv rfl rfl rfl <| K.neq rfl rfl (r := false) rfl (.taken rfl rfl) ?_; refine kpf rfl rfl <| kmv rfl <| gmv rfl rfl rfl <| gmv rfl rfl rfl <| K.neq rfl rfl (r := false) (by simp) (.taken rfl rfl) ?_; refine kpf rfl rfl <| kmv rfl <| gmv rfl rfl rfl <| gmv rfl rfl rfl <| K.neq rfl rfl (r := false) (by simp) (.taken rfl rfl) ?_; refine kpf rfl rfl <| RunK.nil <| LWP.condF rfl ?_; refine LWP.skip ?_; refine LWP.seq <| LWP.region (by kernel_rfl) <| kmv rfl <| kmv rfl <| kca rfl rfl w1' <| kas rfl <| RunK.nil <| LWP.seq <| LWP.region (by kernel_rfl) <| kmv rfl <| kmv rfl <| kca rfl rfl w2' <| kas rfl <| RunK.nil ?_; refine LWP.seq <| LWP.seq ?_)
    repeat refine LWP.seq ?_
    refine LWP.cut (fun σ => σ = ⟨[(1, Ln .i64 id), (2, Ln .i64 o), (7, Ln .u32 (a : Nat)), (12, Ln .u32 (wn : Nat)), (13, Ln .u32 (wo : Nat))], [], X⟩) ?_ ?_
    · by_cases h1 : 1 ≤ id
      · by_cases h2 : id ≤ 24
        · rw [show okI id = true from okI_iff.2 ⟨h1, h2⟩] at d7
          (refine LWP.region (by kernel_rfl) <| kmv rfl <| kca rfl rfl d1 <| K.not rfl rfl .plain <| kmv rfl <| gmv rfl rfl rfl <| gca rfl rfl d2 rfl rfl <| K.not rfl rfl (.taken rfl rfl) ?_; refine kpf rfl rfl <| kmv rfl <| gmv rfl rfl rfl <| gmv rfl rfl rfl <| gca rfl rfl d3 rfl rfl <| K.not rfl rfl (.taken rfl rfl) ?_; refine kpf rfl rfl <| kmv rfl <| gmv rfl rfl rfl <| gmv rfl rfl rfl <| gca rfl rfl d4 rfl rfl <| K.not rfl rfl (.taken rfl rfl) ?_; refine kpf rfl rfl <| kmv rfl <| gmv rfl rfl rfl <| gmv rfl rfl rfl <| gca rfl rfl d5 rfl rfl <| kpf rfl rfl <| kmv rfl <| gmv rfl rfl rfl <| gmv rfl rfl rfl <| gca rfl rfl d6 rfl rfl <| gmv rfl rfl rfl <| K.neq rfl rfl (r := false) (by simp) (.taken rfl rfl) ?_; refine kpf rfl rfl <| kmv rfl <| gmv rfl rfl rfl <| gmv rfl rfl rfl <| gca rfl rfl d7 rfl rfl <| gmv rfl rfl rfl <| K.geq rfl rfl (decide_eq_true h1) (.taken rfl rfl) ?_; refine gmv rfl rfl rfl <| gmv rfl rfl rfl <| K.leq rfl rfl (decide_eq_true h2) (.taken rfl rfl) ?_; refine K.pickT rfl rfl (.taken rfl rfl) ?_; refine K.neqB rfl rfl (r := false) rfl (.taken rfl rfl) ?_; refine kpf rfl rfl <| RunK.nil <| LWP.condF rfl ?_; refine LWP.skip ?_)
          exact ⟨_, Le.of (by exact ⟨rfl, rfl, rfl, rfl, rfl, trivial⟩) (by exact trivial) (by exact rfl) (by exact rfl) (by repeat' (first | refine all_cons_true ?_ ?_ | rfl | exact bytes_inUse | exact vals_inUse | exact mid_inUse rfl)), rfl⟩
        · rw [show okI id = false by unfold okI; rw [decide_eq_false h2, Bool.and_false]] at d7
          (refine LWP.region (by kernel_rfl) <| kmv rfl <| kca rfl rfl d1 <| K.not rfl rfl .plain <| kmv rfl <| gmv rfl rfl rfl <| gca rfl rfl d2 rfl rfl <| K.not rfl rfl (.taken rfl rfl) ?_; refine kpf rfl rfl <| kmv rfl <| gmv rfl rfl rfl <| gmv rfl rfl rfl <| gca rfl rfl d3 rfl rfl <| K.not rfl rfl (.taken rfl rfl) ?_; refine kpf rfl rfl <| kmv rfl <| gmv rfl rfl rfl <| gmv rfl rfl rfl <| gca rfl rfl d4 rfl rfl <| K.not rfl rfl (.taken rfl rfl) ?_; refine kpf rfl rfl <| kmv rfl <| gmv rfl rfl rfl <| gmv rfl rfl rfl <| gca rfl rfl d5 rfl rfl <| kpf rfl rfl <| kmv rfl <| gmv rfl rfl rfl <| gmv rfl rfl rfl <| gca rfl rfl d6 rfl rfl <| gmv rfl rfl rfl <| K.neq rfl rfl (r := false) (by simp) (.taken rfl rfl) ?_; refine kpf rfl rfl <| kmv rfl <| gmv rfl rfl rfl <| gmv rfl rfl rfl <| gca rfl rfl d7 rfl rfl <| gmv rfl rfl rfl <| K.geq rfl rfl (decide_eq_true h1) (.taken rfl rfl) ?_; refine gmv rfl rfl rfl <| gmv rfl rfl rfl <| K.leq rfl rfl (decide_eq_false h2) (.taken rfl rfl) ?_; refine K.pickT rfl rfl (.taken rfl rfl) ?_; refine K.neqB rfl rfl (r := false) rfl (.taken rfl rfl) ?_; refine kpf rfl rfl <| RunK.nil <| LWP.condF rfl ?_; refine LWP.skip ?_)
          exact ⟨_, Le.of (by exact ⟨rfl, rfl, rfl, rfl, rfl, trivial⟩) (by exact trivial) (by exact rfl) (by exact rfl) (by repeat' (first | refine all_cons_true ?_ ?_ | rfl | exact bytes_inUse | exact vals_inUse | exact mid_inUse rfl)), rfl⟩
      · rw [show okI id = false by unfold okI; rw [decide_eq_false h1]; rfl] at d7
        (refine LWP.region (by kernel_rfl) <| kmv rfl <| kca rfl rfl d1 <| K.not rfl rfl .plain <| kmv rfl <| gmv rfl rfl rfl <| gca rfl rfl d2 rfl rfl <| K.not rfl rfl (.taken rfl rfl) ?_; refine kpf rfl rfl <| kmv rfl <| gmv rfl rfl rfl <| gmv rfl rfl rfl <| gca rfl rfl d3 rfl rfl <| K.not rfl rfl (.taken rfl rfl) ?_; refine kpf rfl rfl <| kmv rfl <| gmv rfl rfl rfl <| gmv rfl rfl rfl <| gca rfl rfl d4 rfl rfl <| K.not rfl rfl (.taken rfl rfl) ?_; refine kpf rfl rfl <| kmv rfl <| gmv rfl rfl rfl <| gmv rfl rfl rfl <| gca rfl rfl d5 rfl rfl <| kpf rfl rfl <| kmv rfl <| gmv rfl rfl rfl <| gmv rfl rfl rfl <| gca rfl rfl d6 rfl rfl <| gmv rfl rfl rfl <| K.neq rfl rfl (r := false) (by simp) (.taken rfl rfl) ?_; refine kpf rfl rfl <| kmv rfl <| gmv rfl rfl rfl <| gmv rfl rfl rfl <| gca rfl rfl d7 rfl rfl <| gmv rfl rfl rfl <| K.geq rfl rfl (decide_eq_false h1) (.taken rfl rfl) ?_; refine gmv rfl rfl rfl <| RunK.passed rfl rfl rfl <| RunK.passed rfl rfl rfl <| K.pickF rfl rfl (.taken rfl rfl) ?_; refine K.neqB rfl rfl (r := false) rfl (.taken rfl rfl) ?_; refine kpf rfl rfl <| RunK.nil <| LWP.condF rfl ?_; refine LWP.skip ?_)
        exact ⟨_, Le.of (by exact ⟨rfl, rfl, rfl, rfl, rfl, trivial⟩) (by exact trivial) (by exact rfl) (by exact rfl) (by repeat' (first | refine all_cons_true ?_ ?_ | rfl | exact bytes_inUse | exact vals_inUse | exact mid_inUse rfl)), rfl⟩
    rintro σ rfl
    by_cases he : o = id
    · (refine LWP.seq <| LWP.region (by kernel_rfl) <| kmv rfl <| kmv rfl <| keq rfl rfl (r := true) (by simp [he]) <| kmv rfl <| RunK.passed rfl rfl rfl <| RunK.passed rfl rfl rfl <| RunK.passed rfl rfl rfl <| RunK.passed rfl rfl rfl <| RunK.passed rfl rfl rfl <| RunK.passed rfl rfl rfl <| RunK.passed rfl rfl rfl <| RunK.passed rfl rfl rfl ?_; refine RunK.passedU rfl rfl <| RunK.passedU rfl rfl <| RunK.passedU rfl rfl <| RunK.passedU rfl rfl <| RunK.passedU rfl rfl <| RunK.passedU rfl rfl <| RunK.passedU rfl rfl <| RunK.passed rfl rfl rfl <| kpt rfl rfl <| kas rfl <| RunK.nil <| LWP.ret ?_)
      exact ⟨[_], ⟨rfl, trivial⟩, rfl⟩
    · rw [k1 he] at e1
      rw [k2 he] at e2
      (refine LWP.seq <| LWP.region (by kernel_rfl) <| kmv rfl <| kmv rfl <| keq rfl rfl (r := false) (by simp [he]) <| kmv rfl <| gmv rfl rfl rfl <| gmv rfl rfl rfl <| gca rfl rfl e1 rfl rfl <| gmv rfl rfl rfl <| gmv rfl rfl rfl <| gca rfl rfl e3 rfl rfl <| K.eqlB rfl rfl (r := true) (by simp) (.taken rfl rfl) ?_; refine gmv rfl rfl rfl <| gmv rfl rfl rfl <| gmv rfl rfl rfl <| gca rfl rfl e2 rfl rfl <| gmv rfl rfl rfl <| gmv rfl rfl rfl <| gca rfl rfl e3 rfl rfl <| K.eqlB rfl rfl (r := true) (by simp) (.taken rfl rfl) ?_; refine K.pickT rfl rfl (.taken rfl rfl) ?_; refine kpf rfl rfl <| kas rfl <| RunK.nil <| LWP.ret ?_)
      exact ⟨[_], ⟨rfl, trivial⟩, rfl⟩
end Go.Proofs.YtklofjlbjahnaaaDoor
end
section
namespace Go.Lg.Sg
open Go Go.Lg Go.Lg.Fld
theorem within_same (a : Nat) : withinB a a = true := withinB_iff.2 fun _ _ _ h => h
theorem within_and {a b : Nat} : withinB (a &&& b) a = true := withinB_iff.2 fun i _ _ h => by rw [Nat.testBit_and, Bool.and_eq_true] at h; exact h.1
theorem within_and2 {a b : Nat} : withinB (a &&& b) b = true := withinB_iff.2 fun i _ _ h => by rw [Nat.testBit_and, Bool.and_eq_true] at h; exact h.2
theorem within_trans {a b c : Nat} (h1 : withinB a b = true) (h2 : withinB b c = true) : withinB a c = true := by
  rw [withinB_iff] at *
  exact fun i hi hj h => h2 i hi hj (h1 i hi hj h)
theorem meets_within {a b c : Nat} (h1 : withinB a b = true) (h2 : meetsB c a = true) : meetsB c b = true := by
  rw [withinB_iff] at h1
  rw [meetsB_iff] at *
  obtain ⟨i, hi, hj, hc, ha⟩ := h2
  exact ⟨i, hi, hj, hc, h1 i hi hj ha⟩
theorem meets_swap (a b : Nat) : meetsB b a = meetsB a b := by
  rw [Bool.eq_iff_iff, meetsB_iff, meetsB_iff]
  constructor <;> rintro ⟨i, h1, h2, h3, h4⟩ <;> exact ⟨i, h1, h2, h4, h3⟩
theorem ids_none {a : Nat} : idsL a = [] ↔ ∀ i : Nat, 1 ≤ i → i ≤ 24 → a.testBit i = false := by
  constructor
  · intro h i h1 h2
    cases hb : a.testBit i with
    | false => rfl
    | true =>
      have : (i : Int) ∈ idsL a := mem_ids.2 ⟨by omega, by omega, hb⟩
      rw [h] at this
      cases this
  · intro h
    refine List.eq_nil_iff_forall_not_mem.2 fun x hx => ?_
    obtain ⟨h1, h2, h3⟩ := mem_ids.1 hx
    rw [h x.toNat (by omega) (by omega)] at h3
    cases h3
theorem meets_len (a b : Nat) : decide ((0 : Int) < ((idsL (a &&& b)).length : Nat)) = meetsB a b := by
  cases h : meetsB a b with
  | true =>
    obtain ⟨i, h1, h2, h3, h4⟩ := meetsB_iff.1 h
    have hn : idsL (a &&& b) ≠ [] := fun e => by
      have := ids_none.1 e i h1 h2
      rw [Nat.testBit_and, h3, h4] at this
      cases this
    have := List.length_pos_iff.2 hn
    exact decide_eq_true (by omega)
  | false =>
    have hn : idsL (a &&& b) = [] := ids_none.2 fun i h1 h2 => by
      cases hb : (a &&& b).testBit i with
      | false => rfl
      | true =>
        rw [Nat.testBit_and, Bool.and_eq_true] at hb
        rw [meetsB_iff.2 ⟨i, h1, h2, hb.1, hb.2⟩] at h
        cases h
    rw [hn]
    rfl
theorem within_len {a b : Nat} (h : withinB a b = true) : (idsL a).length ≤ (idsL b).length := by
  rw [withinB_iff] at h
  suffices H : ∀ n : Nat, n ≤ 24 → (idsTo a n).length ≤ (idsTo b n).length from H 24 (Nat.le_refl _)
  intro n
  induction n with
  | zero => intro _; exact Nat.le_refl _
  | succ n ih =>
    intro hn
    have := ih (by omega)
    rw [idsTo_succ, idsTo_succ, List.length_append, List.length_append]
    cases hb : a.testBit (n + 1) with
    | false => simp; omega
    | true => rw [h (n + 1) (by omega) hn hb]; simp; omega
theorem and_32 {a b : Nat} (ha : a < 4294967296) (hb : b < 4294967296) : bits .and .u32 ((a : Nat) : Int) ((b : Nat) : Int) = ((a &&& b : Nat) : Int) := by
  have h1 : bits .and .u32 ((a : Nat) : Int) ((b : Nat) : Int) = IntKind.u32.wrap (((BitVec.ofNat 32 a &&& BitVec.ofNat 32 b).toNat : Nat) : Int) := rfl
  have hab : a &&& b < 4294967296 := Nat.lt_of_le_of_lt Nat.and_le_left ha
  rw [h1, BitVec.toNat_and, BitVec.toNat_ofNat, BitVec.toNat_ofNat, Nat.mod_eq_of_lt (show a < 2 ^ 32 from ha), Nat.mod_eq_of_lt (show b < 2 ^ 32 from hb)]
  exact wrap_u32 ⟨Int.natCast_nonneg _, by omega⟩
theorem within_both (a b : Nat) : (withinB a b && withinB b a) = (textT a == textT b) := by
  rw [Bool.eq_iff_iff, Bool.and_eq_true, beq_iff_eq]
  constructor
  · rintro ⟨h1, h2⟩
    rw [withinB_iff] at h1 h2
    have : idsL a = idsL b := by
      refine Fld.sorted_eq (fun x : Int => x) (idsTo_rising _ _) (idsTo_rising _ _) fun x => ?_
      show x ∈ idsTo a 24 ↔ x ∈ idsTo b 24
      rw [mem_ids, mem_ids]
      constructor
      · rintro ⟨h3, h4, h5⟩
        exact ⟨h3, h4, h1 _ (by omega) (by omega) h5⟩
      · rintro ⟨h3, h4, h5⟩
        exact ⟨h3, h4, h2 _ (by omega) (by omega) h5⟩
    unfold textT
    rw [this]
  · intro h
    have := text_inj h
    unfold withinB
    constructor
    · rw [List.all_eq_true]
      intro x hx
      rw [this] at hx
      rw [← any_ids, List.any_eq_true]
      exact ⟨x, hx, beq_iff_eq.2 rfl⟩
    · rw [List.all_eq_true]
      intro x hx
      rw [← this] at hx
      rw [← any_ids, List.any_eq_true]
      exact ⟨x, hx, beq_iff_eq.2 rfl⟩
end Go.Lg.Sg
namespace Go.Proofs.YtklofjlbjahnaaaDoor
open Go Go.Lg Go.Lg.Fld Go.Lg.Sg
set_option maxRecDepth 100000
variable (X : Nat → Option Obj)
set_option maxHeartbeats 6400000 in
theorem SigOrder_spec (a b c : Nat) (ha : a < 4294967296) (hb : b < 4294967296) (hc : c < 4294967296) :
    PSpec Tryd.prog X 6 [Ln .u32 (a : Nat), Ln .u32 (b : Nat), Ln .u32 (c : Nat)] (Lb true) := by
  have hW := awake10_spec X
  have hab : a &&& b < 4294967296 := Nat.lt_of_le_of_lt Nat.and_le_left ha
  have d1 := gWithin X a a ha ha
  rw [within_same] at d1
  have d2 := gWithin X (a &&& b) a hab ha
  rw [within_and] at d2
  have d3 := gWithin X (a &&& b) b hab hb
  rw [within_and2] at d3
  have d4 := gMeets X a b ha hb
  have d5 := gMeets X b a hb ha
  rw [meets_swap a b] at d5
  have d6 := gLen X (a &&& b) hab
  have hml := meets_len a b
  have e1 := gWithin X a b ha hb
  have e2 := gWithin X b c hb hc
  have e3 := gWithin X a c ha hc
  have e4 := gMeets X c a hc ha
  have e5 := gMeets X c b hc hb
  have e6 := gLen X a ha
  have e7 := gLen X b hb
  have e8 := gWithin X b a hb ha
  have t1 := gText X a ha
  have t2 := gText X b hb
  have k1 := within_trans (a := a) (b := b) (c := c)
  have k2 := meets_within (a := a) (b := b) (c := c)
  have k3 := within_len (a := a) (b := b)
  have k4 := within_both a b
  refine PSpec.intro Tryd.func6 rfl (by kernel_rfl) rfl rfl ?_
  intro C
  have hand := and_32 ha hb
  (refine LWP.seq <| LWP.region (by kernel_rfl) <| kas rfl <| RunK.nil <| LWP.seq <| LWP.seq <| LWP.region (by kernel_rfl) <| kca rfl rfl (hW) <| K.not rfl rfl .plain <| RunK.nil <| LWP.condF rfl ?_; refine LWP.skip ?_; refine LWP.seq <| LWP.region (by kernel_rfl) <| kmv rfl <| kas rfl <| RunK.nil <| LWP.seq <| LWP.region (by kernel_rfl) <| kmv rfl <| kas rfl <| RunK.nil <| LWP.seq <| LWP.region (by kernel_rfl) <| kmv rfl <| kas rfl ?_; refine RunK.nil <| LWP.seq <| LWP.region (by kernel_rfl) <| kmv rfl <| kmv rfl <| K.bitop (by simp) rfl rfl hand .plain <| kas rfl <| RunK.nil <| LWP.seq <| LWP.seq <| LWP.region (by kernel_rfl) <| kmv rfl <| kmv rfl <| kca rfl rfl d1 ?_; refine K.not rfl rfl .plain <| kmv rfl <| gmv rfl rfl rfl <| gmv rfl rfl rfl <| gca rfl rfl d2 rfl rfl <| K.not rfl rfl (.taken rfl rfl) ?_; refine kpf rfl rfl <| kmv rfl <| gmv rfl rfl rfl <| gmv rfl rfl rfl <| gca rfl rfl d3 rfl rfl <| K.not rfl rfl (.taken rfl rfl) ?_; refine kpf rfl rfl <| kmv rfl <| gmv rfl rfl rfl <| gmv rfl rfl rfl <| gca rfl rfl d4 rfl rfl <| gmv rfl rfl rfl <| gca rfl rfl d6 rfl rfl <| K.gtr rfl rfl hml (.taken rfl rfl) ?_; refine K.neqB rfl rfl (r := false) (by simp) (.taken rfl rfl) ?_; refine kpf rfl rfl <| kmv rfl <| gmv rfl rfl rfl <| gmv rfl rfl rfl <| gca rfl rfl d4 rfl rfl <| gmv rfl rfl rfl <| gmv rfl rfl rfl <| gca rfl rfl d5 rfl rfl <| K.neqB rfl rfl (r := false) (by simp) (.taken rfl rfl) ?_; refine kpf rfl rfl <| RunK.nil <| LWP.condF rfl ?_; refine LWP.skip ?_; refine LWP.seq <| LWP.seq ?_)
  repeat refine LWP.seq ?_
  refine LWP.cut (fun σ => σ = ⟨[(7, Ln .u32 (a : Nat)), (8, Ln .u32 (b : Nat))], [], X⟩) ?_ ?_
  · cases hw : withinB a b with
    | false =>
      rw [hw] at e1
      (refine LWP.region (by kernel_rfl) <| kmv rfl <| kmv rfl <| kca rfl rfl e1 <| kmv rfl <| RunK.passed rfl rfl rfl <| RunK.passed rfl rfl rfl <| RunK.passed rfl rfl rfl <| kpf rfl rfl <| kmv rfl <| RunK.passed rfl rfl rfl <| RunK.passed rfl rfl rfl <| RunK.passed rfl rfl rfl <| RunK.passed rfl rfl rfl ?_; refine kpf rfl rfl <| kmv rfl <| gmv rfl rfl rfl <| gmv rfl rfl rfl <| gca rfl rfl e1 rfl rfl <| gmv rfl rfl rfl <| RunK.passed rfl rfl rfl <| RunK.passed rfl rfl rfl <| RunK.passed rfl rfl rfl <| K.pickF rfl rfl (.taken rfl rfl) ?_; refine gmv rfl rfl rfl <| RunK.passed rfl rfl rfl <| RunK.passed rfl rfl rfl <| RunK.passed rfl rfl rfl <| RunK.passed rfl rfl rfl <| K.pickF rfl rfl (.taken rfl rfl) ?_; refine kpf rfl rfl <| kmv rfl <| gmv rfl rfl rfl <| gmv rfl rfl rfl <| gca rfl rfl e1 rfl rfl <| gmv rfl rfl rfl <| RunK.passed rfl rfl rfl <| RunK.passed rfl rfl rfl <| RunK.passed rfl rfl rfl <| RunK.passed rfl rfl rfl <| RunK.passed rfl rfl rfl <| K.pickF rfl rfl (.taken rfl rfl) ?_; refine kpf rfl rfl <| RunK.nil <| LWP.condF rfl ?_; refine LWP.skip ?_)
      exact ⟨_, Le.of (by exact ⟨rfl, rfl, trivial⟩) (by exact trivial) (by exact rfl) (by exact rfl) (by repeat' (first | refine all_cons_true ?_ ?_ | rfl | exact bytes_inUse | exact vals_inUse | exact mid_inUse rfl)), rfl⟩
    | true =>
      rw [hw] at e1
      have hlen := k3 hw
      cases hv : withinB b c with
      | false =>
        rw [hv] at e2
        cases hm : meetsB c a with
        | false =>
          rw [hm] at e4
          (refine LWP.region (by kernel_rfl) <| kmv rfl <| kmv rfl <| kca rfl rfl e1 <| kmv rfl <| gmv rfl rfl rfl <| gmv rfl rfl rfl <| gca rfl rfl e2 rfl rfl <| kpt rfl rfl <| kmv rfl <| RunK.passed rfl rfl rfl <| RunK.passed rfl rfl rfl <| RunK.passed rfl rfl rfl <| RunK.passed rfl rfl rfl ?_; refine kpf rfl rfl <| kmv rfl <| gmv rfl rfl rfl <| gmv rfl rfl rfl <| gca rfl rfl e1 rfl rfl <| gmv rfl rfl rfl <| gmv rfl rfl rfl <| gmv rfl rfl rfl <| gca rfl rfl e4 rfl rfl <| K.pickT rfl rfl (.taken rfl rfl) ?_; refine gmv rfl rfl rfl <| RunK.passed rfl rfl rfl <| RunK.passed rfl rfl rfl <| RunK.passed rfl rfl rfl <| RunK.passed rfl rfl rfl <| K.pickF rfl rfl (.taken rfl rfl) ?_; refine kpf rfl rfl <| kmv rfl <| gmv rfl rfl rfl <| gmv rfl rfl rfl <| gca rfl rfl e1 rfl rfl <| gmv rfl rfl rfl <| gmv rfl rfl rfl <| gca rfl rfl e6 rfl rfl <| gmv rfl rfl rfl <| gca rfl rfl e7 rfl rfl <| K.gtr rfl rfl (r := false) (decide_eq_false (by omega)) (.taken rfl rfl) ?_; refine K.pickT rfl rfl (.taken rfl rfl) ?_; refine kpf rfl rfl <| RunK.nil <| LWP.condF rfl ?_; refine LWP.skip ?_)
          exact ⟨_, Le.of (by exact ⟨rfl, rfl, trivial⟩) (by exact trivial) (by exact rfl) (by exact rfl) (by repeat' (first | refine all_cons_true ?_ ?_ | rfl | exact bytes_inUse | exact vals_inUse | exact mid_inUse rfl)), rfl⟩
        | true =>
          rw [hm] at e4
          rw [k2 hw hm] at e5
          (refine LWP.region (by kernel_rfl) <| kmv rfl <| kmv rfl <| kca rfl rfl e1 <| kmv rfl <| gmv rfl rfl rfl <| gmv rfl rfl rfl <| gca rfl rfl e2 rfl rfl <| kpt rfl rfl <| kmv rfl <| RunK.passed rfl rfl rfl <| RunK.passed rfl rfl rfl <| RunK.passed rfl rfl rfl <| RunK.passed rfl rfl rfl ?_; refine kpf rfl rfl <| kmv rfl <| gmv rfl rfl rfl <| gmv rfl rfl rfl <| gca rfl rfl e1 rfl rfl <| gmv rfl rfl rfl <| gmv rfl rfl rfl <| gmv rfl rfl rfl <| gca rfl rfl e4 rfl rfl <| K.pickT rfl rfl (.taken rfl rfl) ?_; refine gmv rfl rfl rfl <| gmv rfl rfl rfl <| gmv rfl rfl rfl <| gca rfl rfl e5 rfl rfl <| K.not rfl rfl (.taken rfl rfl) ?_; refine K.pickT rfl rfl (.taken rfl rfl) ?_; refine kpf rfl rfl <| kmv rfl <| gmv rfl rfl rfl <| gmv rfl rfl rfl <| gca rfl rfl e1 rfl rfl <| gmv rfl rfl rfl <| gmv rfl rfl rfl <| gca rfl rfl e6 rfl rfl <| gmv rfl rfl rfl <| gca rfl rfl e7 rfl rfl <| K.gtr rfl rfl (r := false) (decide_eq_false (by omega)) (.taken rfl rfl) ?_; refine K.pickT rfl rfl (.taken rfl rfl) ?_; refine kpf rfl rfl <| RunK.nil <| LWP.condF rfl ?_; refine LWP.skip ?_)
          exact ⟨_, Le.of (by exact ⟨rfl, rfl, trivial⟩) (by exact trivial) (by exact rfl) (by exact rfl) (by repeat' (first | refine all_cons_true ?_ ?_ | rfl | exact bytes_inUse | exact vals_inUse | exact mid_inUse rfl)), rfl⟩
      | true =>
        rw [hv] at e2
        rw [k1 hw hv] at e3
        cases hm : meetsB c a with
        | false =>
          rw [hm] at e4
          (refine LWP.region (by kernel_rfl) <| kmv rfl <| kmv rfl <| kca rfl rfl e1 <| kmv rfl <| gmv rfl rfl rfl <| gmv rfl rfl rfl <| gca rfl rfl e2 rfl rfl <| kpt rfl rfl <| kmv rfl <| gmv rfl rfl rfl <| gmv rfl rfl rfl <| gca rfl rfl e3 rfl rfl <| K.not rfl rfl (.taken rfl rfl) ?_; refine kpt rfl rfl <| kmv rfl <| gmv rfl rfl rfl <| gmv rfl rfl rfl <| gca rfl rfl e1 rfl rfl <| gmv rfl rfl rfl <| gmv rfl rfl rfl <| gmv rfl rfl rfl <| gca rfl rfl e4 rfl rfl <| K.pickT rfl rfl (.taken rfl rfl) ?_; refine gmv rfl rfl rfl <| RunK.passed rfl rfl rfl <| RunK.passed rfl rfl rfl <| RunK.passed rfl rfl rfl <| RunK.passed rfl rfl rfl <| K.pickF rfl rfl (.taken rfl rfl) ?_; refine kpf rfl rfl <| kmv rfl <| gmv rfl rfl rfl <| gmv rfl rfl rfl <| gca rfl rfl e1 rfl rfl <| gmv rfl rfl rfl <| gmv rfl rfl rfl <| gca rfl rfl e6 rfl rfl <| gmv rfl rfl rfl <| gca rfl rfl e7 rfl rfl <| K.gtr rfl rfl (r := false) (decide_eq_false (by omega)) (.taken rfl rfl) ?_; refine K.pickT rfl rfl (.taken rfl rfl) ?_; refine kpf rfl rfl <| RunK.nil <| LWP.condF rfl ?_; refine LWP.skip ?_)
          exact ⟨_, Le.of (by exact ⟨rfl, rfl, trivial⟩) (by exact trivial) (by exact rfl) (by exact rfl) (by repeat' (first | refine all_cons_true ?_ ?_ | rfl | exact bytes_inUse | exact vals_inUse | exact mid_inUse rfl)), rfl⟩
        | true =>
          rw [hm] at e4
          rw [k2 hw hm] at e5
          (refine LWP.region (by kernel_rfl) <| kmv rfl <| kmv rfl <| kca rfl rfl e1 <| kmv rfl <| gmv rfl rfl rfl <| gmv rfl rfl rfl <| gca rfl rfl e2 rfl rfl <| kpt rfl rfl <| kmv rfl <| gmv rfl rfl rfl <| gmv rfl rfl rfl <| gca rfl rfl e3 rfl rfl <| K.not rfl rfl (.taken rfl rfl) ?_; refine kpt rfl rfl <| kmv rfl <| gmv rfl rfl rfl <| gmv rfl rfl rfl <| gca rfl rfl e1 rfl rfl <| gmv rfl rfl rfl <| gmv rfl rfl rfl <| gmv rfl rfl rfl <| gca rfl rfl e4 rfl rfl <| K.pickT rfl rfl (.taken rfl rfl) ?_; refine gmv rfl rfl rfl <| gmv rfl rfl rfl <| gmv rfl rfl rfl <| gca rfl rfl e5 rfl rfl <| K.not rfl rfl (.taken rfl rfl) ?_; refine K.pickT rfl rfl (.taken rfl rfl) ?_; refine kpf rfl rfl <| kmv rfl <| gmv rfl rfl rfl <| gmv rfl rfl rfl <| gca rfl rfl e1 rfl rfl <| gmv rfl rfl rfl <| gmv rfl rfl rfl <| gca rfl rfl e6 rfl rfl <| gmv rfl rfl rfl <| gca rfl rfl e7 rfl rfl <| K.gtr rfl rfl (r := false) (decide_eq_false (by omega)) (.taken rfl rfl) ?_; refine K.pickT rfl rfl (.taken rfl rfl) ?_; refine kpf rfl rfl <| RunK.nil <| LWP.condF rfl ?_; refine LWP.skip ?_)
          exact ⟨_, Le.of (by exact ⟨rfl, rfl, trivial⟩) (by exact trivial) (by exact rfl) (by exact rfl) (by repeat' (first | refine all_cons_true ?_ ?_ | rfl | exact bytes_inUse | exact vals_inUse | exact mid_inUse rfl)), rfl⟩
  rintro σ rfl
  cases hw : withinB a b with
  | false =>
    rw [hw] at e1
    rw [hw, Bool.false_and] at k4
    (refine LWP.seq <| LWP.region (by kernel_rfl) <| kmv rfl <| kmv rfl <| kca rfl rfl e1 <| kmv rfl <| RunK.passed rfl rfl rfl <| RunK.passed rfl rfl rfl <| RunK.passed rfl rfl rfl <| kpf rfl rfl <| kmv rfl <| kca rfl rfl t1 <| kmv rfl <| kca rfl rfl t2 ?_; refine kse rfl rfl (strs_eq k4.symm) <| K.eqlB rfl rfl (r := true) (by simp) .plain <| kas rfl <| RunK.nil <| LWP.ret ?_)
    exact ⟨[_], ⟨rfl, trivial⟩, rfl⟩
  | true =>
    rw [hw] at e1
    rw [hw, Bool.true_and] at k4
    (refine LWP.seq <| LWP.region (by kernel_rfl) <| kmv rfl <| kmv rfl <| kca rfl rfl e1 <| kmv rfl <| gmv rfl rfl rfl <| gmv rfl rfl rfl <| gca rfl rfl e8 rfl rfl <| kpt rfl rfl <| kmv rfl <| kca rfl rfl t1 <| kmv rfl <| kca rfl rfl t2 ?_; refine kse rfl rfl (strs_eq k4.symm) <| K.eqlB rfl rfl (r := true) (by simp) .plain <| kas rfl <| RunK.nil <| LWP.ret ?_)
    exact ⟨[_], ⟨rfl, trivial⟩, rfl⟩
end Go.Proofs.YtklofjlbjahnaaaDoor
end
