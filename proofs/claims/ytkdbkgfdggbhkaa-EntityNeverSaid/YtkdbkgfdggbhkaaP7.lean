/- A piece of a proof over this program: contracts of its functions, and a logic to prove them by. -/
import Derived.Test.YtkdbkgfdggbhkaaP6
section
namespace Go.Proofs.Ytkdbkgfdggbhkaa
open Go Go.Lg
set_option maxRecDepth 100000
variable (X : Nat → Option Obj)
set_option maxHeartbeats 25600000 in
theorem entityNever_law (ids gens : Int) (ts : List Int) (tad : Option Addr) (tcap : Nat) (hT : TurnsIn X tad ts) (hb : ts.length < 9223372036854775808) :
    PSpec Try.prog X 5 [Ln .i64 ids, Ln .i64 gens, .sv (.one (.val (.slice tad ts.length tcap)))] (Lb true) := by
  have hW := awake15_spec X
  refine PSpec.intro Try.func5 rfl (by kernel_rfl) rfl rfl ?_
  intro C
  obtain ⟨p, hp6, hp⟩ := rest_u (v := ids) 6 (by decide) (by decide)
  obtain ⟨q, hq4, hq⟩ := rest_u (v := gens) 4 (by decide) (by decide)
  have hpw : IntKind.i64.wrap ((p : Nat) : Int) = ((p : Nat) : Int) := wrap_i64 (by omega)
  have hqw : IntKind.i64.wrap ((q : Nat) : Int) = ((q : Nat) : Int) := wrap_i64 (by omega)
  have hpa : IntKind.i64.wrap (1 + ((p : Nat) : Int)) = ((p + 1 : Nat) : Int) := by rw [wrap_i64 (by omega)]; omega
  have hqa : IntKind.i64.wrap (1 + ((q : Nat) : Int)) = ((q + 1 : Nat) : Int) := by rw [wrap_i64 (by omega)]; omega
  have hN := iNew X (p + 1) (q + 1) (by omega) (by omega)
  (refine LWP.seq <| LWP.region (by kernel_rfl) <| kas rfl <| RunK.nil <| LWP.seq <| LWP.seq <| LWP.region (by kernel_rfl) <| kca rfl rfl (hW) <| K.not rfl rfl .plain <| RunK.nil <| LWP.condF rfl ?_; refine LWP.skip ?_; refine LWP.seq <| LWP.region (by kernel_rfl) <| kmv rfl <| kcv rfl rfl ?_; refine K.rem rfl rfl (by decide) hp .plain <| kcv rfl hpw ?_; refine kad rfl rfl hpa <| kas rfl <| RunK.nil <| LWP.seq <| LWP.region (by kernel_rfl) <| kmv rfl <| kcv rfl rfl ?_; refine K.rem rfl rfl (by decide) hq .plain <| kcv rfl hqw ?_; refine kad rfl rfl hqa <| kas rfl <| RunK.nil <| LWP.seq <| LWP.region (by kernel_rfl) <| kmv rfl <| kmv rfl <| K.callMp [(1000001, 500)] (Lp 500) [xB 500 (q + 1) (newE (p + 1))] (hN) rfl rfl (by exact trivial) rfl rfl rfl rfl rfl (by exact (.box rfl rfl .nil)) .plain <| kas rfl <| RunK.nil <| LWP.seq <| LWP.region (by kernel_rfl) <| K.makeMap 27 rfl .plain ?_; refine kas rfl <| RunK.nil <| LWP.seq <| LWP.region (by kernel_rfl) <| K.buildSlc (zs := []) (sz := 1) (e := 27) (by kernel_rfl) rfl rfl rfl rfl rfl rfl .plain <| kas rfl <| RunK.nil <| LWP.seq <| LWP.seq <| LWP.region (by kernel_rfl) <| kas rfl <| RunK.nil <| LWP.block ?_)
  have hOk : OkX (q + 1) (newE (p + 1)) := OkX.new (by omega) (by omega)
  have hnl : (newE (p + 1)).length = p + 1 := by unfold newE; rw [List.length_replicate]
  have I0 := NvI.new (p + 1)
  refine LWP.le (σ' := ⟨[(2, .sv (.one (.val (.slice tad ts.length tcap)))), (7, Ln .i64 (p + 1 : Nat)), (8, Ln .i64 (q + 1 : Nat)), (9, Lp 500), (10, .sv (.one (.mp 502))), (11, .sv (.one (.slc 501 0 0 1))), (12, Ln .i64 (0 : Nat))], [xB 500 (q + 1) (newE (p + 1)), emB 502 ([]), (501, some ⟨27, (u64V ([])).map .val, false⟩)], X⟩) (Le.ofR [(502, 35), (501, 36)] (by exact ⟨rfl, rfl, rfl, rfl, rfl, rfl, rfl, trivial⟩) (by repeat' (first | exact trivial | refine And.intro ⟨_, rfl, ?_⟩ ?_ | refine And.intro ⟨_, rfl⟩ ?_ | rfl | exact Box.ren_bytes _ _ _ _ | exact Box.ren_vals _ _ _ _ | exact Box.ren_mid rfl)) (by exact rfl) (by exact rfl) (by repeat' (first | refine all_cons_true ?_ ?_ | rfl | exact bytes_inUse | exact vals_inUse | exact mid_inUse rfl)) (by exact rfl) (by exact rfl)) ?_
  have hnn : p + 1 ≤ 6 := by omega
  have hgg : q + 1 ≤ 4 := by omega
  clear hN hp hq hpw hqw hpa hqa hW hp6 hq4
  generalize newE (p + 1) = l at *
  generalize q + 1 = g at *
  generalize p + 1 = n at *
  repeat refine LWP.seq ?_
  refine LWP.meetB (fun σ => ∃ (l : List Ei) (sL dL : List Nat), NvI l sL dL ∧ OkX g l ∧ l.length = n ∧ σ = ⟨[(7, Ln .i64 (n : Nat)), (8, Ln .i64 (g : Nat)), (9, Lp 500), (10, .sv (.one (.mp 502)))], [xB 500 g l, emB 502 sL], X⟩) ?_ ?_
  · refine LWP.loopL (fun m σ => ∃ (i : Nat) (l : List Ei) (sL dL : List Nat), i ≤ ts.length ∧ i ≤ 400 ∧ m = ts.length - i ∧ NvI l sL dL ∧ OkX g l ∧ l.length = n ∧ dL.length ≤ i ∧ σ = ⟨[(2, .sv (.one (.val (.slice tad ts.length tcap)))), (7, Ln .i64 (n : Nat)), (8, Ln .i64 (g : Nat)), (9, Lp 500), (10, .sv (.one (.mp 502))), (11, .sv (.one (.slc 501 0 (dL).length 1))), (12, Ln .i64 (i : Nat))], [xB 500 g (l), emB 502 (sL), (501, some ⟨27, (u64V (dL)).map .val, Nat.blt 0 (dL).length⟩)], X⟩) ts.length
      (Leads.le (σ' := ⟨[(2, .sv (.one (.val (.slice tad ts.length tcap)))), (7, Ln .i64 (n : Nat)), (8, Ln .i64 (g : Nat)), (9, Lp 500), (10, .sv (.one (.mp 502))), (11, .sv (.one (.slc 501 0 0 1))), (12, Ln .i64 (0 : Nat))], [xB 500 g (l), emB 502 ([]), (501, some ⟨27, (u64V ([])).map .val, false⟩)], X⟩) (Le.of (by exact ⟨rfl, rfl, rfl, rfl, rfl, rfl, rfl, trivial⟩) (by exact ⟨rfl, rfl, rfl, trivial⟩) (by exact rfl) (by exact rfl) (by repeat' (first | refine all_cons_true ?_ ?_ | rfl | exact bytes_inUse | exact vals_inUse | exact mid_inUse rfl))) (Leads.done ⟨0, l, [], [], by omega, by omega, by omega, I0, hOk, hnl, Nat.le_refl _, rfl⟩)) ?_
    clear hOk hnl I0
    clear l
    rintro m σ ⟨i, l, sL, dL, hi, hi4, rfl, I, hOk, hnl, hdi, rfl⟩
    by_cases hlt : i < ts.length
    case neg =>
      (refine LWP.seq <| LWP.seq <| LWP.region (by kernel_rfl) <| kmv rfl <| kmv rfl <| K.lenX rfl SliceT.h rfl .plain ?_; refine klt rfl rfl (decide_eq_false (by omega)) <| kmv rfl <| RunK.passed rfl rfl rfl <| RunK.passed rfl rfl rfl <| kpf rfl rfl <| RunK.nil <| LWP.condF rfl ?_; refine LWP.exit ?_)
      exact Leads.le (σ' := ⟨[(7, Ln .i64 (n : Nat)), (8, Ln .i64 (g : Nat)), (9, Lp 500), (10, .sv (.one (.mp 502)))], [xB 500 g l, emB 502 sL], X⟩) (Le.of (by exact ⟨rfl, rfl, rfl, rfl, trivial⟩) (by exact ⟨rfl, rfl, trivial⟩) (by exact rfl) (by exact rfl) (by repeat' (first | refine all_cons_true ?_ ?_ | rfl | exact bytes_inUse | exact vals_inUse | exact mid_inUse rfl))) (Leads.done ⟨l, sL, dL, I, hOk, hnl, rfl⟩)
    by_cases hl4 : i < 400
    case neg =>
      (refine LWP.seq <| LWP.seq <| LWP.region (by kernel_rfl) <| kmv rfl <| kmv rfl <| K.lenX rfl SliceT.h rfl .plain ?_; refine klt rfl rfl (decide_eq_true (by omega)) <| kmv rfl <| gmv rfl rfl rfl <| K.lss rfl rfl (decide_eq_false (by omega)) (.taken rfl rfl) ?_; refine kpt rfl rfl <| RunK.nil <| LWP.condF rfl ?_; refine LWP.exit ?_)
      exact Leads.le (σ' := ⟨[(7, Ln .i64 (n : Nat)), (8, Ln .i64 (g : Nat)), (9, Lp 500), (10, .sv (.one (.mp 502)))], [xB 500 g l, emB 502 sL], X⟩) (Le.of (by exact ⟨rfl, rfl, rfl, rfl, trivial⟩) (by exact ⟨rfl, rfl, trivial⟩) (by exact rfl) (by exact rfl) (by repeat' (first | refine all_cons_true ?_ ?_ | rfl | exact bytes_inUse | exact vals_inUse | exact mid_inUse rfl))) (Leads.done ⟨l, sL, dL, I, hOk, hnl, rfl⟩)
    (refine LWP.seq <| LWP.seq <| LWP.region (by kernel_rfl) <| kmv rfl <| kmv rfl <| K.lenX rfl SliceT.h rfl .plain ?_; refine klt rfl rfl (decide_eq_true (by omega)) <| kmv rfl <| gmv rfl rfl rfl <| K.lss rfl rfl (decide_eq_true (by omega)) (.taken rfl rfl) ?_; refine kpt rfl rfl <| RunK.nil <| LWP.condT rfl ?_; refine LWP.skip ?_; refine LWP.seq <| LWP.block <| LWP.seq ?_)
    refine LWP.le (σ' := ⟨[(2, .sv (.one (.val (.slice tad ts.length tcap)))), (7, Ln .i64 (n : Nat)), (8, Ln .i64 (g : Nat)), (9, Lp 500), (10, .sv (.one (.mp 502))), (11, .sv (.one (.slc 501 0 (dL).length 1))), (12, Ln .i64 (i : Nat))], [xB 500 g (l), emB 502 (sL), (501, some ⟨27, (u64V (dL)).map .val, Nat.blt 0 (dL).length⟩)], X⟩) (Le.of (by exact ⟨rfl, rfl, rfl, rfl, rfl, rfl, rfl, trivial⟩) (by exact ⟨rfl, rfl, rfl, trivial⟩) (by exact rfl) (by exact rfl) (by repeat' (first | refine all_cons_true ?_ ?_ | rfl | exact bytes_inUse | exact vals_inUse | exact mid_inUse rfl))) ?_
    repeat refine LWP.seq ?_
    refine LWP.meetL (fun σ => ∃ (Y : Nat → Option Obj) (lad : Option Addr) (lcap : Nat), (∀ b o, X b = some o → Y b = some o) ∧ EntsIn Y lad (liveL l) ∧ σ = ⟨[(13, .sv (.one (.val (.slice lad (liveL l).length lcap)))), (2, .sv (.one (.val (.slice tad ts.length tcap)))), (7, Ln .i64 (n : Nat)), (8, Ln .i64 (g : Nat)), (9, Lp 500), (10, .sv (.one (.mp 502))), (11, .sv (.one (.slc 501 0 (dL).length 1))), (12, Ln .i64 (i : Nat))], [xB 500 g (l), emB 502 (sL), (501, some ⟨27, (u64V (dL)).map .val, Nat.blt 0 (dL).length⟩)], Y⟩) ?_ ?_
    · cases hm : lvMade (liveL l) with
      | false =>
        have hL := iLive_none X g l hOk hm
        have hz := lvMade_nil hm
        (refine LWP.region (by kernel_rfl) <| kmv rfl <| K.callM [(1000000, 500)] [xB 500 g l] (hL) rfl rfl (by exact (And.intro ⟨_, rfl, rfl⟩ trivial)) (by exact (all_cons_true rfl rfl)) rfl rfl rfl rfl (by exact (.box rfl rfl .nil)) .plain <| kas rfl <| RunK.nil ?_)
        exact Leads.here (σ' := ⟨[(13, .sv (.one (.val (.slice none 0 0)))), (2, .sv (.one (.val (.slice tad ts.length tcap)))), (7, Ln .i64 (n : Nat)), (8, Ln .i64 (g : Nat)), (9, Lp 500), (10, .sv (.one (.mp 502))), (11, .sv (.one (.slc 501 0 (dL).length 1))), (12, Ln .i64 (i : Nat))], [xB 500 g (l), emB 502 (sL), (501, some ⟨27, (u64V (dL)).map .val, Nat.blt 0 (dL).length⟩)], X⟩) (Le.of (by exact ⟨rfl, rfl, rfl, rfl, rfl, rfl, rfl, rfl, trivial⟩) (by exact ⟨rfl, rfl, rfl, trivial⟩) (by exact rfl) (by exact rfl) (by repeat' (first | refine all_cons_true ?_ ?_ | rfl | exact bytes_inUse | exact vals_inUse | exact mid_inUse rfl))) ⟨X, none, 0, fun _ _ h => h, by rw [hz]; exact EntsIn.nil, by rw [hz]; rfl⟩
      | true =>
        have hL := iLive X g l hOk hm
        (refine LWP.region (by kernel_rfl) <| kmv rfl <| K.callMp [(1000000, 500), (1000001, 601)] (.sv (.one (.slc 601 0 (liveL l).length 1))) [xB 500 g l, lvB 601 (liveL l)] (hL) rfl rfl (by exact (And.intro ⟨_, rfl, rfl⟩ trivial)) (by exact (all_cons_true rfl rfl)) rfl rfl rfl rfl (by exact (.box rfl rfl (.box rfl (Box.ren_vals _ _ _ _) .nil))) .plain <| kas rfl <| RunK.nil ?_)
        refine Leads.le (σ' := ⟨[(13, .sv (.one (.slc 601 0 (liveL l).length 1))), (2, .sv (.one (.val (.slice tad ts.length tcap)))), (7, Ln .i64 (n : Nat)), (8, Ln .i64 (g : Nat)), (9, Lp 500), (10, .sv (.one (.mp 502))), (11, .sv (.one (.slc 501 0 (dL).length 1))), (12, Ln .i64 (i : Nat))], [lvB 601 (liveL l), xB 500 g (l), emB 502 (sL), (501, some ⟨27, (u64V (dL)).map .val, Nat.blt 0 (dL).length⟩)], X⟩) (Le.of (by exact ⟨rfl, rfl, rfl, rfl, rfl, rfl, rfl, rfl, trivial⟩) (by exact ⟨rfl, rfl, rfl, rfl, trivial⟩) (by exact rfl) (by exact rfl) (by repeat' (first | refine all_cons_true ?_ ?_ | rfl | exact bytes_inUse | exact vals_inUse | exact mid_inUse rfl))) ?_
        refine Leads.freeze rfl (by repeat' (first | refine all_cons_true ?_ ?_ | rfl | exact vals_inUse)) rfl fun blk c2 arr fr hn _ _ _ hsp => ?_
        exact Leads.done ⟨_, some ⟨blk, 0, none⟩, c2, withBlock_old hn, ents_block (withBlock_at _ _ _) hsp, rfl⟩
    rintro σ ⟨Y, lad, lcap, hY, hE, rfl⟩
    have hTY := hT.mono hY
    obtain ⟨v, hv⟩ : ∃ v, ts[i]? = some v := ⟨_, List.getElem?_eq_getElem hlt⟩
    obtain ⟨tb, to, tarr, tel, tfr, rfl, hTX, hTa⟩ := hTY.at hv
    have hio : to + Int.toNat (i : Int) * 1 = to + i * 1 := by simp
    have hl256 : l.length ≤ 256 := by omega
    have hll := live_le l 0
    have hlL : (liveL l).length ≤ 6 := by unfold liveL; omega
    have hsm : ∀ h ∈ liveL l, h < 18446744073709551616 := fun h hh => by
      obtain ⟨i', gen, g1, rfl, _⟩ := live_alive hl256 hh
      have := (List.getElem?_eq_some_iff.1 g1).1
      exact hdl_lt (by omega) (hOk.gen _ (List.mem_of_getElem? g1))
    have hg1 : ∀ x ∈ l, 1 ≤ x.1 := fun x hx => (hOk.ok x hx).1.1
    repeat refine LWP.seq ?_
    refine LWP.cutL (fun σ => ∃ (l' : List Ei) (sL' dL' : List Nat), NvI l' sL' dL' ∧ OkX g l' ∧ l'.length = n ∧ dL'.length ≤ i + 1 ∧ σ = ⟨[(2, .sv (.one (.val (.slice (some ⟨tb, to, none⟩) ts.length tcap)))), (7, Ln .i64 (n : Nat)), (8, Ln .i64 (g : Nat)), (9, Lp 500), (10, .sv (.one (.mp 502))), (11, .sv (.one (.slc 501 0 (dL').length 1))), (12, Ln .i64 (i : Nat))], [xB 500 g (l'), emB 502 (sL'), (501, some ⟨27, (u64V (dL')).map .val, Nat.blt 0 (dL').length⟩)], X⟩) ?_ ?_
    · by_cases c1 : v.tmod 2 = 0
      · cases hnx : nextE l with
        | none =>
          have hf0 := next_free.1 hnx
          have hFr := iFree Y g l hOk
          have hNx := iNext Y g l hOk
          have hSp := iSpawn_no Y g l hOk hnx
          have hkey := key_u64 (h := 0) (by decide)
          have hat := entM_at I.zero
          rw [hf0] at hFr
          rw [nextH_none hnx] at hNx
          (refine LWP.region (by kernel_rfl) <| kmv rfl <| kmv rfl <| K.indexX rfl rfl SliceT.h (by omega) hio .plain <| K.loadX rfl hTX rfl hTa .plain <| K.rem rfl rfl (by decide) rfl .plain <| keq rfl rfl (r := true) (beq_iff_eq.2 c1) <| kmv rfl <| RunK.passed rfl rfl rfl <| RunK.passed rfl rfl rfl <| RunK.passed rfl rfl rfl <| kpt rfl rfl <| RunK.nil <| LWP.condT rfl ?_; refine LWP.seq <| LWP.region (by kernel_rfl) <| kmv rfl <| K.callM [(1000000, 500)] [xB 500 g l] (hFr) rfl rfl (by exact (And.intro ⟨_, rfl, rfl⟩ trivial)) (by exact (all_cons_true rfl rfl)) rfl rfl rfl rfl (by exact (.box rfl rfl .nil)) .plain <| kas rfl <| RunK.nil <| LWP.seq <| LWP.region (by kernel_rfl) <| kmv rfl <| K.callM [(1000000, 500)] [xB 500 g l] (hNx) rfl rfl (by exact (And.intro ⟨_, rfl, rfl⟩ trivial)) (by exact (all_cons_true rfl rfl)) rfl rfl rfl rfl (by exact (.box rfl rfl .nil)) .plain <| kas rfl <| RunK.nil <| LWP.seq <| LWP.region (by kernel_rfl) ?_; refine kmv rfl <| K.callM [(1000000, 500)] [xB 500 g l] (hSp) rfl rfl (by exact (And.intro ⟨_, rfl, rfl⟩ trivial)) (by exact (all_cons_true rfl rfl)) rfl rfl rfl rfl (by exact (.box rfl rfl .nil)) .plain <| kmv rfl <| kex rfl rfl <| kex rfl rfl <| kas rfl <| kas rfl <| RunK.nil <| LWP.seq <| LWP.seq <| LWP.region (by kernel_rfl) <| kmv rfl <| keq rfl rfl (r := false) rfl <| kmv rfl ?_; refine K.gtr rfl rfl (r := false) rfl .plain <| K.neqB rfl rfl rfl .plain <| kmv rfl <| gmv rfl rfl rfl <| gmv rfl rfl rfl <| K.neq rfl rfl (r := false) rfl (.taken rfl rfl) ?_; refine kpf rfl rfl <| kmv rfl <| gmv rfl rfl rfl <| gmv rfl rfl rfl <| K.lookup (kt := 27) (et := 4) (v := .bool false) (z := .bool false) rfl rfl rfl (by kernel_rfl) (KL.int (q := .u64) (by kernel_rfl)) hkey (by kernel_rfl) hat (.taken rfl rfl) ?_; refine kpf rfl rfl <| kmv rfl <| gmv rfl rfl rfl <| K.neq rfl rfl (r := false) rfl (.taken rfl rfl) ?_; refine gmv rfl rfl rfl <| RunK.passed rfl rfl rfl <| RunK.passed rfl rfl rfl <| RunK.passed rfl rfl rfl <| RunK.passed rfl rfl rfl <| K.pickF rfl rfl (.taken rfl rfl) ?_; refine kpf rfl rfl <| RunK.nil <| LWP.condF rfl ?_; refine LWP.skip ?_; refine LWP.seq <| LWP.region (by kernel_rfl) <| kmv rfl <| keq rfl rfl (r := false) rfl <| RunK.nil <| LWP.condF rfl ?_; refine LWP.skip ?_)
          refine Leads.le (σ' := ⟨[(2, .sv (.one (.val (.slice (some ⟨tb, to, none⟩) ts.length tcap)))), (7, Ln .i64 (n : Nat)), (8, Ln .i64 (g : Nat)), (9, Lp 500), (10, .sv (.one (.mp 502))), (11, .sv (.one (.slc 501 0 (dL).length 1))), (12, Ln .i64 (i : Nat))], [xB 500 g (l), emB 502 (sL), (501, some ⟨27, (u64V (dL)).map .val, Nat.blt 0 (dL).length⟩)], Y⟩) (Le.of (by exact ⟨rfl, rfl, rfl, rfl, rfl, rfl, rfl, trivial⟩) (by exact ⟨rfl, rfl, rfl, trivial⟩) (by exact rfl) (by exact rfl) (by repeat' (first | refine all_cons_true ?_ ?_ | rfl | exact bytes_inUse | exact vals_inUse | exact mid_inUse rfl))) ?_
          exact Leads.le (Le.drop hY) (Leads.done ⟨l, sL, dL, I, hOk, hnl, by omega, rfl⟩)
        | some i' =>
          obtain ⟨gen, hx, _⟩ := next_at hnx
          have hgn := okN hOk hx
          have hi' := (List.getElem?_eq_some_iff.1 hx).1
          have hfp := free_pos hnx
          have hFr := iFree Y g l hOk
          have hNx := iNext Y g l hOk
          have hSp := iSpawn Y g l hOk hnx hx
          have hOk2 := hOk.spawn hx
          obtain ⟨I2, hnew⟩ := I.spawn hx hgn.1 (by omega)
          have hh64 := hdl_lt (i := i' + 1) (gen := gen) (by omega) (by omega)
          have hpos : 1 ≤ hdl (i' + 1) gen := by unfold hdl; omega
          have hliv := lives hx (by omega)
          rw [nextH_some hnx hx] at hNx
          have hkey := key_u64 hh64
          have hat := entM_at hnew
          have hput := entM_put hnew
          have hA := iAlive Y g (l.set i' (gen, 1)) hOk2 (hdl (i' + 1) gen) hh64
          rw [hliv] at hA
          generalize hdl (i' + 1) gen = w at *
          (refine LWP.region (by kernel_rfl) <| kmv rfl <| kmv rfl <| K.indexX rfl rfl SliceT.h (by omega) hio .plain <| K.loadX rfl hTX rfl hTa .plain <| K.rem rfl rfl (by decide) rfl .plain <| keq rfl rfl (r := true) (beq_iff_eq.2 c1) <| kmv rfl <| RunK.passed rfl rfl rfl <| RunK.passed rfl rfl rfl <| RunK.passed rfl rfl rfl <| kpt rfl rfl <| RunK.nil <| LWP.condT rfl ?_; refine LWP.seq <| LWP.region (by kernel_rfl) <| kmv rfl <| K.callM [(1000000, 500)] [xB 500 g l] (hFr) rfl rfl (by exact (And.intro ⟨_, rfl, rfl⟩ trivial)) (by exact (all_cons_true rfl rfl)) rfl rfl rfl rfl (by exact (.box rfl rfl .nil)) .plain <| kas rfl <| RunK.nil <| LWP.seq <| LWP.region (by kernel_rfl) <| kmv rfl <| K.callM [(1000000, 500)] [xB 500 g l] (hNx) rfl rfl (by exact (And.intro ⟨_, rfl, rfl⟩ trivial)) (by exact (all_cons_true rfl rfl)) rfl rfl rfl rfl (by exact (.box rfl rfl .nil)) .plain <| kas rfl <| RunK.nil <| LWP.seq <| LWP.region (by kernel_rfl) ?_; refine kmv rfl <| K.callM [(1000000, 500)] [xB 500 g (l.set i' (gen, 1))] (hSp) rfl rfl (by exact (And.intro ⟨_, rfl, rfl⟩ trivial)) (by exact (all_cons_true rfl rfl)) rfl rfl rfl rfl (by exact (.box rfl rfl .nil)) .plain <| kmv rfl <| kex rfl rfl <| kex rfl rfl <| kas rfl <| kas rfl <| RunK.nil <| LWP.seq <| LWP.seq <| LWP.region (by kernel_rfl) <| kmv rfl <| keq rfl rfl (r := true) rfl <| kmv rfl ?_; refine K.gtr rfl rfl (decide_eq_true (by omega)) .plain <| K.neqB rfl rfl rfl .plain <| kmv rfl <| gmv rfl rfl rfl <| gmv rfl rfl rfl <| K.neq rfl rfl (r := false) (bne_eq_false_iff_eq.2 rfl) (.taken rfl rfl) ?_; refine kpf rfl rfl <| kmv rfl <| gmv rfl rfl rfl <| gmv rfl rfl rfl <| K.lookup (kt := 27) (et := 4) (v := .bool false) (z := .bool false) rfl rfl rfl (by kernel_rfl) (KL.int (q := .u64) (by kernel_rfl)) hkey (by kernel_rfl) hat (.taken rfl rfl) ?_; refine kpf rfl rfl <| kmv rfl <| gmv rfl rfl rfl <| K.neq rfl rfl (r := true) (bne_iff_ne.2 (by omega)) (.taken rfl rfl) ?_; refine gmv rfl rfl rfl <| gmv rfl rfl rfl <| gmv rfl rfl rfl <| K.callM [(1000000, 500)] [xB 500 g (l.set i' (gen, 1))] (hA) rfl rfl (by exact (And.intro ⟨_, rfl, rfl⟩ trivial)) (by exact (all_cons_true rfl rfl)) rfl rfl rfl rfl (by exact (.box rfl rfl .nil)) (.taken rfl rfl) ?_; refine K.not rfl rfl (.taken rfl rfl) ?_; refine K.pickT rfl rfl (.taken rfl rfl) ?_; refine kpf rfl rfl <| RunK.nil <| LWP.condF rfl ?_; refine LWP.skip ?_; refine LWP.seq <| LWP.region (by kernel_rfl) <| kmv rfl <| keq rfl rfl (r := true) rfl <| RunK.nil <| LWP.condT rfl ?_; refine LWP.region (by kernel_rfl) <| kmv rfl <| kmv rfl <| K.mapUpdate (kt := 27) (et := 4) (entM (sL ++ [w])) rfl rfl rfl rfl (by kernel_rfl) (KL.int (q := .u64) (by kernel_rfl)) hkey hput .plain ?_; refine RunK.nil ?_)
          refine Leads.le (σ' := ⟨[(2, .sv (.one (.val (.slice (some ⟨tb, to, none⟩) ts.length tcap)))), (7, Ln .i64 (n : Nat)), (8, Ln .i64 (g : Nat)), (9, Lp 500), (10, .sv (.one (.mp 502))), (11, .sv (.one (.slc 501 0 (dL).length 1))), (12, Ln .i64 (i : Nat))], [xB 500 g (l.set i' (gen, 1)), emB 502 (sL ++ [w]), (501, some ⟨27, (u64V (dL)).map .val, Nat.blt 0 (dL).length⟩)], Y⟩) (Le.of (by exact ⟨rfl, rfl, rfl, rfl, rfl, rfl, rfl, trivial⟩) (by exact ⟨rfl, rfl, rfl, trivial⟩) (by exact rfl) (by exact rfl) (by repeat' (first | refine all_cons_true ?_ ?_ | rfl | exact bytes_inUse | exact vals_inUse | exact mid_inUse rfl))) ?_
          exact Leads.le (Le.drop hY) (Leads.done ⟨l.set i' (gen, 1), sL ++ [w], dL, I2, hOk2, by rw [List.length_set]; exact hnl, by omega, rfl⟩)
      by_cases c2 : (liveL l).length = 0
      · cases hnx : nextE l with
        | none =>
          have hf0 := next_free.1 hnx
          have hFr := iFree Y g l hOk
          have hNx := iNext Y g l hOk
          have hSp := iSpawn_no Y g l hOk hnx
          have hkey := key_u64 (h := 0) (by decide)
          have hat := entM_at I.zero
          rw [hf0] at hFr
          rw [nextH_none hnx] at hNx
          (refine LWP.region (by kernel_rfl) <| kmv rfl <| kmv rfl <| K.indexX rfl rfl SliceT.h (by omega) hio .plain <| K.loadX rfl hTX rfl hTa .plain <| K.rem rfl rfl (by decide) rfl .plain <| keq rfl rfl (r := false) (beq_eq_false_iff_ne.2 c1) <| kmv rfl <| gmv rfl rfl rfl <| K.lenX rfl SliceT.h rfl (.taken rfl rfl) ?_; refine K.eql rfl rfl (r := true) (beq_iff_eq.2 (by omega)) (.taken rfl rfl) ?_; refine kpf rfl rfl <| RunK.nil <| LWP.condT rfl ?_; refine LWP.seq <| LWP.region (by kernel_rfl) <| kmv rfl <| K.callM [(1000000, 500)] [xB 500 g l] (hFr) rfl rfl (by exact (And.intro ⟨_, rfl, rfl⟩ trivial)) (by exact (all_cons_true rfl rfl)) rfl rfl rfl rfl (by exact (.box rfl rfl .nil)) .plain <| kas rfl <| RunK.nil <| LWP.seq <| LWP.region (by kernel_rfl) <| kmv rfl <| K.callM [(1000000, 500)] [xB 500 g l] (hNx) rfl rfl (by exact (And.intro ⟨_, rfl, rfl⟩ trivial)) (by exact (all_cons_true rfl rfl)) rfl rfl rfl rfl (by exact (.box rfl rfl .nil)) .plain <| kas rfl <| RunK.nil <| LWP.seq <| LWP.region (by kernel_rfl) ?_; refine kmv rfl <| K.callM [(1000000, 500)] [xB 500 g l] (hSp) rfl rfl (by exact (And.intro ⟨_, rfl, rfl⟩ trivial)) (by exact (all_cons_true rfl rfl)) rfl rfl rfl rfl (by exact (.box rfl rfl .nil)) .plain <| kmv rfl <| kex rfl rfl <| kex rfl rfl <| kas rfl <| kas rfl <| RunK.nil <| LWP.seq <| LWP.seq <| LWP.region (by kernel_rfl) <| kmv rfl <| keq rfl rfl (r := false) rfl <| kmv rfl ?_; refine K.gtr rfl rfl (r := false) rfl .plain <| K.neqB rfl rfl rfl .plain <| kmv rfl <| gmv rfl rfl rfl <| gmv rfl rfl rfl <| K.neq rfl rfl (r := false) rfl (.taken rfl rfl) ?_; refine kpf rfl rfl <| kmv rfl <| gmv rfl rfl rfl <| gmv rfl rfl rfl <| K.lookup (kt := 27) (et := 4) (v := .bool false) (z := .bool false) rfl rfl rfl (by kernel_rfl) (KL.int (q := .u64) (by kernel_rfl)) hkey (by kernel_rfl) hat (.taken rfl rfl) ?_; refine kpf rfl rfl <| kmv rfl <| gmv rfl rfl rfl <| K.neq rfl rfl (r := false) rfl (.taken rfl rfl) ?_; refine gmv rfl rfl rfl <| RunK.passed rfl rfl rfl <| RunK.passed rfl rfl rfl <| RunK.passed rfl rfl rfl <| RunK.passed rfl rfl rfl <| K.pickF rfl rfl (.taken rfl rfl) ?_; refine kpf rfl rfl <| RunK.nil <| LWP.condF rfl ?_; refine LWP.skip ?_; refine LWP.seq <| LWP.region (by kernel_rfl) <| kmv rfl <| keq rfl rfl (r := false) rfl <| RunK.nil <| LWP.condF rfl ?_; refine LWP.skip ?_)
          refine Leads.le (σ' := ⟨[(2, .sv (.one (.val (.slice (some ⟨tb, to, none⟩) ts.length tcap)))), (7, Ln .i64 (n : Nat)), (8, Ln .i64 (g : Nat)), (9, Lp 500), (10, .sv (.one (.mp 502))), (11, .sv (.one (.slc 501 0 (dL).length 1))), (12, Ln .i64 (i : Nat))], [xB 500 g (l), emB 502 (sL), (501, some ⟨27, (u64V (dL)).map .val, Nat.blt 0 (dL).length⟩)], Y⟩) (Le.of (by exact ⟨rfl, rfl, rfl, rfl, rfl, rfl, rfl, trivial⟩) (by exact ⟨rfl, rfl, rfl, trivial⟩) (by exact rfl) (by exact rfl) (by repeat' (first | refine all_cons_true ?_ ?_ | rfl | exact bytes_inUse | exact vals_inUse | exact mid_inUse rfl))) ?_
          exact Leads.le (Le.drop hY) (Leads.done ⟨l, sL, dL, I, hOk, hnl, by omega, rfl⟩)
        | some i' =>
          obtain ⟨gen, hx, _⟩ := next_at hnx
          have hgn := okN hOk hx
          have hi' := (List.getElem?_eq_some_iff.1 hx).1
          have hfp := free_pos hnx
          have hFr := iFree Y g l hOk
          have hNx := iNext Y g l hOk
          have hSp := iSpawn Y g l hOk hnx hx
          have hOk2 := hOk.spawn hx
          obtain ⟨I2, hnew⟩ := I.spawn hx hgn.1 (by omega)
          have hh64 := hdl_lt (i := i' + 1) (gen := gen) (by omega) (by omega)
          have hpos : 1 ≤ hdl (i' + 1) gen := by unfold hdl; omega
          have hliv := lives hx (by omega)
          rw [nextH_some hnx hx] at hNx
          have hkey := key_u64 hh64
          have hat := entM_at hnew
          have hput := entM_put hnew
          have hA := iAlive Y g (l.set i' (gen, 1)) hOk2 (hdl (i' + 1) gen) hh64
          rw [hliv] at hA
          generalize hdl (i' + 1) gen = w at *
          (refine LWP.region (by kernel_rfl) <| kmv rfl <| kmv rfl <| K.indexX rfl rfl SliceT.h (by omega) hio .plain <| K.loadX rfl hTX rfl hTa .plain <| K.rem rfl rfl (by decide) rfl .plain <| keq rfl rfl (r := false) (beq_eq_false_iff_ne.2 c1) <| kmv rfl <| gmv rfl rfl rfl <| K.lenX rfl SliceT.h rfl (.taken rfl rfl) ?_; refine K.eql rfl rfl (r := true) (beq_iff_eq.2 (by omega)) (.taken rfl rfl) ?_; refine kpf rfl rfl <| RunK.nil <| LWP.condT rfl ?_; refine LWP.seq <| LWP.region (by kernel_rfl) <| kmv rfl <| K.callM [(1000000, 500)] [xB 500 g l] (hFr) rfl rfl (by exact (And.intro ⟨_, rfl, rfl⟩ trivial)) (by exact (all_cons_true rfl rfl)) rfl rfl rfl rfl (by exact (.box rfl rfl .nil)) .plain <| kas rfl <| RunK.nil <| LWP.seq <| LWP.region (by kernel_rfl) <| kmv rfl <| K.callM [(1000000, 500)] [xB 500 g l] (hNx) rfl rfl (by exact (And.intro ⟨_, rfl, rfl⟩ trivial)) (by exact (all_cons_true rfl rfl)) rfl rfl rfl rfl (by exact (.box rfl rfl .nil)) .plain <| kas rfl <| RunK.nil <| LWP.seq <| LWP.region (by kernel_rfl) ?_; refine kmv rfl <| K.callM [(1000000, 500)] [xB 500 g (l.set i' (gen, 1))] (hSp) rfl rfl (by exact (And.intro ⟨_, rfl, rfl⟩ trivial)) (by exact (all_cons_true rfl rfl)) rfl rfl rfl rfl (by exact (.box rfl rfl .nil)) .plain <| kmv rfl <| kex rfl rfl <| kex rfl rfl <| kas rfl <| kas rfl <| RunK.nil <| LWP.seq <| LWP.seq <| LWP.region (by kernel_rfl) <| kmv rfl <| keq rfl rfl (r := true) rfl <| kmv rfl ?_; refine K.gtr rfl rfl (decide_eq_true (by omega)) .plain <| K.neqB rfl rfl rfl .plain <| kmv rfl <| gmv rfl rfl rfl <| gmv rfl rfl rfl <| K.neq rfl rfl (r := false) (bne_eq_false_iff_eq.2 rfl) (.taken rfl rfl) ?_; refine kpf rfl rfl <| kmv rfl <| gmv rfl rfl rfl <| gmv rfl rfl rfl <| K.lookup (kt := 27) (et := 4) (v := .bool false) (z := .bool false) rfl rfl rfl (by kernel_rfl) (KL.int (q := .u64) (by kernel_rfl)) hkey (by kernel_rfl) hat (.taken rfl rfl) ?_; refine kpf rfl rfl <| kmv rfl <| gmv rfl rfl rfl <| K.neq rfl rfl (r := true) (bne_iff_ne.2 (by omega)) (.taken rfl rfl) ?_; refine gmv rfl rfl rfl <| gmv rfl rfl rfl <| gmv rfl rfl rfl <| K.callM [(1000000, 500)] [xB 500 g (l.set i' (gen, 1))] (hA) rfl rfl (by exact (And.intro ⟨_, rfl, rfl⟩ trivial)) (by exact (all_cons_true rfl rfl)) rfl rfl rfl rfl (by exact (.box rfl rfl .nil)) (.taken rfl rfl) ?_; refine K.not rfl rfl (.taken rfl rfl) ?_; refine K.pickT rfl rfl (.taken rfl rfl) ?_; refine kpf rfl rfl <| RunK.nil <| LWP.condF rfl ?_; refine LWP.skip ?_; refine LWP.seq <| LWP.region (by kernel_rfl) <| kmv rfl <| keq rfl rfl (r := true) rfl <| RunK.nil <| LWP.condT rfl ?_; refine LWP.region (by kernel_rfl) <| kmv rfl <| kmv rfl <| K.mapUpdate (kt := 27) (et := 4) (entM (sL ++ [w])) rfl rfl rfl rfl (by kernel_rfl) (KL.int (q := .u64) (by kernel_rfl)) hkey hput .plain ?_; refine RunK.nil ?_)
          refine Leads.le (σ' := ⟨[(2, .sv (.one (.val (.slice (some ⟨tb, to, none⟩) ts.length tcap)))), (7, Ln .i64 (n : Nat)), (8, Ln .i64 (g : Nat)), (9, Lp 500), (10, .sv (.one (.mp 502))), (11, .sv (.one (.slc 501 0 (dL).length 1))), (12, Ln .i64 (i : Nat))], [xB 500 g (l.set i' (gen, 1)), emB 502 (sL ++ [w]), (501, some ⟨27, (u64V (dL)).map .val, Nat.blt 0 (dL).length⟩)], Y⟩) (Le.of (by exact ⟨rfl, rfl, rfl, rfl, rfl, rfl, rfl, trivial⟩) (by exact ⟨rfl, rfl, rfl, trivial⟩) (by exact rfl) (by exact rfl) (by repeat' (first | refine all_cons_true ?_ ?_ | rfl | exact bytes_inUse | exact vals_inUse | exact mid_inUse rfl))) ?_
          exact Leads.le (Le.drop hY) (Leads.done ⟨l.set i' (gen, 1), sL ++ [w], dL, I2, hOk2, by rw [List.length_set]; exact hnl, by omega, rfl⟩)
      obtain ⟨r, hr, hru⟩ := rest_u (v := v) (liveL l).length (by omega) (by omega)
      obtain ⟨h, hh⟩ : ∃ h, (liveL l)[r]? = some h := ⟨_, List.getElem?_eq_getElem hr⟩
      have hm := List.mem_of_getElem? hh
      obtain ⟨i', gen, g1, g2, g3, g4⟩ := live_alive hl256 hm
      have hi' := (List.getElem?_eq_some_iff.1 g1).1
      obtain ⟨lb, lo, larr, lel, lfr, rfl, hLX, hLa⟩ := hE.at_ r h hh
      have hor : lo + Int.toNat (r : Int) * 1 = lo + r * 1 := by simp
      have hw1 : IntKind.u64.wrap (((liveL l).length : Nat) : Int) = (((liveL l).length : Nat) : Int) := wrap_u64 (by omega)
      have hw2 : IntKind.i64.wrap ((r : Nat) : Int) = ((r : Nat) : Int) := wrap_i64 (by omega)
      have hK := iKill Y g l hOk h (hsm h hm) g4 g3 g1
      have I2 := I.kill (g := g) g1 hg1 (by omega) (by rw [← g2]; exact hsm h hm)
      rw [← g2] at I2
      have hcl := u64V_len dL
      have hnc := u64V_snoc dL h
      have hnL : dL.length + 1 = (dL ++ [h]).length := by rw [List.length_append]; rfl
      have hrow : Nat.blt 0 (dL ++ [h]).length = true := by rw [List.length_append]; simp
      (refine LWP.region (by kernel_rfl) <| kmv rfl <| kmv rfl <| K.indexX rfl rfl SliceT.h (by omega) hio .plain <| K.loadX rfl hTX rfl hTa .plain <| K.rem rfl rfl (by decide) rfl .plain <| keq rfl rfl (r := false) (beq_eq_false_iff_ne.2 c1) <| kmv rfl <| gmv rfl rfl rfl <| K.lenX rfl SliceT.h rfl (.taken rfl rfl) ?_; refine K.eql rfl rfl (r := false) (beq_eq_false_iff_ne.2 (by omega)) (.taken rfl rfl) ?_; refine kpf rfl rfl <| RunK.nil <| LWP.condF rfl ?_; refine LWP.seq <| LWP.region (by kernel_rfl) <| kmv rfl <| kmv rfl <| kmv rfl <| K.indexX rfl rfl SliceT.h (by omega) hio .plain <| K.loadX rfl hTX rfl hTa .plain <| kcv rfl rfl ?_; refine kmv rfl <| K.lenX rfl SliceT.h rfl .plain ?_; refine kcv rfl hw1 ?_; refine K.rem rfl rfl (by omega) hru .plain <| kcv rfl hw2 ?_; refine K.indexX rfl rfl SliceT.h (by omega) hor .plain <| K.loadX rfl hLX rfl hLa .plain <| kas rfl <| RunK.nil <| LWP.seq <| LWP.seq <| LWP.region (by kernel_rfl) <| kmv rfl <| kmv rfl <| K.callM [(1000000, 500)] [xB 500 g (l.set i' (killE g (gen, 1)))] (hK) rfl rfl (by exact (And.intro ⟨_, rfl, rfl⟩ trivial)) (by exact (all_cons_true rfl rfl)) rfl rfl rfl rfl (by exact (.box rfl rfl .nil)) .plain <| kne rfl rfl (r := false) rfl <| RunK.nil <| LWP.condF rfl ?_; refine LWP.skip ?_; refine LWP.region (by kernel_rfl) <| kmv rfl <| kmv rfl <| K.buildSlc (zs := [.int .u64 0]) (sz := 1) (e := 27) (cs' := [.val (.int .u64 (h : Nat))]) (by kernel_rfl) rfl rfl rfl rfl rfl rfl .plain <| K.appendSlc (by_ := 8) (e2 := 27) (l2 := [.val (.int .u64 (h : Nat))]) (nl := (dL ++ [h]).length) (nc := (u64V (dL ++ [h])).map .val) rfl rfl hcl rfl rfl (Nat.le_refl _) rfl rfl (by kernel_rfl) (by kernel_rfl) (by omega) (by omega) rfl hnL hnc .plain <| kas rfl <| RunK.nil ?_)
      refine Leads.le (σ' := ⟨[(2, .sv (.one (.val (.slice (some ⟨tb, to, none⟩) ts.length tcap)))), (7, Ln .i64 (n : Nat)), (8, Ln .i64 (g : Nat)), (9, Lp 500), (10, .sv (.one (.mp 502))), (11, .sv (.one (.slc 501 0 (dL ++ [h]).length 1))), (12, Ln .i64 (i : Nat))], [xB 500 g (l.set i' (killE g (gen, 1))), emB 502 (sL), (501, some ⟨27, (u64V (dL ++ [h])).map .val, Nat.blt 0 (dL ++ [h]).length⟩)], Y⟩) (by rw [hrow]; exact Le.ofR [(501, 118)] (by exact ⟨rfl, rfl, rfl, rfl, rfl, rfl, rfl, trivial⟩) (by repeat' (first | exact trivial | refine And.intro ⟨_, rfl, ?_⟩ ?_ | refine And.intro ⟨_, rfl⟩ ?_ | rfl | exact Box.ren_bytes _ _ _ _ | exact Box.ren_vals _ _ _ _ | exact Box.ren_mid rfl)) (by exact rfl) (by exact rfl) (by repeat' (first | refine all_cons_true ?_ ?_ | rfl | exact bytes_inUse | exact vals_inUse | exact mid_inUse rfl)) (by exact rfl) (by exact rfl)) ?_
      exact Leads.le (Le.drop hY) (Leads.done ⟨l.set i' (killE g (gen, 1)), sL, dL ++ [h], I2, hOk.kill g1, by rw [List.length_set]; exact hnl, by rw [← hnL]; omega, rfl⟩)
    rintro σ ⟨l', sL', dL', I', hOk', hnl', hdi', rfl⟩
    clear hTY hTX hE hsm hlL hll hl256 hOk I hnl hdi hg1
    have hadd : IntKind.i64.wrap (((i : Nat) : Int) + 1) = ((i + 1 : Nat) : Int) := by rw [wrap_i64 (by omega)]; omega
    (refine LWP.seq <| LWP.seq <| LWP.region (by kernel_rfl) <| kas rfl <| RunK.nil <| LWP.block ?_)
    refine LWP.loopL (fun m σ => ∃ k : Nat, k ≤ dL'.length ∧ m = dL'.length - k ∧ σ = ⟨[(19, Ln .i64 (k : Nat)), (2, .sv (.one (.val (.slice (some ⟨tb, to, none⟩) ts.length tcap)))), (7, Ln .i64 (n : Nat)), (8, Ln .i64 (g : Nat)), (9, Lp 500), (10, .sv (.one (.mp 502))), (11, .sv (.one (.slc 501 0 (dL').length 1))), (12, Ln .i64 (i : Nat))], [xB 500 g (l'), emB 502 (sL'), (501, some ⟨27, (u64V (dL')).map .val, Nat.blt 0 (dL').length⟩)], X⟩) dL'.length
      (Leads.le (σ' := ⟨[(19, Ln .i64 (0 : Nat)), (2, .sv (.one (.val (.slice (some ⟨tb, to, none⟩) ts.length tcap)))), (7, Ln .i64 (n : Nat)), (8, Ln .i64 (g : Nat)), (9, Lp 500), (10, .sv (.one (.mp 502))), (11, .sv (.one (.slc 501 0 (dL').length 1))), (12, Ln .i64 (i : Nat))], [xB 500 g (l'), emB 502 (sL'), (501, some ⟨27, (u64V (dL')).map .val, Nat.blt 0 (dL').length⟩)], X⟩) (Le.of (by exact ⟨rfl, rfl, rfl, rfl, rfl, rfl, rfl, rfl, trivial⟩) (by exact ⟨rfl, rfl, rfl, trivial⟩) (by exact rfl) (by exact rfl) (by repeat' (first | refine all_cons_true ?_ ?_ | rfl | exact bytes_inUse | exact vals_inUse | exact mid_inUse rfl))) (Leads.done ⟨0, by omega, by omega, rfl⟩)) ?_
    rintro m σ ⟨k, hk, rfl, rfl⟩
    by_cases hkl : k < dL'.length
    · obtain ⟨h, hh⟩ : ∃ h, dL'[k]? = some h := ⟨_, List.getElem?_eq_getElem hkl⟩
      obtain ⟨d1, _, d3⟩ := I'.dead h (List.mem_of_getElem? hh)
      have hA := iAlive X g l' hOk' h d1
      rw [d3] at hA
      have hK := iKill_no X g l' hOk' h d1 d3
      have hor : 0 + Int.toNat (k : Int) * 1 = k := by simp
      have hLr : ((u64V dL').map CV.val)[k]? = some (.val (.int .u64 (h : Nat))) := by unfold u64V; rw [List.getElem?_map, List.getElem?_map, hh]; rfl
      have haddk : IntKind.i64.wrap (((k : Nat) : Int) + 1) = ((k + 1 : Nat) : Int) := by rw [wrap_i64 (by omega)]; omega
      (refine LWP.seq <| LWP.seq <| LWP.region (by kernel_rfl) <| kmv rfl <| kmv rfl <| K.lenSlc rfl SliceT.h rfl .plain ?_; refine klt rfl rfl (decide_eq_true (by omega)) <| RunK.nil <| LWP.condT rfl ?_; refine LWP.skip ?_; refine LWP.seq <| LWP.block <| LWP.seq <| LWP.region (by kernel_rfl) <| kmv rfl <| kmv rfl <| kmv rfl <| K.indexSlc rfl rfl (by omega) hor .plain ?_; refine kl1 rfl rfl hLr <| K.callM [(1000000, 500)] [xB 500 g l'] (hA) rfl rfl (by exact (And.intro ⟨_, rfl, rfl⟩ trivial)) (by exact (all_cons_true rfl rfl)) rfl rfl rfl rfl (by exact (.box rfl rfl .nil)) .plain <| kmv rfl <| gmv rfl rfl rfl <| gmv rfl rfl rfl <| gmv rfl rfl rfl <| K.indexSlc rfl rfl (by omega) hor (.taken rfl rfl) ?_; refine K.loadOne rfl rfl hLr (.taken rfl rfl) ?_; refine K.callM [(1000000, 500)] [xB 500 g l'] (hK) rfl rfl (by exact (And.intro ⟨_, rfl, rfl⟩ trivial)) (by exact (all_cons_true rfl rfl)) rfl rfl rfl rfl (by exact (.box rfl rfl .nil)) (.taken rfl rfl) ?_; refine K.neq rfl rfl (r := false) rfl (.taken rfl rfl) ?_; refine kpf rfl rfl <| RunK.nil <| LWP.condF rfl ?_; refine LWP.skip ?_; refine LWP.region (by kernel_rfl) <| kmv rfl <| kad rfl rfl haddk <| kas rfl <| RunK.nil ?_)
      exact Leads.le (σ' := ⟨[(19, Ln .i64 (k + 1 : Nat)), (2, .sv (.one (.val (.slice (some ⟨tb, to, none⟩) ts.length tcap)))), (7, Ln .i64 (n : Nat)), (8, Ln .i64 (g : Nat)), (9, Lp 500), (10, .sv (.one (.mp 502))), (11, .sv (.one (.slc 501 0 (dL').length 1))), (12, Ln .i64 (i : Nat))], [xB 500 g (l'), emB 502 (sL'), (501, some ⟨27, (u64V (dL')).map .val, Nat.blt 0 (dL').length⟩)], X⟩) (Le.of (by exact ⟨rfl, rfl, rfl, rfl, rfl, rfl, rfl, rfl, trivial⟩) (by exact ⟨rfl, rfl, rfl, trivial⟩) (by exact rfl) (by exact rfl) (by repeat' (first | refine all_cons_true ?_ ?_ | rfl | exact bytes_inUse | exact vals_inUse | exact mid_inUse rfl))) (Leads.done ⟨dL'.length - (k + 1), by omega, k + 1, by omega, rfl, rfl⟩)
    have hC := iCount X g l' hOk'
    have hcn := I'.cnt
    have hgl := giv_le hOk'.ok
    rw [← I'.len, hnl'] at hgl
    have hng : n * g ≤ 24 := Nat.le_trans (Nat.mul_le_mul hnn hgg) (by decide)
    have hsub : IntKind.i64.wrap (((sL'.length : Nat) : Int) - ((dL'.length : Nat) : Int)) = ((cntE l' : Nat) : Int) := by rw [wrap_i64 (by omega)]; omega
    have hmul : IntKind.i64.wrap (((n : Nat) : Int) * ((g : Nat) : Int)) = ((n * g : Nat) : Int) := by rw [← Int.natCast_mul]; exact wrap_i64 (by omega)
    generalize n * g = ng at *
    (refine LWP.seq <| LWP.seq <| LWP.region (by kernel_rfl) <| kmv rfl <| kmv rfl <| K.lenSlc rfl SliceT.h rfl .plain ?_; refine klt rfl rfl (decide_eq_false (by omega)) <| RunK.nil <| LWP.condF rfl ?_; refine LWP.exit <| LWP.seq <| LWP.region (by kernel_rfl) <| kmv rfl <| K.callM [(1000000, 500)] [xB 500 g l'] (hC) rfl rfl (by exact (And.intro ⟨_, rfl, rfl⟩ trivial)) (by exact (all_cons_true rfl rfl)) rfl rfl rfl rfl (by exact (.box rfl rfl .nil)) .plain <| kmv rfl <| K.lenMap (kt := 27) (et := 4) rfl rfl (by kernel_rfl) (by rw [entM_len]) .plain ?_; refine kmv rfl <| K.lenSlc rfl SliceT.h rfl .plain ?_; refine K.sub rfl rfl hsub .plain <| kne rfl rfl (r := false) (bne_eq_false_iff_eq.2 rfl) <| kmv rfl <| gmv rfl rfl rfl <| K.lenMap (kt := 27) (et := 4) rfl rfl (by kernel_rfl) (by rw [entM_len]) (.taken rfl rfl) ?_; refine gmv rfl rfl rfl <| gmv rfl rfl rfl <| K.mul rfl rfl hmul (.taken rfl rfl) ?_; refine K.gtr rfl rfl (decide_eq_false (by omega)) (.taken rfl rfl) ?_; refine kpf rfl rfl <| RunK.nil <| LWP.condF rfl ?_; refine LWP.skip ?_; refine LWP.region (by kernel_rfl) <| kmv rfl <| kad rfl rfl hadd <| kas rfl <| RunK.nil ?_)
    exact Leads.le (σ' := ⟨[(2, .sv (.one (.val (.slice (some ⟨tb, to, none⟩) ts.length tcap)))), (7, Ln .i64 (n : Nat)), (8, Ln .i64 (g : Nat)), (9, Lp 500), (10, .sv (.one (.mp 502))), (11, .sv (.one (.slc 501 0 (dL').length 1))), (12, Ln .i64 (i + 1 : Nat))], [xB 500 g (l'), emB 502 (sL'), (501, some ⟨27, (u64V (dL')).map .val, Nat.blt 0 (dL').length⟩)], X⟩) (Le.of (by exact ⟨rfl, rfl, rfl, rfl, rfl, rfl, rfl, trivial⟩) (by exact ⟨rfl, rfl, rfl, trivial⟩) (by exact rfl) (by exact rfl) (by repeat' (first | refine all_cons_true ?_ ?_ | rfl | exact bytes_inUse | exact vals_inUse | exact mid_inUse rfl))) (Leads.done ⟨ts.length - (i + 1), by omega, i + 1, l', sL', dL', by omega, by omega, rfl, I', hOk', hnl', hdi', rfl⟩)
  clear hOk hnl I0
  clear l
  rintro σ ⟨l, sL, dL, I, hOk, hnl, rfl⟩
  have hFr := iFree X g l hOk
  have hC := iCount X g l hOk
  have hng : n * g ≤ 24 := Nat.le_trans (Nat.mul_le_mul hnn hgg) (by decide)
  have hmul : IntKind.i64.wrap (((n : Nat) : Int) * ((g : Nat) : Int)) = ((n * g : Nat) : Int) := by rw [← Int.natCast_mul]; exact wrap_i64 (by omega)
  by_cases c1 : 0 < freE l
  · (refine LWP.seq <| LWP.region (by kernel_rfl) <| kmv rfl <| K.callM [(1000000, 500)] [xB 500 g l] (hFr) rfl rfl (by exact (And.intro ⟨_, rfl, rfl⟩ trivial)) (by exact (all_cons_true rfl rfl)) rfl rfl rfl rfl (by exact (.box rfl rfl .nil)) .plain <| K.gtr rfl rfl (decide_eq_true (by omega)) .plain <| kmv rfl <| RunK.passed rfl rfl rfl <| RunK.passed rfl rfl rfl <| RunK.passed rfl rfl rfl <| RunK.passed rfl rfl rfl <| RunK.passed rfl rfl rfl <| RunK.passed rfl rfl rfl <| kpt rfl rfl <| kmv rfl ?_; refine RunK.passed rfl rfl rfl <| RunK.passed rfl rfl rfl <| RunK.passed rfl rfl rfl <| kpt rfl rfl <| kas rfl <| RunK.nil <| LWP.ret ?_)
    exact ⟨[_], ⟨rfl, trivial⟩, rfl⟩
  by_cases c2 : sL.length = n * g
  · (refine LWP.seq <| LWP.region (by kernel_rfl) <| kmv rfl <| K.callM [(1000000, 500)] [xB 500 g l] (hFr) rfl rfl (by exact (And.intro ⟨_, rfl, rfl⟩ trivial)) (by exact (all_cons_true rfl rfl)) rfl rfl rfl rfl (by exact (.box rfl rfl .nil)) .plain <| K.gtr rfl rfl (decide_eq_false (by omega)) .plain <| kmv rfl <| gmv rfl rfl rfl <| K.lenMap (kt := 27) (et := 4) rfl rfl (by kernel_rfl) (by rw [entM_len]) (.taken rfl rfl) ?_; refine gmv rfl rfl rfl <| gmv rfl rfl rfl <| K.mul rfl rfl hmul (.taken rfl rfl) ?_; refine K.eql rfl rfl (r := true) (beq_iff_eq.2 (by omega)) (.taken rfl rfl) ?_; refine kpf rfl rfl <| kmv rfl <| RunK.passed rfl rfl rfl <| RunK.passed rfl rfl rfl <| RunK.passed rfl rfl rfl <| kpt rfl rfl <| kas rfl <| RunK.nil <| LWP.ret ?_)
    exact ⟨[_], ⟨rfl, trivial⟩, rfl⟩
  have c3 : 0 < cntE l := by
    rcases Nat.eq_zero_or_pos (cntE l) with h0 | h0
    · exact absurd (by rw [I.len, giv_all hOk.ok (by omega) h0, hnl]) c2
    · exact h0
  (refine LWP.seq <| LWP.region (by kernel_rfl) <| kmv rfl <| K.callM [(1000000, 500)] [xB 500 g l] (hFr) rfl rfl (by exact (And.intro ⟨_, rfl, rfl⟩ trivial)) (by exact (all_cons_true rfl rfl)) rfl rfl rfl rfl (by exact (.box rfl rfl .nil)) .plain <| K.gtr rfl rfl (decide_eq_false (by omega)) .plain <| kmv rfl <| gmv rfl rfl rfl <| K.lenMap (kt := 27) (et := 4) rfl rfl (by kernel_rfl) (by rw [entM_len]) (.taken rfl rfl) ?_; refine gmv rfl rfl rfl <| gmv rfl rfl rfl <| K.mul rfl rfl hmul (.taken rfl rfl) ?_; refine K.eql rfl rfl (r := false) (beq_eq_false_iff_ne.2 (by omega)) (.taken rfl rfl) ?_; refine kpf rfl rfl <| kmv rfl <| gmv rfl rfl rfl <| K.callM [(1000000, 500)] [xB 500 g l] (hC) rfl rfl (by exact (And.intro ⟨_, rfl, rfl⟩ trivial)) (by exact (all_cons_true rfl rfl)) rfl rfl rfl rfl (by exact (.box rfl rfl .nil)) (.taken rfl rfl) ?_; refine K.gtr rfl rfl (decide_eq_true (by omega)) (.taken rfl rfl) ?_; refine kpf rfl rfl <| kas rfl <| RunK.nil <| LWP.ret ?_)
  exact ⟨[_], ⟨rfl, trivial⟩, rfl⟩
end Go.Proofs.Ytkdbkgfdggbhkaa
end
