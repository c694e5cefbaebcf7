/- A piece of a proof over this program: contracts of its functions, and a logic to prove them by. -/
import Derived.Test.YtbpdbclndfmcgaaGreatDoorQ2
import Derived.Test.YtbpdbclndfmcgaaGreatDoorQ3
import Derived.Lib.SmallJoins
import Derived.Test.YtbpdbclndfmcgaaGreatDoorRows
import Derived.StringKeys
import Derived.WideMake
section
namespace Go.Lg.Fld
open Go Go.Lg
theorem splice_bc (B s : List UInt8) (p : Nat) : splice (B.map bc) p (s.map bc) = (setAt B p s).map bc := by
  unfold splice setAt
  simp [List.map_take, List.map_drop]
end Go.Lg.Fld
namespace Go.Proofs.YtbpdbclndfmcgaaGreatDoor
open Go Go.Lg Go.Lg.Fld
set_option maxRecDepth 100000
variable (X : Nat → Option Obj)
set_option maxHeartbeats 1600000 in
theorem lFit_any (ad ad2 : Option Addr) (cap cap2 : Nat) (fs : List Fl) (ns : List (Bool × Int)) (hin : FieldsIn X ad fs) (hbig : fs.length < 4611686018427387904) (hns : NumsIn X ad2 ns) :
    PSpec Tryz.prog X 82 [Lx ad fs.length cap, Lx ad2 ns.length cap2] (Ln .i64 (fitErr fs ns)) := by
  refine PSpec.intro Tryz.func82 rfl (by kernel_rfl) rfl rfl ?_
  intro C
  unfold fitErr
  by_cases hl : layErr fs = 0
  · have hO := Of_ok X ad cap fs hin hbig hl
    obtain ⟨h8, hall, _⟩ := layErr_facts hl
    have hSl := slotsOf_spec X ad cap fs (rowSize fs) hin h8 hall
    have hEl := elems_len fs 0 hall
    rw [if_pos hl]
    generalize elemsAt 0 fs = E at *
    generalize startsAt 0 fs = S at *
    generalize rowSize fs = T at *
    by_cases hn : E.length = ns.length
    · rw [if_pos hn]
      (refine LWP.seq <| rgN <| kas rfl <| RunK.nil <| LWP.seq <| rgN <| kmv rfl <| K.callMp [(1000001, 501)] (.tup [planV (T : Nat) (.slc 501 0 fs.length 1), Sn .i64 0]) [(501, some ⟨3, (ntV S).map .val, false⟩)] (hO) rfl rfl (by exact trivial) rfl rfl rfl rfl rfl (by exact (.box rfl (Box.ren_vals _ _ _ _) .nil)) .plain <| kmv rfl <| kex rfl rfl <| kex rfl rfl <| K.alloc rfl .plain ?_; refine K.storeAll rfl rfl rfl rfl rfl rfl .plain ?_; refine kas rfl <| RunK.nil <| LWP.seq <| LWP.seq <| rgN <| kmv rfl <| kne rfl rfl ((bne_eq_false_iff_eq.2 (by omega))) <| RunK.nil <| LWP.condF rfl ?_; refine LWP.skip ?_; refine LWP.seq <| rgN <| kmv rfl <| K.loadAll rfl rfl rfl .plain ?_; refine K.callMp [(1000001, 501), (1000002, 502)] (.sv (.one (.slc 502 0 E.length 2))) [(501, some ⟨3, (ntV S).map .val, false⟩), (502, some ⟨155, (elVs E).map .val, Nat.blt 0 E.length⟩)] (hSl) rfl rfl (by exact (And.intro ⟨_, rfl, (Box.ren_vals _ _ _ _)⟩ trivial)) (by exact (all_cons_true vals_inUse rfl)) rfl rfl rfl rfl (by exact (.box rfl (Box.ren_vals _ _ _ _) (.box rfl (Box.ren_vals _ _ _ _) .nil))) .plain <| kas rfl <| RunK.nil <| LWP.seq <| LWP.seq <| rgN <| kmv rfl <| K.lenX rfl SliceT.h rfl .plain ?_; refine kmv rfl <| K.lenSlc rfl SliceT.h rfl .plain ?_; refine kne rfl rfl ((bne_eq_false_iff_eq.2 (by omega))) <| RunK.nil <| LWP.condF rfl ?_; refine LWP.skip ?_; refine LWP.seq <| LWP.seq <| rgN <| kmv rfl <| K.lenSlc rfl SliceT.h rfl .plain ?_; refine kmv rfl <| RunK.nil <| LWP.block ?_)
      refine LWP.loop (fun m σ => ∃ i : Nat, i ≤ E.length ∧ m = E.length - i ∧ ((E.zip ns).take i).all (fun p => fitB p.1.1 p.2.1 p.2.2) = true ∧ σ = ⟨[(1, Lx ad2 ns.length cap2), (26, .sv (.one (.slc 502 0 E.length 2))), (27, Ln .i64 (E.length : Nat)), (28, Ln .i64 (i : Nat))], [(502, some ⟨155, (elVs E).map .val, Nat.blt 0 E.length⟩)], X⟩) E.length
        ⟨_, Le.of (by exact ⟨rfl, rfl, rfl, rfl, trivial⟩) (by exact ⟨rfl, trivial⟩) (by exact rfl) (by exact rfl) (by repeat' (first | refine all_cons_true ?_ ?_ | rfl | exact bytes_inUse | exact vals_inUse | exact mid_inUse rfl)), 0, by omega, rfl, rfl, rfl⟩ ?_
      rintro m σ ⟨i, hi, rfl, hpre, rfl⟩
      by_cases hlt : i < E.length
      · obtain ⟨e, he⟩ : ∃ e, E[i]? = some e := ⟨_, List.getElem?_eq_getElem hlt⟩
        obtain ⟨⟨b, N⟩, hv⟩ : ∃ v, ns[i]? = some v := ⟨_, List.getElem?_eq_getElem (by omega)⟩
        obtain ⟨hN, blk, off, arr, el, fr, rfl, hX, hsz, hcells⟩ := hns.at hv
        have hio : off + Int.toNat (i : Int) * 3 = off + i * 3 := by simp
        have hie : 0 + Int.toNat (i : Int) * 2 = i * 2 := by simp
        have hc := elVs_row he
        have hbl := elVs_fit he
        have hzip := zip_at he hv
        have hF := Fits_spec X e.1 b N hN
        cases hf : fitB e.1 b N with
        | true =>
          have hF' := hF true hf
          (refine LWP.seq <| rgN <| klt rfl rfl (decide_eq_true (by omega)) <| RunK.nil <| LWP.seq <| LWP.condT rfl ?_; refine LWP.skip ?_; refine LWP.seq <| LWP.block <| LWP.seq <| rgN <| kmv rfl <| K.indexSlc rfl rfl (by omega) hie .plain ?_; refine K.loadPart rfl rfl hbl hc .plain ?_; refine K.alloc rfl .plain ?_; refine kas rfl <| K.storeAll rfl rfl rfl rfl rfl rfl .plain ?_; refine RunK.nil <| LWP.seq <| rgD mixed <| kfa rfl rfl ?_; refine kl1 rfl rfl rfl <| kmv rfl <| kmv rfl <| K.indexX rfl rfl SliceT.h (by omega) hio .plain <| K.loadXagg rfl hX (by kernel_rfl) hsz hcells .plain <| kca rfl rfl (hF') <| K.not rfl rfl .plain <| RunK.nil <| rgA ?_; refine LWP.condF rfl ?_; refine LWP.skip ?_; refine rgN <| kad rfl rfl (wrap_i64 (by omega)) <| kmv rfl <| RunK.nil ?_)
          exact ⟨_, _, by omega, Le.of (by exact ⟨rfl, rfl, rfl, rfl, trivial⟩) (by exact ⟨rfl, trivial⟩) (by exact rfl) (by exact rfl) (by repeat' (first | refine all_cons_true ?_ ?_ | rfl | exact bytes_inUse | exact vals_inUse | exact mid_inUse rfl)), i + 1, by omega, rfl, by rw [take_snoc hzip, List.all_append, hpre]; simp [hf], rfl⟩
        | false =>
          have hF' := hF false hf
          have hno : fitAll E ns = false := by
            unfold fitAll
            cases h : (E.zip ns).all (fun p => fitB p.1.1 p.2.1 p.2.2) with
            | false => rfl
            | true => have := List.all_eq_true.1 h _ (List.mem_of_getElem? hzip); rw [hf] at this; cases this
          rw [hno]
          (refine LWP.seq <| rgN <| klt rfl rfl (decide_eq_true (by omega)) <| RunK.nil <| LWP.seq <| LWP.condT rfl ?_; refine LWP.skip ?_; refine LWP.seq <| LWP.block <| LWP.seq <| rgN <| kmv rfl <| K.indexSlc rfl rfl (by omega) hie .plain ?_; refine K.loadPart rfl rfl hbl hc .plain ?_; refine K.alloc rfl .plain ?_; refine kas rfl <| K.storeAll rfl rfl rfl rfl rfl rfl .plain ?_; refine RunK.nil <| LWP.seq <| rgD mixed <| kfa rfl rfl ?_; refine kl1 rfl rfl rfl <| kmv rfl <| kmv rfl <| K.indexX rfl rfl SliceT.h (by omega) hio .plain <| K.loadXagg rfl hX (by kernel_rfl) hsz hcells .plain <| kca rfl rfl (hF') <| K.not rfl rfl .plain <| RunK.nil <| rgA ?_; refine LWP.condT rfl ?_; refine LWP.seq <| rgN <| kas rfl <| RunK.nil <| LWP.ret ?_)
          exact ⟨[_], ⟨rfl, trivial⟩, rfl⟩
      · have e : i = E.length := by omega
        subst e
        have hyes : fitAll E ns = true := by
          rw [List.take_of_length_le (by rw [List.length_zip]; omega)] at hpre
          exact hpre
        rw [hyes]
        (refine LWP.seq <| rgN <| klt rfl rfl (decide_eq_false (by omega)) <| RunK.nil <| LWP.seq <| LWP.condF rfl ?_; refine LWP.exit <| LWP.seq <| rgN <| kas rfl <| RunK.nil <| LWP.ret ?_)
        exact ⟨[_], ⟨rfl, trivial⟩, rfl⟩
    · rw [if_neg hn]
      (refine LWP.seq <| rgN <| kas rfl <| RunK.nil <| LWP.seq <| rgN <| kmv rfl <| K.callMp [(1000001, 501)] (.tup [planV (T : Nat) (.slc 501 0 fs.length 1), Sn .i64 0]) [(501, some ⟨3, (ntV S).map .val, false⟩)] (hO) rfl rfl (by exact trivial) rfl rfl rfl rfl rfl (by exact (.box rfl (Box.ren_vals _ _ _ _) .nil)) .plain <| kmv rfl <| kex rfl rfl <| kex rfl rfl <| K.alloc rfl .plain ?_; refine K.storeAll rfl rfl rfl rfl rfl rfl .plain ?_; refine kas rfl <| RunK.nil <| LWP.seq <| LWP.seq <| rgN <| kmv rfl <| kne rfl rfl ((bne_eq_false_iff_eq.2 (by omega))) <| RunK.nil <| LWP.condF rfl ?_; refine LWP.skip ?_; refine LWP.seq <| rgN <| kmv rfl <| K.loadAll rfl rfl rfl .plain ?_; refine K.callMp [(1000001, 501), (1000002, 502)] (.sv (.one (.slc 502 0 E.length 2))) [(501, some ⟨3, (ntV S).map .val, false⟩), (502, some ⟨155, (elVs E).map .val, Nat.blt 0 E.length⟩)] (hSl) rfl rfl (by exact (And.intro ⟨_, rfl, (Box.ren_vals _ _ _ _)⟩ trivial)) (by exact (all_cons_true vals_inUse rfl)) rfl rfl rfl rfl (by exact (.box rfl (Box.ren_vals _ _ _ _) (.box rfl (Box.ren_vals _ _ _ _) .nil))) .plain <| kas rfl <| RunK.nil <| LWP.seq <| LWP.seq <| rgN <| kmv rfl <| K.lenX rfl SliceT.h rfl .plain ?_; refine kmv rfl <| K.lenSlc rfl SliceT.h rfl .plain ?_; refine kne rfl rfl (bne_iff_ne.2 (by omega)) <| RunK.nil <| LWP.condT rfl ?_; refine LWP.seq <| rgN <| kas rfl <| RunK.nil <| LWP.ret ?_)
      exact ⟨[_], ⟨rfl, trivial⟩, rfl⟩
  · have hO := Of_err X ad cap fs hin hbig hl
    rw [if_neg hl]
    generalize layErr fs = e at *
    (refine LWP.seq <| rgN <| kas rfl <| RunK.nil <| LWP.seq <| rgN <| kmv rfl <| kca rfl rfl (hO) <| kmv rfl <| kex rfl rfl <| kex rfl rfl <| K.alloc rfl .plain ?_; refine K.storeAll rfl rfl rfl rfl rfl rfl .plain ?_; refine kas rfl <| RunK.nil <| LWP.seq <| LWP.seq <| rgN <| kmv rfl <| kne rfl rfl (bne_iff_ne.2 (by omega)) <| RunK.nil <| LWP.condT rfl ?_; refine LWP.seq <| rgN <| kmv rfl <| kas rfl <| RunK.nil <| LWP.ret ?_)
    exact ⟨[_], ⟨rfl, trivial⟩, rfl⟩
theorem lFit_spec (ad ad2 : Option Addr) (cap cap2 : Nat) (fs : List Fl) (ns : List (Bool × Int)) (hin : FieldsIn X ad fs) (hbig : fs.length < 4611686018427387904) (hns : NumsIn X ad2 ns) (_ : ns.length < 4611686018427387904) :
    PSpec Tryz.prog X 82 [Lx ad fs.length cap, Lx ad2 ns.length cap2] (Ln .i64 (fitErr fs ns)) := lFit_any X ad ad2 cap cap2 fs ns hin hbig hns
def packR (fs : List Fl) (ns : List (Bool × Int)) : List UInt8 := if fitErr fs ns = 0 then packB fs ns else []
set_option maxHeartbeats 1600000 in
theorem lPack_spec (ad ad2 : Option Addr) (cap cap2 : Nat) (fs : List Fl) (ns : List (Bool × Int)) (hin : FieldsIn X ad fs) (hbig : fs.length < 4611686018427387904) (hns : NumsIn X ad2 ns) (hnb : ns.length < 4611686018427387904) :
    PSpec Tryz.prog X 46 [Lx ad fs.length cap, Lx ad2 ns.length cap2] (.tup [Ss (packR fs ns), Sn .i64 (fitErr fs ns)]) := by
  have hFit := lFit_spec X ad ad2 cap cap2 fs ns hin hbig hns hnb
  refine PSpec.intro Tryz.func46 rfl (by kernel_rfl) rfl rfl ?_
  intro C
  unfold packR
  by_cases h : fitErr fs ns = 0
  · rw [if_pos h, h]
    rw [h] at hFit
    obtain ⟨hl, hn, hfit⟩ := fitErr_facts h
    have hO := Of_ok X ad cap fs hin hbig hl
    obtain ⟨h8, hall, hT⟩ := layErr_facts hl
    have hSl := slotsOf_spec X ad cap fs (rowSize fs) hin h8 hall
    have hW := within_row hall
    have hEl := elems_len fs 0 hall
    unfold packB
    generalize elemsAt 0 fs = E at *
    generalize startsAt 0 fs = S at *
    generalize rowSize fs = T at *
    have hmk : slcBuild Tryz.prog 151 T = some (List.replicate T (.int .u8 0), 1, 5) := slcBuild_one (by kernel_rfl) (by kernel_rfl) (by omega)
    have hz0 : (List.replicate T (Value.int .u8 0)).map CV.val = (List.replicate T (0 : UInt8)).map bc := by rw [List.map_replicate, List.map_replicate]; rfl
    (refine LWP.seq <| rgN <| kas rfl <| kas rfl <| RunK.nil <| LWP.seq <| LWP.seq <| rgN <| kmv rfl <| kmv rfl <| kca rfl rfl (hFit) <| kas rfl <| RunK.nil <| LWP.seq ?_; refine rgN <| kmv rfl <| kne rfl rfl ((bne_eq_false_iff_eq.2 (by omega))) <| RunK.nil <| LWP.condF rfl ?_; refine LWP.skip ?_; refine LWP.seq <| rgN <| kmv rfl <| K.callMp [(1000001, 501)] (.tup [planV (T : Nat) (.slc 501 0 fs.length 1), Sn .i64 0]) [(501, some ⟨3, (ntV S).map .val, false⟩)] (hO) rfl rfl (by exact trivial) rfl rfl rfl rfl rfl (by exact (.box rfl (Box.ren_vals _ _ _ _) .nil)) .plain <| kmv rfl <| kex rfl rfl <| kex rfl rfl <| K.alloc rfl .plain ?_; refine K.storeAll rfl rfl rfl rfl rfl rfl .plain ?_; refine kas rfl <| RunK.nil <| LWP.seq <| rgN <| kfa rfl rfl ?_; refine kl1 rfl rfl rfl <| K.makeSlc (m := T) (bytes := 1) rfl rfl hmk (by kernel_rfl) (by omega) hz0 rfl .plain <| kas rfl <| RunK.nil <| LWP.seq <| LWP.seq <| rgN <| kmv rfl <| K.loadAll rfl rfl rfl .plain ?_; refine K.callMp [(1000001, 501), (1000002, 502)] (.sv (.one (.slc 502 0 E.length 2))) [(501, some ⟨3, (ntV S).map .val, false⟩), (502, some ⟨155, (elVs E).map .val, Nat.blt 0 E.length⟩)] (hSl) rfl rfl (by exact (And.intro ⟨_, rfl, (Box.ren_vals _ _ _ _)⟩ trivial)) (by exact (all_cons_true vals_inUse rfl)) rfl rfl rfl rfl (by exact (.box rfl (Box.ren_vals _ _ _ _) (.box rfl (Box.ren_vals _ _ _ _) .nil))) .plain <| K.lenSlc rfl SliceT.h rfl .plain ?_; refine kmv rfl <| RunK.nil <| LWP.block ?_)
    refine LWP.loop (fun m σ => ∃ i : Nat, i ≤ E.length ∧ m = E.length - i ∧ σ = ⟨[(1, Lx ad2 ns.length cap2), (9, .sv (.one (.slc 500 0 T 1))), (30, .sv (.one (.slc 502 0 E.length 2))), (31, Ln .i64 (E.length : Nat)), (32, Ln .i64 (i : Nat))], [(502, some ⟨155, (elVs E).map .val, Nat.blt 0 E.length⟩), (500, some ⟨5, (packE (E.take i) (ns.take i) (List.replicate T 0)).map bc, false⟩)], X⟩) E.length
      ⟨_, Le.ofR [(500, 27)] (by exact ⟨rfl, rfl, rfl, rfl, rfl, trivial⟩) (by repeat' (first | exact trivial | refine And.intro ⟨_, rfl, ?_⟩ ?_ | refine And.intro ⟨_, rfl⟩ ?_ | rfl | exact Box.ren_bytes _ _ _ _ | exact Box.ren_vals _ _ _ _ | exact Box.ren_mid rfl)) (by exact rfl) (by exact rfl) (by repeat' (first | refine all_cons_true ?_ ?_ | rfl | exact bytes_inUse | exact vals_inUse | exact mid_inUse rfl)) (by exact rfl) (by exact rfl), 0, by omega, rfl, rfl⟩ ?_
    rintro m σ ⟨i, hi, rfl, rfl⟩
    have hbl : (packE (E.take i) (ns.take i) (List.replicate T 0)).length = T := packE_len (fun e he => hW e (List.mem_of_mem_take he)) (by rw [List.length_replicate])
    by_cases hlt : i < E.length
    · obtain ⟨e, he⟩ : ∃ e, E[i]? = some e := ⟨_, List.getElem?_eq_getElem hlt⟩
      obtain ⟨⟨b, N⟩, hv⟩ : ∃ v, ns[i]? = some v := ⟨_, List.getElem?_eq_getElem (by omega)⟩
      obtain ⟨hN, blk, off, arr, el, fr, rfl, hX, hsz, hcells⟩ := hns.at hv
      have hio : off + Int.toNat (i : Int) * 3 = off + i * 3 := by simp
      have hie : 0 + Int.toNat (i : Int) * 2 = i * 2 := by simp
      have hc := elVs_row he
      have hbf := elVs_fit he
      obtain ⟨g1, g2, g3⟩ := fitAll_at hfit he hv
      have hP := Put_q X e.1 (zv b N) g2 g3
      rw [← LI_q hN g1] at hP
      have hnext : packE (E.take (i + 1)) (ns.take (i + 1)) (List.replicate T 0) = setAt (packE (E.take i) (ns.take i) (List.replicate T 0)) e.2 (numB e.1 (b, N)) := by
        rw [take_snoc he, take_snoc hv, packE_snoc]
        rw [List.length_take, List.length_take]; omega
      have hWe := (hW e (List.mem_of_getElem? he)).2
      have hw1 : 1 ≤ kW e.1 := by rcases kW_in g2 with x | x | x | x <;> omega
      have hsl : (leB (kW e.1) (wdK e.1 (zv b N))).length = kW e.1 := leB_length _ _
      have hnb2 : numB e.1 (b, N) = leB (kW e.1) (wdK e.1 (zv b N)) := rfl
      rw [hnb2] at hnext
      have hw8 := (kfacts e.1).2.2.2.2
      have hspl := splice_bc (packE (E.take i) (ns.take i) (List.replicate T 0)) (leB (kW e.1) (wdK e.1 (zv b N))) e.2
      rw [← hnext] at hspl
      generalize leB (kW e.1) (wdK e.1 (zv b N)) = s at *
      generalize packE (E.take i) (ns.take i) (List.replicate T 0) = B at *
      (refine LWP.seq <| rgN <| klt rfl rfl (decide_eq_true (by omega)) <| RunK.nil <| LWP.seq <| LWP.condT rfl ?_; refine LWP.skip ?_; refine LWP.seq <| LWP.block <| LWP.seq <| rgN <| kmv rfl <| K.indexSlc rfl rfl (by omega) hie .plain ?_; refine K.loadPart rfl rfl hbf hc .plain ?_; refine K.alloc rfl .plain ?_; refine kas rfl <| K.storeAll rfl rfl rfl rfl rfl rfl .plain ?_; refine RunK.nil <| LWP.seq <| rgD mixed <| kfa rfl rfl ?_; refine kl1 rfl rfl rfl <| kmv rfl <| kmv rfl <| K.indexX rfl rfl SliceT.h (by omega) hio .plain <| K.loadXagg rfl hX (by kernel_rfl) hsz hcells .plain <| kca rfl rfl (hP) <| kmv rfl <| kex rfl rfl <| kex rfl rfl <| kas rfl <| kas rfl <| RunK.nil <| rgA ?_; refine rgN <| kmv rfl <| kfa rfl rfl ?_; refine kl1 rfl rfl rfl <| K.fromSlc (l := e.2) (kh := .i64) (off' := e.2) rfl rfl SliceT.h (by omega) (by omega) rfl .plain ?_; refine kmv rfl <| K.copyStr (e := 5) rfl rfl rfl (by kernel_rfl) (by kernel_rfl) (by omega) (by rw [List.length_map]; omega) rfl hspl .plain ?_; refine RunK.nil <| rgN <| kad rfl rfl (wrap_i64 (by omega)) <| kmv rfl <| RunK.nil ?_)
      exact ⟨_, _, by omega, Le.of (by exact ⟨rfl, rfl, rfl, rfl, rfl, trivial⟩) (by exact ⟨rfl, rfl, trivial⟩) (by exact rfl) (by exact rfl) (by repeat' (first | refine all_cons_true ?_ ?_ | rfl | exact bytes_inUse | exact vals_inUse | exact mid_inUse rfl)), i + 1, by omega, rfl, rfl⟩
    · have e : i = E.length := by omega
      subst e
      rw [List.take_length, List.take_of_length_le (Nat.le_of_eq hn.symm)] at *
      generalize packE E ns (List.replicate T 0) = B at *
      have hlen : 0 + T ≤ (B.map bc).length := by rw [List.length_map]; omega
      have hcut : ((B.map bc).drop 0).take T = B.map bc := by rw [List.drop_zero, List.take_of_length_le (by rw [List.length_map]; omega)]
      (refine LWP.seq <| rgN <| klt rfl rfl (decide_eq_false (by omega)) <| RunK.nil <| LWP.seq <| LWP.condF rfl ?_; refine LWP.exit <| LWP.seq <| rgN <| kmv rfl <| K.convStr rfl rfl (by kernel_rfl) StrT.u hlen hcut .plain <| kas rfl <| kas rfl <| RunK.nil <| LWP.ret ?_)
      exact ⟨[_, _], ⟨rfl, rfl, trivial⟩, rfl⟩
  · rw [if_neg h]
    generalize fitErr fs ns = e at *
    (refine LWP.seq <| rgN <| kas rfl <| kas rfl <| RunK.nil <| LWP.seq <| LWP.seq <| rgN <| kmv rfl <| kmv rfl <| kca rfl rfl (hFit) <| kas rfl <| RunK.nil <| LWP.seq ?_; refine rgN <| kmv rfl <| kne rfl rfl (bne_iff_ne.2 (by omega)) <| RunK.nil <| LWP.condT rfl ?_; refine LWP.seq <| rgN <| kmv rfl <| kas rfl <| kas rfl <| RunK.nil <| LWP.ret ?_)
    exact ⟨[_, _], ⟨rfl, rfl, trivial⟩, rfl⟩
end Go.Proofs.YtbpdbclndfmcgaaGreatDoor
end
section
namespace Go.Lg.Fld
open Go Go.Lg
instance : DecidableEq Fl := fun a b => decidable_of_iff (a.nm = b.nm ∧ a.kind = b.kind ∧ a.count = b.count) ⟨fun ⟨h1, h2, h3⟩ => by cases a; cases b; simp_all, fun h => by rw [h]; exact ⟨rfl, rfl, rfl⟩⟩
structure Cp where
  id : Int
  nm : List UInt8
  fs : List Fl
instance : DecidableEq Cp := fun a b => decidable_of_iff (a.id = b.id ∧ a.nm = b.nm ∧ a.fs = b.fs) ⟨fun ⟨h1, h2, h3⟩ => by cases a; cases b; simp_all, fun h => by rw [h]; exact ⟨rfl, rfl, rfl⟩⟩
structure Sc where
  ver : Int
  cs : List Cp
instance : DecidableEq Sc := fun a b => decidable_of_iff (a.ver = b.ver ∧ a.cs = b.cs) ⟨fun ⟨h1, h2⟩ => by cases a; cases b; simp_all, fun h => by rw [h]; exact ⟨rfl, rfl⟩⟩
def letB (c : UInt8) : Bool := decide (97 ≤ c.toNat) && decide (c.toNat ≤ 122)
def digB (c : UInt8) : Bool := decide (48 ≤ c.toNat) && decide (c.toNat ≤ 57)
def nmC (l : List UInt8) (i : Nat) : Bool := letB (l.getD i 0) || (digB (l.getD i 0) && decide (i ≠ 0))
def nmB (l : List UInt8) : Bool := decide (1 ≤ l.length) && decide (l.length ≤ 12) && (List.range l.length).all (nmC l)
def firstE (f : Nat → Int) : Nat → Nat → Int
  | _, 0 => 0
  | i, n + 1 => if f i = 0 then firstE f (i + 1) n else f i
theorem firstE_none {f : Nat → Int} : ∀ {n i : Nat}, (∀ j, i ≤ j → j < i + n → f j = 0) → firstE f i n = 0
  | 0, _, _ => rfl
  | n + 1, i, h => by
    unfold firstE
    rw [if_pos (h i (Nat.le_refl _) (by omega))]
    exact firstE_none fun j h1 h2 => h j (by omega) (by omega)
theorem firstE_some {f : Nat → Int} {e : Int} : ∀ {n i k : Nat}, (∀ j, i ≤ j → j < k → f j = 0) → i ≤ k → k < i + n → f k = e → e ≠ 0 → firstE f i n = e
  | 0, _, _, _, h1, h2, _, _ => by omega
  | n + 1, i, k, h, h1, h2, he, h0 => by
    unfold firstE
    by_cases e1 : i = k
    · subst e1; rw [if_neg (by rw [he]; exact h0), he]
    · rw [if_pos (h i (Nat.le_refl _) (by omega))]
      exact firstE_some (fun j h3 h4 => h j (by omega) h4) (by omega) (by omega) he h0
theorem firstE_zero {f : Nat → Int} : ∀ {n i : Nat}, firstE f i n = 0 → ∀ j, i ≤ j → j < i + n → f j = 0
  | 0, _, _, _, h1, h2 => by omega
  | n + 1, i, h, j, h1, h2 => by
    unfold firstE at h
    split at h
    · rename_i h3
      by_cases e : j = i
      · rw [e]; exact h3
      · exact firstE_zero h j (by omega) (by omega)
    · rename_i h3; exact absurd h h3
def fldE (fs : List Fl) (k : Nat) : Int := match fs[k]? with
  | some f => if nmB f.nm = true then (if (fs.take k).any (fun g => g.nm == f.nm) = true then 4 else 0) else 4
  | none => 0
def prevId (cs : List Cp) (i : Nat) : Int := (cs[i - 1]?.map Cp.id).getD 0
def cmpE (cs : List Cp) (i : Nat) : Int := match cs[i]? with
  | some c =>
    if c.id < 1 ∨ 24 < c.id ∨ (0 < i ∧ c.id ≤ prevId cs i) then 1
    else if nmB c.nm = true then (if (cs.take i).any (fun g => g.nm == c.nm) = true then 4 else if firstE (fldE c.fs) 0 c.fs.length = 0 then layErr c.fs else 4) else 4
  | none => 0
def chkE (s : Sc) : Int := if s.ver < 1 ∨ 1073741824 < s.ver then 1 else firstE (cmpE s.cs) 0 s.cs.length
structure CompsIn (X : Nat → Option Obj) (ad : Option Addr) (cs : List Cp) : Prop where
  at_ : ∀ (i : Nat) (c : Cp), cs[i]? = some c → ∃ (blk off : Nat) (arr : Array Value) (el : TypeId) (fr : Nat × Nat) (fad : Option Addr) (fcap : Nat), ad = some ⟨blk, off, none⟩ ∧ X blk = some (.cells arr el fr) ∧ off + i * 3 + 3 ≤ arr.size ∧
    (arr.toList.drop (off + i * 3)).take 3 = [.int .i64 c.id, .string ⟨c.nm.toArray⟩, .slice fad c.fs.length fcap] ∧ FieldsIn X fad c.fs
  small : ∀ c ∈ cs, -9223372036854775808 ≤ c.id ∧ c.id < 9223372036854775808
theorem FieldsIn.mono {X Y : Nat → Option Obj} (hXY : ∀ b o, X b = some o → Y b = some o) {ad : Option Addr} {fs : List Fl} (h : FieldsIn X ad fs) : FieldsIn Y ad fs := ⟨RowsIn.mono h.rows hXY, h.small⟩
theorem CompsIn.mono {X Y : Nat → Option Obj} (hXY : ∀ b o, X b = some o → Y b = some o) {ad : Option Addr} {cs : List Cp} (h : CompsIn X ad cs) : CompsIn Y ad cs := ⟨fun i c hc => by
  obtain ⟨blk, off, arr, el, fr, fad, fcap, h1, h2, h3, h4, h5⟩ := h.at_ i c hc
  exact ⟨blk, off, arr, el, fr, fad, fcap, h1, hXY _ _ h2, h3, h4, h5.mono hXY⟩, h.small⟩
theorem three_at {arr : Array Value} {p : Nat} {a b c : Value} (h : (arr.toList.drop p).take 3 = [a, b, c]) : arr[p]? = some a ∧ arr[p + 1]? = some b ∧ arr[p + 2]? = some c := by
  have key : ∀ j, j < 3 → arr[p + j]? = [a, b, c][j]? := fun j hj => by
    rw [← h, List.getElem?_take, if_pos hj, List.getElem?_drop, Array.getElem?_toList]
  exact ⟨key 0 (by omega), key 1 (by omega), key 2 (by omega)⟩
theorem CompsIn.get {X : Nat → Option Obj} {ad : Option Addr} {cs : List Cp} (h : CompsIn X ad cs) {i : Nat} {c : Cp} (hc : cs[i]? = some c) : ∃ (blk off : Nat) (arr : Array Value) (el : TypeId) (fr : Nat × Nat) (fad : Option Addr) (fcap : Nat), ad = some ⟨blk, off, none⟩ ∧ X blk = some (.cells arr el fr) ∧ off + i * 3 + 3 ≤ arr.size ∧
    ((arr.toList.drop (off + i * 3)).take 3).map CV.val = [.val (.int .i64 c.id), .val (.string ⟨c.nm.toArray⟩), .val (.slice fad c.fs.length fcap)] ∧ arr[off + i * 3]? = some (.int .i64 c.id) ∧ arr[off + i * 3 + 1]? = some (.string ⟨c.nm.toArray⟩) ∧ arr[off + i * 3 + 2]? = some (.slice fad c.fs.length fcap) ∧ FieldsIn X fad c.fs := by
  obtain ⟨blk, off, arr, el, fr, fad, fcap, h1, h2, h3, h4, h5⟩ := h.at_ i c hc
  obtain ⟨g1, g2, g3⟩ := three_at h4
  exact ⟨blk, off, arr, el, fr, fad, fcap, h1, h2, h3, by rw [h4]; rfl, g1, g2, g3, h5⟩
def NamesIn (cs : List Cp) : Prop := ∀ c ∈ cs, c.nm.length ≤ 9223372036854775807 ∧ ∀ f ∈ c.fs, f.nm.length ≤ 9223372036854775807
def SmallC (cs : List Cp) : Prop := cs.length ≤ 30 ∧ ∀ c ∈ cs, c.fs.length ≤ 12 ∧ c.nm.length ≤ 100 ∧ ∀ f ∈ c.fs, f.nm.length ≤ 100
end Go.Lg.Fld
namespace Go.Proofs.YtbpdbclndfmcgaaGreatDoor
open Go Go.Lg Go.Lg.Fld
abbrev Sx (ver : Int) (ad : Option Addr) (n cap : Nat) : LV := .sv (.agg [.val (.int .i64 ver), .val (.slice ad n cap)])
abbrev Cx (c : Cp) (fad : Option Addr) (fcap : Nat) : LV := .sv (.agg [.val (.int .i64 c.id), .val (.string ⟨c.nm.toArray⟩), .val (.slice fad c.fs.length fcap)])
end Go.Proofs.YtbpdbclndfmcgaaGreatDoor
end
section
namespace Go.Proofs.YtbpdbclndfmcgaaGreatDoor
open Go Go.Lg Go.Lg.Fld
set_option maxRecDepth 100000
variable (X : Nat → Option Obj)
theorem getD_of {α : Type} {l : List α} {i : Nat} {d x : α} (h : l[i]? = some x) : l.getD i d = x := by rw [List.getD_eq_getElem?_getD, h]; rfl
theorem nmB_false {l : List UInt8} {i : Nat} (hi : i < l.length) (h : nmC l i = false) : nmB l = false := by
  unfold nmB
  rw [Bool.and_eq_false_iff]
  right
  exact List.all_eq_false.2 ⟨i, List.mem_range.2 hi, by rw [h]; simp⟩
theorem nmB_true {l : List UInt8} (h1 : 1 ≤ l.length) (h2 : l.length ≤ 12) (h : ∀ j, j < l.length → nmC l j = true) : nmB l = true := by
  unfold nmB
  rw [decide_eq_true h1, decide_eq_true h2, Bool.true_and, Bool.true_and]
  exact List.all_eq_true.2 fun j hj => h j (List.mem_range.1 hj)
end Go.Proofs.YtbpdbclndfmcgaaGreatDoor
end
section
namespace Go.Lg.Fld
open Go Go.Lg
def findI {α : Type} (p : α → Bool) (l : List α) : Int := match l.findIdx? p with | some i => (i : Nat) | none => -1
theorem findI_some {α : Type} {p : α → Bool} {l : List α} {i : Nat} {x : α} (h : ∀ (j : Nat) (y : α), j < i → l[j]? = some y → p y = false) (hx : l[i]? = some x) (hp : p x = true) : findI p l = (i : Nat) := by
  unfold findI
  obtain ⟨hi, e⟩ := List.getElem?_eq_some_iff.1 hx
  rw [List.findIdx?_eq_some_iff_getElem.2 ⟨hi, by rw [e]; exact hp, fun j hj => by rw [h j _ hj (List.getElem?_eq_getElem (by omega))]; simp⟩]
theorem findI_none {α : Type} {p : α → Bool} {l : List α} (h : ∀ (j : Nat) (y : α), l[j]? = some y → p y = false) : findI p l = -1 := by
  unfold findI
  rw [List.findIdx?_eq_none_iff.2 fun x hx => by
    obtain ⟨j, hj⟩ := List.mem_iff_getElem?.1 hx
    exact h j x hj]
end Go.Lg.Fld
namespace Go.Proofs.YtbpdbclndfmcgaaGreatDoor
open Go Go.Lg Go.Lg.Fld
set_option maxRecDepth 100000
variable (X : Nat → Option Obj)
abbrev sxB (k : Nat) (ver : Int) (ad : Option Addr) (n cap : Nat) : Nat × Option Box := (k, some ⟨24, [.val (.int .i64 ver), .val (.slice ad n cap)], false⟩)
end Go.Proofs.YtbpdbclndfmcgaaGreatDoor
end
section
namespace Go.Lg.Fld
open Go Go.Lg
structure Pt where
  comp : Int
  val : List (Bool × Int)
theorem any_true {α : Type} {p : α → Bool} {l : List α} {k i : Nat} {y : α} (hk : k < i) (hy : l[k]? = some y) (hp : p y = true) : (l.take i).any p = true := by
  rw [List.any_eq_true]
  exact ⟨y, List.mem_of_getElem? (by rw [List.getElem?_take, if_pos hk]; exact hy), hp⟩
theorem two_at {arr : Array Value} {p : Nat} {a b : Value} (h : (arr.toList.drop p).take 2 = [a, b]) : arr[p]? = some a ∧ arr[p + 1]? = some b := by
  have key : ∀ j, j < 2 → arr[p + j]? = [a, b][j]? := fun j hj => by
    rw [← h, List.getElem?_take, if_pos hj, List.getElem?_drop, Array.getElem?_toList]
  exact ⟨key 0 (by omega), key 1 (by omega)⟩
end Go.Lg.Fld
namespace Go.Proofs.YtbpdbclndfmcgaaGreatDoor
open Go Go.Lg Go.Lg.Fld
set_option maxRecDepth 100000
def partE (cs : List Cp) (p : Pt) : Int := match cs.find? (fun c => c.id == p.comp) with | some c => fitErr c.fs p.val | none => 6
def ptE (cs : List Cp) (ps : List Pt) (i : Nat) : Int := match ps[i]? with
  | some p => if (ps.take i).any (fun g => g.comp == p.comp) = true then 1 else partE cs p
  | none => 0
def partsE (cs : List Cp) (ps : List Pt) : Int := firstE (ptE cs ps) 0 ps.length
structure PartsIn (X : Nat → Option Obj) (ad : Option Addr) (ps : List Pt) : Prop where
  at_ : ∀ (i : Nat) (p : Pt), ps[i]? = some p → ∃ (blk off : Nat) (arr : Array Value) (el : TypeId) (fr : Nat × Nat) (vad : Option Addr) (vcap : Nat), ad = some ⟨blk, off, none⟩ ∧ X blk = some (.cells arr el fr) ∧ off + i * 2 + 2 ≤ arr.size ∧
    (arr.toList.drop (off + i * 2)).take 2 = [.int .i64 p.comp, .slice vad p.val.length vcap] ∧ NumsIn X vad p.val
  small : ∀ p ∈ ps, -9223372036854775808 ≤ p.comp ∧ p.comp < 9223372036854775808
theorem PartsIn.get {X : Nat → Option Obj} {ad : Option Addr} {ps : List Pt} (h : PartsIn X ad ps) {i : Nat} {p : Pt} (hc : ps[i]? = some p) : ∃ (blk off : Nat) (arr : Array Value) (el : TypeId) (fr : Nat × Nat) (vad : Option Addr) (vcap : Nat), ad = some ⟨blk, off, none⟩ ∧ X blk = some (.cells arr el fr) ∧ off + i * 2 + 2 ≤ arr.size ∧
    ((arr.toList.drop (off + i * 2)).take 2).map CV.val = [.val (.int .i64 p.comp), .val (.slice vad p.val.length vcap)] ∧ arr[off + i * 2]? = some (.int .i64 p.comp) ∧ arr[off + i * 2 + 1]? = some (.slice vad p.val.length vcap) ∧ NumsIn X vad p.val := by
  obtain ⟨blk, off, arr, el, fr, vad, vcap, h1, h2, h3, h4, h5⟩ := h.at_ i p hc
  obtain ⟨g1, g2⟩ := two_at h4
  exact ⟨blk, off, arr, el, fr, vad, vcap, h1, h2, h3, by rw [h4]; rfl, g1, g2, h5⟩
abbrev Px (p : Pt) (vad : Option Addr) (vcap : Nat) : LV := .sv (.agg [.val (.int .i64 p.comp), .val (.slice vad p.val.length vcap)])
theorem find_at {cs : List Cp} {i : Nat} {c : Cp} {id : Int} (hpre : ∀ (j : Nat) (y : Cp), j < i → cs[j]? = some y → (y.id == id) = false) (hc : cs[i]? = some c) (he : c.id = id) : cs.find? (fun c => c.id == id) = some c := by
  obtain ⟨hi, e⟩ := List.getElem?_eq_some_iff.1 hc
  rw [List.find?_eq_some_iff_getElem]
  refine ⟨by rw [beq_iff_eq]; exact he, i, hi, e, fun j hj => ?_⟩
  rw [hpre j _ hj (List.getElem?_eq_getElem (by omega))]; rfl
theorem find_no {cs : List Cp} {id : Int} (h : ∀ (j : Nat) (y : Cp), cs[j]? = some y → (y.id == id) = false) : cs.find? (fun c => c.id == id) = none := by
  rw [List.find?_eq_none]
  intro c hc
  obtain ⟨j, hj⟩ := List.mem_iff_getElem?.1 hc
  rw [h j c hj]; simp
theorem find_cases (cs : List Cp) (id : Int) : (∃ (i : Nat) (c : Cp), cs[i]? = some c ∧ c.id = id ∧ ∀ (j : Nat) (y : Cp), j < i → cs[j]? = some y → (y.id == id) = false) ∨ ∀ (j : Nat) (y : Cp), cs[j]? = some y → (y.id == id) = false := by
  cases hf : cs.findIdx? (fun c => c.id == id) with
  | some i =>
    obtain ⟨hi, h1, h2⟩ := List.findIdx?_eq_some_iff_getElem.1 hf
    refine .inl ⟨i, cs[i], List.getElem?_eq_getElem hi, by simpa using h1, fun j y hj hy => ?_⟩
    have := h2 j hj
    obtain ⟨hj', e⟩ := List.getElem?_eq_some_iff.1 hy
    rw [e] at this
    cases hb : y.id == id with
    | false => rfl
    | true => exact absurd hb this
  | none =>
    have := List.findIdx?_eq_none_iff.1 hf
    exact .inr fun j y hy => this y (List.mem_of_getElem? hy)
variable (X : Nat → Option Obj)
theorem ptE_at {cs : List Cp} {ps : List Pt} {i : Nat} {p : Pt} (h : ps[i]? = some p) : ptE cs ps i = if (ps.take i).any (fun g => g.comp == p.comp) = true then 1 else partE cs p := by unfold ptE; rw [h]
end Go.Proofs.YtbpdbclndfmcgaaGreatDoor
end
section
namespace Go.Proofs.YtbpdbclndfmcgaaGreatDoor
open Go Go.Lg Go.Lg.Fld Go.RowKit Go.ChangeShapes Go.WideShapes Go.Joins
set_option maxRecDepth 100000
section
variable {H : Type} {enc : TypeId × Value → H} {w : World}
theorem open_fields_l {fuel : Nat} {l : List Value} {x : DataW H × List MemPlace} (h : DataW.trod enc Tryz.prog w 0 (fun _ => true) true fuel 84 l = some x) :
    ∃ (ad : Option Addr) (cap : Nat) (fs : List Fl), l = [.slice ad fs.length cap] ∧ FieldsIn (fun b => w.heap[b]?) ad fs ∧ ∀ f ∈ fs, f.nm.length ≤ 9223372036854775807 := by
  obtain ⟨ad, cap, rows, rfl, _, _, h3, h4⟩ := open_rows_l (e := 125) (sz := 3) (by kernel_rfl) (by kernel_rfl) (by decide) h
  obtain ⟨fs, rfl, h5⟩ := map_of (f := Fl.vals) (q := fun f => ((-9223372036854775808 ≤ f.kind ∧ f.kind < 9223372036854775808) ∧ (-9223372036854775808 ≤ f.count ∧ f.count < 9223372036854775808)) ∧ f.nm.length ≤ 9223372036854775807) (vs := rows) (fun u hu => by
    obtain ⟨hlen, n, x, hx⟩ := h4 u hu
    obtain ⟨y0, y1, y2, n', _, _, g0, g1, g2⟩ := Deep.trod_struct3 (t := 125) Tryz.underlying125 hx
    obtain ⟨e0', e1', e2', rfl⟩ : ∃ c0 c1 c2, u = [c0, c1, c2] := by
      match u, hlen with
      | [c0, c1, c2], _ => exact ⟨c0, c1, c2, rfl⟩
    obtain ⟨s, e0, _, hsz⟩ := DataW.trod_string (by kernel_rfl) g0
    obtain ⟨k, e1, _, wa1⟩ := DataW.trod_int (k := .i64) (by kernel_rfl) g1
    obtain ⟨c, e2, _, wa2⟩ := DataW.trod_int (k := .i64) (by kernel_rfl) g2
    have q0 : e0' = .string s := by simpa using (show ([e0', e1', e2'].drop 0).take 1 = [.string s] from e0)
    have q1 : e1' = .int .i64 k := by simpa using (show ([e0', e1', e2'].drop 1).take 1 = [.int .i64 k] from e1)
    have q2 : e2' = .int .i64 c := by simpa using (show ([e0', e1', e2'].drop 2).take 1 = [.int .i64 c] from e2)
    subst q0 q1 q2
    have b1 := bounds_i64 wa1
    have b2 := bounds_i64 wa2
    exact ⟨⟨s.data.toList, k, c⟩, rfl, (show (-9223372036854775808 ≤ k ∧ k < 9223372036854775808) ∧ (-9223372036854775808 ≤ c ∧ c < 9223372036854775808) by omega), (show s.data.toList.length ≤ _ from (by unfold maxLen at hsz; rw [Array.length_toList]; exact hsz))⟩)
  exact ⟨ad, cap, fs, by rw [List.length_map], ⟨h3, fun f hf => (h5 f hf).1⟩, fun f hf => (h5 f hf).2⟩
theorem open_comps_l {fuel : Nat} {l : List Value} {x : DataW H × List MemPlace} (h : DataW.trod enc Tryz.prog w 0 (fun _ => true) true fuel 22 l = some x) :
    ∃ (ad : Option Addr) (cap : Nat) (cs : List Cp), l = [.slice ad cs.length cap] ∧ cs.length ≤ cap ∧ CompsIn (fun b => w.heap[b]?) ad cs ∧ NamesIn cs := by
  obtain ⟨ad, cap, rows, rfl, h1, _, h3, h4⟩ := open_rows_l (e := 86) (sz := 3) (by kernel_rfl) (by kernel_rfl) (by decide) h
  obtain ⟨ts, rfl, h5⟩ := map_of (f := fun t : Cp × Option Addr × Nat => [.int .i64 t.1.id, .string ⟨t.1.nm.toArray⟩, .slice t.2.1 t.1.fs.length t.2.2]) (q := fun t => (FieldsIn (fun b => w.heap[b]?) t.2.1 t.1.fs ∧ (-9223372036854775808 ≤ t.1.id ∧ t.1.id < 9223372036854775808)) ∧ t.1.nm.length ≤ 9223372036854775807 ∧ ∀ f ∈ t.1.fs, f.nm.length ≤ 9223372036854775807) (vs := rows) (fun u hu => by
    obtain ⟨hlen, n, x, hx⟩ := h4 u hu
    obtain ⟨y0, y1, y2, n', _, _, g0, g1, g2⟩ := Deep.trod_struct3 (t := 86) Tryz.underlying86 hx
    obtain ⟨e0', e1', e2', rfl⟩ : ∃ c0 c1 c2, u = [c0, c1, c2] := by
      match u, hlen with
      | [c0, c1, c2], _ => exact ⟨c0, c1, c2, rfl⟩
    obtain ⟨k, e0, _, wa1⟩ := DataW.trod_int (k := .i64) (by kernel_rfl) g0
    obtain ⟨s, e1, _, hsz⟩ := DataW.trod_string (by kernel_rfl) g1
    obtain ⟨fad, fcap, fs, e2, hF, hFn⟩ := open_fields_l g2
    have q0 : e0' = .int .i64 k := by simpa using (show ([e0', e1', e2'].drop 0).take 1 = [.int .i64 k] from e0)
    have q1 : e1' = .string s := by simpa using (show ([e0', e1', e2'].drop 1).take 1 = [.string s] from e1)
    have q2 : e2' = .slice fad fs.length fcap := by simpa using (show ([e0', e1', e2'].drop 2).take 1 = [.slice fad fs.length fcap] from e2)
    subst q0 q1 q2
    have b1 := bounds_i64 wa1
    exact ⟨(⟨k, s.data.toList, fs⟩, fad, fcap), rfl, ⟨hF, (show -9223372036854775808 ≤ k ∧ k < 9223372036854775808 by omega)⟩, (show s.data.toList.length ≤ _ from (by unfold maxLen at hsz; rw [Array.length_toList]; exact hsz)), hFn⟩)
  refine ⟨ad, cap, ts.map (·.1), by rw [List.length_map, List.length_map], by rw [List.length_map] at h1 ⊢; exact h1, ⟨fun i c hc => ?_, fun c hc => ?_⟩, fun c hc => ?_⟩
  · rw [List.getElem?_map] at hc
    cases ht : ts[i]? with
    | none => rw [ht] at hc; cases hc
    | some t =>
      rw [ht] at hc
      simp only [Option.map_some, Option.some.injEq] at hc
      subst hc
      obtain ⟨blk, off, arr, el, fr, g1, g2, g3, g4⟩ := h3 i _ (by rw [List.getElem?_map, ht]; rfl)
      exact ⟨blk, off, arr, el, fr, t.2.1, t.2.2, g1, g2, g3, g4, (h5 t (List.mem_of_getElem? ht)).1.1⟩
  · obtain ⟨t, ht, rfl⟩ := List.mem_map.1 hc
    exact (h5 t ht).1.2
  · obtain ⟨t, ht, rfl⟩ := List.mem_map.1 hc
    exact (h5 t ht).2
theorem cellsS : Tryz.prog.cellsOf 24 = 2 := by kernel_rfl
theorem open_schema_n {r : Reach} {b0 : Nat} {v : Value} {d : DataW H} {p : List MemPlace} (hv : Value.okWide Tryz.prog w r b0 24 v) (h : DataW.Trod enc Tryz.prog w 0 (fun _ => true) true 24 v d p) :
    ∃ (ver : Int) (ad : Option Addr) (cap : Nat) (cs : List Cp), v = .agg #[.int .i64 ver, .slice ad cs.length cap] ∧ cs.length ≤ cap ∧ CompsIn (fun b => w.heap[b]?) ad cs ∧ NamesIn cs := by
  obtain ⟨v0, v1, y0, y1, m, rfl, rfl, rfl, hy0, hy1⟩ := open_agg2 Tryz.underlying24 (by kernel_rfl) cellsS hv h
  obtain ⟨x, e0, rfl, _⟩ := DataW.trod_int (k := .i64) (by kernel_rfl) hy0
  obtain ⟨ad, cap, cs, e1, h1, h2, h3⟩ := open_comps_l hy1
  simp at e0 e1
  subst e0 e1
  exact ⟨x, ad, cap, cs, rfl, h1, h2, h3⟩
end
end Go.Proofs.YtbpdbclndfmcgaaGreatDoor
end
section
namespace Go.Lg
open Go Go.RowKit Go.ChangeShapes Go.WideShapes Go.Joins
section
variable {H : Type} {enc : TypeId × Value → H} {P : Program} {w : World}
def Light (P : Program) (t : TypeId) (d : DataW H) : Prop := ∀ n ∈ d.weights P t, n ≤ reachBytes
theorem Light.all {P : Program} {e : TypeId} : ∀ {l : List (DataW H)}, (∀ n ∈ DataW.weightsAll P e l, n ≤ reachBytes) → ∀ d ∈ l, Light P e d
  | x :: t, h, d, hd => by
    simp only [DataW.weightsAll, List.mem_append] at h
    rcases List.mem_cons.1 hd with rfl | hd
    · exact fun n hn => h n (.inl hn)
    · exact Light.all (fun n hn => h n (.inr hn)) d hd
  | [], _, d, hd => by cases hd
theorem Light.slice {P : Program} {t e : TypeId} {elems spare : List (DataW H)} (ht : P.underlying t = some (.slice e)) (h : Light P t (.slice elems spare)) : (elems.length + spare.length) * P.bytesOf e ≤ reachBytes ∧ ∀ d ∈ elems, Light P e d := by
  unfold Light at h
  simp only [DataW.weights, ht, List.mem_cons, List.mem_append] at h
  exact ⟨h _ (.inl rfl), Light.all fun n hn => h n (.inr (.inl hn))⟩
theorem Light.struct2 {P : Program} {t : TypeId} {f0 f1 : Field} {a b : DataW H} (ht : P.underlying t = some (.struct #[f0, f1])) (h : Light P t (.agg [a, b])) : Light P f0.type a ∧ Light P f1.type b := by
  unfold Light at h
  simp only [DataW.weights, ht, List.map_cons, List.map_nil, DataW.weightsEach, List.append_nil, List.mem_append] at h
  exact ⟨fun n hn => h n (.inl hn), fun n hn => h n (.inr hn)⟩
theorem Light.struct4 {P : Program} {t : TypeId} {f0 f1 f2 f3 : Field} {a b c d : DataW H} (ht : P.underlying t = some (.struct #[f0, f1, f2, f3])) (h : Light P t (.agg [a, b, c, d])) : Light P f0.type a ∧ Light P f1.type b ∧ Light P f2.type c ∧ Light P f3.type d := by
  unfold Light at h
  simp only [DataW.weights, ht, List.map_cons, List.map_nil, DataW.weightsEach, List.append_nil, List.mem_append] at h
  exact ⟨fun n hn => h n (.inl hn), fun n hn => h n (.inr (.inl hn)), fun n hn => h n (.inr (.inr (.inl hn))), fun n hn => h n (.inr (.inr (.inr hn)))⟩
theorem Light.arg {ts : List TypeId} {ds : List (DataW H)} (h : (DataW.weightsEach P ts ds).all (· ≤ reachBytes) = true) {j : Nat} {t : TypeId} {d : DataW H} (ht : ts[j]? = some t) (hd : ds[j]? = some d) : Light P t d := fun n hn => by
  have := List.all_eq_true.1 h n (DataW.weights_mem_each ht hd n hn)
  simpa using this
theorem open_rows_w {t e : TypeId} {sz fuel : Nat} {l : List Value} {x : DataW H × List MemPlace} (ht : P.underlying t = some (.slice e)) (hc : P.cellsOf e = sz) (hsz : 1 ≤ sz) (hf : DataW.trod enc P w 0 (fun _ => true) true fuel t l = some x) (hw : Light P t x.1) :
    ∃ (ad : Option Addr) (cap : Nat) (rows : List (List Value)), l = [.slice ad rows.length cap] ∧ rows.length * P.bytesOf e ≤ reachBytes ∧ rows.length ≤ cap ∧ cap ≤ maxLen ∧ RowsIn (fun b => w.heap[b]?) ad sz rows ∧
      ∀ u, u ∈ rows → u.length = sz ∧ ∃ (n : Nat) (x : DataW H × List MemPlace), DataW.trod enc P w 0 (fun _ => true) true n e u = some x ∧ Light P e x.1 := by
  rcases Deep.open_slice ht hf with ⟨h0, _⟩ | ⟨a', len', cap', m, n, D, Pl, h0, hb, hl, hm, hmm, hd, hx⟩
  · exact ⟨none, 0, [], h0, by simp, Nat.le_refl _, Nat.zero_le _, fun i r h => by simp at h, fun u hu => by simp at hu⟩
  · rw [if_pos rfl] at hmm
    subst hmm
    rw [hd] at hw
    obtain ⟨hw1, hw2⟩ := Light.slice ht hw
    rw [hc] at hx
    have hch : ∃ f : Nat → List Value, ∀ i, i < m → w.cells? 0 (a'.add (i * sz)) sz = some (f i) ∧ DataW.trod enc P w 0 (fun _ => true) true n e (f i) = some (D i, Pl i) := by
      refine ⟨fun i => if hi : i < m then (hx i hi).choose else [], fun i hi => ?_⟩
      simp only [dif_pos hi]
      exact (hx i hi).choose_spec
    obtain ⟨f, hf2⟩ := hch
    have hlen : ((List.range len').map f).length = len' := by rw [List.length_map, List.length_range]
    refine ⟨some a', m, (List.range len').map f, by rw [hlen]; exact h0, ?_, by rw [hlen]; exact hl, hm, ?_, ?_⟩
    · rw [hlen]
      rw [List.length_map, List.length_range] at hw1
      exact Nat.le_trans (Nat.mul_le_mul_right _ (Nat.le_add_right _ _)) hw1
    · intro i u hi
      have hi2 : i < len' := by
        have := (List.getElem?_eq_some_iff.1 hi).1
        simpa using this
      have e : u = f i := by
        rw [List.getElem?_map, List.getElem?_range hi2] at hi
        simpa using hi.symm
      subst e
      have hspot : a'.spot = none := by
        obtain ⟨h1, _⟩ := hf2 0 (by omega)
        obtain ⟨_, hlen, hcell⟩ := World.cells?_some h1
        have e0 := hcell 0 (by omega)
        rw [Deep.add_add, Nat.zero_mul, Nat.zero_add] at e0
        rw [List.getElem?_eq_getElem (by omega)] at e0
        exact spot_none e0
      obtain ⟨h1, _⟩ := hf2 i (by omega)
      obtain ⟨_, hlen, hcell⟩ := World.cells?_some h1
      obtain ⟨arr, el, fr, hh, hsz2, htk⟩ := cells_row hspot hsz hlen hcell
      refine ⟨a'.block, a'.off, arr, el, fr, ?_, hh, hsz2, htk⟩
      obtain ⟨b, o, sp⟩ := a'
      simp only at hspot
      subst hspot
      rfl
    · intro u hu
      obtain ⟨i, hi, rfl⟩ := List.mem_map.1 hu
      have hi := List.mem_range.1 hi
      obtain ⟨h1, h2⟩ := hf2 i (by omega)
      exact ⟨(World.cells?_some h1).2.1, n, _, h2, hw2 _ (List.mem_map.2 ⟨i, List.mem_range.2 hi, rfl⟩)⟩
end
end Go.Lg
end
section
namespace Go.Proofs.YtbpdbclndfmcgaaGreatDoor
open Go Go.Lg Go.Lg.Fld
set_option maxRecDepth 100000
theorem rows_in {Y : Nat → Option Obj} {blk : Nat} {arr : Array Value} {el : TypeId} {fr : Nat × Nat} {sz : Nat} {rows : List (List Value)} (hY : Y blk = some (.cells arr el fr)) (hl : ∀ r ∈ rows, r.length = sz) (hsp : ∃ sp, arr.toList = rows.flatten ++ sp) : Go.Lg.RowsIn Y (some ⟨blk, 0, none⟩) sz rows := fun i r hi => by
  obtain ⟨sp, e⟩ := hsp
  obtain ⟨h1, h2⟩ := flat_row hl (sp := sp) hi
  refine ⟨blk, 0, arr, el, fr, rfl, hY, ?_, ?_⟩
  · rw [← Array.length_toList, e]; omega
  · rw [e, Nat.zero_add]; exact h2
variable (X : Nat → Option Obj)
end Go.Proofs.YtbpdbclndfmcgaaGreatDoor
end
section
namespace Go.Proofs.YtbpdbclndfmcgaaGreatDoor
open Go Go.Lg Go.Lg.Fld
set_option maxRecDepth 100000
abbrev Ext (X Y : Nat → Option Obj) : Prop := ∀ b o, X b = some o → Y b = some o
variable (X : Nat → Option Obj)
end Go.Proofs.YtbpdbclndfmcgaaGreatDoor
end
section
namespace Go.Proofs.YtbpdbclndfmcgaaGreatDoor
open Go Go.Lg Go.Lg.Fld
set_option maxRecDepth 100000
theorem packB_len {fs : List Fl} (h : fs.all Fl.ok = true) (ns : List (Bool × Int)) : (packB fs ns).length = rowSize fs := packE_len (within_row h) (by rw [List.length_replicate])
variable (X : Nat → Option Obj)
end Go.Proofs.YtbpdbclndfmcgaaGreatDoor
end
section
namespace Go.Lg
open Go Go.RowKit
def joinM (X H : Nat → Option Obj) : Nat → Option Obj := fun b => (H b).or (X b)
def cutM (H : Nat → Option Obj) (blk : Nat) : Nat → Option Obj := fun b => if b = blk then none else H b
theorem joinM_in {X H : Nat → Option Obj} {b : Nat} {o : Obj} (h : H b = some o) : joinM X H b = some o := by unfold joinM; rw [h]; rfl
theorem joinM_out {X H : Nat → Option Obj} {b : Nat} (h : H b = none) : joinM X H b = X b := by unfold joinM; rw [h]; rfl
theorem joinM_none {X H : Nat → Option Obj} {b : Nat} (h : joinM X H b = none) : H b = none ∧ X b = none := by
  unfold joinM at h
  cases hh : H b with
  | none => rw [hh] at h; exact ⟨rfl, h⟩
  | some o => rw [hh] at h; cases h
theorem cutM_at (H : Nat → Option Obj) (blk : Nat) : cutM H blk blk = none := if_pos rfl
theorem cutM_other {H : Nat → Option Obj} {blk b : Nat} (h : b ≠ blk) : cutM H blk b = H b := if_neg h
theorem cutM_some {H : Nat → Option Obj} {blk b : Nat} {o : Obj} (h : cutM H blk b = some o) : b ≠ blk ∧ H b = some o := by
  unfold cutM at h
  split at h
  · cases h
  · rename_i hne; exact ⟨hne, h⟩
structure OwnedM (C : Ctx) (X H : Nat → Option Obj) : Prop where
  own : ∀ b o, H b = some o → (C.own b ∨ C.w0.heap.size ≤ b) ∧ Loose o ∧ X b = none
theorem OwnedM.cut {C : Ctx} {X H : Nat → Option Obj} (h : OwnedM C X H) (blk : Nat) : OwnedM C X (cutM H blk) := ⟨fun b o hb => h.own b o (cutM_some hb).2⟩
theorem joinM_cut {X H : Nat → Option Obj} {blk : Nat} {o : Obj} (h : H blk = some o) : joinM X H = withBlock (joinM X (cutM H blk)) blk o := by
  funext b
  unfold withBlock
  by_cases e : b = blk
  · rw [if_pos e, e]; exact joinM_in h
  · rw [if_neg e]; unfold joinM; rw [cutM_other e]
theorem joinM_with {X H : Nat → Option Obj} {blk : Nat} {o : Obj} : withBlock (joinM X H) blk o = joinM X (withBlock H blk o) := by
  funext b
  unfold withBlock joinM
  by_cases e : b = blk
  · simp [e]
  · simp [e]
theorem joinM_nil (X : Nat → Option Obj) : joinM X (fun _ => none) = X := by funext b; rfl
theorem OwnedM.more {C : Ctx} {X H : Nat → Option Obj} (h : OwnedM C X H) {blk : Nat} {arr : Array Value} {el : TypeId} {fr : Nat × Nat} (hF : Frozen C blk arr fr) (hX : joinM X H blk = none) : OwnedM C X (withBlock H blk (.cells arr el fr)) := ⟨fun b o hb => by
  unfold withBlock at hb
  split at hb
  · rename_i e; subst e; cases hb; exact ⟨hF.own, hF.thaw, (joinM_none hX).2⟩
  · exact h.own b o hb⟩
theorem OwnedM.nil (C : Ctx) (X : Nat → Option Obj) : OwnedM C X (fun _ => none) := ⟨fun _ _ h => by cases h⟩
theorem OwnedM.frozen {C : Ctx} {X H : Nat → Option Obj} (h : OwnedM C X H) {blk : Nat} {arr : Array Value} {el : TypeId} {fr : Nat × Nat} (hb : H blk = some (.cells arr el fr)) : Frozen C blk arr fr := ⟨(h.own _ _ hb).1, (h.own _ _ hb).2.1⟩
section
variable {P : Program} {n : Nat} {C : Ctx} {c : Code} {Q : Exit → St → Prop} {X : Nat → Option Obj} {s : List (Nat × LV)} {bx : List (Nat × Option Box)} {k : Nat}
theorem stat_hd (b : Option Box) (j : Nat) : (⟨s, (k, b) :: bx, X⟩ : St).stat j = if j = k then some b else look j bx := stat_cons s bx X k j b
theorem later_same {S S' : Nat → Option (Option Box)} (ι : Nat → Nat × Nat) (h : ∀ j, S j ≠ none → S' j ≠ none ∧ ∀ b', S' j = some (some b') → ∃ b, S j = some (some b)) : Later S S' ι ι :=
  fun j hj => ⟨(h j hj).1, fun b' hb' => ⟨rfl, (h j hj).2 b' hb'⟩⟩
theorem later_hd (ι : Nat → Nat × Nat) (b b' : Box) (X X' : Nat → Option Obj) : Later (⟨s, (k, some b) :: bx, X⟩ : St).stat (⟨s, (k, some b') :: bx, X'⟩ : St).stat ι ι := later_same ι fun j hj => by
  rw [stat_hd] at hj ⊢
  rw [stat_hd]
  by_cases e : j = k
  · rw [if_pos e, if_pos e]; exact ⟨by simp, fun _ _ => ⟨b, rfl⟩⟩
  · rw [if_neg e] at hj ⊢
    rw [if_neg e]; exact ⟨hj, fun b1 hb1 => ⟨b1, hb1⟩⟩
theorem Rel.openRes {ι : Nat → Nat × Nat} {a : Act} {w : World} {e : TypeId} {cs : List CV} {R : Rsc} (hroot : ∀ ρ H, R.holds ρ H → ∃ vals el fr, H ρ.1 = some (.cells vals el fr) ∧ vals.size = ρ.2)
    (hr : Rel n C ι ⟨s, (k, some ⟨e, cs, .res R⟩) :: bx, X⟩ a w) :
    ∃ (ρ : Nat × Nat) (H : Nat → Option Obj) (vals : Array Value) (el : TypeId) (fr : Nat × Nat), R.holds ρ H ∧ H ρ.1 = some (.cells vals el fr) ∧ OwnedM C X H ∧
      Rel n C ι ⟨s, (k, some ⟨el, vals.toList.map .val, false⟩) :: bx, joinM X (cutM H ρ.1)⟩ a w := by
  obtain ⟨F, hF⟩ := hr.res
  have hk : (⟨s, (k, some ⟨e, cs, .res R⟩) :: bx, X⟩ : St).stat k = some (some ⟨e, cs, .res R⟩) := by rw [stat_hd, if_pos rfl]
  obtain ⟨hR, _⟩ := hF.holds k _ _ _ hk
  obtain ⟨vals, el, fr, hv, hsz⟩ := hroot _ _ hR
  refine ⟨ι k, F k, vals, el, fr, hR, hv, ⟨fun b o hb => let h := hF.mem k b o hb; ⟨h.2.2.2.1, h.2.2.1, h.2.2.2.2.1⟩⟩, ?_⟩
  have hlater := later_hd (s := s) (bx := bx) (k := k) ι ⟨e, cs, .res R⟩ ⟨el, vals.toList.map .val, false⟩ X (joinM X (cutM (F k) (ι k).1))
  have live : ∀ j b, (⟨s, (k, some ⟨el, vals.toList.map .val, false⟩) :: bx, joinM X (cutM (F k) (ι k).1)⟩ : St).stat j = some (some b) → ∃ b0, (⟨s, (k, some ⟨e, cs, .res R⟩) :: bx, X⟩ : St).stat j = some (some b0) ∧ (j ≠ k → b = b0) := fun j b hj => by
    rw [stat_hd] at hj ⊢
    by_cases e : j = k
    · rw [if_pos e]; exact ⟨_, rfl, fun h => absurd e h⟩
    · rw [if_neg e] at hj ⊢; exact ⟨b, hj, fun _ => rfl⟩
  have hnot : ∀ j b, (⟨s, (k, some ⟨e, cs, .res R⟩) :: bx, X⟩ : St).stat j = some (some b) → cutM (F k) (ι k).1 (ι j).1 = none := fun j b hj => by
    cases hc : cutM (F k) (ι k).1 (ι j).1 with
    | none => rfl
    | some o =>
      obtain ⟨h1, h2⟩ := cutM_some hc
      have := (hF.mem k _ o h2).2.2.2.2.2 j b hj rfl
      rw [this] at h1
      exact absurd rfl h1
  have hmv := hF.mem k _ _ hv
  exact {
    defers := hr.defers, size := hr.size
    slots := fun d lv hd => by
      obtain ⟨v, hv, hvr⟩ := hr.slots d lv hd
      exact ⟨v, hv, LV.rel_later hlater hvr⟩
    boxes := fun j b hj hbk => by
      by_cases ej : j = k
      · subst ej
        rw [stat_hd, if_pos rfl] at hj
        simp only [Option.some.injEq] at hj
        subst hj
        exact ⟨vals, fr, hmv.2.1, hmv.2.2.1, hsz, CVs.rel_map_val _⟩
      · obtain ⟨b0, h0, h1⟩ := live j b hj
        have := h1 ej
        subst this
        obtain ⟨arr, fr', g1, g2, g3, g4⟩ := hr.boxes j b h0 hbk
        exact ⟨arr, fr', g1, g2, g3, Box.rel_later hlater g4⟩
    own := fun j b hj => by
      obtain ⟨b0, h0, _⟩ := live j b hj
      obtain ⟨h1, h2⟩ := hr.own j b0 h0
      exact ⟨h1, (joinM_out (hnot j b0 h0)).trans h2⟩
    inj := fun i j bi bj hi hj he => by
      obtain ⟨b1, h1, _⟩ := live i bi hi
      obtain ⟨b2, h2, _⟩ := live j bj hj
      exact hr.inj i j b1 b2 h1 h2 he
    keep := fun j b hj hge => by obtain ⟨b0, h0, _⟩ := live j b hj; exact hr.keep j b0 h0 hge
    ext := fun b o hb => by
      have hb : joinM X (cutM (F k) (ι k).1) b = some o := hb
      cases hc : cutM (F k) (ι k).1 b with
      | none => rw [joinM_out hc] at hb; exact hr.ext b o hb
      | some o' =>
        rw [joinM_in hc] at hb
        cases hb
        exact (hF.mem k b o (cutM_some hc).2).2.1
    res := by
      have hold : ∀ j, isRes (⟨s, (k, some ⟨el, vals.toList.map .val, false⟩) :: bx, joinM X (cutM (F k) (ι k).1)⟩ : St).stat j ↔ (j ≠ k ∧ isRes (⟨s, (k, some ⟨e, cs, .res R⟩) :: bx, X⟩ : St).stat j) := fun j => by
        unfold isRes
        simp only [stat_hd]
        by_cases ej : j = k
        · rw [if_pos ej, if_pos ej]
          exact ⟨fun ⟨_, _, _, h⟩ => (by cases h), fun h => absurd ej h.1⟩
        · rw [if_neg ej, if_neg ej]
          exact ⟨fun h => ⟨ej, h⟩, fun h => h.2⟩
      refine ⟨fun j => open Classical in if j = k then fun _ => none else F j, fun j e' cs' R' hj => ?_, fun j b o ho => ?_, fun i j b h1 h2 => ?_⟩
      · rw [stat_hd] at hj
        by_cases ej : j = k
        · rw [if_pos ej] at hj; cases hj
        · rw [if_neg ej] at hj
          rw [if_neg ej]
          exact hF.holds j e' cs' R' (by rw [stat_hd, if_neg ej]; exact hj)
      · by_cases ej : j = k
        · rw [if_pos ej] at ho; cases ho
        · rw [if_neg ej] at ho
          obtain ⟨h1, h2, h3, h4, h5, h6⟩ := hF.mem j b o ho
          refine ⟨(hold j).2 ⟨ej, h1⟩, h2, h3, h4, ?_, fun i bi hi ei => ?_⟩
          · have hc : cutM (F k) (ι k).1 b = none := by
              cases hc : cutM (F k) (ι k).1 b with
              | none => rfl
              | some o' => exact absurd (hF.apart j k b (by rw [ho]; simp) (by rw [(cutM_some hc).2]; simp)) ej
            exact (joinM_out hc).trans h5
          · obtain ⟨b0, h0, _⟩ := live i bi hi
            exact h6 i b0 h0 ei
      · by_cases ei : i = k
        · rw [if_pos ei] at h1; exact absurd rfl h1
        · by_cases ej : j = k
          · rw [if_pos ej] at h2; exact absurd rfl h2
          · rw [if_neg ei] at h1
            rw [if_neg ej] at h2
            exact hF.apart i j b h1 h2
    frame := hr.frame, big := hr.big, os := hr.os, tape := hr.tape, output := hr.output }
theorem LWP.openRes {e : TypeId} {cs : List CV} {R : Rsc} (hroot : ∀ ρ H, R.holds ρ H → ∃ vals el fr, H ρ.1 = some (.cells vals el fr) ∧ vals.size = ρ.2)
    (h : ∀ (ρ : Nat × Nat) (H : Nat → Option Obj) (vals : Array Value) (el : TypeId) (fr : Nat × Nat), R.holds ρ H → H ρ.1 = some (.cells vals el fr) → OwnedM C X H → LWP P n C c Q ⟨s, (k, some ⟨el, vals.toList.map .val, false⟩) :: bx, joinM X (cutM H ρ.1)⟩) :
    LWP P n C c Q ⟨s, (k, some ⟨e, cs, .res R⟩) :: bx, X⟩ := by
  refine ⟨fun ι a w hr => ?_⟩
  obtain ⟨ρ, H, vals, el, fr, h1, h2, h3, h4⟩ := hr.openRes hroot
  exact (h ρ H vals el fr h1 h2 h3).out ι a w h4
theorem Rel.closeRes {ι : Nat → Nat × Nat} {a : Act} {w : World} {el : TypeId} {vals : List Value} {H : Nat → Option Obj} {R : Rsc} (hO : OwnedM C X H)
    (hR : ∀ (ρ : Nat × Nat) (fr : Nat × Nat), H ρ.1 = none → X ρ.1 = none → ρ.2 = vals.length → R.holds ρ (withBlock H ρ.1 (.cells vals.toArray el fr)))
    (hr : Rel n C ι ⟨s, (k, some ⟨el, vals.map .val, false⟩) :: bx, joinM X H⟩ a w) :
    Rel n C ι ⟨s, (k, some ⟨0, [], .res R⟩) :: bx, X⟩ a w := by
  obtain ⟨F, hF⟩ := hr.res
  have hk : (⟨s, (k, some ⟨el, vals.map .val, false⟩) :: bx, joinM X H⟩ : St).stat k = some (some ⟨el, vals.map .val, false⟩) := by rw [stat_hd, if_pos rfl]
  obtain ⟨arr, fr, harr, hth, hsz, hbr⟩ := hr.boxes k _ hk rfl
  have hav : arr.toList = vals := rel_vals hbr
  have hav2 : arr = vals.toArray := by rw [← hav]
  obtain ⟨hkown, hkX⟩ := hr.own k _ hk
  obtain ⟨hkH, hkX⟩ := joinM_none hkX
  have hlater := later_hd (s := s) (bx := bx) (k := k) ι ⟨el, vals.map .val, false⟩ ⟨0, [], .res R⟩ (joinM X H) X
  have live : ∀ j b, (⟨s, (k, some ⟨0, [], .res R⟩) :: bx, X⟩ : St).stat j = some (some b) → ∃ b0, (⟨s, (k, some ⟨el, vals.map .val, false⟩) :: bx, joinM X H⟩ : St).stat j = some (some b0) ∧ (j ≠ k → b = b0) := fun j b hj => by
    rw [stat_hd] at hj ⊢
    by_cases e : j = k
    · rw [if_pos e]; exact ⟨_, rfl, fun h => absurd e h⟩
    · rw [if_neg e] at hj ⊢; exact ⟨b, hj, fun _ => rfl⟩
  have hroots : ∀ j b, (⟨s, (k, some ⟨el, vals.map .val, false⟩) :: bx, joinM X H⟩ : St).stat j = some (some b) → H (ι j).1 = none ∧ X (ι j).1 = none := fun j b hj => joinM_none (hr.own j b hj).2
  exact {
    defers := hr.defers, size := hr.size
    slots := fun d lv hd => by
      obtain ⟨v, hv, hvr⟩ := hr.slots d lv hd
      exact ⟨v, hv, LV.rel_later hlater hvr⟩
    boxes := fun j b hj hbk => by
      by_cases ej : j = k
      · subst ej
        rw [stat_hd, if_pos rfl] at hj
        simp only [Option.some.injEq] at hj
        subst hj
        cases hbk
      · obtain ⟨b0, h0, h1⟩ := live j b hj
        have := h1 ej
        subst this
        obtain ⟨arr', fr', g1, g2, g3, g4⟩ := hr.boxes j b h0 hbk
        exact ⟨arr', fr', g1, g2, g3, Box.rel_later hlater g4⟩
    own := fun j b hj => by
      obtain ⟨b0, h0, _⟩ := live j b hj
      exact ⟨(hr.own j b0 h0).1, (hroots j b0 h0).2⟩
    inj := fun i j bi bj hi hj he => by
      obtain ⟨b1, h1, _⟩ := live i bi hi
      obtain ⟨b2, h2, _⟩ := live j bj hj
      exact hr.inj i j b1 b2 h1 h2 he
    keep := fun j b hj hge => by obtain ⟨b0, h0, _⟩ := live j b hj; exact hr.keep j b0 h0 hge
    ext := fun b o hb => by
      have hb : X b = some o := hb
      have hH : H b = none := by
        cases hc : H b with
        | none => rfl
        | some o' => have := (hO.own b o' hc).2.2; rw [hb] at this; cases this
      exact hr.ext b o ((joinM_out hH).trans hb)
    res := by
      have hG : ∀ b o, withBlock H (ι k).1 (.cells vals.toArray el fr) b = some o → w.heap[b]? = some o ∧ Loose o ∧ (C.own b ∨ C.w0.heap.size ≤ b) ∧ X b = none ∧ (b = (ι k).1 ∨ H b = some o) := fun b o hb => by
        unfold withBlock at hb
        split at hb
        · rename_i e
          cases hb
          subst e
          refine ⟨by rw [← hav2]; exact harr, by rw [← hav2]; exact hth, hkown, hkX, .inl rfl⟩
        · obtain ⟨h1, h2, h3⟩ := hO.own b o hb
          exact ⟨hr.ext b o (joinM_in hb), h2, h1, h3, .inr hb⟩
      have hFX : ∀ j b, F j b ≠ none → H b = none ∧ X b = none ∧ b ≠ (ι k).1 := fun j b hb => by
        cases ho : F j b with
        | none => exact absurd ho hb
        | some o =>
          obtain ⟨h1, _, _, _, h5, h6⟩ := hF.mem j b o ho
          obtain ⟨h7, h8⟩ := joinM_none h5
          refine ⟨h7, h8, fun e => ?_⟩
          have := h6 k _ hk e.symm
          subst this
          obtain ⟨_, _, _, h9⟩ := h1
          rw [hk] at h9
          cases h9
      refine ⟨fun j => open Classical in if j = k then withBlock H (ι k).1 (.cells vals.toArray el fr) else F j, fun j e' cs' R' hj => ?_, fun j b o ho => ?_, fun i j b h1 h2 => ?_⟩
      · rw [stat_hd] at hj
        by_cases ej : j = k
        · rw [if_pos ej] at hj
          cases hj
          rw [if_pos ej, ej]
          exact ⟨hR (ι k) fr hkH hkX (by rw [← hsz, ← Array.length_toList, hav]), by rw [withBlock_at]; simp⟩
        · rw [if_neg ej] at hj
          rw [if_neg ej]
          exact hF.holds j e' cs' R' (by rw [stat_hd, if_neg ej]; exact hj)
      · by_cases ej : j = k
        · rw [if_pos ej] at ho
          obtain ⟨h1, h2, h3, h4, h5⟩ := hG b o ho
          refine ⟨⟨0, [], R, by rw [stat_hd, if_pos ej]⟩, h1, h2, h3, h4, fun i bi hi ei => ?_⟩
          obtain ⟨b0, h0, _⟩ := live i bi hi
          rw [ej]
          rcases h5 with h5 | h5
          · exact hr.inj i k b0 _ h0 hk (by rw [ei, h5])
          · have := (hroots i b0 h0).1; rw [ei, h5] at this; cases this
        · rw [if_neg ej] at ho
          obtain ⟨⟨e1, cs1, R1, h1⟩, h2, h3, h4, h5, h6⟩ := hF.mem j b o ho
          refine ⟨⟨e1, cs1, R1, by rw [stat_hd, if_neg ej]; rw [stat_hd, if_neg ej] at h1; exact h1⟩, h2, h3, h4, (joinM_none h5).2, fun i bi hi ei => ?_⟩
          obtain ⟨b0, h0, _⟩ := live i bi hi
          exact h6 i b0 h0 ei
      · by_cases ei : i = k
        · by_cases ej : j = k
          · rw [ei, ej]
          · rw [if_pos ei] at h1
            rw [if_neg ej] at h2
            obtain ⟨h3, _, h5⟩ := hFX j b h2
            cases ho : withBlock H (ι k).1 (.cells vals.toArray el fr) b with
            | none => exact absurd ho h1
            | some o =>
              rcases (hG b o ho).2.2.2.2 with h6 | h6
              · exact absurd h6 h5
              · rw [h3] at h6; cases h6
        · by_cases ej : j = k
          · rw [if_neg ei] at h1
            rw [if_pos ej] at h2
            obtain ⟨h3, _, h5⟩ := hFX i b h1
            cases ho : withBlock H (ι k).1 (.cells vals.toArray el fr) b with
            | none => exact absurd ho h2
            | some o =>
              rcases (hG b o ho).2.2.2.2 with h6 | h6
              · exact absurd h6 h5
              · rw [h3] at h6; cases h6
          · rw [if_neg ei] at h1
            rw [if_neg ej] at h2
            exact hF.apart i j b h1 h2
    frame := hr.frame, big := hr.big, os := hr.os, tape := hr.tape, output := hr.output }
theorem Leads.closeRes {Mid : St → Prop} {el : TypeId} {vals : List Value} {H : Nat → Option Obj} {R : Rsc} (hO : OwnedM C X H)
    (hR : ∀ (ρ : Nat × Nat) (fr : Nat × Nat), H ρ.1 = none → X ρ.1 = none → ρ.2 = vals.length → R.holds ρ (withBlock H ρ.1 (.cells vals.toArray el fr)))
    (h : Leads n C Mid ⟨s, (k, some ⟨0, [], .res R⟩) :: bx, X⟩) : Leads n C Mid ⟨s, (k, some ⟨el, vals.map .val, false⟩) :: bx, joinM X H⟩ :=
  ⟨fun ι a w hr => h.out ι a w (hr.closeRes hO hR)⟩
theorem LWP.ends (h : LWP P n C c (fun e σ => Leads n C (fun σ' => Q e σ') σ) ⟨s, bx, X⟩) : LWP P n C c Q ⟨s, bx, X⟩ :=
  ⟨fun ι a w hr => wp_mono (h.out ι a w hr) fun _ a' w' ⟨ι', σ', hl, hr'⟩ => by
    obtain ⟨ι2, σ2, hq, hr2⟩ := hl.out ι' a' w' hr'
    exact ⟨ι2, σ2, hq, hr2⟩⟩
end
end Go.Lg
end
section
namespace Go.Lg
open Go Go.RowKit
section
variable {P : Program} {n : Nat} {C : Ctx} {c : Code} {Q : Exit → St → Prop} {X : Nat → Option Obj} {s : List (Nat × LV)} {bx : List (Nat × Option Box)}
theorem Rel.thawName {ι : Nat → Nat × Nat} {a : Act} {w : World} {k blk : Nat} {el : TypeId} {vals : List Value} {arr : Array Value} {fr : Nat × Nat}
    (hX : X blk = none) (hF : Frozen C blk arr fr) (hsp : ∃ sp, arr.toList = vals ++ sp)
    (hs : s.all (fun p => p.2.inUse bx) = true) (hb : bx.all (fun p => match p.2 with | some b => b.cells.all (CV.inUse bx) | none => true) = true) (hk : look k bx = none) (hlt : k < 1000000)
    (hr : Rel n C ι ⟨s, bx, withBlock X blk (.cells arr el fr)⟩ a w) :
    Rel n C (put1 ι k (blk, arr.size)) ⟨s, (k, some ⟨el, vals.map .val, true⟩) :: bx, X⟩ a w := by
  have hlk : ∀ k' x, look k' bx = some x → k' ≠ k := fun k' x h' e => by rw [e, hk] at h'; cases h'
  have hι : ∀ k', k' ≠ k → put1 ι k (blk, arr.size) k' = ι k' := fun k' e => by unfold put1; rw [if_neg e]
  have hιk : put1 ι k (blk, arr.size) k = (blk, arr.size) := by unfold put1; rw [if_pos rfl]
  have hst : ∀ k' b, (⟨s, (k, some ⟨el, vals.map .val, true⟩) :: bx, X⟩ : St).stat k' = some (some b) → (k' = k ∧ b = ⟨el, vals.map .val, true⟩) ∨ (k' ≠ k ∧ look k' bx = some (some b)) := fun k' b h' => by
    rw [stat_hd] at h'
    by_cases e : k' = k
    · rw [if_pos e] at h'
      simp only [Option.some.injEq] at h'
      exact .inl ⟨e, h'.symm⟩
    · rw [if_neg e] at h'; exact .inr ⟨e, h'⟩
  have hon : SameOn bx (⟨s, bx, withBlock X blk (.cells arr el fr)⟩ : St).stat (⟨s, (k, some ⟨el, vals.map .val, true⟩) :: bx, X⟩ : St).stat := fun k' x h' => by
    rw [stat_hd, if_neg (hlk k' x h')]; rfl
  have hmean : ∀ {b : Box} {us : List Value}, b.rel (⟨s, (k, some ⟨el, vals.map .val, true⟩) :: bx, X⟩ : St).stat ι us → b.cells.all (CV.inUse bx) = true → b.rel (⟨s, (k, some ⟨el, vals.map .val, true⟩) :: bx, X⟩ : St).stat (put1 ι k (blk, arr.size)) us := fun {b us} h1 h2 => by
    unfold Box.rel at h1 ⊢
    cases hrow : b.row with
    | res R => rw [hrow] at h1; exact h1.elim
    | bool r =>
      cases r with
      | false => rw [hrow] at h1; exact CVs.rel_means (fun k' hk' => hι k' (by obtain ⟨x, hx⟩ := Option.isSome_iff_exists.1 hk'; exact hlk k' x hx)) h2 h1
      | true =>
        rw [hrow] at h1
        obtain ⟨us', sp, e, hl⟩ := h1
        exact ⟨us', sp, e, CVs.rel_means (fun k' hk' => hι k' (by obtain ⟨x, hx⟩ := Option.isSome_iff_exists.1 hk'; exact hlk k' x hx)) h2 hl⟩
  exact {
    defers := hr.defers, size := hr.size
    slots := fun d' lv hd => by
      obtain ⟨v', hv', hr'⟩ := hr.slots d' lv hd
      have hu := List.all_eq_true.1 hs _ (look_mem hd)
      exact ⟨v', hv', LV.rel_means (fun k' hk' => hι k' (by obtain ⟨x, hx⟩ := Option.isSome_iff_exists.1 hk'; exact hlk k' x hx)) hu (LV.rel_on hon hu hr')⟩
    res := by
      obtain ⟨F, hG⟩ := hr.res
      refine hG.keep (fun j e cs R hj => ?_) (fun _ _ _ _ _ hj => hj) (fun _ _ ho => ho) (fun b _ hx _ _ => ?_) (fun j bj hj => ?_)
      · rcases hst j _ hj with ⟨_, h2⟩ | ⟨hne, h2⟩
        · cases h2
        · exact ⟨h2, hι j hne⟩
      · have hx : withBlock X blk (.cells arr el fr) b = none := hx
        unfold withBlock at hx
        split at hx
        · cases hx
        · exact hx
      · rcases hst j bj hj with ⟨rfl, _⟩ | ⟨hne, h2⟩
        · rw [hιk]
          refine .inr (.inr (.inr ?_))
          show withBlock X blk (.cells arr el fr) blk ≠ none
          rw [withBlock_at]; simp
        · exact .inl ⟨bj, h2, by rw [hι j hne]⟩
    boxes := fun k' b hb' hbk => by
      rcases hst k' b hb' with ⟨rfl, rfl⟩ | ⟨hne, hb''⟩
      · rw [hιk]
        obtain ⟨sp, hsp⟩ := hsp
        exact ⟨arr, fr, hr.ext blk _ (withBlock_at _ _ _), hF.thaw, rfl, vals, sp, hsp, CVs.rel_map_val vals⟩
      · rw [hι k' hne]
        obtain ⟨arr', fr', h1, h2, h3, h4⟩ := hr.boxes k' b hb'' hbk
        have hu : b.cells.all (CV.inUse bx) = true := by simpa using List.all_eq_true.1 hb _ (look_mem hb'')
        exact ⟨arr', fr', h1, h2, h3, hmean (Box.rel_on hon hu h4) hu⟩
    own := fun k' b hb' => by
      rcases hst k' b hb' with ⟨rfl, rfl⟩ | ⟨hne, hb''⟩
      · rw [hιk]; exact ⟨hF.own, hX⟩
      · rw [hι k' hne]
        obtain ⟨h1, h2⟩ := hr.own k' b hb''
        refine ⟨h1, ?_⟩
        have h2 : withBlock X blk (.cells arr el fr) (ι k').1 = none := h2
        unfold withBlock at h2
        split at h2
        · cases h2
        · exact h2
    inj := fun k1 k2 b1 b2 h1 h2 he => by
      have hne : ∀ k' b, look k' bx = some (some b) → (ι k').1 ≠ blk := fun k' b hb' e => by
        have h2 : withBlock X blk (.cells arr el fr) (ι k').1 = none := (hr.own k' b hb').2
        rw [e, withBlock_at] at h2
        cases h2
      rcases hst k1 b1 h1 with ⟨e1, _⟩ | ⟨n1, h1'⟩ <;> rcases hst k2 b2 h2 with ⟨e2, _⟩ | ⟨n2, h2'⟩
      · rw [e1, e2]
      · rw [e1, hιk, hι k2 n2] at he; exact absurd he.symm (hne k2 b2 h2')
      · rw [e2, hιk, hι k1 n1] at he; exact absurd he (hne k1 b1 h1')
      · rw [hι k1 n1, hι k2 n2] at he; exact hr.inj k1 k2 b1 b2 h1' h2' he
    keep := fun k' b hb' hge => by
      rcases hst k' b hb' with ⟨e, _⟩ | ⟨hne, hb''⟩
      · omega
      · rw [hι k' hne]; exact hr.keep k' b hb'' hge
    ext := fun b o hbo => hr.ext b o (withBlock_old hX b o hbo)
    frame := hr.frame, big := hr.big, os := hr.os, tape := hr.tape, output := hr.output }
theorem rel_swap {S : Nat → Option (Option Box)} {ι : Nat → Nat × Nat} {c' : CV} {v : Value} (hc : c'.rel S ι v) : ∀ {A B : List CV} {vs : List Value}, CVs.rel S ι (A ++ .val v :: B) vs → CVs.rel S ι (A ++ c' :: B) vs
  | [], _, u :: _, h => ⟨by have := h.1; simp only [CV.rel] at this; rw [this]; exact hc, h.2⟩
  | [], _, [], h => h.elim
  | _ :: A, _, _ :: _, h => ⟨h.1, rel_swap hc (A := A) h.2⟩
  | _ :: _, _, [], h => h.elim
theorem Rel.recell {ι : Nat → Nat × Nat} {a : Act} {w : World} {j : Nat} {el2 : TypeId} {A B : List CV} {v : Value} {c' : CV} {row2 : Bool}
    (hc : c'.rel (⟨s, (j, some ⟨el2, A ++ c' :: B, row2⟩) :: bx, X⟩ : St).stat ι v)
    (hr : Rel n C ι ⟨s, (j, some ⟨el2, A ++ .val v :: B, row2⟩) :: bx, X⟩ a w) : Rel n C ι ⟨s, (j, some ⟨el2, A ++ c' :: B, row2⟩) :: bx, X⟩ a w := by
  have hlater := later_hd (s := s) (bx := bx) (k := j) ι ⟨el2, A ++ .val v :: B, row2⟩ ⟨el2, A ++ c' :: B, row2⟩ X X
  have live : ∀ i b, (⟨s, (j, some ⟨el2, A ++ c' :: B, row2⟩) :: bx, X⟩ : St).stat i = some (some b) → ∃ b0, (⟨s, (j, some ⟨el2, A ++ .val v :: B, row2⟩) :: bx, X⟩ : St).stat i = some (some b0) ∧ (i ≠ j → b = b0) := fun i b hi => by
    rw [stat_hd] at hi ⊢
    by_cases e : i = j
    · rw [if_pos e]; exact ⟨_, rfl, fun h => absurd e h⟩
    · rw [if_neg e] at hi ⊢; exact ⟨b, hi, fun _ => rfl⟩
  exact {
    defers := hr.defers, size := hr.size
    slots := fun d lv hd => by
      obtain ⟨v, hv, hvr⟩ := hr.slots d lv hd
      exact ⟨v, hv, LV.rel_later hlater hvr⟩
    boxes := fun i b hi hbk => by
      by_cases e : i = j
      · subst e
        rw [stat_hd, if_pos rfl] at hi
        simp only [Option.some.injEq] at hi
        subst hi
        obtain ⟨arr, fr, g1, g2, g3, g4⟩ := hr.boxes i ⟨el2, A ++ .val v :: B, row2⟩ (by rw [stat_hd, if_pos rfl]) rfl
        refine ⟨arr, fr, g1, g2, g3, ?_⟩
        have g5 := Box.rel_later hlater g4
        unfold Box.rel at g5 ⊢
        cases row2 with
        | false => exact rel_swap hc g5
        | true =>
          obtain ⟨us, sp, e, hl⟩ := g5
          exact ⟨us, sp, e, rel_swap hc hl⟩
      · obtain ⟨b0, h0, h1⟩ := live i b hi
        have := h1 e
        subst this
        obtain ⟨arr, fr, g1, g2, g3, g4⟩ := hr.boxes i b h0 hbk
        exact ⟨arr, fr, g1, g2, g3, Box.rel_later hlater g4⟩
    own := fun i b hi => by obtain ⟨b0, h0, _⟩ := live i b hi; exact hr.own i b0 h0
    inj := fun i i' bi bj hi hj he => by
      obtain ⟨b1, h1, _⟩ := live i bi hi
      obtain ⟨b2, h2, _⟩ := live i' bj hj
      exact hr.inj i i' b1 b2 h1 h2 he
    keep := fun i b hi hge => by obtain ⟨b0, h0, _⟩ := live i b hi; exact hr.keep i b0 h0 hge
    ext := hr.ext
    res := by
      obtain ⟨F, hG⟩ := hr.res
      refine hG.keep (fun i e cs R hi => ?_) (fun _ _ _ _ _ hi => hi) (fun _ _ ho => ho) (fun b _ hx _ _ => hx) (fun i bi hi => ?_)
      · rw [stat_hd] at hi ⊢
        by_cases e : i = j
        · rw [if_pos e] at hi; cases hi
        · rw [if_neg e] at hi ⊢; exact ⟨hi, rfl⟩
      · obtain ⟨b0, h0, _⟩ := live i bi hi
        exact .inl ⟨b0, h0, rfl⟩
    frame := hr.frame, big := hr.big, os := hr.os, tape := hr.tape, output := hr.output }
theorem LWP.thawCell {j k off len sz blk cap : Nat} {el el2 : TypeId} {A B : List CV} {row2 : Bool} {vals : List Value} {arr : Array Value} {fr : Nat × Nat}
    (hX : X blk = none) (hF : Frozen C blk arr fr) (hc : len ≤ cap) (hfit : off + cap * sz ≤ arr.size) (hsp : ∃ sp, arr.toList = vals ++ sp)
    (hs : s.all (fun p => p.2.inUse ((j, some ⟨el2, A ++ .val (.slice (some ⟨blk, off, none⟩) len cap) :: B, row2⟩) :: bx)) = true)
    (hb : ((j, some (⟨el2, A ++ .val (.slice (some ⟨blk, off, none⟩) len cap) :: B, row2⟩ : Box)) :: bx).all (fun p => match p.2 with | some b => b.cells.all (CV.inUse ((j, some ⟨el2, A ++ .val (.slice (some ⟨blk, off, none⟩) len cap) :: B, row2⟩) :: bx)) | none => true) = true)
    (hk : look k bx = none) (hjk : Nat.beq j k = false) (hlt : Nat.blt k 1000000 = true)
    (h : LWP P n C c Q ⟨s, (j, some ⟨el2, A ++ .slc k off len sz :: B, row2⟩) :: (k, some ⟨el, vals.map .val, true⟩) :: bx, X⟩) :
    LWP P n C c Q ⟨s, (j, some ⟨el2, A ++ .val (.slice (some ⟨blk, off, none⟩) len cap) :: B, row2⟩) :: bx, withBlock X blk (.cells arr el fr)⟩ := by
  have hjk' : k ≠ j := fun e => by rw [e, Nat.beq_refl] at hjk; cases hjk
  refine ⟨fun ι a w hr => ?_⟩
  have h1 := hr.thawName (k := k) hX hF hsp hs hb (by simp only [look, hjk, cond_false]; exact hk) (by rw [Nat.blt_eq] at hlt; exact hlt)
  have h2 : Rel n C (put1 ι k (blk, arr.size)) ⟨s, (j, some ⟨el2, A ++ .val (.slice (some ⟨blk, off, none⟩) len cap) :: B, row2⟩) :: (k, some ⟨el, vals.map .val, true⟩) :: bx, X⟩ a w := by
    refine h1.same ⟨fun _ => rfl, fun i => ?_, rfl⟩
    simp only [St.stat, look]
    cases e1 : Nat.beq j i with
    | false => rfl
    | true =>
      cases e2 : Nat.beq k i with
      | false => rfl
      | true => exact absurd ((Nat.eq_of_beq_eq_true e2).trans (Nat.eq_of_beq_eq_true e1).symm) hjk'
  refine h.out _ a w (h2.recell ?_)
  simp only [CV.rel]
  rw [stat_hd, if_neg hjk']
  simp only [look, show Nat.beq k k = true from Nat.beq_refl k, cond_true]
  unfold put1
  rw [if_pos rfl]
  exact ⟨cap, rfl, hc, hfit⟩
theorem LWP.freezeCell {j k off len sz : Nat} {el el2 : TypeId} {A B : List CV} {row2 : Bool} {vals : List Value} {row : Bool}
    (hs : s.all (fun p => p.2.inUse ((j, none) :: bx)) = true) (hA : A.all (CV.inUse ((j, none) :: bx)) = true) (hB : B.all (CV.inUse ((j, none) :: bx)) = true) (hb : bx.all (fun p => match p.2 with | some b => b.cells.all (CV.inUse ((j, none) :: bx)) | none => true) = true) (hk : look k bx = none) (hjk : Nat.beq j k = false)
    (h : ∀ (blk cap : Nat) (arr : Array Value) (fr : Nat × Nat), X blk = none → Frozen C blk arr fr → len ≤ cap → off + cap * sz ≤ arr.size → (∃ sp, arr.toList = vals ++ sp) →
      LWP P n C c Q ⟨s, (j, some ⟨el2, A ++ .val (.slice (some ⟨blk, off, none⟩) len cap) :: B, row2⟩) :: bx, withBlock X blk (.cells arr el fr)⟩) :
    LWP P n C c Q ⟨s, (j, some ⟨el2, A ++ .slc k off len sz :: B, row2⟩) :: (k, some ⟨el, vals.map .val, row⟩) :: bx, X⟩ := ⟨fun ι a w hr => by
  obtain ⟨blk, cap, arr, fr, h1, h2, h3, h4, h5, h6⟩ := hr.freezeCell hs hA hB hb hk hjk
  exact (h blk cap arr fr h1 h2 h3 h4 h5).out ι a w h6⟩
end
end Go.Lg
end
section
namespace Go.Lg
open Go Go.RowKit
section
variable {P : Program} {n : Nat} {ops os : List Oper} {acc : List Eff} {K : List Eff → St → Prop} {s : List (Nat × LV)} {bx : List (Nat × Option Box)} {X : Nat → Option Obj} {σ : St}
theorem LOK.cut2Slc {d k off len sz l h : Nat} {t : TypeId} {x y z : Operand} {ty : TypeId} {pos : String} {after_ : Array Edge} {g : Option (Nat × Bool)} {kl kh : IntKind} (hx : σ.ev x = some (.sv (.one (.slc k off len sz)))) (hy : σ.ev y = some (.sv (.one (.val (.int kl (l : Nat)))))) (hz : σ.ev z = some (.sv (.one (.val (.int kh (h : Nat))))))
    (ht : sliceOf P t = some sz) (hl : l ≤ h) (hh : h ≤ len) (h0 : l < len ∨ l = 0) : LOK P n ops ⟨some d, .slice t x (some y) (some z) none, ty, pos, after_, g⟩ σ ⟨[(d, .sv (.one (.slc k (off + l * sz) (h - l) sz)))], [], []⟩ :=
  LOK.value fun σ' ha C ι a w hr => by
    have h1 := hr.ev ((ha.ev (x := x) (by simp [Op.operands])).trans hx)
    have h2 : a.eval y = .int kl (l : Nat) := hr.ev ((ha.ev (x := y) (by simp [Op.operands])).trans hy)
    have h3 : a.eval z = .int kh (h : Nat) := hr.ev ((ha.ev (x := z) (by simp [Op.operands])).trans hz)
    obtain ⟨e, hu, hsz⟩ := sliceOf_spec ht
    have hrun : ∀ b c : Nat, len ≤ c → (Instr.sliceAt t (.slice (some ⟨b, off, none⟩) len c) (some (.int kl (l : Nat))) (some (.int kh (h : Nat))) none).run P w = .ok (.slice (some ⟨b, off + l * sz, none⟩) (h - l) (c - l)) w := by
      intro b c hc
      have ha0 : (⟨b, off, none⟩ : Addr).add (l * sz) = ⟨b, off + l * sz, none⟩ := addr_add _ _ _
      have hcl : (if c = l then (some ⟨b, off, none⟩ : Option Addr) else some ⟨b, off + l * sz, none⟩) = some ⟨b, off + l * sz, none⟩ := by
        rcases h0 with h0 | h0
        · rw [if_neg (by omega)]
        · rw [h0, Nat.zero_mul, Nat.add_zero, ite_self]
      simp [Instr.sliceAt, Instr.slice, run_underlying hu, Instr.sliceBounds, Instr.sliceBound, asIntOf, hsz, ha0, hcl]
      rw [if_pos (by omega), if_pos hl]
    simp only [LV.rel, SV.rel, CV.rel] at h1 ⊢
    cases hk : σ'.stat k with
    | none => simp [hk] at h1
    | some bb =>
      cases bb with
      | none =>
        simp only [hk] at h1 ⊢
        obtain ⟨b, c, h1, h4⟩ := h1
        exact ⟨_, by simp only [execOp, h1, h2, h3, Option.map_none, Option.map_some, Sem.run_bind, hrun b c h4, Result.andThen_ok, Sem.run_pure], b, c - l, rfl, by omega⟩
      | some b =>
        simp only [hk] at h1 ⊢
        obtain ⟨c, h1, h4, h5⟩ := h1
        refine ⟨_, by simp only [execOp, h1, h2, h3, Option.map_none, Option.map_some, Sem.run_bind, hrun _ c h4, Result.andThen_ok, Sem.run_pure], c - l, rfl, by omega, ?_⟩
        rw [Nat.add_assoc, ← Nat.add_mul, Nat.add_sub_cancel' (by omega)]; exact h5
theorem K.cut2Slc {d k off len sz l h off' len' : Nat} {t : TypeId} {x y z : Operand} {ty : TypeId} {pos : String} {after_ : Array Edge} {g : Option (Nat × Bool)} {kl kh : IntKind} (hx : (⟨s, bx, X⟩ : St).ev x = some (.sv (.one (.slc k off len sz)))) (hy : (⟨s, bx, X⟩ : St).ev y = some (.sv (.one (.val (.int kl (l : Nat)))))) (hz : (⟨s, bx, X⟩ : St).ev z = some (.sv (.one (.val (.int kh (h : Nat))))))
    (ht : sliceOf P t = some sz) (hl : l ≤ h) (hh : h ≤ len) (h0 : l < len ∨ l = 0) (ho : off + l * sz = off') (hn : h - l = len') (hw : Want ops s g) (kont : RunK P n ops os ⟨(d, .sv (.one (.slc k off' len' sz))) :: s, bx, X⟩ (⟨[(d, .sv (.one (.slc k off' len' sz)))], [], []⟩ :: acc) K) :
    RunK P n ops (⟨some d, .slice t x (some y) (some z) none, ty, pos, after_, g⟩ :: os) ⟨s, bx, X⟩ acc K := by
  subst ho hn
  exact RunK.g1 (LOK.cut2Slc hx hy hz ht hl hh h0) hw kont
theorem LOK.cut2X {d b off len cap sz l h : Nat} {t : TypeId} {x y z : Operand} {ty : TypeId} {pos : String} {after_ : Array Edge} {g : Option (Nat × Bool)} {kl kh : IntKind} (hx : σ.ev x = some (.sv (.one (.val (.slice (some ⟨b, off, none⟩) len cap))))) (hy : σ.ev y = some (.sv (.one (.val (.int kl (l : Nat)))))) (hz : σ.ev z = some (.sv (.one (.val (.int kh (h : Nat))))))
    (ht : sliceOf P t = some sz) (hl : l ≤ h) (hh : h ≤ len) (h0 : l < len ∨ l = 0) (hc : len ≤ cap) : LOK P n ops ⟨some d, .slice t x (some y) (some z) none, ty, pos, after_, g⟩ σ ⟨[(d, .sv (.one (.val (.slice (some ⟨b, off + l * sz, none⟩) (h - l) (cap - l)))))], [], []⟩ :=
  LOK.value fun σ' ha C ι a w hr => by
    have h1 : a.eval x = .slice (some ⟨b, off, none⟩) len cap := hr.ev ((ha.ev (x := x) (by simp [Op.operands])).trans hx)
    have h2 : a.eval y = .int kl (l : Nat) := hr.ev ((ha.ev (x := y) (by simp [Op.operands])).trans hy)
    have h3 : a.eval z = .int kh (h : Nat) := hr.ev ((ha.ev (x := z) (by simp [Op.operands])).trans hz)
    obtain ⟨e, hu, hsz⟩ := sliceOf_spec ht
    have hrun : (Instr.sliceAt t (.slice (some ⟨b, off, none⟩) len cap) (some (.int kl (l : Nat))) (some (.int kh (h : Nat))) none).run P w = .ok (.slice (some ⟨b, off + l * sz, none⟩) (h - l) (cap - l)) w := by
      have ha0 : (⟨b, off, none⟩ : Addr).add (l * sz) = ⟨b, off + l * sz, none⟩ := addr_add _ _ _
      have hcl : (if cap = l then (some ⟨b, off, none⟩ : Option Addr) else some ⟨b, off + l * sz, none⟩) = some ⟨b, off + l * sz, none⟩ := by
        rcases h0 with h0 | h0
        · rw [if_neg (by omega)]
        · rw [h0, Nat.zero_mul, Nat.add_zero, ite_self]
      simp [Instr.sliceAt, Instr.slice, run_underlying hu, Instr.sliceBounds, Instr.sliceBound, asIntOf, hsz, ha0, hcl]
      rw [if_pos (by omega), if_pos hl]
    exact ⟨_, by simp only [execOp, h1, h2, h3, Option.map_none, Option.map_some, Sem.run_bind, hrun, Result.andThen_ok, Sem.run_pure], rfl⟩
theorem K.cut2X {d b off len cap sz l h off' len' cap' : Nat} {t : TypeId} {x y z : Operand} {ty : TypeId} {pos : String} {after_ : Array Edge} {g : Option (Nat × Bool)} {kl kh : IntKind} (hx : (⟨s, bx, X⟩ : St).ev x = some (.sv (.one (.val (.slice (some ⟨b, off, none⟩) len cap))))) (hy : (⟨s, bx, X⟩ : St).ev y = some (.sv (.one (.val (.int kl (l : Nat)))))) (hz : (⟨s, bx, X⟩ : St).ev z = some (.sv (.one (.val (.int kh (h : Nat))))))
    (ht : sliceOf P t = some sz) (hl : l ≤ h) (hh : h ≤ len) (h0 : l < len ∨ l = 0) (hc : len ≤ cap) (ho : off + l * sz = off') (hn : h - l = len') (hk : cap - l = cap') (hw : Want ops s g) (kont : RunK P n ops os ⟨(d, .sv (.one (.val (.slice (some ⟨b, off', none⟩) len' cap')))) :: s, bx, X⟩ (⟨[(d, .sv (.one (.val (.slice (some ⟨b, off', none⟩) len' cap'))))], [], []⟩ :: acc) K) :
    RunK P n ops (⟨some d, .slice t x (some y) (some z) none, ty, pos, after_, g⟩ :: os) ⟨s, bx, X⟩ acc K := by
  subst ho hn hk
  exact RunK.g1 (LOK.cut2X hx hy hz ht hl hh h0 hc) hw kont
theorem LOK.convStrX {d b off len cap : Nat} {t t' : TypeId} {x : Operand} {ty : TypeId} {pos : String} {after : Array Edge} {g : Option (Nat × Bool)} {arr : Array Value} {el : TypeId} {fr : Nat × Nat} {l : List UInt8} (hx : σ.ev x = some (.sv (.one (.val (.slice (some ⟨b, off, none⟩) len cap))))) (hX : σ.X b = some (.cells arr el fr))
    (ht : isBytes P t = true) (ht' : P.underlying t' = some .string) (hm : off + len ≤ arr.size) (hl : (arr.toList.drop off).take len = l.map fun c => Value.int .u8 (c.toNat : Nat)) :
    LOK P n ops ⟨some d, .convert t t' x, ty, pos, after, g⟩ σ ⟨[(d, .sv (.one (.val (.string ⟨l.toArray⟩))))], [], []⟩ :=
  LOK.value fun σ' ha C ι a w hr => by
    have hv : a.eval x = .slice (some ⟨b, off, none⟩) len cap := hr.ev ((ha.ev (x := x) (by simp [Op.operands])).trans hx)
    have hw := hr.ext b _ (by rw [ha.X]; exact hX)
    have hb := run_load_bytes (P := P) hw hm (hl.trans (by rw [List.map_map]; rfl : (l.map fun c => Value.int .u8 (c.toNat : Nat)) = (l.map fun c => ((c.toNat : Nat) : Int)).map (Value.int .u8)))
    obtain ⟨eb, hu, hu8⟩ := isBytes_spec ht
    have h1 := run_convert_bytes_string w t t' eb (some ⟨b, off, none⟩) len cap hu hu8 ht'
    rw [run_bytesToString w _ len cap _ hb, foldl_push] at h1
    exact ⟨_, by simp only [execOp, hv, Sem.run_bind, h1, Result.andThen_ok, Sem.run_pure]; rfl, by simp [LV.rel, SV.rel, CV.rel]⟩
theorem K.convStrX {d b off len cap : Nat} {t t' : TypeId} {x : Operand} {ty : TypeId} {pos : String} {after : Array Edge} {g : Option (Nat × Bool)} {arr : Array Value} {el : TypeId} {fr : Nat × Nat} {l : List UInt8} (hx : (⟨s, bx, X⟩ : St).ev x = some (.sv (.one (.val (.slice (some ⟨b, off, none⟩) len cap))))) (hX : X b = some (.cells arr el fr))
    (ht : isBytes P t = true) (ht' : P.underlying t' = some .string) (hm : off + len ≤ arr.size) (hl : (arr.toList.drop off).take len = l.map fun c => Value.int .u8 (c.toNat : Nat)) (hw : Want ops s g)
    (kont : RunK P n ops os ⟨(d, .sv (.one (.val (.string ⟨l.toArray⟩)))) :: s, bx, X⟩ (⟨[(d, .sv (.one (.val (.string ⟨l.toArray⟩))))], [], []⟩ :: acc) K) :
    RunK P n ops (⟨some d, .convert t t' x, ty, pos, after, g⟩ :: os) ⟨s, bx, X⟩ acc K := RunK.g1 (LOK.convStrX hx hX ht ht' hm hl) hw kont
theorem LOK.copySlc {d k k2 off off2 len len2 m : Nat} {t tx e el el2 : TypeId} {x y : Operand} {ty : TypeId} {pos : String} {after_ : Array Edge} {g : Option (Nat × Bool)} {cells cs2 : List CV} {row row2 : Bool} {us : List Value}
    (hx : σ.ev x = some (.sv (.one (.slc k off len)))) (hk : σ.stat k = some (some ⟨el, cells, row⟩)) (hy : σ.ev y = some (.sv (.one (.slc k2 off2 len2)))) (hk2 : σ.stat k2 = some (some ⟨el2, cs2, row2⟩)) (hu : P.underlying t = some (.slice e)) (hz : sizeIs P e = some 1)
    (hmn : Nat.min len2 len = m) (hm : off + m ≤ cells.length) (hm2 : off2 + m ≤ cs2.length) (hl : (cs2.drop off2).take m = us.map .val) (hone : us.all Value.oneCell' = true) :
    LOK P n ops ⟨some d, .call ⟨.builtin .copy, #[x, y], #[t, tx]⟩, ty, pos, after_, g⟩ σ ⟨[(d, .sv (.one (.val (.int .i64 (m : Nat)))))], [k2], [(k, some ⟨el, splice cells off (us.map .val), row⟩)]⟩ :=
  LOK.make fun σ' ha C ι a w hr => by
    have hk' : σ'.stat k = _ := (ha.stat k (.inr (by simp))).trans hk
    have hk2' : σ'.stat k2 = _ := (ha.stat k2 (.inl (by simp))).trans hk2
    have h1 := hr.ev ((ha.ev (x := x) (by simp [Op.operands, Call.operands])).trans hx)
    have h2 := hr.ev ((ha.ev (x := y) (by simp [Op.operands, Call.operands])).trans hy)
    simp only [LV.rel, SV.rel, CV.rel, hk'] at h1
    simp only [LV.rel, SV.rel, CV.rel, hk2'] at h2
    obtain ⟨c, h1, hlc, hcs⟩ := h1
    obtain ⟨c2, h2, hlc2, hcs2⟩ := h2
    obtain ⟨arr, fr, harr, hthaw, hasz, hrel⟩ := hr.boxes k _ hk' rfl
    obtain ⟨arr2, fr2, harr2, hthaw2, hasz2, hrel2⟩ := hr.boxes k2 _ hk2' rfl
    have hul : us.length = m := by
      have := congrArg List.length hl
      rw [List.length_take, List.length_drop, List.length_map] at this
      omega
    have hbl : off + us.length ≤ arr.size := by
      have := (Box.rel_part hrel (off := off) (m := m) (by simpa using hm)).1
      simp at this
      omega
    obtain ⟨hp2, hpart⟩ := Box.rel_part hrel2 (off := off2) (m := m) (by simpa using hm2)
    have hpart : CVs.rel σ'.stat ι (us.map .val) ((arr2.toList.drop off2).take m) := by rw [← hl]; exact hpart
    have hv2 := rel_vals hpart
    have hload := run_load_bytes (P := P) harr2 (m := m) (by simpa using hp2) hv2
    have hst := run_storeCells_at (P := P) hthaw us off 0 arr w rfl harr (by simpa using hbl) (fun v hv => List.all_eq_true.1 hone v hv)
    simp only [Nat.add_zero] at hst
    have hrun : (Builtin.copy_ #[t, tx] ty #[.slice (some ⟨(ι k).1, off, none⟩) len c, .slice (some ⟨(ι k2).1, off2, none⟩) len2 c2]).run P w = .ok (goInt m) (w.setRow (ι k).1 (splice arr.toList off us).toArray) := by
      have hq := run_sizeIs hz w
      simp [Builtin.copy_, run_underlying hu, Builtin.lenOf, Builtin.firstCells, hq, hmn, hload, hst]
      simp [splice]
    refine ⟨goInt m, w.setRow (ι k).1 (splice arr.toList off us).toArray, ι, by simp [execOp, resolve, invoke, builtin, h1, h2, hrun], ?_, rfl⟩
    exact hr.write hk' rfl rfl (b' := ⟨el, splice cells off (us.map .val), row⟩) (by rw [← hasz]; unfold splice; simp at hbl ⊢; omega) (by simpa using Box.rel_splice hrel (CVs.rel_map_val us) (by rw [List.length_map, hul]; exact hm))
theorem K.copySlc {d k k2 off off2 len len2 m : Nat} {t tx e el el2 : TypeId} {x y : Operand} {ty : TypeId} {pos : String} {after_ : Array Edge} {g : Option (Nat × Bool)} {cells cs2 : List CV} {row row2 : Bool} (us : List Value)
    (hx : (⟨s, bx, X⟩ : St).ev x = some (.sv (.one (.slc k off len)))) (hk : (⟨s, bx, X⟩ : St).stat k = some (some ⟨el, cells, row⟩)) (hy : (⟨s, bx, X⟩ : St).ev y = some (.sv (.one (.slc k2 off2 len2)))) (hk2 : (⟨s, bx, X⟩ : St).stat k2 = some (some ⟨el2, cs2, row2⟩)) (hu : P.underlying t = some (.slice e)) (hz : sizeIs P e = some 1)
    (hmn : Nat.min len2 len = m) (hm : off + m ≤ cells.length) (hm2 : off2 + m ≤ cs2.length) (hl : (cs2.drop off2).take m = us.map .val) (hone : us.all Value.oneCell' = true) {nc : List CV} (hc : splice cells off (us.map .val) = nc) (hw : Want ops s g)
    (kont : RunK P n ops os ⟨(d, .sv (.one (.val (.int .i64 (m : Nat))))) :: s, (k, some ⟨el, nc, row⟩) :: bx, X⟩ (⟨[(d, .sv (.one (.val (.int .i64 (m : Nat)))))], [k2], [(k, some ⟨el, nc, row⟩)]⟩ :: acc) K) :
    RunK P n ops (⟨some d, .call ⟨.builtin .copy, #[x, y], #[t, tx]⟩, ty, pos, after_, g⟩ :: os) ⟨s, bx, X⟩ acc K := by
  subst hc
  exact RunK.gen hw (LOK.copySlc hx hk hy hk2 hu hz hmn hm hm2 hl hone) kont
theorem LOK.copyX {d k off len b2 off2 len2 cap2 m : Nat} {t tx e el el2 : TypeId} {x y : Operand} {ty : TypeId} {pos : String} {after_ : Array Edge} {g : Option (Nat × Bool)} {cells : List CV} {row : Bool} {arr2 : Array Value} {fr2 : Nat × Nat} {us : List Value}
    (hx : σ.ev x = some (.sv (.one (.slc k off len)))) (hk : σ.stat k = some (some ⟨el, cells, row⟩)) (hy : σ.ev y = some (.sv (.one (.val (.slice (some ⟨b2, off2, none⟩) len2 cap2))))) (hX : σ.X b2 = some (.cells arr2 el2 fr2)) (hu : P.underlying t = some (.slice e)) (hz : sizeIs P e = some 1)
    (hmn : Nat.min len2 len = m) (hm : off + m ≤ cells.length) (hm2 : off2 + m ≤ arr2.size) (hl : (arr2.toList.drop off2).take m = us) (hone : us.all Value.oneCell' = true) :
    LOK P n ops ⟨some d, .call ⟨.builtin .copy, #[x, y], #[t, tx]⟩, ty, pos, after_, g⟩ σ ⟨[(d, .sv (.one (.val (.int .i64 (m : Nat)))))], [], [(k, some ⟨el, splice cells off (us.map .val), row⟩)]⟩ :=
  LOK.make fun σ' ha C ι a w hr => by
    have hk' : σ'.stat k = _ := (ha.stat k (.inr (by simp))).trans hk
    have h1 := hr.ev ((ha.ev (x := x) (by simp [Op.operands, Call.operands])).trans hx)
    have h2 : a.eval y = .slice (some ⟨b2, off2, none⟩) len2 cap2 := hr.ev ((ha.ev (x := y) (by simp [Op.operands, Call.operands])).trans hy)
    have harr2 := hr.ext b2 _ (by rw [ha.X]; exact hX)
    simp only [LV.rel, SV.rel, CV.rel, hk'] at h1
    obtain ⟨c, h1, hlc, hcs⟩ := h1
    obtain ⟨arr, fr, harr, hthaw, hasz, hrel⟩ := hr.boxes k _ hk' rfl
    have hul : us.length = m := by
      have := congrArg List.length hl
      rw [List.length_take, List.length_drop, Array.length_toList] at this
      omega
    have hbl : off + us.length ≤ arr.size := by
      have := (Box.rel_part hrel (off := off) (m := m) (by simpa using hm)).1
      simp at this
      omega
    have hload := run_load_bytes (P := P) harr2 (m := m) hm2 hl
    have hst := run_storeCells_at (P := P) hthaw us off 0 arr w rfl harr (by simpa using hbl) (fun v hv => List.all_eq_true.1 hone v hv)
    simp only [Nat.add_zero] at hst
    have hrun : (Builtin.copy_ #[t, tx] ty #[.slice (some ⟨(ι k).1, off, none⟩) len c, .slice (some ⟨b2, off2, none⟩) len2 cap2]).run P w = .ok (goInt m) (w.setRow (ι k).1 (splice arr.toList off us).toArray) := by
      have hq := run_sizeIs hz w
      simp [Builtin.copy_, run_underlying hu, Builtin.lenOf, Builtin.firstCells, hq, hmn, hload, hst]
      simp [splice]
    refine ⟨goInt m, w.setRow (ι k).1 (splice arr.toList off us).toArray, ι, by simp [execOp, resolve, invoke, builtin, h1, h2, hrun], ?_, rfl⟩
    exact hr.write hk' rfl rfl (b' := ⟨el, splice cells off (us.map .val), row⟩) (by rw [← hasz]; unfold splice; simp at hbl ⊢; omega) (by simpa using Box.rel_splice hrel (CVs.rel_map_val us) (by rw [List.length_map, hul]; exact hm))
theorem K.copyX {d k off len b2 off2 len2 cap2 m : Nat} {t tx e el el2 : TypeId} {x y : Operand} {ty : TypeId} {pos : String} {after_ : Array Edge} {g : Option (Nat × Bool)} {cells : List CV} {row : Bool} {arr2 : Array Value} {fr2 : Nat × Nat} (us : List Value)
    (hx : (⟨s, bx, X⟩ : St).ev x = some (.sv (.one (.slc k off len)))) (hk : (⟨s, bx, X⟩ : St).stat k = some (some ⟨el, cells, row⟩)) (hy : (⟨s, bx, X⟩ : St).ev y = some (.sv (.one (.val (.slice (some ⟨b2, off2, none⟩) len2 cap2))))) (hX : X b2 = some (.cells arr2 el2 fr2)) (hu : P.underlying t = some (.slice e)) (hz : sizeIs P e = some 1)
    (hmn : Nat.min len2 len = m) (hm : off + m ≤ cells.length) (hm2 : off2 + m ≤ arr2.size) (hl : (arr2.toList.drop off2).take m = us) (hone : us.all Value.oneCell' = true) {nc : List CV} (hc : splice cells off (us.map .val) = nc) (hw : Want ops s g)
    (kont : RunK P n ops os ⟨(d, .sv (.one (.val (.int .i64 (m : Nat))))) :: s, (k, some ⟨el, nc, row⟩) :: bx, X⟩ (⟨[(d, .sv (.one (.val (.int .i64 (m : Nat)))))], [], [(k, some ⟨el, nc, row⟩)]⟩ :: acc) K) :
    RunK P n ops (⟨some d, .call ⟨.builtin .copy, #[x, y], #[t, tx]⟩, ty, pos, after_, g⟩ :: os) ⟨s, bx, X⟩ acc K := by
  subst hc
  exact RunK.gen hw (LOK.copyX hx hk hy hX hu hz hmn hm hm2 hl hone) kont
end
end Go.Lg
end
section
namespace Go.Lg
open Go Go.RowKit
def LeadsTo (H : Nat → Option Obj) (b : Nat) (v : Value) (el : TypeId) (sz : Nat) (vals : List Value) : Prop :=
  ∃ (len cap : Nat) (arr : Array Value) (fr : Nat × Nat), v = .slice (some ⟨b, 0, none⟩) len cap ∧ vals.length = len * sz ∧ len ≤ cap ∧ cap * sz ≤ arr.size ∧ H b = some (.cells arr el fr) ∧ ∃ sp, arr.toList = vals ++ sp
theorem LeadsTo.mono {H H' : Nat → Option Obj} {b : Nat} {v : Value} {el : TypeId} {sz : Nat} {vals : List Value} (h : LeadsTo H b v el sz vals) (he : H' b = H b) : LeadsTo H' b v el sz vals := by
  obtain ⟨len, cap, arr, fr, h1, h2, h3, h4, h5, h6⟩ := h
  exact ⟨len, cap, arr, fr, h1, h2, h3, h4, he.trans h5, h6⟩
theorem mid_inUse {bx : List (Nat × Option Box)} {l l' : List Value} {c : CV} (h : c.inUse bx = true) : (l.map CV.val ++ c :: l'.map CV.val).all (CV.inUse bx) = true := by
  rw [List.all_append, List.all_cons, vals_inUse, vals_inUse, h]; rfl
theorem Box.ren_mid {f : Nat → Nat} {e : TypeId} {l l' : List Value} {c c' : CV} {r : Bool} (h : c.ren f = c') : Box.ren f ⟨e, l.map CV.val ++ c :: l'.map CV.val, r⟩ = ⟨e, l.map CV.val ++ c' :: l'.map CV.val, r⟩ := by
  unfold Box.ren
  rw [List.map_append, List.map_cons, Go.Lg.ren_vals, Go.Lg.ren_vals, h]
theorem mid_get {α : Type} {A B : List α} {x : α} {i : Nat} (h : A.length = i) : (A ++ x :: B)[i]? = some x := by
  rw [List.getElem?_append_right (by omega), h, Nat.sub_self]; rfl
theorem look_swap {α : Type} {k k' j : Nat} {x y : α} {l : List (Nat × α)} (h : Nat.beq k k' = false) : look j ((k, x) :: (k', y) :: l) = look j ((k', y) :: (k, x) :: l) := by
  simp only [look]
  cases h1 : Nat.beq k j with
  | false => rfl
  | true =>
    cases h2 : Nat.beq k' j with
    | false => rfl
    | true =>
      have := (Nat.eq_of_beq_eq_true h1).trans (Nat.eq_of_beq_eq_true h2).symm
      rw [this, Nat.beq_refl] at h; cases h
theorem look_cons {α : Type} {j : Nat} {p : Nat × α} {l l' : List (Nat × α)} (h : look j l = look j l') : look j (p :: l) = look j (p :: l') := by
  obtain ⟨k, x⟩ := p
  simp only [look]
  rw [h]
theorem look_rot {α : Type} {k k' k2 j : Nat} {x y z : α} {l : List (Nat × α)} (h : Nat.beq k k2 = false) (h2 : Nat.beq k' k2 = false) : look j ((k, x) :: (k', y) :: (k2, z) :: l) = look j ((k2, z) :: (k, x) :: (k', y) :: l) :=
  (look_cons (look_swap h2)).trans (look_swap h)
section
variable {P : Program} {n : Nat} {C : Ctx} {c : Code} {Q : Exit → St → Prop} {X H : Nat → Option Obj} {s : List (Nat × LV)} {bx : List (Nat × Option Box)}
theorem LWP.openCell {j k sz b len : Nat} {v : Value} {el el2 : TypeId} {A B : List CV} {row2 : Bool} {vals : List Value}
    (hO : OwnedM C X H) (hv : LeadsTo H b v el sz vals) (hlen : vals.length = len * sz) (hsz : 0 < sz)
    (hs : s.all (fun p => p.2.inUse ((j, some ⟨el2, A ++ .val v :: B, row2⟩) :: bx)) = true)
    (hb : ((j, some (⟨el2, A ++ .val v :: B, row2⟩ : Box)) :: bx).all (fun p => match p.2 with | some b => b.cells.all (CV.inUse ((j, some ⟨el2, A ++ .val v :: B, row2⟩) :: bx)) | none => true) = true)
    (hk : look k bx = none) (hjk : Nat.beq j k = false) (hlt : Nat.blt k 1000000 = true)
    (h : LWP P n C c Q ⟨s, (j, some ⟨el2, A ++ .slc k 0 len sz :: B, row2⟩) :: (k, some ⟨el, vals.map .val, true⟩) :: bx, joinM X (cutM H b)⟩) :
    LWP P n C c Q ⟨s, (j, some ⟨el2, A ++ .val v :: B, row2⟩) :: bx, joinM X H⟩ := by
  obtain ⟨len', cap, arr, fr, rfl, h2, h3, h4, h5, h6⟩ := hv
  have e : len' = len := Nat.eq_of_mul_eq_mul_right hsz (h2.symm.trans hlen)
  subst e
  rw [joinM_cut h5]
  have hX : joinM X (cutM H b) b = none := by rw [joinM_out (cutM_at H b)]; exact (hO.own _ _ h5).2.2
  exact LWP.thawCell hX (hO.frozen h5) h3 (by omega) h6 hs hb hk hjk hlt h
theorem closed {blk len cap sz : Nat} {arr : Array Value} {fr : Nat × Nat} {el : TypeId} {vals : List Value} (hlen : vals.length = len * sz) (hX : joinM X H blk = none) (hO : OwnedM C X H) (hF : Frozen C blk arr fr) (hc : len ≤ cap) (hfit : 0 + cap * sz ≤ arr.size) (hsp : ∃ sp, arr.toList = vals ++ sp) :
    H blk = none ∧ OwnedM C X (withBlock H blk (.cells arr el fr)) ∧ LeadsTo (withBlock H blk (.cells arr el fr)) blk (.slice (some ⟨blk, 0, none⟩) len cap) el sz vals :=
  ⟨(joinM_none hX).1, hO.more hF hX, ⟨len, cap, arr, fr, rfl, hlen, hc, by omega, withBlock_at _ _ _, hsp⟩⟩
theorem LWP.closeCell {j k len sz : Nat} {el el2 : TypeId} {A B : List CV} {row2 : Bool} {vals : List Value} {row : Bool} (hO : OwnedM C X H) (hlen : vals.length = len * sz)
    (hs : s.all (fun p => p.2.inUse ((j, none) :: bx)) = true) (hA : A.all (CV.inUse ((j, none) :: bx)) = true) (hB : B.all (CV.inUse ((j, none) :: bx)) = true) (hb : bx.all (fun p => match p.2 with | some b => b.cells.all (CV.inUse ((j, none) :: bx)) | none => true) = true) (hk : look k bx = none) (hjk : Nat.beq j k = false)
    (h : ∀ (b : Nat) (o : Obj) (v : Value), H b = none → X b = none → OwnedM C X (withBlock H b o) → LeadsTo (withBlock H b o) b v el sz vals →
      LWP P n C c Q ⟨s, (j, some ⟨el2, A ++ .val v :: B, row2⟩) :: bx, joinM X (withBlock H b o)⟩) :
    LWP P n C c Q ⟨s, (j, some ⟨el2, A ++ .slc k 0 len sz :: B, row2⟩) :: (k, some ⟨el, vals.map .val, row⟩) :: bx, joinM X H⟩ := by
  refine LWP.freezeCell hs hA hB hb hk hjk fun blk cap arr fr h1 h2 h3 h4 h5 => ?_
  rw [joinM_with]
  obtain ⟨g1, g2, g3⟩ := closed (el := el) hlen h1 hO h2 h3 h4 h5
  exact h blk _ _ g1 (joinM_none h1).2 g2 g3
theorem LWP.loopL {c : Code} {σ : St} (I : Nat → St → Prop) (m : Nat) (h0 : Leads n C (I m) σ)
    (round : ∀ m σ, I m σ → LWP P n C c (thenQ (Leads n C (fun σ' => ∃ m', m' < m ∧ I m' σ')) Q) σ) : LWP P n C (.loop c) Q σ := by
  refine ⟨fun ι a w hr => ?_⟩
  have key : ∀ (m : Nat) (σ : St) (ι : Nat → Nat × Nat) (a : Act) (w : World), I m σ → Rel n C ι σ a w → Code.rounds P c (fun e a' w' => ∃ ι' σ', Q e σ' ∧ Rel n C ι' σ' a' w') (m + 1) a w := by
    intro m
    induction m using Nat.strongRecOn with
    | _ m ih =>
      intro σ ι a w hI hr
      rw [rounds_succ]
      refine wp_mono ((round m σ hI).out ι a w hr) ?_
      rintro e a' w' ⟨ι', σ', hq, hr'⟩
      cases e <;> try exact ⟨ι', σ', hq, hr'⟩
      obtain ⟨ι2, σ2, ⟨m', hlt, hI'⟩, hr2⟩ := hq.out ι' a' w' hr'
      exact rounds_le (by omega) (ih m' hlt σ2 ι2 a' w' hI' hr2)
  obtain ⟨ι2, σ2, hI, hr2⟩ := h0.out ι a w hr
  exact wp_loop_rounds (m + 1) (key m σ2 ι2 a w hI hr2)
theorem rel_front {S : Nat → Option (Option Box)} {ι : Nat → Nat × Nat} : ∀ {A B : List CV} {vs : List Value}, CVs.rel S ι (A ++ B) vs → ∃ va vb, vs = va ++ vb ∧ CVs.rel S ι A va
  | [], _, vs, _ => ⟨[], vs, rfl, trivial⟩
  | _ :: _, _, [], h => h.elim
  | _ :: A, B, v :: vs, h => by
    obtain ⟨va, vb, e, h1⟩ := rel_front (A := A) (B := B) h.2
    exact ⟨v :: va, vb, by rw [e]; rfl, h.1, h1⟩
theorem Rel.rebox {ι : Nat → Nat × Nat} {a : Act} {w : World} {j : Nat} {e : TypeId} {cs cs' : List CV} {r r' : Bool}
    (himp : ∀ vs, Box.rel (⟨s, (j, some ⟨e, cs', r'⟩) :: bx, X⟩ : St).stat ι ⟨e, cs, r⟩ vs → Box.rel (⟨s, (j, some ⟨e, cs', r'⟩) :: bx, X⟩ : St).stat ι ⟨e, cs', r'⟩ vs)
    (hr : Rel n C ι ⟨s, (j, some ⟨e, cs, r⟩) :: bx, X⟩ a w) : Rel n C ι ⟨s, (j, some ⟨e, cs', r'⟩) :: bx, X⟩ a w := by
  have hlater := later_hd (s := s) (bx := bx) (k := j) ι ⟨e, cs, r⟩ ⟨e, cs', r'⟩ X X
  have live : ∀ i b, (⟨s, (j, some ⟨e, cs', r'⟩) :: bx, X⟩ : St).stat i = some (some b) → ∃ b0, (⟨s, (j, some ⟨e, cs, r⟩) :: bx, X⟩ : St).stat i = some (some b0) ∧ (i ≠ j → b = b0) := fun i b hi => by
    rw [stat_hd] at hi ⊢
    by_cases e : i = j
    · rw [if_pos e]; exact ⟨_, rfl, fun h => absurd e h⟩
    · rw [if_neg e] at hi ⊢; exact ⟨b, hi, fun _ => rfl⟩
  exact {
    defers := hr.defers, size := hr.size
    slots := fun d lv hd => by
      obtain ⟨v, hv, hvr⟩ := hr.slots d lv hd
      exact ⟨v, hv, LV.rel_later hlater hvr⟩
    boxes := fun i b hi hbk => by
      by_cases ei : i = j
      · subst ei
        rw [stat_hd, if_pos rfl] at hi
        simp only [Option.some.injEq] at hi
        subst hi
        obtain ⟨arr, fr, g1, g2, g3, g4⟩ := hr.boxes i ⟨e, cs, r⟩ (by rw [stat_hd, if_pos rfl]) rfl
        exact ⟨arr, fr, g1, g2, g3, himp _ (Box.rel_later hlater g4)⟩
      · obtain ⟨b0, h0, h1⟩ := live i b hi
        have := h1 ei
        subst this
        obtain ⟨arr, fr, g1, g2, g3, g4⟩ := hr.boxes i b h0 hbk
        exact ⟨arr, fr, g1, g2, g3, Box.rel_later hlater g4⟩
    own := fun i b hi => by obtain ⟨b0, h0, _⟩ := live i b hi; exact hr.own i b0 h0
    inj := fun i i' bi bj hi hj he => by
      obtain ⟨b1, h1, _⟩ := live i bi hi
      obtain ⟨b2, h2, _⟩ := live i' bj hj
      exact hr.inj i i' b1 b2 h1 h2 he
    keep := fun i b hi hge => by obtain ⟨b0, h0, _⟩ := live i b hi; exact hr.keep i b0 h0 hge
    ext := hr.ext
    res := by
      obtain ⟨F, hG⟩ := hr.res
      refine hG.keep (fun i e cs R hi => ?_) (fun _ _ _ _ _ hi => hi) (fun _ _ ho => ho) (fun b _ hx _ _ => hx) (fun i bi hi => ?_)
      · rw [stat_hd] at hi ⊢
        by_cases e : i = j
        · rw [if_pos e] at hi; cases hi
        · rw [if_neg e] at hi ⊢; exact ⟨hi, rfl⟩
      · obtain ⟨b0, h0, _⟩ := live i bi hi
        exact .inl ⟨b0, h0, rfl⟩
    frame := hr.frame, big := hr.big, os := hr.os, tape := hr.tape, output := hr.output }
theorem Le.trim {j : Nat} {e : TypeId} {A B : List CV} {r : Bool} : Le n C ⟨s, (j, some ⟨e, A ++ B, r⟩) :: bx, X⟩ ⟨s, (j, some ⟨e, A, true⟩) :: bx, X⟩ := ⟨fun ι a w hr => ⟨ι, hr.rebox fun vs h => by
  unfold Box.rel at h ⊢
  cases r with
  | false =>
    obtain ⟨va, vb, e, h1⟩ := rel_front h
    exact ⟨va, vb, e, h1⟩
  | true =>
    obtain ⟨us, sp, e, hl⟩ := h
    obtain ⟨va, vb, e2, h1⟩ := rel_front hl
    exact ⟨va, vb ++ sp, by rw [e, e2, List.append_assoc], h1⟩⟩⟩
theorem Le.same {σ σ' : St} (h : Same σ σ') : Le n C σ σ' := ⟨fun ι _ _ hr => ⟨ι, hr.same h⟩⟩
theorem Leads.done {Mid : St → Prop} {σ : St} (h : Mid σ) : Leads n C Mid σ := ⟨fun ι a w hr => ⟨ι, σ, h, hr⟩⟩
theorem Leads.closeCell {Mid : St → Prop} {j k len sz : Nat} {el el2 : TypeId} {A B : List CV} {row2 : Bool} {vals : List Value} {row : Bool} (hO : OwnedM C X H) (hlen : vals.length = len * sz)
    (hs : s.all (fun p => p.2.inUse ((j, none) :: bx)) = true) (hA : A.all (CV.inUse ((j, none) :: bx)) = true) (hB : B.all (CV.inUse ((j, none) :: bx)) = true) (hb : bx.all (fun p => match p.2 with | some b => b.cells.all (CV.inUse ((j, none) :: bx)) | none => true) = true) (hk : look k bx = none) (hjk : Nat.beq j k = false)
    (h : ∀ (b : Nat) (o : Obj) (v : Value), H b = none → X b = none → OwnedM C X (withBlock H b o) → LeadsTo (withBlock H b o) b v el sz vals →
      Leads n C Mid ⟨s, (j, some ⟨el2, A ++ .val v :: B, row2⟩) :: bx, joinM X (withBlock H b o)⟩) :
    Leads n C Mid ⟨s, (j, some ⟨el2, A ++ .slc k 0 len sz :: B, row2⟩) :: (k, some ⟨el, vals.map .val, row⟩) :: bx, joinM X H⟩ := by
  refine Leads.freezeCell hs hA hB hb hk hjk fun blk cap arr fr h1 h2 h3 h4 h5 => ?_
  rw [joinM_with]
  obtain ⟨g1, g2, g3⟩ := closed (el := el) hlen h1 hO h2 h3 h4 h5
  exact h blk _ _ g1 (joinM_none h1).2 g2 g3
end
end Go.Lg
end
section
namespace Go.Lg
open Go Go.RowKit
def nilSlc : Value := .slice none 0 0
def blkOf : Value → Option Nat
  | .slice (some a) _ _ => some a.block
  | _ => none
theorem LeadsTo.blk {H : Nat → Option Obj} {b : Nat} {v : Value} {el : TypeId} {sz : Nat} {vals : List Value} (h : LeadsTo H b v el sz vals) : blkOf v = some b := by
  obtain ⟨len, cap, arr, fr, rfl, _⟩ := h
  rfl
def SliceTo (H : Nat → Option Obj) (v : Value) (el : TypeId) (vals : List Value) : Prop := ∃ b, LeadsTo H b v el 1 vals
theorem SliceTo.mono {H H' : Nat → Option Obj} {v : Value} {el : TypeId} {vals : List Value} (h : SliceTo H v el vals) (he : ∀ b, blkOf v = some b → H' b = H b) : SliceTo H' v el vals := by
  obtain ⟨b, h⟩ := h
  exact ⟨b, h.mono (he b h.blk)⟩
theorem SliceTo.some_of {H : Nat → Option Obj} {v : Value} {el : TypeId} {vals : List Value} (h : SliceTo H v el vals) {b : Nat} (hb : blkOf v = some b) : H b ≠ Option.none := by
  obtain ⟨b', h⟩ := h
  have := h.blk
  rw [this] at hb
  simp only [Option.some.injEq] at hb
  subst hb
  obtain ⟨_, _, _, _, _, _, _, _, h5, _⟩ := h
  rw [h5]; simp
theorem cut_with {H : Nat → Option Obj} {b : Nat} {o : Obj} (h : H b = none) : cutM (withBlock H b o) b = H := by
  funext i
  unfold cutM withBlock
  by_cases e : i = b
  · rw [if_pos e, e, h]
  · rw [if_neg e, if_neg e]
structure Cells (H : Nat → Option Obj) (el : TypeId) (op : List Nat) (cells : List Value) (chs : List (List Value)) : Prop where
  len : cells.length = chs.length
  at_ : ∀ (i : Nat) (c : Value) (x : List Value), i ∉ op → cells[i]? = some c → chs[i]? = some x → SliceTo H c el x
  apart : ∀ (i j : Nat) (c c' : Value) (b : Nat), i ∉ op → j ∉ op → cells[i]? = some c → cells[j]? = some c' → blkOf c = some b → blkOf c' = some b → i = j
theorem Cells.nil (H : Nat → Option Obj) (el : TypeId) (op : List Nat) : Cells H el op [] [] := ⟨rfl, fun i c x _ h => (by simp at h), fun i j c c' b _ _ h => (by simp at h)⟩
section
variable {H : Nat → Option Obj} {el : TypeId} {op : List Nat} {cells : List Value} {chs : List (List Value)}
theorem Cells.some_of (G : Cells H el op cells chs) {i : Nat} {c : Value} {b : Nat} (hi : i ∉ op) (hc : cells[i]? = some c) (hb : blkOf c = some b) : H b ≠ none := by
  obtain ⟨x, hx⟩ : ∃ x, chs[i]? = some x := ⟨_, List.getElem?_eq_getElem (by have := (List.getElem?_eq_some_iff.1 hc).1; have := G.len; omega)⟩
  exact (G.at_ i c x hi hc hx).some_of hb
theorem Cells.mono {H' : Nat → Option Obj} (G : Cells H el op cells chs) (h : ∀ (i : Nat) (c : Value) (b : Nat), i ∉ op → cells[i]? = some c → blkOf c = some b → H' b = H b) : Cells H' el op cells chs :=
  ⟨G.len, fun i c x hi hc hx => (G.at_ i c x hi hc hx).mono fun b hb => h i c b hi hc hb, G.apart⟩
theorem Cells.more (G : Cells H el op cells chs) {b : Nat} {o : Obj} (hb : H b = none) : Cells (withBlock H b o) el op cells chs := G.mono fun i c b' hi hc hb' => by
  unfold withBlock
  rw [if_neg (fun e => G.some_of hi hc hb' (by rw [e, hb]))]
theorem Cells.openAt (G : Cells H el op cells chs) {p : Nat} {c : Value} {b : Nat} (hp : p ∉ op) (hc : cells[p]? = some c) (hb : blkOf c = some b) : Cells (cutM H b) el (p :: op) cells chs := by
  have G' : Cells H el (p :: op) cells chs := ⟨G.len, fun i c x hi => G.at_ i c x fun h => hi (List.mem_cons_of_mem _ h), fun i j c c' b hi hj => G.apart i j c c' b (fun h => hi (List.mem_cons_of_mem _ h)) (fun h => hj (List.mem_cons_of_mem _ h))⟩
  refine G'.mono fun i ci bi hi hci hbi => cutM_other fun e => ?_
  have := G.apart i p ci c b (fun h => hi (List.mem_cons_of_mem _ h)) hp hci hc (by rw [hbi, e]) hb
  exact hi (by rw [this]; exact List.mem_cons_self ..)
theorem Cells.shutAt {p : Nat} (G : Cells H el (p :: op) cells chs) (hp : p < cells.length) {b : Nat} {o : Obj} {v : Value} {x : List Value} (hb : H b = none) (hv : LeadsTo (withBlock H b o) b v el 1 x) : Cells (withBlock H b o) el op (cells.set p v) (chs.set p x) := by
  have hno : ∀ (i : Nat), i ∉ op → i ≠ p → i ∉ p :: op := fun i hi hne h => by
    rcases List.mem_cons.1 h with h | h
    · exact hne h
    · exact hi h
  refine ⟨by rw [List.length_set, List.length_set]; exact G.len, fun i c x' hi hc hx => ?_, fun i j c c' β hi hj hc hc' hβ hβ' => ?_⟩
  · by_cases e : i = p
    · subst e
      rw [List.getElem?_set_self hp] at hc
      rw [List.getElem?_set_self (by have := G.len; omega)] at hx
      simp only [Option.some.injEq] at hc hx
      subst hc hx
      exact ⟨b, hv⟩
    · rw [List.getElem?_set_ne (fun e' => e e'.symm)] at hc hx
      exact (G.more hb).at_ i c x' (hno i hi e) hc hx
  · by_cases e : i = p
    · by_cases e2 : j = p
      · omega
      · exfalso
        subst e
        rw [List.getElem?_set_self hp] at hc
        simp only [Option.some.injEq] at hc
        subst hc
        rw [List.getElem?_set_ne (fun e' => e2 e'.symm)] at hc'
        rw [hv.blk] at hβ
        simp only [Option.some.injEq] at hβ
        exact G.some_of (hno j hj e2) hc' hβ' (by rw [← hβ, hb])
    · by_cases e2 : j = p
      · exfalso
        subst e2
        rw [List.getElem?_set_self hp] at hc'
        simp only [Option.some.injEq] at hc'
        subst hc'
        rw [List.getElem?_set_ne (fun e' => e e'.symm)] at hc
        rw [hv.blk] at hβ'
        simp only [Option.some.injEq] at hβ'
        exact G.some_of (hno i hi e) hc hβ (by rw [← hβ', hb])
      · rw [List.getElem?_set_ne (fun e' => e e'.symm)] at hc
        rw [List.getElem?_set_ne (fun e' => e2 e'.symm)] at hc'
        exact G.apart i j c c' β (hno i hi e) (hno j hj e2) hc hc' hβ hβ'
theorem Cells.snoc (G : Cells H el op cells chs) (c : Value) (x : List Value) : Cells H el (cells.length :: op) (cells ++ [c]) (chs ++ [x]) := by
  have hlt : ∀ (i : Nat) (ci : Value), i ∉ cells.length :: op → (cells ++ [c])[i]? = some ci → i ∉ op ∧ i < cells.length ∧ cells[i]? = some ci := fun i ci hi hci => by
    have h1 := (List.getElem?_eq_some_iff.1 hci).1
    rw [List.length_append] at h1
    have h2 : i ≠ cells.length := fun e => hi (by rw [e]; exact List.mem_cons_self ..)
    have h3 : i < cells.length := by simp at h1; omega
    rw [List.getElem?_append_left h3] at hci
    exact ⟨fun h => hi (List.mem_cons_of_mem _ h), h3, hci⟩
  refine ⟨by rw [List.length_append, List.length_append, G.len]; rfl, fun i ci xi hi hci hxi => ?_, fun i j ci cj β hi hj hci hcj hβ hβ' => ?_⟩
  · obtain ⟨h1, h2, h3⟩ := hlt i ci hi hci
    rw [List.getElem?_append_left (by have := G.len; omega)] at hxi
    exact G.at_ i ci xi h1 h3 hxi
  · obtain ⟨h1, _, h3⟩ := hlt i ci hi hci
    obtain ⟨g1, _, g3⟩ := hlt j cj hj hcj
    exact G.apart i j ci cj β h1 g1 h3 g3 hβ hβ'
theorem Cells.take (G : Cells H el op cells chs) (k : Nat) : Cells H el op (cells.take k) (chs.take k) := by
  have hlt : ∀ (i : Nat) (ci : Value), (cells.take k)[i]? = some ci → cells[i]? = some ci := fun i ci h => by
    rw [List.getElem?_take] at h
    split at h
    · exact h
    · cases h
  refine ⟨by rw [List.length_take, List.length_take, G.len], fun i ci xi hi hci hxi => G.at_ i ci xi hi (hlt i ci hci) ?_, fun i j ci cj β hi hj hci hcj => G.apart i j ci cj β hi hj (hlt i ci hci) (hlt j cj hcj)⟩
  rw [List.getElem?_take] at hxi
  split at hxi
  · exact hxi
  · cases hxi
end
def Grid (H : Nat → Option Obj) (st el : TypeId) (v : Value) (cells : List Value) (chs : List (List Value)) : Prop :=
  (∃ db, LeadsTo H db v st 1 cells ∧ Cells (cutM H db) el [] cells chs) ∨ (v = nilSlc ∧ cells = [] ∧ chs = [])
theorem Grid.empty (H : Nat → Option Obj) (st el : TypeId) : Grid H st el nilSlc [] [] := .inr ⟨rfl, rfl, rfl⟩
theorem Grid.shut {H : Nat → Option Obj} {st el : TypeId} {v : Value} {cells : List Value} {chs : List (List Value)} {d : Nat} {o : Obj} (G : Cells H el [] cells chs) (hd : H d = none) (hv : LeadsTo (withBlock H d o) d v st 1 cells) : Grid (withBlock H d o) st el v cells chs :=
  .inl ⟨d, hv, by rw [cut_with hd]; exact G⟩
theorem Grid.real {H : Nat → Option Obj} {st el : TypeId} {v : Value} {cells : List Value} {chs : List (List Value)} (G : Grid H st el v cells chs) (hne : chs ≠ []) : ∃ db, LeadsTo H db v st 1 cells ∧ Cells (cutM H db) el [] cells chs := G.resolve_right fun h => hne h.2.2
theorem Grid.len {H : Nat → Option Obj} {st el : TypeId} {v : Value} {cells : List Value} {chs : List (List Value)} (G : Grid H st el v cells chs) : cells.length = chs.length := by
  rcases G with ⟨_, _, G⟩ | ⟨_, h1, h2⟩
  · exact G.len
  · rw [h1, h2]; rfl
end Go.Lg
end
section
namespace Go.Lg
open Go Go.RowKit
section
variable {P : Program} {n : Nat} {ops os : List Oper} {acc : List Eff} {K : List Eff → St → Prop} {s : List (Nat × LV)} {bx : List (Nat × Option Box)} {X : Nat → Option Obj} {σ : St}
theorem run_equal_slcNil {P : Program} (w : World) (t : TypeId) (a : Option Addr) (l c sz : Nat) (h : sliceOf P t = some sz) : (Op.equal t (.slice a l c) (.slice none 0 0)).run P w = .ok a.isNone w := by
  obtain ⟨e, hu, _⟩ := sliceOf_spec h
  have key : ∀ d, (Op.equalIn (d + 1) t (.slice a l c) (.slice none 0 0)).run P w = .ok a.isNone w := fun d => by
    cases a <;> simp [Op.equalIn, run_underlying hu]
  exact key 9999
theorem LOK.slcNil {d : Nat} {op : BinOp} {t t' : TypeId} {x : Operand} {ty : TypeId} {pos : String} {after_ : Array Edge} {g : Option (Nat × Bool)} {r : Bool} {ad : Option Addr} {len cap sz : Nat} (hx : σ.ev x = some (.sv (.one (.val (.slice ad len cap))))) (ht : sliceOf P t = some sz)
    (hop : (op = .eql ∧ r = ad.isNone) ∨ (op = .neq ∧ r = !ad.isNone)) :
    LOK P n ops ⟨some d, .binOp op t x (.const (.slice none 0 0)) t', ty, pos, after_, g⟩ σ ⟨[(d, .sv (.one (.val (.bool r))))], [], []⟩ :=
  LOK.value fun σ' ha C ι a w hr => by
    have hv : a.eval x = .slice ad len cap := hr.ev ((ha.ev (x := x) (by simp [Op.operands])).trans hx)
    have hc : a.eval (.const (.slice none 0 0)) = .slice none 0 0 := rfl
    have h1 := run_equal_slcNil w t ad len cap sz ht
    rcases hop with ⟨rfl, rfl⟩ | ⟨rfl, rfl⟩
    · exact ⟨_, by simp only [execOp, hv, hc, eqGuard, Sem.run_bind]; simp [binOp, h1], rfl⟩
    · exact ⟨_, by simp only [execOp, hv, hc, eqGuard, Sem.run_bind]; simp [binOp, h1], rfl⟩
theorem K.slcNil {d : Nat} {op : BinOp} {t t' : TypeId} {x : Operand} {ty : TypeId} {pos : String} {after_ : Array Edge} {g : Option (Nat × Bool)} {r : Bool} {ad : Option Addr} {len cap sz : Nat} (hx : (⟨s, bx, X⟩ : St).ev x = some (.sv (.one (.val (.slice ad len cap))))) (ht : sliceOf P t = some sz)
    (hop : (op = .eql ∧ r = ad.isNone) ∨ (op = .neq ∧ r = !ad.isNone)) (hw : Want ops s g) (kont : RunK P n ops os ⟨(d, .sv (.one (.val (.bool r)))) :: s, bx, X⟩ (⟨[(d, .sv (.one (.val (.bool r))))], [], []⟩ :: acc) K) :
    RunK P n ops (⟨some d, .binOp op t x (.const (.slice none 0 0)) t', ty, pos, after_, g⟩ :: os) ⟨s, bx, X⟩ acc K := RunK.g1 (LOK.slcNil hx ht hop) hw kont
end
end Go.Lg
end
section
namespace Go.Lg
open Go Go.RowKit
def LentBox (Y : Nat → Option Obj) (b : Box) (blk m : Nat) : Prop :=
  match b.row with
  | .bool _ => ∃ (arr : Array Value) (fr : Nat × Nat) (us sp : List Value), Y blk = some (.cells arr b.elem fr) ∧ arr.size = m ∧ arr.toList = us ++ sp ∧ ∀ vals : List Value, b.cells = vals.map .val → us = vals
  | .res R => ∃ H : Nat → Option Obj, R.holds (blk, m) H ∧ ∀ i o, H i = some o → Y i = some o
def LentC (S : Nat → Option (Option Box)) (Y : Nat → Option Obj) : CV → Value → Prop
  | .val v, u => u = v
  | .slc k off len sz, u => ∃ (b : Box) (blk cap m : Nat), S k = some (some b) ∧ u = .slice (some ⟨blk, off, none⟩) len cap ∧ len ≤ cap ∧ off + cap * sz ≤ m ∧ LentBox Y b blk m
  | _, _ => False
def LentCs (S : Nat → Option (Option Box)) (Y : Nat → Option Obj) : List CV → List Value → Prop
  | [], us => us = []
  | c :: l, us => ∃ u us', us = u :: us' ∧ LentC S Y c u ∧ LentCs S Y l us'
def LentL (S : Nat → Option (Option Box)) (Y : Nat → Option Obj) (lv : LV) (u : Value) : Prop :=
  match lv with
  | .sv (.one c) => LentC S Y c u
  | .sv (.agg cs) => ∃ us : List Value, u = .agg us.toArray ∧ LentCs S Y cs us
  | _ => False
def LentLs (S : Nat → Option (Option Box)) (Y : Nat → Option Obj) : List LV → List Value → Prop
  | [], us => us = []
  | lv :: l, us => ∃ u us', us = u :: us' ∧ LentL S Y lv u ∧ LentLs S Y l us'
def lendC (S : Nat → Option (Option Box)) (ks : List Nat) : CV → Bool
  | .val _ => true
  | .slc k _ _ _ => ks.contains k && (match S k with | some (some _) => true | _ => false)
  | _ => false
def lendL (S : Nat → Option (Option Box)) (ks : List Nat) : LV → Bool
  | .sv (.one c) => lendC S ks c
  | .sv (.agg cs) => cs.all (lendC S ks)
  | _ => false
section
variable {P : Program} {n : Nat} {ops os : List Oper} {acc : List Eff} {K : List Eff → St → Prop} {s : List (Nat × LV)} {bx : List (Nat × Option Box)} {X : Nat → Option Obj} {σ : St}
theorem lentBox_of {C : Ctx} {ι : Nat → Nat × Nat} {a : Act} {w : World} {σ' : St} (hr : Rel n C ι σ' a w) {k : Nat} {b : Box} (hst : σ'.stat k = some (some b)) : LentBox (fun i => w.heap[i]?) b (ι k).1 (ι k).2 := by
  obtain ⟨e, cs, row⟩ := b
  cases row with
  | bool r =>
    obtain ⟨arr, fr, harr, _, hsz, hbr⟩ := hr.boxes k _ hst rfl
    unfold Box.rel at hbr
    cases r with
    | false => exact ⟨arr, fr, arr.toList, [], harr, hsz, by simp, fun vals e => by simp only at e hbr; rw [e] at hbr; exact rel_vals hbr⟩
    | true =>
      obtain ⟨us, sp, e, hl⟩ := hbr
      exact ⟨arr, fr, us, sp, harr, hsz, e, fun vals e => by simp only at e hl; rw [e] at hl; exact rel_vals hl⟩
  | res R =>
    obtain ⟨F, hF⟩ := hr.res
    exact ⟨F k, (hF.holds k _ _ _ hst).1, fun i o h => (hF.mem k i o h).2.1⟩
theorem lentC_of {C : Ctx} {ι : Nat → Nat × Nat} {a : Act} {w : World} {σ' : St} (hr : Rel n C ι σ' a w) (ks : List Nat) (S : Nat → Option (Option Box)) (hS : ∀ k, k ∈ ks → σ'.stat k = S k) {c : CV} {u : Value} (hl : lendC S ks c = true) (h : c.rel σ'.stat ι u) : LentC S (fun i => w.heap[i]?) c u := by
  cases c with
  | val v => exact h
  | slc k off len sz =>
    simp only [lendC, Bool.and_eq_true] at hl
    have hk : k ∈ ks := by simpa using hl.1
    cases hs : S k with
    | none => rw [hs] at hl; exact absurd hl.2 (by simp)
    | some x =>
      cases x with
      | none => rw [hs] at hl; exact absurd hl.2 (by simp)
      | some b =>
        have hst : σ'.stat k = some (some b) := by rw [hS k hk, hs]
        simp only [CV.rel, hst] at h
        obtain ⟨cap, rfl, h3, h4⟩ := h
        exact ⟨b, _, cap, _, hs, rfl, h3, h4, lentBox_of hr hst⟩
  | ptr _ _ => cases hl
  | mp _ => cases hl
  | fn _ _ _ => cases hl
  | hang _ _ _ => cases hl
  | junk => cases hl
theorem lentCs_of {C : Ctx} {ι : Nat → Nat × Nat} {a : Act} {w : World} {σ' : St} (hr : Rel n C ι σ' a w) (ks : List Nat) (S : Nat → Option (Option Box)) (hS : ∀ k, k ∈ ks → σ'.stat k = S k) : ∀ {cs : List CV} {us : List Value}, cs.all (lendC S ks) = true → CVs.rel σ'.stat ι cs us → LentCs S (fun i => w.heap[i]?) cs us
  | [], [], _, _ => rfl
  | [], _ :: _, _, h => h.elim
  | _ :: _, [], _, h => h.elim
  | c :: l, u :: us, hl, h => by
    simp only [List.all_cons, Bool.and_eq_true] at hl
    exact ⟨u, us, rfl, lentC_of hr ks S hS hl.1 h.1, lentCs_of hr ks S hS hl.2 h.2⟩
theorem lentLs_of {C : Ctx} {ι : Nat → Nat × Nat} {a : Act} {w : World} {σ' : St} (hr : Rel n C ι σ' a w) (ks : List Nat) (S : Nat → Option (Option Box)) (hS : ∀ k, k ∈ ks → σ'.stat k = S k) : ∀ {lvs : List LV} {us : List Value}, lvs.all (lendL S ks) = true → LVs.rel σ'.stat ι lvs us → LentLs S (fun i => w.heap[i]?) lvs us
  | [], [], _, _ => rfl
  | [], _ :: _, _, h => h.elim
  | _ :: _, [], _, h => h.elim
  | lv :: l, u :: us, hl, h => by
    simp only [List.all_cons, Bool.and_eq_true] at hl
    refine ⟨u, us, rfl, ?_, lentLs_of hr ks S hS hl.2 h.2⟩
    have h1 := h.1
    have h2 := hl.1
    match lv with
    | .sv (.one c) => exact lentC_of hr ks S hS h2 h1
    | .sv (.agg cs) =>
      obtain ⟨arr, rfl, hl'⟩ := h1
      exact ⟨arr.toList, by simp, lentCs_of hr ks S hS h2 hl'⟩
    | .tup _ => cases h2
theorem LOK.callL {d : Nat} {f : FuncId} {args : List Operand} {tys : Array TypeId} {ty : TypeId} {pos : String} {after_ : Array Edge} {g : Option (Nat × Bool)} {lvs : List LV} {r : LV} (ks : List Nat) (hargs : evs σ args = some lvs) (hl : lvs.all (lendL σ.stat ks) = true) (hent : Program.enters P f = true)
    (hs : ∀ (Y : Nat → Option Obj) (us : List Value), (∀ b o, σ.X b = some o → Y b = some o) → LentLs σ.stat Y lvs us → PSpec P Y f (us.map toLV) r) :
    LOK P n ops ⟨some d, .call ⟨.value (.func f), args.toArray, tys⟩, ty, pos, after_, g⟩ σ ⟨[(d, r)], ks, []⟩ := by
  refine ⟨fun σ' ha C ι a w hr hd next Q hn => ?_⟩
  have hargs' : evs σ' args = some lvs := by
    rw [evs_agree fun x hx => ha.ev (by simp [Op.operands, Call.operands, hx])]
    exact hargs
  have hrel := evs_rel hr hargs'
  have hlent := lentLs_of hr ks σ.stat (fun k hk => ha.stat k (.inl hk)) hl hrel
  have hc := (hs (fun b => w.heap[b]?) _ (fun b o hb => hr.ext b o (by rw [ha.X]; exact hb)) hlent).out w (args.toArray.map a.eval) (fun b o hb => hb) (by rw [Array.toList_map, List.toList_toArray]; exact args_rel _)
  unfold Oper.wp
  have hrun : (execOp a.eval ⟨some d, .call ⟨.value (.func f), args.toArray, tys⟩, ty, pos, after_, g⟩).run P w = .ok (.enter f (args.toArray.map a.eval)) w := by
    simp only [execOp, resolve, Act.eval, Deferred.ofValue, invoke, Sem.run_bind, Sem.run_pure, Result.andThen_ok]
    simp [run_enter hent]
  rw [hrun]
  refine hc.mono ?_
  rintro e w' ⟨v, rfl, hv, hb⟩
  exact hn ι _ w' ((hr.below hb).put (hd d rfl) (LV.rel_later (later_noS _ _ _) hv))
theorem K.callL {d : Nat} {f : FuncId} {args : List Operand} {tys : Array TypeId} {ty : TypeId} {pos : String} {after_ : Array Edge} {g : Option (Nat × Bool)} {lvs : List LV} {r : LV} (ks : List Nat) (hargs : evs ⟨s, bx, X⟩ args = some lvs) (hl : lvs.all (lendL (fun k => look k bx) ks) = true) (hent : Program.enters P f = true)
    (hs : ∀ (Y : Nat → Option Obj) (us : List Value), (∀ b o, X b = some o → Y b = some o) → LentLs (fun k => look k bx) Y lvs us → PSpec P Y f (us.map toLV) r) (hw : Want ops s g)
    (kont : RunK P n ops os ⟨(d, r) :: s, bx, X⟩ (⟨[(d, r)], ks, []⟩ :: acc) K) :
    RunK P n ops (⟨some d, .call ⟨.value (.func f), args.toArray, tys⟩, ty, pos, after_, g⟩ :: os) ⟨s, bx, X⟩ acc K := RunK.gen hw (LOK.callL ks hargs hl hent hs) kont
end
end Go.Lg
end
section
namespace Go.Lg
open Go Go.RowKit
def blkZ : Value → Option Nat
  | .slice (some a) (_ + 1) _ => some a.block
  | _ => none
theorem LeadsTo.blkZ {H : Nat → Option Obj} {b : Nat} {v : Value} {el : TypeId} {sz : Nat} {vals : List Value} (h : LeadsTo H b v el sz vals) (h0 : vals ≠ []) : Go.Lg.blkZ v = some b := by
  obtain ⟨len, cap, arr, fr, rfl, h2, _⟩ := h
  cases len with
  | zero => exact absurd (List.eq_nil_of_length_eq_zero (by omega)) h0
  | succ n => rfl
def SliceZ (H : Nat → Option Obj) (v : Value) (el : TypeId) (sz : Nat) (vals : List Value) : Prop := (vals = [] ∧ ∃ ad cap, v = .slice ad 0 cap) ∨ ∃ b, LeadsTo H b v el sz vals ∧ vals ≠ []
theorem SliceZ.mono {H H' : Nat → Option Obj} {v : Value} {el : TypeId} {sz : Nat} {vals : List Value} (h : SliceZ H v el sz vals) (he : ∀ b, blkZ v = some b → H' b = H b) : SliceZ H' v el sz vals := by
  rcases h with h | ⟨b, h, h0⟩
  · exact .inl h
  · exact .inr ⟨b, h.mono (he b (h.blkZ h0)), h0⟩
theorem SliceZ.some_of {H : Nat → Option Obj} {v : Value} {el : TypeId} {sz : Nat} {vals : List Value} (h : SliceZ H v el sz vals) {b : Nat} (hb : blkZ v = some b) : H b ≠ Option.none := by
  rcases h with ⟨_, ad, cap, rfl⟩ | ⟨b', h, h0⟩
  · simp [blkZ] at hb
  · have := h.blkZ h0
    rw [this] at hb
    simp only [Option.some.injEq] at hb
    subst hb
    obtain ⟨_, _, _, _, _, _, _, _, h5, _⟩ := h
    rw [h5]; simp
structure Twigs (H : Nat → Option Obj) (el : TypeId) (sz : Nat) (op : List Nat) (cells : List Value) (chs : List (List Value)) : Prop where
  len : cells.length = chs.length
  at_ : ∀ (i : Nat) (c : Value) (x : List Value), i ∉ op → cells[i]? = some c → chs[i]? = some x → SliceZ H c el sz x
  apart : ∀ (i j : Nat) (c c' : Value) (b : Nat), i ∉ op → j ∉ op → cells[i]? = some c → cells[j]? = some c' → blkZ c = some b → blkZ c' = some b → i = j
theorem Twigs.nil (H : Nat → Option Obj) (el : TypeId) (sz : Nat) (op : List Nat) : Twigs H el sz op [] [] := ⟨rfl, fun i c x _ h => (by simp at h), fun i j c c' b _ _ h => (by simp at h)⟩
section
variable {H : Nat → Option Obj} {el : TypeId} {sz : Nat} {op : List Nat} {cells : List Value} {chs : List (List Value)}
theorem Twigs.some_of (G : Twigs H el sz op cells chs) {i : Nat} {c : Value} {b : Nat} (hi : i ∉ op) (hc : cells[i]? = some c) (hb : blkZ c = some b) : H b ≠ none := by
  obtain ⟨x, hx⟩ : ∃ x, chs[i]? = some x := ⟨_, List.getElem?_eq_getElem (by have := (List.getElem?_eq_some_iff.1 hc).1; have := G.len; omega)⟩
  exact (G.at_ i c x hi hc hx).some_of hb
theorem Twigs.mono {H' : Nat → Option Obj} (G : Twigs H el sz op cells chs) (h : ∀ (i : Nat) (c : Value) (b : Nat), i ∉ op → cells[i]? = some c → blkZ c = some b → H' b = H b) : Twigs H' el sz op cells chs :=
  ⟨G.len, fun i c x hi hc hx => (G.at_ i c x hi hc hx).mono fun b hb => h i c b hi hc hb, G.apart⟩
theorem Twigs.more (G : Twigs H el sz op cells chs) {b : Nat} {o : Obj} (hb : H b = none) : Twigs (withBlock H b o) el sz op cells chs := G.mono fun i c b' hi hc hb' => by
  unfold withBlock
  rw [if_neg (fun e => G.some_of hi hc hb' (by rw [e, hb]))]
theorem Twigs.shutAt {p : Nat} (G : Twigs H el sz (p :: op) cells chs) (hp : p < cells.length) {b : Nat} {o : Obj} {v : Value} {x : List Value} (hb : H b = none) (hv : LeadsTo (withBlock H b o) b v el sz x) (hx0 : x ≠ []) : Twigs (withBlock H b o) el sz op (cells.set p v) (chs.set p x) := by
  have hno : ∀ (i : Nat), i ∉ op → i ≠ p → i ∉ p :: op := fun i hi hne h => by
    rcases List.mem_cons.1 h with h | h
    · exact hne h
    · exact hi h
  refine ⟨by rw [List.length_set, List.length_set]; exact G.len, fun i c x' hi hc hx => ?_, fun i j c c' β hi hj hc hc' hβ hβ' => ?_⟩
  · by_cases e : i = p
    · subst e
      rw [List.getElem?_set_self hp] at hc
      rw [List.getElem?_set_self (by have := G.len; omega)] at hx
      simp only [Option.some.injEq] at hc hx
      subst hc hx
      exact .inr ⟨b, hv, hx0⟩
    · rw [List.getElem?_set_ne (fun e' => e e'.symm)] at hc hx
      exact (G.more hb).at_ i c x' (hno i hi e) hc hx
  · by_cases e : i = p
    · by_cases e2 : j = p
      · omega
      · exfalso
        subst e
        rw [List.getElem?_set_self hp] at hc
        simp only [Option.some.injEq] at hc
        subst hc
        rw [List.getElem?_set_ne (fun e' => e2 e'.symm)] at hc'
        rw [hv.blkZ hx0] at hβ
        simp only [Option.some.injEq] at hβ
        exact G.some_of (hno j hj e2) hc' hβ' (by rw [← hβ, hb])
    · by_cases e2 : j = p
      · exfalso
        subst e2
        rw [List.getElem?_set_self hp] at hc'
        simp only [Option.some.injEq] at hc'
        subst hc'
        rw [List.getElem?_set_ne (fun e' => e e'.symm)] at hc
        rw [hv.blkZ hx0] at hβ'
        simp only [Option.some.injEq] at hβ'
        exact G.some_of (hno i hi e) hc hβ (by rw [← hβ', hb])
      · rw [List.getElem?_set_ne (fun e' => e e'.symm)] at hc
        rw [List.getElem?_set_ne (fun e' => e2 e'.symm)] at hc'
        exact G.apart i j c c' β (hno i hi e) (hno j hj e2) hc hc' hβ hβ'
theorem Twigs.snoc (G : Twigs H el sz op cells chs) (c : Value) (x : List Value) : Twigs H el sz (cells.length :: op) (cells ++ [c]) (chs ++ [x]) := by
  have hlt : ∀ (i : Nat) (ci : Value), i ∉ cells.length :: op → (cells ++ [c])[i]? = some ci → i ∉ op ∧ i < cells.length ∧ cells[i]? = some ci := fun i ci hi hci => by
    have h1 := (List.getElem?_eq_some_iff.1 hci).1
    rw [List.length_append] at h1
    have h2 : i ≠ cells.length := fun e => hi (by rw [e]; exact List.mem_cons_self ..)
    have h3 : i < cells.length := by simp at h1; omega
    rw [List.getElem?_append_left h3] at hci
    exact ⟨fun h => hi (List.mem_cons_of_mem _ h), h3, hci⟩
  refine ⟨by rw [List.length_append, List.length_append, G.len]; rfl, fun i ci xi hi hci hxi => ?_, fun i j ci cj β hi hj hci hcj hβ hβ' => ?_⟩
  · obtain ⟨h1, h2, h3⟩ := hlt i ci hi hci
    rw [List.getElem?_append_left (by have := G.len; omega)] at hxi
    exact G.at_ i ci xi h1 h3 hxi
  · obtain ⟨h1, _, h3⟩ := hlt i ci hi hci
    obtain ⟨g1, _, g3⟩ := hlt j cj hj hcj
    exact G.apart i j ci cj β h1 g1 h3 g3 hβ hβ'
end
end Go.Lg
end
section
namespace Go.Lg
open Go Go.RowKit
section
variable {P : Program} {n : Nat} {C : Ctx} {c : Code} {Q : Exit → St → Prop} {X H : Nat → Option Obj} {s : List (Nat × LV)} {bx : List (Nat × Option Box)}
theorem Rel.rebox2 {ι : Nat → Nat × Nat} {a : Act} {w : World} {j : Nat} {e : TypeId} {cs cs' : List CV} {r r' : Bool}
    (himp : ∀ vs, (∃ (arr : Array Value) (fr : Nat × Nat), w.heap[(ι j).1]? = some (.cells arr e fr) ∧ arr.toList = vs) → Box.rel (⟨s, (j, some ⟨e, cs', r'⟩) :: bx, X⟩ : St).stat ι ⟨e, cs, r⟩ vs → Box.rel (⟨s, (j, some ⟨e, cs', r'⟩) :: bx, X⟩ : St).stat ι ⟨e, cs', r'⟩ vs)
    (hr : Rel n C ι ⟨s, (j, some ⟨e, cs, r⟩) :: bx, X⟩ a w) : Rel n C ι ⟨s, (j, some ⟨e, cs', r'⟩) :: bx, X⟩ a w := by
  have hlater := later_hd (s := s) (bx := bx) (k := j) ι ⟨e, cs, r⟩ ⟨e, cs', r'⟩ X X
  have live : ∀ i b, (⟨s, (j, some ⟨e, cs', r'⟩) :: bx, X⟩ : St).stat i = some (some b) → ∃ b0, (⟨s, (j, some ⟨e, cs, r⟩) :: bx, X⟩ : St).stat i = some (some b0) ∧ (i ≠ j → b = b0) := fun i b hi => by
    rw [stat_hd] at hi ⊢
    by_cases e : i = j
    · rw [if_pos e]; exact ⟨_, rfl, fun h => absurd e h⟩
    · rw [if_neg e] at hi ⊢; exact ⟨b, hi, fun _ => rfl⟩
  exact {
    defers := hr.defers, size := hr.size
    slots := fun d lv hd => by
      obtain ⟨v, hv, hvr⟩ := hr.slots d lv hd
      exact ⟨v, hv, LV.rel_later hlater hvr⟩
    boxes := fun i b hi hbk => by
      by_cases ei : i = j
      · subst ei
        rw [stat_hd, if_pos rfl] at hi
        simp only [Option.some.injEq] at hi
        subst hi
        obtain ⟨arr, fr, g1, g2, g3, g4⟩ := hr.boxes i ⟨e, cs, r⟩ (by rw [stat_hd, if_pos rfl]) rfl
        exact ⟨arr, fr, g1, g2, g3, himp _ ⟨arr, fr, g1, rfl⟩ (Box.rel_later hlater g4)⟩
      · obtain ⟨b0, h0, h1⟩ := live i b hi
        have := h1 ei
        subst this
        obtain ⟨arr, fr, g1, g2, g3, g4⟩ := hr.boxes i b h0 hbk
        exact ⟨arr, fr, g1, g2, g3, Box.rel_later hlater g4⟩
    own := fun i b hi => by obtain ⟨b0, h0, _⟩ := live i b hi; exact hr.own i b0 h0
    inj := fun i i' bi bj hi hj he => by
      obtain ⟨b1, h1, _⟩ := live i bi hi
      obtain ⟨b2, h2, _⟩ := live i' bj hj
      exact hr.inj i i' b1 b2 h1 h2 he
    keep := fun i b hi hge => by obtain ⟨b0, h0, _⟩ := live i b hi; exact hr.keep i b0 h0 hge
    ext := hr.ext
    res := by
      obtain ⟨F, hG⟩ := hr.res
      refine hG.keep (fun i e cs R hi => ?_) (fun _ _ _ _ _ hi => hi) (fun _ _ ho => ho) (fun b _ hx _ _ => hx) (fun i bi hi => ?_)
      · rw [stat_hd] at hi ⊢
        by_cases e : i = j
        · rw [if_pos e] at hi; cases hi
        · rw [if_neg e] at hi ⊢; exact ⟨hi, rfl⟩
      · obtain ⟨b0, h0, _⟩ := live i bi hi
        exact .inl ⟨b0, h0, rfl⟩
    frame := hr.frame, big := hr.big, os := hr.os, tape := hr.tape, output := hr.output }
theorem Rel.spare {ι : Nat → Nat × Nat} {a : Act} {w : World} {j : Nat} {e : TypeId} {vals : List Value} (hr : Rel n C ι ⟨s, (j, some ⟨e, vals.map .val, true⟩) :: bx, X⟩ a w) : ∃ sp : List Value, Rel n C ι ⟨s, (j, some ⟨e, (vals ++ sp).map .val, false⟩) :: bx, X⟩ a w := by
  obtain ⟨arr, fr, g1, _, _, g4⟩ := hr.boxes j ⟨e, vals.map .val, true⟩ (by rw [stat_hd, if_pos rfl]) rfl
  obtain ⟨us, sp, e1, hl⟩ := g4
  have hu := rel_vals hl
  subst hu
  refine ⟨sp, hr.rebox2 fun vs hv _ => ?_⟩
  obtain ⟨arr', fr', h1, h2⟩ := hv
  rw [g1] at h1
  simp only [Option.some.injEq, Obj.cells.injEq] at h1
  obtain ⟨rfl, _⟩ := h1
  rw [← h2, e1]
  exact CVs.rel_map_val (us ++ sp)
theorem Leads.spare {Mid : St → Prop} {j : Nat} {e : TypeId} {vals : List Value} (h : ∀ sp : List Value, Leads n C Mid ⟨s, (j, some ⟨e, (vals ++ sp).map .val, false⟩) :: bx, X⟩) : Leads n C Mid ⟨s, (j, some ⟨e, vals.map .val, true⟩) :: bx, X⟩ := ⟨fun ι a w hr => by
  obtain ⟨sp, hr'⟩ := hr.spare
  exact (h sp).out ι a w hr'⟩
end
section
variable {H : Nat → Option Obj} {el : TypeId} {sz : Nat} {cells : List Value} {chs : List (List Value)}
theorem Twigs.push (G : Twigs H el sz [] cells chs) {b : Nat} {o : Obj} {v : Value} {x : List Value} (hb : H b = none) (hv : LeadsTo (withBlock H b o) b v el sz x) (hx : x ≠ []) : Twigs (withBlock H b o) el sz [] (cells ++ [v]) (chs ++ [x]) := by
  have G3 := (G.snoc nilSlc []).shutAt (by rw [List.length_append]; simp) hb hv hx
  have e1 : (cells ++ [nilSlc]).set cells.length v = cells ++ [v] := by rw [List.set_append_right _ _ (Nat.le_refl _), Nat.sub_self]; rfl
  have e2 : (chs ++ [([] : List Value)]).set cells.length x = chs ++ [x] := by rw [G.len, List.set_append_right _ _ (Nat.le_refl _), Nat.sub_self]; rfl
  rw [e1, e2] at G3
  exact G3
theorem Twigs.pushZ (G : Twigs H el sz [] cells chs) (ad : Option Addr) (cap : Nat) : Twigs H el sz [] (cells ++ [.slice ad 0 cap]) (chs ++ [[]]) := by
  have hsplit : ∀ (i : Nat) (c : Value), (cells ++ [.slice ad 0 cap])[i]? = some c → (i < cells.length ∧ cells[i]? = some c) ∨ (i = cells.length ∧ c = .slice ad 0 cap) := fun i c hc => by
    by_cases e : i < cells.length
    · rw [List.getElem?_append_left e] at hc; exact .inl ⟨e, hc⟩
    · have h1 := (List.getElem?_eq_some_iff.1 hc).1
      rw [List.length_append] at h1
      simp only [List.length_singleton] at h1
      have e2 : i = cells.length := by omega
      subst e2
      rw [List.getElem?_append_right (Nat.le_refl _), Nat.sub_self] at hc
      simp only [List.getElem?_cons_zero, Option.some.injEq] at hc
      exact .inr ⟨rfl, hc.symm⟩
  refine ⟨by rw [List.length_append, List.length_append, G.len]; rfl, fun i c x hi hc hx => ?_, fun i j c c' b hi hj hc hc' hb hb' => ?_⟩
  · rcases hsplit i c hc with ⟨h1, h2⟩ | ⟨rfl, rfl⟩
    · rw [List.getElem?_append_left (by have := G.len; omega)] at hx
      exact G.at_ i c x (by simp) h2 hx
    · rw [List.getElem?_append_right (by have := G.len; omega), G.len, Nat.sub_self] at hx
      simp only [List.getElem?_cons_zero, Option.some.injEq] at hx
      exact .inl ⟨hx.symm, ad, cap, rfl⟩
  · rcases hsplit i c hc with ⟨h1, h2⟩ | ⟨rfl, rfl⟩
    · rcases hsplit j c' hc' with ⟨g1, g2⟩ | ⟨rfl, rfl⟩
      · exact G.apart i j c c' b (by simp) (by simp) h2 g2 hb hb'
      · simp [blkZ] at hb'
    · simp [blkZ] at hb
end
end Go.Lg
end
section
namespace Go.Lg
open Go Go.RowKit
section
variable {n : Nat} {C : Ctx} {X Y : Nat → Option Obj} {s : List (Nat × LV)} {bx : List (Nat × Option Box)}
theorem Le.drop (hXY : ∀ b o, X b = some o → Y b = some o) : Le n C ⟨s, bx, Y⟩ ⟨s, bx, X⟩ := ⟨fun ι a w hr => ⟨ι, by
  have hn : ∀ b, Y b = none → X b = none := fun b hb => by
    cases hx : X b with
    | none => rfl
    | some o => rw [hXY b o hx] at hb; cases hb
  exact {
    defers := hr.defers, size := hr.size, slots := hr.slots, boxes := hr.boxes
    own := fun k b hk => ⟨(hr.own k b hk).1, hn _ (hr.own k b hk).2⟩
    inj := hr.inj, keep := hr.keep
    ext := fun b o hb => hr.ext b o (hXY b o hb)
    res := by
      obtain ⟨F, hF⟩ := hr.res
      exact ⟨F, hF.holds, fun k b o h => by
        obtain ⟨h1, h2, h3, h4, h5, h6⟩ := hF.mem k b o h
        exact ⟨h1, h2, h3, h4, hn _ h5, h6⟩, hF.apart⟩
    frame := hr.frame, big := hr.big, os := hr.os, tape := hr.tape, output := hr.output }⟩⟩
end
end Go.Lg
end
section
namespace Go.Lg
open Go Go.RowKit
section
variable {n : Nat} {C : Ctx} {σ : St} {ι : Nat → Nat × Nat} {a : Act} {w : World}
theorem Rel.resStep (hr : Rel n C ι σ a w) {k : Nat} {e : TypeId} {cs : List CV} {R : Rsc} (hk : σ.stat k = some (some ⟨e, cs, .res R⟩)) :
    ∃ H, R.holds (ι k) H ∧ (∀ b o, H b = some o → w.heap[b]? = some o) ∧ H (ι k).1 ≠ none ∧
      ∀ (w' : World) (H' : Nat → Option Obj) (R' : Rsc), (∀ b, H b = none → b < w.heap.size → w'.heap[b]? = w.heap[b]?) → (∀ b o, H' b = some o → w'.heap[b]? = some o ∧ Loose o) → (∀ b, H' b ≠ none → H b ≠ none) → H' (ι k).1 ≠ none → R'.holds (ι k) H' →
        w.heap.size ≤ w'.heap.size → w'.os = w.os → w'.tape = w.tape → w'.output = w.output → Rel n C ι ⟨σ.slots, (k, some ⟨0, [], .res R'⟩) :: σ.boxes, σ.X⟩ a w' := by
  obtain ⟨F, hF⟩ := hr.res
  refine ⟨F k, (hF.holds k _ _ _ hk).1, fun b o ho => (hF.mem k b o ho).2.1, (hF.holds k _ _ _ hk).2, fun w' H' R' hw hH' hsub hroot hR' hsz hos htp hou => ?_⟩
  have hst : ∀ j, (⟨σ.slots, (k, some ⟨0, [], .res R'⟩) :: σ.boxes, σ.X⟩ : St).stat j = if j = k then some (some ⟨0, [], .res R'⟩) else σ.stat j := fun j => stat_cons _ _ _ _ j _
  have live : ∀ j b, (⟨σ.slots, (k, some ⟨0, [], .res R'⟩) :: σ.boxes, σ.X⟩ : St).stat j = some (some b) → ∃ b0, σ.stat j = some (some b0) ∧ (j ≠ k → b = b0) := fun j b hj => by
    rw [hst] at hj
    by_cases e : j = k
    · exact ⟨_, by rw [e]; exact hk, fun h => absurd e h⟩
    · rw [if_neg e] at hj; exact ⟨b, hj, fun _ => rfl⟩
  have hlater : Later σ.stat (⟨σ.slots, (k, some ⟨0, [], .res R'⟩) :: σ.boxes, σ.X⟩ : St).stat ι ι := later_same ι fun j hj => by
    rw [hst]
    by_cases e : j = k
    · rw [if_pos e, e]; exact ⟨by simp, fun _ _ => ⟨_, hk⟩⟩
    · rw [if_neg e]; exact ⟨hj, fun b1 hb1 => ⟨b1, hb1⟩⟩
  have hout : ∀ b o, F k b = none → w.heap[b]? = some o → w'.heap[b]? = some o := fun b o h1 h2 => by rw [hw b h1 (Array.getElem?_eq_some_iff.1 h2).1]; exact h2
  have hnot : ∀ b, (∀ o, F k b = some o → False) → F k b = none := fun b h => by
    cases ho : F k b with
    | none => rfl
    | some o => exact (h o ho).elim
  exact {
    defers := hr.defers, size := hr.size
    slots := fun d lv hd => by
      obtain ⟨v, hv, hvr⟩ := hr.slots d lv hd
      exact ⟨v, hv, LV.rel_later hlater hvr⟩
    boxes := fun j b hj hbk => by
      by_cases ej : j = k
      · rw [hst, if_pos ej] at hj
        simp only [Option.some.injEq] at hj
        subst hj
        cases hbk
      · obtain ⟨b0, h0, h1⟩ := live j b hj
        have := h1 ej
        subst this
        obtain ⟨arr, fr, g1, g2, g3, g4⟩ := hr.boxes j b h0 hbk
        exact ⟨arr, fr, hout _ _ (hnot _ fun o ho => ej ((hF.mem k _ o ho).2.2.2.2.2 j b h0 rfl)) g1, g2, g3, Box.rel_later hlater g4⟩
    own := fun j b hj => by obtain ⟨b0, h0, _⟩ := live j b hj; exact hr.own j b0 h0
    inj := fun i j bi bj hi hj he => by
      obtain ⟨b1, h1, _⟩ := live i bi hi
      obtain ⟨b2, h2, _⟩ := live j bj hj
      exact hr.inj i j b1 b2 h1 h2 he
    keep := fun j b hj hge => by obtain ⟨b0, h0, _⟩ := live j b hj; exact hr.keep j b0 h0 hge
    ext := fun b o hb => hout b o (hnot _ fun o' ho => by
      have := (hF.mem k b o' ho).2.2.2.2.1
      have hb : σ.X b = some o := hb
      rw [hb] at this; cases this) (hr.ext b o hb)
    res := by
      refine ⟨fun j => open Classical in if j = k then H' else F j, fun j e' cs' R1 hj => ?_, fun j b o ho => ?_, fun i j b h1 h2 => ?_⟩
      · rw [hst] at hj
        by_cases ej : j = k
        · rw [if_pos ej] at hj
          cases hj
          rw [if_pos ej, ej]
          exact ⟨hR', hroot⟩
        · rw [if_neg ej] at hj
          rw [if_neg ej]
          exact hF.holds j e' cs' R1 hj
      · by_cases ej : j = k
        · rw [if_pos ej] at ho
          cases ho2 : F k b with
          | none => exact absurd ho2 (hsub b (by rw [ho]; simp))
          | some o2 =>
            obtain ⟨_, h2, _, h4, h5, h6⟩ := hF.mem k b o2 ho2
            refine ⟨⟨0, [], R', by rw [hst, if_pos ej]⟩, (hH' b o ho).1, (hH' b o ho).2, h4, h5, fun i bi hi ei => ?_⟩
            obtain ⟨b0, h0, _⟩ := live i bi hi
            rw [ej]; exact h6 i b0 h0 ei
        · rw [if_neg ej] at ho
          obtain ⟨⟨e1, cs1, R1, h1⟩, h2, h3, h4, h5, h6⟩ := hF.mem j b o ho
          refine ⟨⟨e1, cs1, R1, by rw [hst, if_neg ej]; exact h1⟩, hout b o (hnot _ fun o' ho' => ej (hF.apart j k b (by rw [ho]; simp) (by rw [ho']; simp))) h2, h3, h4, h5, fun i bi hi ei => ?_⟩
          obtain ⟨b0, h0, _⟩ := live i bi hi
          exact h6 i b0 h0 ei
      · by_cases ei : i = k
        · by_cases ej : j = k
          · rw [ei, ej]
          · rw [if_pos ei] at h1
            rw [if_neg ej] at h2
            rw [ei]; exact hF.apart k j b (hsub b h1) h2
        · by_cases ej : j = k
          · rw [if_neg ei] at h1
            rw [if_pos ej] at h2
            rw [ej]; exact hF.apart i k b h1 (hsub b h2)
          · rw [if_neg ei] at h1
            rw [if_neg ej] at h2
            exact hF.apart i j b h1 h2
    frame := fun b hb hn => by
      rw [← hr.frame b hb hn]
      refine hw b (hnot _ fun o ho => ?_) (Nat.lt_of_lt_of_le hb hr.big)
      rcases (hF.mem k b o ho).2.2.2.1 with h1 | h1
      · exact hn h1
      · omega
    big := Nat.le_trans hr.big hsz
    os := hos.trans hr.os, tape := htp.trans hr.tape, output := hou.trans hr.output }
theorem Rel.resNew (hr : Rel n C ι σ a w) {k m : Nat} {o : Obj} {R : Rsc} (hlt : k < 1000000) (hk : σ.stat k = none) (ho : Loose o) (hR : ∀ b, R.holds (b, m) (withBlock (fun _ => none) b o)) :
    Rel n C (put1 ι k (w.heap.size, m)) ⟨σ.slots, (k, some ⟨0, [], .res R⟩) :: σ.boxes, σ.X⟩ a (w.alloc o) := by
  obtain ⟨F, hF⟩ := hr.res
  have hst : ∀ j, (⟨σ.slots, (k, some ⟨0, [], .res R⟩) :: σ.boxes, σ.X⟩ : St).stat j = if j = k then some (some ⟨0, [], .res R⟩) else σ.stat j := fun j => stat_cons _ _ _ _ j _
  have hlater : Later σ.stat (⟨σ.slots, (k, some ⟨0, [], .res R⟩) :: σ.boxes, σ.X⟩ : St).stat ι (put1 ι k (w.heap.size, m)) := by
    intro j hj
    have hne : j ≠ k := by rintro rfl; exact hj hk
    rw [hst, if_neg hne]
    exact ⟨hj, fun b' hb' => ⟨by simp [put1, hne], b', hb'⟩⟩
  have hXlt : ∀ j o, σ.X j = some o → j < w.heap.size := fun j o hj => (Array.getElem?_eq_some_iff.1 (hr.ext j o hj)).1
  have hFlt : ∀ j b, F j b ≠ none → b < w.heap.size := fun j b hb => by
    cases h : F j b with
    | none => exact absurd h hb
    | some o => exact (Array.getElem?_eq_some_iff.1 (hF.mem j b o h).2.1).1
  have hnew : (w.alloc o).heap[w.heap.size]? = some o := heap_alloc_new w _
  exact {
    defers := hr.defers, size := hr.size
    slots := fun d lv hd => by
      obtain ⟨v, hv, hvr⟩ := hr.slots d lv hd
      exact ⟨v, hv, LV.rel_later hlater hvr⟩
    boxes := fun j b hj hbk => by
      rw [hst] at hj
      by_cases e : j = k
      · rw [if_pos e] at hj
        simp only [Option.some.injEq] at hj
        subst hj
        cases hbk
      · rw [if_neg e] at hj
        obtain ⟨arr, fr, g1, g2, g3, g4⟩ := hr.boxes j b hj hbk
        refine ⟨arr, fr, ?_, g2, by simp only [put1, e, if_false]; exact g3, Box.rel_later hlater g4⟩
        simp only [put1, e, if_false]
        rw [heap_alloc_lt (hr.blocklt hj)]
        exact g1
    own := fun j b hj => by
      rw [hst] at hj
      by_cases e : j = k
      · subst e
        simp only [put1, if_true]
        refine ⟨.inr hr.big, ?_⟩
        show σ.X w.heap.size = none
        cases hx : σ.X w.heap.size with
        | none => rfl
        | some o => exact absurd (hXlt _ o hx) (by omega)
      · rw [if_neg e] at hj
        simp only [put1, e, if_false]
        exact hr.own j b hj
    inj := fun i j bi bj hi hj heq => by
      rw [hst] at hi hj
      by_cases ei : i = k
      · by_cases ej : j = k
        · rw [ei, ej]
        · rw [if_neg ej] at hj
          have := hr.blocklt hj
          simp only [put1, ei, if_true, ej, if_false] at heq
          omega
      · rw [if_neg ei] at hi
        by_cases ej : j = k
        · have := hr.blocklt hi
          simp only [put1, ej, if_true, ei, if_false] at heq
          omega
        · rw [if_neg ej] at hj
          simp only [put1, ei, ej, if_false] at heq
          exact hr.inj i j bi bj hi hj heq
    keep := fun j b hj hge => by
      rw [hst] at hj
      have e : j ≠ k := by omega
      rw [if_neg e] at hj
      simp only [put1, e, if_false]
      exact hr.keep j b hj hge
    ext := fun j o hj => by rw [heap_alloc_lt (hXlt j o hj)]; exact hr.ext j o hj
    res := by
      refine ⟨fun j => open Classical in if j = k then withBlock (fun _ => none) w.heap.size o else F j, fun j e' cs' R1 hj => ?_, fun j b ob hob => ?_, fun i j b h1 h2 => ?_⟩
      · rw [hst] at hj
        by_cases ej : j = k
        · rw [if_pos ej] at hj
          cases hj
          rw [if_pos ej]
          simp only [put1, ej, if_true]
          exact ⟨hR _, by rw [withBlock_at]; simp⟩
        · rw [if_neg ej] at hj
          rw [if_neg ej]
          simp only [put1, ej, if_false]
          exact hF.holds j e' cs' R1 hj
      · by_cases ej : j = k
        · rw [if_pos ej] at hob
          unfold withBlock at hob
          split at hob
          · rename_i eb
            cases hob
            subst eb
            refine ⟨⟨0, [], R, by rw [hst, if_pos ej]⟩, hnew, ho, .inr hr.big, ?_, fun i bi hi ei => ?_⟩
            · cases hx : σ.X w.heap.size with
              | none => rfl
              | some o' => exact absurd (hXlt _ o' hx) (by omega)
            · rw [hst] at hi
              by_cases e : i = k
              · rw [e, ej]
              · rw [if_neg e] at hi
                simp only [put1, e, if_false] at ei
                have := hr.blocklt hi
                omega
          · cases hob
        · rw [if_neg ej] at hob
          obtain ⟨⟨e1, cs1, R1, h1⟩, h2, h3, h4, h5, h6⟩ := hF.mem j b ob hob
          have hlt := (Array.getElem?_eq_some_iff.1 h2).1
          refine ⟨⟨e1, cs1, R1, by rw [hst, if_neg ej]; exact h1⟩, by rw [heap_alloc_lt hlt]; exact h2, h3, h4, h5, fun i bi hi ei => ?_⟩
          rw [hst] at hi
          by_cases e : i = k
          · simp only [put1, e, if_true] at ei
            omega
          · rw [if_neg e] at hi
            simp only [put1, e, if_false] at ei
            exact h6 i bi hi ei
      · have hb : ∀ i, i ≠ k → F i b ≠ none → withBlock (fun _ => none) w.heap.size o b = none := fun i _ h => by
          have := hFlt i b h
          unfold withBlock
          rw [if_neg (by omega)]
        by_cases ei : i = k
        · by_cases ej : j = k
          · rw [ei, ej]
          · rw [if_pos ei] at h1
            rw [if_neg ej] at h2
            exact absurd (hb j ej h2) h1
        · by_cases ej : j = k
          · rw [if_neg ei] at h1
            rw [if_pos ej] at h2
            exact absurd (hb i ei h1) h2
          · rw [if_neg ei] at h1
            rw [if_neg ej] at h2
            exact hF.apart i j b h1 h2
    frame := fun j hj hn => by rw [heap_alloc_lt (Nat.lt_of_lt_of_le hj hr.big)]; exact hr.frame j hj hn
    big := by simp; exact Nat.le_succ_of_le hr.big
    os := hr.os, tape := hr.tape, output := hr.output }
end
structure KL (P : Program) (k : TypeId) : Prop where
  check : ∀ (w : World) (em : Bool) {v : Value} {l : Lit}, Go.keyOf P k v = some l → (Instr.checkKey em 10000 k v).run P w = .ok () w
  find : ∀ (w : World) {x : Value} {lx : Lit}, Go.keyOf P k x = some lx → ∀ es : List MapEntry, (∀ e ∈ es, ∃ l, Go.keyOf P k e.key = some l) →
    ((Instr.findKey k x es).run P w = .ok none w ∧ ∀ e ∈ es, e.key ≠ x) ∨ ∃ j e, (Instr.findKey k x es).run P w = .ok (some (j, e.val)) w ∧ es[j]? = some e ∧ e.key = x
  stays : ∀ (w : World) {v : Value} {l : Lit}, Go.keyOf P k v = some l → (Instr.keyThatStays v v).run P w = .ok v w
theorem KL.of {P : Program} {k : TypeId} (L : WideMaps.KeyLaw P k) : KL P k := ⟨L.check, L.find, L.stays⟩
theorem KL.str {P : Program} {k : TypeId} (h : P.underlying k = some .string) : KL P k := .of (WideMaps.string_law h)
theorem keyOf_int {P : Program} {k : TypeId} {q : IntKind} (hk : P.underlying k = some (.int q)) {v : Value} : Go.keyOf P k v = mapKey P k v := by unfold Go.keyOf; simp only [hk]
theorem int_of_keyOf {P : Program} {k : TypeId} {q : IntKind} (hk : P.underlying k = some (.int q)) {v : Value} {l : Lit} (h : Go.keyOf P k v = some l) : ∃ n, v = .int q n := by
  rw [keyOf_int hk] at h
  unfold mapKey at h
  cases v <;> simp [hk] at h
  rename_i q' n
  exact ⟨n, by rw [h.1.1]⟩
open Go.MapKept Go.WideShapes Go.WideMaps in
theorem KL.int {P : Program} {k : TypeId} {q : IntKind} (hk : P.underlying k = some (.int q)) : KL P k where
  check w em _ _ h := by
    obtain ⟨n, rfl⟩ := int_of_keyOf hk h
    exact run_checkKey hk (d := .int q) (k := .int q n) rfl em 9999
  find w _ _ hx es hes := by
    obtain ⟨n, rfl⟩ := int_of_keyOf hk hx
    have hks : ∀ x ∈ es, IsKey (.int q) x.key := fun x hxm => by
      obtain ⟨l, hl⟩ := hes x hxm
      obtain ⟨n', e⟩ := int_of_keyOf hk hl
      rw [e]
      exact rfl
    rcases findNow_spec (d := .int q) (k := .int q n) rfl es 0 hks with ⟨h1, h2⟩ | ⟨j, e0, h1, h2, h3⟩
    · exact Or.inl ⟨run_findKey hk h1, h2⟩
    · exact Or.inr ⟨j, e0, by simpa using run_findKey hk h1, h2, h3⟩
  stays w _ _ h := by
    obtain ⟨n, rfl⟩ := int_of_keyOf hk h
    exact run_keyThatStays (d := .int q) (k := .int q n) rfl
def mapR (P : Program) (kt : TypeId) (m : List (Value × Value)) : Rsc := ⟨fun ρ H => ∃ es clock, H = withBlock (fun _ => none) ρ.1 (.map es clock) ∧ es.toList.map (fun x : MapEntry => (x.key, x.val)) = m ∧ (m.map (·.1)).Nodup ∧ ∀ p ∈ m, ∃ l, Go.keyOf P kt p.1 = some l⟩
def At (m : List (Value × Value)) (key v z : Value) : Prop := (key, v) ∈ m ∨ ((∀ p ∈ m, p.1 ≠ key) ∧ v = z)
def Put (m : List (Value × Value)) (key v : Value) (m' : List (Value × Value)) : Prop := (∃ i old, m[i]? = some (key, old) ∧ m' = m.set i (key, v)) ∨ ((∀ p ∈ m, p.1 ≠ key) ∧ m' = m ++ [(key, v)])
theorem same_ix {m : List (Value × Value)} (hnd : (m.map (·.1)).Nodup) {i j : Nat} {key v u : Value} (hi : m[i]? = some (key, v)) (hj : m[j]? = some (key, u)) : i = j := by
  have hpi : (m.map (·.1))[i]? = some key := by rw [List.getElem?_map, hi]; rfl
  have hpj : (m.map (·.1))[j]? = some key := by rw [List.getElem?_map, hj]; rfl
  obtain ⟨hi, hie⟩ := List.getElem?_eq_some_iff.1 hpi
  obtain ⟨hjj, hje⟩ := List.getElem?_eq_some_iff.1 hpj
  have hp := List.pairwise_iff_getElem.1 hnd
  rcases Nat.lt_trichotomy i j with h | h | h
  · exact absurd (hie.trans hje.symm) (hp i j hi hjj h)
  · exact h
  · exact absurd (hje.trans hie.symm) (hp j i hjj hi h)
theorem same_at {m : List (Value × Value)} (hnd : (m.map (·.1)).Nodup) {i j : Nat} {key v u : Value} (hi : m[i]? = some (key, v)) (hj : m[j]? = some (key, u)) : v = u := by
  have e := same_ix hnd hi hj
  subst e
  rw [hi] at hj
  simp only [Option.some.injEq, Prod.mk.injEq] at hj
  exact hj.2
def mapOf (P : Program) (t : TypeId) : Option (TypeId × TypeId) := match P.underlying t with | some (.map k e) => some (k, e) | _ => none
theorem mapOf_spec {P : Program} {t k e : TypeId} (h : mapOf P t = some (k, e)) : P.underlying t = some (.map k e) := by
  unfold mapOf at h
  split at h
  · rename_i h1; cases h; exact h1
  · cases h
section
variable {P : Program} {n : Nat} {ops os : List Oper} {acc : List Eff} {K : List Eff → St → Prop} {s : List (Nat × LV)} {bx : List (Nat × Option Box)} {X : Nat → Option Obj} {σ : St}
theorem LOK.makeMap {d k : Nat} {t kt : TypeId} {ty : TypeId} {pos : String} {after_ : Array Edge} {g : Option (Nat × Bool)} (hk : σ.fresh k = true) :
    LOK P n ops ⟨some d, .makeMap t none, ty, pos, after_, g⟩ σ ⟨[(d, .sv (.one (.mp k)))], [], [(k, some ⟨0, [], .res (mapR P kt [])⟩)]⟩ :=
  LOK.make fun σ' ha C ι a w hr => by
    have hk' : σ'.stat k = none := (ha.stat k (.inr (by simp))).trans (St.fresh_none hk)
    have hlt := St.fresh_lt hk
    have hrun := run_makeMap_plain (P := P) (w := w) t
    refine ⟨.map (some w.heap.size), w.alloc (.map #[] 0), put1 ι k (w.heap.size, 0), ?_, ?_, ?_⟩
    · simp only [execOp, Option.map_none, Sem.run_bind, hrun, Result.andThen_ok, Sem.run_pure]
    · exact hr.resNew hlt hk' trivial fun b => ⟨#[], 0, rfl, rfl, List.nodup_nil, fun _ h => by cases h⟩
    · simp [LV.rel, SV.rel, CV.rel, stat_cons, put1]
theorem K.makeMap {d : Nat} {t : TypeId} (kt : TypeId) {ty : TypeId} {pos : String} {after_ : Array Edge} {g : Option (Nat × Bool)} (hk : (⟨s, bx, X⟩ : St).fresh d = true) (hw : Want ops s g)
    (kont : RunK P n ops os ⟨(d, .sv (.one (.mp d))) :: s, (d, some ⟨0, [], .res (mapR P kt [])⟩) :: bx, X⟩ (⟨[(d, .sv (.one (.mp d)))], [], [(d, some ⟨0, [], .res (mapR P kt [])⟩)]⟩ :: acc) K) :
    RunK P n ops (⟨some d, .makeMap t none, ty, pos, after_, g⟩ :: os) ⟨s, bx, X⟩ acc K := RunK.g2 (LOK.makeMap hk) hw kont
theorem LOK.mapUpdate {k : Nat} {t kt et : TypeId} {x y u : Operand} {ty : TypeId} {pos : String} {after_ : Array Edge} {g : Option (Nat × Bool)} {m m' : List (Value × Value)} {e : TypeId} {cs : List CV} {key v : Value} {l : Lit} {lv : LV}
    (hx : σ.ev x = some (.sv (.one (.mp k)))) (hy : σ.ev y = some (.sv (.one (.val key)))) (hu : σ.ev u = some lv) (hlv : ∀ (S : Nat → Option (Option Box)) (ι : Nat → Nat × Nat) (w : Value), lv.rel S ι w → w = v) (hk : σ.stat k = some (some ⟨e, cs, .res (mapR P kt m)⟩)) (hm : mapOf P t = some (kt, et)) (L : KL P kt) (hkey : Go.keyOf P kt key = some l) (hput : Put m key v m') :
    LOK P n ops ⟨none, .mapUpdate t x y u, ty, pos, after_, g⟩ σ ⟨[], [], [(k, some ⟨0, [], .res (mapR P kt m')⟩)]⟩ :=
  LOK.act fun σ' ha C ι a w hr => by
    have hk' := (ha.stat k (.inr (by simp))).trans hk
    have hv := hr.ev ((ha.ev (x := x) (by simp [Op.operands])).trans hx)
    have hkv : a.eval y = key := hr.ev ((ha.ev (x := y) (by simp [Op.operands])).trans hy)
    have huv : a.eval u = v := hlv _ _ _ (hr.ev ((ha.ev (x := u) (by simp [Op.operands])).trans hu))
    simp only [LV.rel, SV.rel, CV.rel, hk'] at hv
    obtain ⟨H, ⟨es, clock, hHe, he, hnd, hkeys⟩, hH, _, hstep⟩ := hr.resStep hk'
    have hb := hH (ι k).1 (.map es clock) (by rw [hHe]; exact withBlock_at _ _ _)
    have ht := mapOf_spec hm
    have hall : ∀ x ∈ es.toList, ∃ l, Go.keyOf P kt x.key = some l := fun x hx => by
      refine hkeys (x.key, x.val) ?_
      rw [← he]
      exact List.mem_map.2 ⟨x, hx, rfl⟩
    have hset := fun (o' : Obj) => MapKept.heap_set (o' := o') hb
    have hmain : ∃ es' clock', (Instr.mapUpdate t (.map (some (ι k).1)) key v).run P w = .ok () { w with heap := w.heap.setIfInBounds (ι k).1 (.map es' clock') } ∧ es'.toList.map (fun x : MapEntry => (x.key, x.val)) = m' ∧ (m'.map (·.1)).Nodup ∧ ∀ p ∈ m', ∃ l, Go.keyOf P kt p.1 = some l := by
      rcases L.find w hkey es.toList hall with ⟨h1, h2⟩ | ⟨j, e0, h1, h2, h3⟩
      · have hno : ∀ p ∈ m, p.1 ≠ key := fun p hp => by
          rw [← he] at hp
          obtain ⟨x, hx, rfl⟩ := List.mem_map.1 hp
          exact h2 x hx
        have hm' : m' = m ++ [(key, v)] := by
          rcases hput with ⟨i, old, h4, _⟩ | ⟨_, h4⟩
          · exact absurd rfl (hno _ (List.mem_of_getElem? h4))
          · exact h4
        refine ⟨es.push { key := key, val := v, born := clock }, clock + 1, ?_, by rw [hm', Array.toList_push, List.map_append, he]; rfl, ?_, ?_⟩
        · simp [Instr.mapUpdate, run_underlying ht, MapKept.run_getObj_map hb, L.check w _ hkey, h1, MapKept.run_setObj_map _ hb, Result.andThen]
        · rw [hm', List.map_append]
          refine List.nodup_append.2 ⟨hnd, by simp, fun x hx y hy e => ?_⟩
          obtain ⟨p, hp, rfl⟩ := List.mem_map.1 hx
          simp at hy
          rw [hy] at e
          exact hno p hp e
        · intro p hp
          rw [hm'] at hp
          rcases List.mem_append.1 hp with hp | hp
          · exact hkeys p hp
          · simp at hp; subst hp; exact ⟨l, hkey⟩
      · have hj : es[j]? = some e0 := by simpa using h2
        have hmj : m[j]? = some (key, e0.val) := by rw [← he, List.getElem?_map, h2, ← h3]; rfl
        have hm' : m' = m.set j (key, v) := by
          rcases hput with ⟨i, old, h4, h5⟩ | ⟨h4, _⟩
          · have hij : i = j := same_ix hnd h4 hmj
            rw [h5, hij]
          · exact absurd rfl (h4 _ (List.mem_of_getElem? hmj))
        refine ⟨es.modify j fun x => { x with key := key, val := v }, clock, ?_, ?_, ?_, ?_⟩
        · have hst := L.stays w hkey
          have hks : ((es[j]?).map (·.key)).getD key = key := by rw [hj]; exact h3
          simp [Instr.mapUpdate, run_underlying ht, MapKept.run_getObj_map hb, L.check w _ hkey, h1, hj, h3, hst, MapKept.run_setObj_map _ hb, Result.andThen]
        · rw [hm', ← he]
          apply List.ext_getElem?
          intro i
          rw [List.getElem?_map, Array.getElem?_toList, Array.getElem?_modify, List.getElem?_set, List.getElem?_map, Array.getElem?_toList]
          by_cases hij : j = i
          · subst hij
            simp [hj]
            have := (Array.getElem?_eq_some_iff.1 hj).1
            omega
          · simp [hij]
        · rw [hm', List.map_set]
          have : (m.map (·.1)).set j key = m.map (·.1) := by
            apply List.ext_getElem?
            intro i
            rw [List.getElem?_set]
            by_cases hij : j = i
            · subst hij
              rw [if_pos rfl, List.getElem?_map, hmj]
              have := (List.getElem?_eq_some_iff.1 hmj).1
              simp [this]
            · rw [if_neg hij]
          rw [this]; exact hnd
        · intro p hp
          rw [hm'] at hp
          rcases List.mem_or_eq_of_mem_set hp with hp | rfl
          · exact hkeys p hp
          · exact ⟨l, hkey⟩
    obtain ⟨es', clock', hrun, he', hnd', hkeys'⟩ := hmain
    refine ⟨{ w with heap := w.heap.setIfInBounds (ι k).1 (.map es' clock') }, ι, by simp only [execOp, hv, hkv, huv, Sem.run_bind, hrun, Result.andThen_ok, Sem.run_pure], ?_⟩
    refine hstep _ (withBlock (fun _ => none) (ι k).1 (.map es' clock')) _ (fun b hb2 _ => ?_) (fun b o ho => ?_) (fun b h => ?_) (by rw [withBlock_at]; simp) ⟨es', clock', rfl, he', hnd', hkeys'⟩ (by simp) rfl rfl rfl
    · refine (hset _).2 b fun e => ?_
      rw [hHe, e, withBlock_at] at hb2
      cases hb2
    · unfold withBlock at ho
      split at ho
      · rename_i e; cases ho; subst e
        exact ⟨(hset _).1, trivial⟩
      · cases ho
    · rw [hHe]
      unfold withBlock at h ⊢
      split
      · simp
      · rename_i hne; rw [if_neg hne] at h; exact h
end
end Go.Lg
end
section
namespace Go.Lg
open Go Go.RowKit
section
variable {P : Program} {n : Nat} {C : Ctx} {c : Code} {Q : Exit → St → Prop} {X : Nat → Option Obj}
theorem Rel.freezePtr {ι : Nat → Nat × Nat} {a : Act} {w : World} {s : List (Nat × LV)} {bx : List (Nat × Option Box)} {d k off : Nat} {el : TypeId} {vals : List Value} {row : Bool}
    (hs : s.all (fun p => p.2.inUse bx) = true) (hb : bx.all (fun p => match p.2 with | some b => b.cells.all (CV.inUse bx) | none => true) = true) (hk : look k bx = none)
    (hr : Rel n C ι ⟨(d, .sv (.one (.ptr k off))) :: s, (k, some ⟨el, vals.map .val, row⟩) :: bx, X⟩ a w) :
    ∃ (blk : Nat) (arr : Array Value) (fr : Nat × Nat), X blk = none ∧ Frozen C blk arr fr ∧ (∃ sp, arr.toList = vals ++ sp) ∧
      Rel n C ι ⟨(d, .sv (.one (.val (.pointer (some ⟨blk, off, none⟩))))) :: s, bx, withBlock X blk (.cells arr el fr)⟩ a w := by
  have hst : (⟨(d, .sv (.one (.ptr k off))) :: s, (k, some ⟨el, vals.map .val, row⟩) :: bx, X⟩ : St).stat k = some (some ⟨el, vals.map .val, row⟩) := by
    simp [St.stat, look]
  have hlk : ∀ k' x, look k' bx = some x → k' ≠ k := fun k' x h' e => by rw [e, hk] at h'; cases h'
  have hstb : ∀ k' x, look k' bx = some x → (⟨(d, .sv (.one (.ptr k off))) :: s, (k, some ⟨el, vals.map .val, row⟩) :: bx, X⟩ : St).stat k' = some x := fun k' x h' => by
    simp only [St.stat, look]
    cases e : Nat.beq k k' with
    | true => exact absurd (Nat.eq_of_beq_eq_true e).symm (hlk k' x h')
    | false => exact h'
  obtain ⟨arr, fr, harr, hth, hsz, hbr⟩ := hr.boxes k _ hst rfl
  obtain ⟨v, hv, hvr⟩ := hr.slots d (.sv (.one (.ptr k off))) (by simp [St.slot, look])
  simp only [LV.rel, SV.rel, CV.rel] at hvr
  rw [hst] at hvr
  subst hvr
  have hXn : X (ι k).1 = none := (hr.own k _ hst).2
  have hsp : ∃ sp, arr.toList = vals ++ sp := by
    unfold Box.rel at hbr
    cases hrow : row with
    | false =>
      rw [hrow] at hbr
      exact ⟨[], by rw [List.append_nil]; exact rel_vals hbr⟩
    | true =>
      rw [hrow] at hbr
      obtain ⟨us, sp, e, hl⟩ := hbr
      exact ⟨sp, by rw [e, rel_vals hl]⟩
  refine ⟨(ι k).1, arr, fr, hXn, ⟨(hr.own k _ hst).1, hth⟩, hsp, ?_⟩
  have hon : SameOn bx (⟨(d, .sv (.one (.ptr k off))) :: s, (k, some ⟨el, vals.map .val, row⟩) :: bx, X⟩ : St).stat (fun k => look k bx) := fun k' x h' => (hstb k' x h').trans h'.symm
  exact {
    defers := hr.defers, size := hr.size
    slots := fun d' lv hd => by
      simp only [St.slot, look] at hd
      cases e : Nat.beq d d' with
      | true =>
        rw [e] at hd
        simp at hd
        subst hd
        have := Nat.eq_of_beq_eq_true e
        subst this
        exact ⟨_, hv, rfl⟩
      | false =>
        rw [e] at hd
        have hd : look d' s = some lv := by simpa using hd
        obtain ⟨v', hv', hr'⟩ := hr.slots d' lv (by simp only [St.slot, look, e]; exact hd)
        exact ⟨v', hv', LV.rel_on hon (List.all_eq_true.1 hs _ (look_mem hd)) hr'⟩
    res := by
      obtain ⟨F, hF⟩ := hr.res
      refine hF.keep (fun j e cs R hj => ⟨hstb j _ hj, rfl⟩) (fun _ _ _ _ _ hj => hj) (fun _ _ ho => ho) (fun b _ hx hne _ => ?_) (fun j bj hj => .inl ⟨bj, hstb j _ hj, rfl⟩)
      show withBlock X (ι k).1 _ b = none
      unfold withBlock
      rw [if_neg (fun e => hne k _ hst rfl e.symm)]
      exact hx
    boxes := fun k' b hb' hbk => by
      have hb' : look k' bx = some (some b) := hb'
      obtain ⟨arr', fr', h1, h2, h3, h4⟩ := hr.boxes k' b (hstb k' _ hb') hbk
      exact ⟨arr', fr', h1, h2, h3, Box.rel_on hon (by simpa using List.all_eq_true.1 hb _ (look_mem hb')) h4⟩
    own := fun k' b hb' => by
      have hb' : look k' bx = some (some b) := hb'
      obtain ⟨h1, h2⟩ := hr.own k' b (hstb k' _ hb')
      refine ⟨h1, ?_⟩
      show withBlock X (ι k).1 _ (ι k').1 = none
      unfold withBlock
      rw [if_neg (fun e => hlk k' _ hb' (hr.inj k' k b _ (hstb k' _ hb') hst e))]
      exact h2
    inj := fun k1 k2 b1 b2 h1 h2 he => hr.inj k1 k2 b1 b2 (hstb k1 _ h1) (hstb k2 _ h2) he
    keep := fun k' b hb' hge => hr.keep k' b (hstb k' _ hb') hge
    ext := fun b o hbo => by
      have hbo : withBlock X (ι k).1 (.cells arr el fr) b = some o := hbo
      unfold withBlock at hbo
      by_cases e : b = (ι k).1
      · rw [if_pos e] at hbo
        rw [e, harr]; exact hbo
      · rw [if_neg e] at hbo
        exact hr.ext b o hbo
    frame := hr.frame, big := hr.big, os := hr.os, tape := hr.tape, output := hr.output }
theorem LWP.freezePtr {s : List (Nat × LV)} {bx : List (Nat × Option Box)} {d k off : Nat} {el : TypeId} {vals : List Value} {row : Bool}
    (hs : s.all (fun p => p.2.inUse bx) = true) (hb : bx.all (fun p => match p.2 with | some b => b.cells.all (CV.inUse bx) | none => true) = true) (hk : look k bx = none)
    (h : ∀ (blk : Nat) (arr : Array Value) (fr : Nat × Nat), X blk = none → Frozen C blk arr fr → (∃ sp, arr.toList = vals ++ sp) →
      LWP P n C c Q ⟨(d, .sv (.one (.val (.pointer (some ⟨blk, off, none⟩))))) :: s, bx, withBlock X blk (.cells arr el fr)⟩) :
    LWP P n C c Q ⟨(d, .sv (.one (.ptr k off))) :: s, (k, some ⟨el, vals.map .val, row⟩) :: bx, X⟩ := by
  refine ⟨fun ι a w hr => ?_⟩
  obtain ⟨blk, arr, fr, h1, h2, h5, h6⟩ := hr.freezePtr hs hb hk
  exact (h blk arr fr h1 h2 h5).out ι a w h6
end
section
variable {P : Program} {n : Nat} {ops os : List Oper} {acc : List Eff} {K : List Eff → St → Prop} {s : List (Nat × LV)} {bx : List (Nat × Option Box)} {X : Nat → Option Obj} {σ : St}
theorem LOK.makeFunc {d : Nat} {fn : Fn} {caps : List Operand} {us : List Value} {lvs : List LV} {ty : TypeId} {pos : String} {after_ : Array Edge} {g : Option (Nat × Bool)} (hc : evs σ caps = some lvs) (hu : plainLVs lvs = some us) :
    LOK P n ops ⟨some d, .makeFunc fn #[] caps.toArray, ty, pos, after_, g⟩ σ ⟨[(d, .sv (.one (.val (.func fn #[] us.toArray))))], [], []⟩ :=
  LOK.value fun σ' ha C ι a w hr => by
    have hc' : evs σ' caps = some lvs := by
      rw [evs_agree fun x hx => ha.ev (by simp [Op.operands, hx])]
      exact hc
    have e : caps.map a.eval = us := plainLVs_rel hu (evs_rel hr hc')
    exact ⟨.func fn #[] us.toArray, by rw [← e]; simp [execOp, Instr.makeFunc], rfl⟩
theorem K.makeFunc {d : Nat} {fn : Fn} {caps : List Operand} {us : List Value} {lvs : List LV} {ty : TypeId} {pos : String} {after_ : Array Edge} {g : Option (Nat × Bool)} (hc : evs ⟨s, bx, X⟩ caps = some lvs) (hu : plainLVs lvs = some us) (hw : Want ops s g)
    (kont : RunK P n ops os ⟨(d, .sv (.one (.val (.func fn #[] us.toArray)))) :: s, bx, X⟩ (⟨[(d, .sv (.one (.val (.func fn #[] us.toArray))))], [], []⟩ :: acc) K) :
    RunK P n ops (⟨some d, .makeFunc fn #[] caps.toArray, ty, pos, after_, g⟩ :: os) ⟨s, bx, X⟩ acc K := RunK.g1 (LOK.makeFunc hc hu) hw kont
theorem LOK.callF {d : Nat} {x : Operand} {f : FuncId} {caps : List Value} {args : List Operand} {tys : Array TypeId} {ty : TypeId} {pos : String} {after_ : Array Edge} {g : Option (Nat × Bool)} {lvs : List LV} {r : LV} (hx : σ.ev x = some (.sv (.one (.val (.func (.func f) #[] caps.toArray))))) (hargs : evs σ args = some lvs) (hcl : lvs.all LV.closed = true) (hs : PSpec P σ.X f (lvs ++ caps.map fun v => .sv (.one (.val v))) r) :
    LOK P n ops ⟨some d, .call ⟨.value x, args.toArray, tys⟩, ty, pos, after_, g⟩ σ ⟨[(d, r)], [], []⟩ := by
  refine ⟨fun σ' ha C ι a w hr hd next Q hn => ?_⟩
  have hargs' : evs σ' args = some lvs := by
    rw [evs_agree fun y hy => ha.ev (by simp [Op.operands, Call.operands, hy])]
    exact hargs
  have hv : a.eval x = .func (.func f) #[] caps.toArray := hr.ev ((ha.ev (x := x) (by simp [Op.operands, Call.operands])).trans hx)
  have hrel := LVs.rel_closed (S' := noS) (ι' := fun _ => (0, 0)) hcl (evs_rel hr hargs')
  have happ : ∀ {l : List LV} {us : List Value}, LVs.rel noS (fun _ => (0, 0)) l us → LVs.rel noS (fun _ => (0, 0)) (l ++ caps.map fun v => .sv (.one (.val v))) (us ++ caps) := fun {l} => by
    induction l with
    | nil =>
      intro us h
      cases us with
      | cons => exact h.elim
      | nil =>
        simp only [List.nil_append]
        have key : ∀ cs : List Value, LVs.rel noS (fun _ => (0, 0)) (cs.map fun v => LV.sv (.one (.val v))) cs := fun cs => by
          induction cs with
          | nil => trivial
          | cons c cs ih => exact ⟨rfl, ih⟩
        exact key caps
    | cons a l ih =>
      intro us h
      cases us with
      | nil => exact h.elim
      | cons u us => exact ⟨h.1, ih h.2⟩
  have hc := hs.out w (args.toArray.map a.eval ++ caps.toArray) (fun b o hb => hr.ext b o (by rw [ha.X]; exact hb)) (by simpa using happ hrel)
  unfold Oper.wp
  have hrun : (execOp a.eval ⟨some d, .call ⟨.value x, args.toArray, tys⟩, ty, pos, after_, g⟩).run P w = .ok (.enter f (args.toArray.map a.eval ++ caps.toArray)) w := by
    simp only [execOp, resolve, hv, Deferred.ofValue, invoke, Sem.run_bind, Sem.run_pure, Result.andThen_ok]
    simp [run_enter hs.enters]
  rw [hrun]
  refine hc.mono ?_
  rintro e w' ⟨v, rfl, hv, hb⟩
  exact hn ι _ w' ((hr.below hb).put (hd d rfl) (LV.rel_later (later_noS _ _ _) hv))
theorem K.callF {d : Nat} {x : Operand} {f : FuncId} {caps : List Value} {args : List Operand} {tys : Array TypeId} {ty : TypeId} {pos : String} {after_ : Array Edge} {g : Option (Nat × Bool)} {lvs : List LV} {r : LV} (hx : (⟨s, bx, X⟩ : St).ev x = some (.sv (.one (.val (.func (.func f) #[] caps.toArray))))) (hargs : evs ⟨s, bx, X⟩ args = some lvs) (hcl : lvs.all LV.closed = true) (hs : PSpec P X f (lvs ++ caps.map fun v => .sv (.one (.val v))) r) (hw : Want ops s g)
    (kont : RunK P n ops os ⟨(d, r) :: s, bx, X⟩ (⟨[(d, r)], [], []⟩ :: acc) K) :
    RunK P n ops (⟨some d, .call ⟨.value x, args.toArray, tys⟩, ty, pos, after_, g⟩ :: os) ⟨s, bx, X⟩ acc K := RunK.g1 (LOK.callF hx hargs hcl hs) hw kont
theorem LOK.lookupOk {d k : Nat} {t kt et : TypeId} {x y : Operand} {ty : TypeId} {pos : String} {after_ : Array Edge} {g : Option (Nat × Bool)} {m : List (Value × Value)} {e : TypeId} {cs : List CV} {key v z : Value} {l : Lit} {r : Bool} (sv : SV)
    (hx : σ.ev x = some (.sv (.one (.mp k)))) (hy : σ.ev y = some (.sv (.one (.val key)))) (hk : σ.stat k = some (some ⟨e, cs, .res (mapR P kt m)⟩)) (hm : mapOf P t = some (kt, et)) (L : KL P kt) (hkey : Go.keyOf P kt key = some l) (hz : (P.info? et).bind (·.zero) = some z) (hat : At m key v z) (hsv : ∀ (S : Nat → Option (Option Box)) (ι : Nat → Nat × Nat), sv.rel S ι v) (hr : r = true ↔ ∃ p ∈ m, p.1 = key) :
    LOK P n ops ⟨some d, .lookup t x y true, ty, pos, after_, g⟩ σ ⟨[(d, .tup [sv, .one (.val (.bool r))])], [k], []⟩ :=
  LOK.value fun σ' ha C ι a w hrl => by
    have hk' := (ha.stat k (.inl (by simp))).trans hk
    have hv := hrl.ev ((ha.ev (x := x) (by simp [Op.operands])).trans hx)
    have hkv : a.eval y = key := hrl.ev ((ha.ev (x := y) (by simp [Op.operands])).trans hy)
    simp only [LV.rel, SV.rel, CV.rel, hk'] at hv
    obtain ⟨H, ⟨es, clock, rfl, he, hnd, hkeys⟩, hH, _⟩ := hrl.resStep hk'
    have hb := hH (ι k).1 _ (withBlock_at _ _ _)
    have ht := mapOf_spec hm
    have hzr : (zeroValue et).run P w = .ok z w := by
      cases hi : P.info? et with
      | none => rw [hi] at hz; cases hz
      | some i => rw [hi] at hz; have hz : i.zero = some z := hz; simp [zeroValue, typeInfo, hi, hz]
    have hall : ∀ x ∈ es.toList, ∃ l, Go.keyOf P kt x.key = some l := fun x hx => by
      refine hkeys (x.key, x.val) ?_
      rw [← he]
      exact List.mem_map.2 ⟨x, hx, rfl⟩
    have hrun : (Instr.lookup t (.map (some (ι k).1)) key true).run P w = .ok (.tuple #[v, .bool r]) w := by
      rcases L.find w hkey es.toList hall with ⟨h1, h2⟩ | ⟨j, e0, h1, h2, h3⟩
      · have hvz : v = z := by
          rcases hat with h4 | ⟨_, h4⟩
          · rw [← he] at h4
            obtain ⟨x, hx, hxe⟩ := List.mem_map.1 h4
            cases hxe
            exact absurd rfl (h2 x hx)
          · exact h4
        have hr0 : r = false := by
          cases r with
          | false => rfl
          | true =>
            obtain ⟨p, hp, h5⟩ := hr.1 rfl
            rw [← he] at hp
            obtain ⟨x, hx, rfl⟩ := List.mem_map.1 hp
            exact absurd h5 (h2 x hx)
        simp [Instr.lookup, run_underlying ht, MapKept.run_getObj_map hb, L.check w _ hkey, h1, hzr, Result.andThen, hvz, hr0]
      · have hmem : e0 ∈ es.toList := List.mem_of_getElem? h2
        have hv0 : e0.val = v := by
          rcases hat with h4 | ⟨h4, _⟩
          · obtain ⟨i, hi⟩ := List.getElem?_of_mem h4
            have hmj : m[j]? = some (key, e0.val) := by rw [← he, List.getElem?_map, h2, ← h3]; rfl
            exact (same_at hnd hmj hi)
          · refine absurd h3 (h4 (e0.key, e0.val) ?_)
            rw [← he]
            exact List.mem_map.2 ⟨e0, hmem, rfl⟩
        have hr1 : r = true := by
          refine hr.2 ⟨(e0.key, e0.val), ?_, h3⟩
          rw [← he]
          exact List.mem_map.2 ⟨e0, hmem, rfl⟩
        simp [Instr.lookup, run_underlying ht, MapKept.run_getObj_map hb, L.check w _ hkey, h1, Result.andThen, hv0, hr1]
    exact ⟨.tuple #[v, .bool r], by simp only [execOp, hv, hkv, Sem.run_bind, hrun, Result.andThen_ok, Sem.run_pure], ⟨_, rfl, hsv _ _, rfl, trivial⟩⟩
theorem K.lookupOk {d k : Nat} {t kt et : TypeId} {x y : Operand} {ty : TypeId} {pos : String} {after_ : Array Edge} {g : Option (Nat × Bool)} {m : List (Value × Value)} {e : TypeId} {cs : List CV} {key v z : Value} {l : Lit} {r : Bool} (sv : SV)
    (hx : (⟨s, bx, X⟩ : St).ev x = some (.sv (.one (.mp k)))) (hy : (⟨s, bx, X⟩ : St).ev y = some (.sv (.one (.val key)))) (hk : (⟨s, bx, X⟩ : St).stat k = some (some ⟨e, cs, .res (mapR P kt m)⟩)) (hm : mapOf P t = some (kt, et)) (L : KL P kt) (hkey : Go.keyOf P kt key = some l) (hz : (P.info? et).bind (·.zero) = some z) (hat : At m key v z) (hsv : ∀ (S : Nat → Option (Option Box)) (ι : Nat → Nat × Nat), sv.rel S ι v) (hr : r = true ↔ ∃ p ∈ m, p.1 = key) (hw : Want ops s g)
    (kont : RunK P n ops os ⟨(d, .tup [sv, .one (.val (.bool r))]) :: s, bx, X⟩ (⟨[(d, .tup [sv, .one (.val (.bool r))])], [k], []⟩ :: acc) K) :
    RunK P n ops (⟨some d, .lookup t x y true, ty, pos, after_, g⟩ :: os) ⟨s, bx, X⟩ acc K := RunK.g1 (LOK.lookupOk sv hx hy hk hm L hkey hz hat hsv hr) hw kont
theorem agg0_of (S : Nat → Option (Option Box)) (ι : Nat → Nat × Nat) (w : Value) (h : LV.rel S ι (.sv (.agg [])) w) : w = .agg #[] := by
  obtain ⟨arr, rfl, h⟩ := h
  cases hl : arr.toList with
  | nil => rw [show arr = #[] by simpa using hl]
  | cons a l => rw [hl] at h; exact h.elim
theorem agg0_rel (S : Nat → Option (Option Box)) (ι : Nat → Nat × Nat) : SV.rel S ι (.agg []) (.agg #[]) := ⟨#[], rfl, trivial⟩
theorem K.mapPut {k : Nat} {t kt et : TypeId} {x y u : Operand} {ty : TypeId} {pos : String} {after_ : Array Edge} {g : Option (Nat × Bool)} {m : List (Value × Value)} (m' : List (Value × Value)) {e : TypeId} {cs : List CV} {key : Value} {l : Lit}
    (hx : (⟨s, bx, X⟩ : St).ev x = some (.sv (.one (.mp k)))) (hy : (⟨s, bx, X⟩ : St).ev y = some (.sv (.one (.val key)))) (hu : (⟨s, bx, X⟩ : St).ev u = some (.sv (.agg []))) (hk : (⟨s, bx, X⟩ : St).stat k = some (some ⟨e, cs, .res (mapR P kt m)⟩)) (hm : mapOf P t = some (kt, et)) (L : KL P kt) (hkey : Go.keyOf P kt key = some l) (hput : Put m key (.agg #[]) m') (hw : Want ops s g)
    (kont : RunK P n ops os ⟨s, (k, some ⟨0, [], .res (mapR P kt m')⟩) :: bx, X⟩ (⟨[], [], [(k, some ⟨0, [], .res (mapR P kt m')⟩)]⟩ :: acc) K) :
    RunK P n ops (⟨none, .mapUpdate t x y u, ty, pos, after_, g⟩ :: os) ⟨s, bx, X⟩ acc K := RunK.g3 (LOK.mapUpdate hx hy hu agg0_of hk hm L hkey hput) hw kont
end
theorem Le.trans {n : Nat} {C : Ctx} {σ1 σ2 σ3 : St} (h : Le n C σ1 σ2) (h' : Le n C σ2 σ3) : Le n C σ1 σ3 := ⟨fun ι a w hr => by
  obtain ⟨ι1, h1⟩ := h.out ι a w hr
  exact h'.out ι1 a w h1⟩
end Go.Lg
end
section
namespace Go.Proofs.YtbpdbclndfmcgaaGreatDoor
open Go Go.Lg Go.Lg.Fld
set_option maxRecDepth 100000
def nmsV (a : List (Bool × Int)) : List Value := (a.map nmV).flatten
theorem nms_in {Y : Nat → Option Obj} {blk : Nat} {arr : Array Value} {el : TypeId} {fr : Nat × Nat} {a : List (Bool × Int)} (hY : Y blk = some (.cells arr el fr)) (hi : ∀ u ∈ a, In2 u.2) (hsp : ∃ sp, arr.toList = nmsV a ++ sp) : NumsIn Y (some ⟨blk, 0, none⟩) a :=
  ⟨rows_in hY (fun r hr => by obtain ⟨x, _, rfl⟩ := List.mem_map.1 hr; rfl) hsp, hi⟩
structure PartsC (X : Nat → Option Obj) (ad : Option Addr) (ps : List Pt) : Prop where
  at_ : ∀ (i : Nat) (p : Pt), ps[i]? = some p → ∃ (blk off : Nat) (arr : Array Value) (el : TypeId) (fr : Nat × Nat) (vad : Option Addr) (vcap : Nat), ad = some ⟨blk, off, none⟩ ∧ X blk = some (.cells arr el fr) ∧ off + i * 2 + 2 ≤ arr.size ∧
    (arr.toList.drop (off + i * 2)).take 2 = [.int .i64 p.comp, .slice vad p.val.length vcap] ∧ NumsIn X vad p.val ∧ p.val.length ≤ vcap
  small : ∀ p ∈ ps, -9223372036854775808 ≤ p.comp ∧ p.comp < 9223372036854775808
theorem PartsC.parts {X : Nat → Option Obj} {ad : Option Addr} {ps : List Pt} (h : PartsC X ad ps) : PartsIn X ad ps := ⟨fun i p hp => by
  obtain ⟨blk, off, arr, el, fr, vad, vcap, h1, h2, h3, h4, h5, _⟩ := h.at_ i p hp
  exact ⟨blk, off, arr, el, fr, vad, vcap, h1, h2, h3, h4, h5⟩, h.small⟩
theorem PartsC.mono {X Y : Nat → Option Obj} (hXY : ∀ b o, X b = some o → Y b = some o) {ad : Option Addr} {ps : List Pt} (h : PartsC X ad ps) : PartsC Y ad ps := ⟨fun i p hp => by
  obtain ⟨blk, off, arr, el, fr, vad, vcap, h1, h2, h3, h4, h5, h6⟩ := h.at_ i p hp
  exact ⟨blk, off, arr, el, fr, vad, vcap, h1, hXY _ _ h2, h3, h4, ⟨h5.rows.mono hXY, h5.in2⟩, h6⟩, h.small⟩
theorem PartsC.get {X : Nat → Option Obj} {ad : Option Addr} {ps : List Pt} (h : PartsC X ad ps) {i : Nat} {p : Pt} (hc : ps[i]? = some p) : ∃ (blk off : Nat) (arr : Array Value) (el : TypeId) (fr : Nat × Nat) (vad : Option Addr) (vcap : Nat), ad = some ⟨blk, off, none⟩ ∧ X blk = some (.cells arr el fr) ∧ off + i * 2 + 2 ≤ arr.size ∧
    ((arr.toList.drop (off + i * 2)).take 2).map CV.val = [.val (.int .i64 p.comp), .val (.slice vad p.val.length vcap)] ∧ arr[off + i * 2]? = some (.int .i64 p.comp) ∧ arr[off + i * 2 + 1]? = some (.slice vad p.val.length vcap) ∧ NumsIn X vad p.val ∧ p.val.length ≤ vcap := by
  obtain ⟨blk, off, arr, el, fr, vad, vcap, h1, h2, h3, h4, h5, h6⟩ := h.at_ i p hc
  obtain ⟨g1, g2⟩ := two_at h4
  exact ⟨blk, off, arr, el, fr, vad, vcap, h1, h2, h3, by rw [h4]; rfl, g1, g2, h5, h6⟩
structure PartsH (H : Nat → Option Obj) (ws : List Value) (ps : List Pt) : Prop where
  len : ws.length = ps.length
  at_ : ∀ (i : Nat) (w : Value) (p : Pt), ws[i]? = some w → ps[i]? = some p → ∃ (vad : Option Addr) (vcap : Nat), w = .slice vad p.val.length vcap ∧ NumsIn H vad p.val
section
variable {n : Nat} {C : Ctx} {X : Nat → Option Obj} {s : List (Nat × LV)} {bx : List (Nat × Option Box)} {k : Nat}
end
end Go.Proofs.YtbpdbclndfmcgaaGreatDoor
end
section
namespace Go.Proofs.YtbpdbclndfmcgaaGreatDoor
open Go Go.Lg Go.Lg.Fld Go.RowKit Go.ChangeShapes Go.WideShapes Go.Joins
set_option maxRecDepth 100000
section
variable {H : Type} {enc : TypeId × Value → H} {w : World}
theorem open_nums_w {fuel : Nat} {l : List Value} {x : DataW H × List MemPlace} (h : DataW.trod enc Tryz.prog w 0 (fun _ => true) true fuel 40 l = some x) (hw : Light Tryz.prog 40 x.1) :
    ∃ (ad : Option Addr) (cap : Nat) (ns : List (Bool × Int)), l = [.slice ad ns.length cap] ∧ ns.length ≤ cap ∧ ns.length ≤ 4398046511104 * 4 ∧ NumsIn (fun b => w.heap[b]?) ad ns := by
  obtain ⟨ad, cap, rows, rfl, hb, hc, _, h3, h4⟩ := open_rows_w (e := 82) (sz := 3) (by kernel_rfl) (by kernel_rfl) (by decide) h hw
  obtain ⟨ns, rfl, h5⟩ := map_of (f := nmV) (q := fun n => In2 n.2) (vs := rows) (fun u hu => by
    obtain ⟨hlen, n, x, hx, _⟩ := h4 u hu
    obtain ⟨y0, y1, y2, n', _, _, g0, g1, g2⟩ := Deep.trod_struct3 (t := 82) Tryz.underlying82 hx
    obtain ⟨e0', e1', e2', rfl⟩ : ∃ c0 c1 c2, u = [c0, c1, c2] := by
      match u, hlen with
      | [c0, c1, c2], _ => exact ⟨c0, c1, c2, rfl⟩
    obtain ⟨b, e0, _⟩ := DataW.trod_bool (by kernel_rfl) g0
    obtain ⟨x, e1, _, wa1⟩ := DataW.trod_int (k := .u64) (by kernel_rfl) g1
    obtain ⟨y, e2, _, wa2⟩ := DataW.trod_int (k := .u64) (by kernel_rfl) g2
    have q0 : e0' = .bool b := by simpa using (show ([e0', e1', e2'].drop 0).take 1 = [.bool b] from e0)
    have q1 : e1' = .int .u64 x := by simpa using (show ([e0', e1', e2'].drop 1).take 1 = [.int .u64 x] from e1)
    have q2 : e2' = .int .u64 y := by simpa using (show ([e0', e1', e2'].drop 2).take 1 = [.int .u64 y] from e2)
    subst q0 q1 q2
    have b1 := bounds_u64 wa1
    have b2 := bounds_u64 wa2
    refine ⟨(b, x * 18446744073709551616 + y), ?_, by show 0 ≤ x * 18446744073709551616 + y; omega, by show x * 18446744073709551616 + y < _; omega⟩
    unfold nmV
    rw [show (b, x * 18446744073709551616 + y).2 / 18446744073709551616 = x by show (x * 18446744073709551616 + y) / 18446744073709551616 = x; omega, show (b, x * 18446744073709551616 + y).2 % 18446744073709551616 = y by show (x * 18446744073709551616 + y) % 18446744073709551616 = y; omega])
  exact ⟨ad, cap, ns, by rw [List.length_map], by rw [List.length_map] at hc; exact hc, by rw [List.length_map, show Tryz.prog.bytesOf 82 = 24 by kernel_rfl, show reachBytes = 140737488351232 by decide] at hb; omega, h3, h5⟩
theorem open_parts_w {fuel : Nat} {l : List Value} {x : DataW H × List MemPlace} (h : DataW.trod enc Tryz.prog w 0 (fun _ => true) true fuel 43 l = some x) (hw : Light Tryz.prog 43 x.1) :
    ∃ (ad : Option Addr) (cap : Nat) (ps : List Pt), l = [.slice ad ps.length cap] ∧ ps.length ≤ cap ∧ ps.length ≤ 4398046511104 * 4 ∧ PartsC (fun b => w.heap[b]?) ad ps ∧ ∀ x ∈ ps, x.val.length ≤ 4398046511104 * 4 := by
  obtain ⟨ad, cap, rows, rfl, hb, h1, _, h3, h4⟩ := open_rows_w (e := 50) (sz := 2) (by kernel_rfl) (by kernel_rfl) (by decide) h hw
  obtain ⟨ts, rfl, h5⟩ := map_of (f := fun t : Pt × Option Addr × Nat => [.int .i64 t.1.comp, .slice t.2.1 t.1.val.length t.2.2]) (q := fun t => (NumsIn (fun b => w.heap[b]?) t.2.1 t.1.val ∧ t.1.val.length ≤ t.2.2 ∧ t.1.val.length ≤ 4398046511104 * 4) ∧ (-9223372036854775808 ≤ t.1.comp ∧ t.1.comp < 9223372036854775808)) (vs := rows) (fun u hu => by
    obtain ⟨hlen, n, x, hx, hxw⟩ := h4 u hu
    obtain ⟨y0, y1, n', ex, _, g0, g1⟩ := trod_struct2 (t := 50) Tryz.underlying50 hx
    rw [ex] at hxw
    have hF3 := (Light.struct2 Tryz.underlying50 hxw).2
    obtain ⟨e0', e1', rfl⟩ : ∃ c0 c1, u = [c0, c1] := by
      match u, hlen with
      | [c0, c1], _ => exact ⟨c0, c1, rfl⟩
    obtain ⟨k, e0, _, wa1⟩ := DataW.trod_int (k := .i64) (by kernel_rfl) g0
    obtain ⟨vad, vcap, ns, e1, hF1, hF2, hF⟩ := open_nums_w g1 hF3
    have q0 : e0' = .int .i64 k := by simpa using (show ([e0', e1'].drop 0).take 1 = [.int .i64 k] from e0)
    have q1 : e1' = .slice vad ns.length vcap := by simpa using (show ([e0', e1'].drop 1).take 1 = [.slice vad ns.length vcap] from e1)
    subst q0 q1
    have b1 := bounds_i64 wa1
    exact ⟨(⟨k, ns⟩, vad, vcap), rfl, ⟨hF, hF1, hF2⟩, (show -9223372036854775808 ≤ k ∧ k < 9223372036854775808 by omega)⟩)
  refine ⟨ad, cap, ts.map (·.1), by rw [List.length_map, List.length_map], by rw [List.length_map] at h1 ⊢; exact h1, by rw [List.length_map, show Tryz.prog.bytesOf 50 = 32 by kernel_rfl, show reachBytes = 140737488351232 by decide] at hb; rw [List.length_map]; omega, ⟨fun i c hc => ?_, fun c hc => ?_⟩, fun c hc => ?_⟩
  · rw [List.getElem?_map] at hc
    cases ht : ts[i]? with
    | none => rw [ht] at hc; cases hc
    | some t =>
      rw [ht] at hc
      simp only [Option.map_some, Option.some.injEq] at hc
      subst hc
      obtain ⟨blk, off, arr, el, fr, g1, g2, g3, g4⟩ := h3 i _ (by rw [List.getElem?_map, ht]; rfl)
      exact ⟨blk, off, arr, el, fr, t.2.1, t.2.2, g1, g2, g3, g4, (h5 t (List.mem_of_getElem? ht)).1.1, (h5 t (List.mem_of_getElem? ht)).1.2.1⟩
  · obtain ⟨t, ht, rfl⟩ := List.mem_map.1 hc
    exact (h5 t ht).2
  · obtain ⟨t, ht, rfl⟩ := List.mem_map.1 hc
    exact (h5 t ht).1.2.2
end
end Go.Proofs.YtbpdbclndfmcgaaGreatDoor
end
section
namespace Go.Lg.Fld
open Go Go.Lg
section
variable {cs : List Cp} {i : Nat} {c : Cp}
theorem cmpE_at (h : cs[i]? = some c) : cmpE cs i = if c.id < 1 ∨ 24 < c.id ∨ (0 < i ∧ c.id ≤ prevId cs i) then 1
    else if nmB c.nm = true then (if (cs.take i).any (fun g => g.nm == c.nm) = true then 4 else if firstE (fldE c.fs) 0 c.fs.length = 0 then layErr c.fs else 4) else 4 := by unfold cmpE; rw [h]
theorem fldE_at {fs : List Fl} {k : Nat} {f : Fl} (h : fs[k]? = some f) : fldE fs k = if nmB f.nm = true then (if (fs.take k).any (fun g => g.nm == f.nm) = true then 4 else 0) else 4 := by unfold fldE; rw [h]
theorem prev_at {p : Cp} (h : cs[i - 1]? = some p) : prevId cs i = p.id := by unfold prevId; rw [h]; rfl
end
theorem FieldsIn.nm {X : Nat → Option Obj} {ad : Option Addr} {fs : List Fl} (h : FieldsIn X ad fs) {k : Nat} {f : Fl} (hf : fs[k]? = some f) :
    ∃ (blk off : Nat) (arr : Array Value) (el : TypeId) (fr : Nat × Nat), ad = some ⟨blk, off, none⟩ ∧ X blk = some (.cells arr el fr) ∧ arr[off + k * 3]? = some (.string ⟨f.nm.toArray⟩) := by
  obtain ⟨blk, off, arr, el, fr, h1, h2, h3, h4⟩ := h.rows k f.vals (by rw [List.getElem?_map, hf]; rfl)
  exact ⟨blk, off, arr, el, fr, h1, h2, (three_at h4).1⟩
end Go.Lg.Fld
namespace Go.Proofs.YtbpdbclndfmcgaaGreatDoor
open Go Go.Lg Go.Lg.Fld
set_option maxRecDepth 100000
variable (X : Nat → Option Obj)
abbrev cpB (k : Nat) (c : Cp) (fad : Option Addr) (fcap : Nat) : Nat × Option Box := (k, some ⟨86, [.val (.int .i64 c.id), .val (.string ⟨c.nm.toArray⟩), .val (.slice fad c.fs.length fcap)], false⟩)
end Go.Proofs.YtbpdbclndfmcgaaGreatDoor
end
