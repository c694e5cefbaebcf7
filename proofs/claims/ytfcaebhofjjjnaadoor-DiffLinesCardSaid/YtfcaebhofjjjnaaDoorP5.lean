/- A piece of a proof over this program: contracts of its functions, and a logic to prove them by. -/
import Derived.Test.YtfcaebhofjjjnaaDoorP2
import Derived.Test.YtfcaebhofjjjnaaDoorP3
import Derived.Test.YtfcaebhofjjjnaaDoorP4
import Derived.Test.YtfcaebhofjjjnaaDoorRows
import Derived.Lib.ItoaLen
section
namespace Go.Lg.Fld
open Go Go.Lg
def idsV (cs : List Cp) : List Value := cs.map fun c => .int .i64 c.id
end Go.Lg.Fld
namespace Go.Proofs.YtfcaebhofjjjnaaDoor
open Go Go.Lg Go.Lg.Fld
set_option maxRecDepth 100000
variable (X : Nat → Option Obj)
theorem pIds (ver : Int) (ad : Option Addr) (cap : Nat) (cs : List Cp) (hin : CompsIn X ad cs) (hS : cs.length ≤ 65536) : MSpec Tryd.prog X 22 [Sx ver ad cs.length cap] [] (.sv (.one (.slc 1000001 0 cs.length))) [(1000001, some ⟨3, (idsV cs).map .val, false⟩)] := by
  refine MSpec.intro Tryd.func22 rfl (by kernel_rfl) rfl rfl (by exact (by repeat' (first | refine all_cons_true ?_ ?_ | rfl | exact bytes_inUse | exact vals_inUse | exact mid_inUse rfl))) rfl rfl ?_
  intro C
  have hmk : slcBuild Tryd.prog 35 cs.length = some (List.replicate cs.length (.int .i64 0), 1, 3) := slcBuild_one (by kernel_rfl) (by kernel_rfl) (by omega)
  (refine LWP.seq <| LWP.region (by kernel_rfl) <| K.box rfl rfl rfl .plain <| kas rfl <| RunK.nil <| LWP.seq <| LWP.region (by kernel_rfl) <| kfa rfl rfl ?_; refine kl1 rfl rfl rfl <| K.lenX rfl SliceT.h rfl .plain ?_; refine K.makeSlc (m := cs.length) (bytes := 8) rfl rfl hmk (by kernel_rfl) (by omega) rfl rfl .plain <| kas rfl <| RunK.nil <| LWP.seq <| LWP.seq <| LWP.region (by kernel_rfl) <| kfa rfl rfl ?_; refine kl1 rfl rfl rfl <| K.lenX rfl SliceT.h rfl .plain ?_; refine kmv rfl <| RunK.nil <| LWP.block ?_)
  refine LWP.loop (fun m σ => ∃ i : Nat, i ≤ cs.length ∧ m = cs.length - i ∧ σ = ⟨[(3, .sv (.one (.slc 9 0 cs.length))), (11, Lx ad cs.length cap), (12, Ln .i64 (cs.length : Nat)), (13, Ln .i64 (i : Nat))], [(9, some ⟨3, (idsV (cs.take i) ++ List.replicate (cs.length - i) (Value.int .i64 0)).map .val, false⟩)], X⟩) cs.length
    ⟨_, Le.of (by exact ⟨rfl, rfl, rfl, rfl, trivial⟩) (by exact ⟨rfl, trivial⟩) (by exact rfl) (by exact rfl) (by repeat' (first | refine all_cons_true ?_ ?_ | rfl | exact bytes_inUse | exact vals_inUse | exact mid_inUse rfl)), 0, by omega, by omega, rfl⟩ ?_
  rintro m σ ⟨i, hi, rfl, rfl⟩
  by_cases hlt : i < cs.length
  · obtain ⟨c, hc⟩ : ∃ c, cs[i]? = some c := ⟨_, List.getElem?_eq_getElem hlt⟩
    obtain ⟨blk, off, arr, el, fr, fad, fcap, rfl, hX, hsz, hcs, _, _, _, hF⟩ := hin.get hc
    have hio : off + Int.toNat (i : Int) * 3 = off + i * 3 := by simp
    have hix : 0 + Int.toNat (i : Int) * 1 = i := by rw [Int.toNat_natCast]; omega
    have hil : (idsV (cs.take i)).length = i := by unfold idsV; rw [List.length_map, List.length_take]; omega
    have hroom : i + 1 ≤ ((idsV (cs.take i) ++ List.replicate (cs.length - i) (Value.int .i64 0)).map CV.val).length := by rw [List.length_map, List.length_append, hil, List.length_replicate]; omega
    have hspl : splice ((idsV (cs.take i) ++ List.replicate (cs.length - i) (Value.int .i64 0)).map CV.val) i [.val (.int .i64 c.id)] = (idsV (cs.take (i + 1)) ++ List.replicate (cs.length - (i + 1)) (Value.int .i64 0)).map CV.val := by
      unfold splice
      rw [show cs.length - i = (cs.length - (i + 1)) + 1 by omega, List.replicate_succ, take_snoc hc]
      have e : idsV (cs.take i ++ [c]) = idsV (cs.take i) ++ [.int .i64 c.id] := by unfold idsV; rw [List.map_append]; rfl
      rw [e]
      simp only [List.map_append, List.append_assoc]
      have hml : ((idsV (cs.take i)).map CV.val).length = i := by rw [List.length_map, hil]
      generalize (idsV (cs.take i)).map CV.val = R at *
      rw [← hml, List.take_left, List.drop_length_add_append]
      simp
    (refine LWP.seq <| LWP.region (by kernel_rfl) <| klt rfl rfl (decide_eq_true (by omega)) <| RunK.nil <| LWP.seq <| LWP.condT rfl ?_; refine LWP.skip ?_; refine LWP.seq <| LWP.block <| LWP.seq <| LWP.region (by kernel_rfl) <| kmv rfl <| K.indexX rfl rfl SliceT.h (by omega) hio .plain <| K.loadXagg rfl hX (by kernel_rfl) hsz hcs .plain <| K.alloc rfl .plain ?_; refine kas rfl <| K.storeAll rfl rfl rfl rfl rfl rfl .plain ?_; refine RunK.nil <| LWP.region (by kernel_rfl) <| kmv rfl <| kmv rfl <| kfa rfl rfl ?_; refine kl1 rfl rfl rfl <| K.indexSlc rfl rfl (by omega) hix .plain ?_; refine K.store rfl rfl rfl rfl (by kernel_rfl) hroom hspl .plain <| RunK.nil <| LWP.region (by kernel_rfl) <| kad rfl rfl (wrap_i64 (by omega)) <| kmv rfl <| RunK.nil ?_)
    exact ⟨_, _, by omega, Le.of (by exact ⟨rfl, rfl, rfl, rfl, trivial⟩) (by exact ⟨rfl, trivial⟩) (by exact rfl) (by exact rfl) (by repeat' (first | refine all_cons_true ?_ ?_ | rfl | exact bytes_inUse | exact vals_inUse | exact mid_inUse rfl)), i + 1, by omega, rfl, rfl⟩
  · have e : i = cs.length := by omega
    subst e
    rw [List.take_length, Nat.sub_self, List.replicate_zero, List.append_nil]
    (refine LWP.seq <| LWP.region (by kernel_rfl) <| klt rfl rfl (decide_eq_false (by omega)) <| RunK.nil <| LWP.seq <| LWP.condF rfl ?_; refine LWP.exit <| LWP.seq <| LWP.region (by kernel_rfl) <| kmv rfl <| kas rfl <| RunK.nil <| LWP.ret ?_)
    exact ⟨[(1000001, 9)], ⟨[_], ⟨rfl, trivial⟩, rfl⟩, (by repeat' (first | exact trivial | refine And.intro ⟨_, rfl, ?_⟩ ?_ | refine And.intro ⟨_, rfl⟩ ?_ | rfl | exact Box.ren_bytes _ _ _ _ | exact Box.ren_vals _ _ _ _ | exact Box.ren_mid rfl)), rfl, rfl⟩
theorem feq_spec (ad ad2 : Option Addr) (cap cap2 : Nat) (a b : List Fl) (ha : FieldsIn X ad a) (hb : FieldsIn X ad2 b) (hbig : a.length < 4611686018427387904) (r : Bool) (hr : decide (a = b) = r) :
    PSpec Tryd.prog X 37 [Lx ad a.length cap, Lx ad2 b.length cap2] (Lb r) := by
  subst hr
  refine PSpec.intro Tryd.func37 rfl (by kernel_rfl) rfl rfl ?_
  intro C
  by_cases hl : a.length = b.length
  · (refine LWP.seq <| LWP.region (by kernel_rfl) <| kas rfl <| RunK.nil <| LWP.seq <| LWP.seq <| LWP.region (by kernel_rfl) <| kmv rfl <| K.lenX rfl SliceT.h rfl .plain ?_; refine kmv rfl <| K.lenX rfl SliceT.h rfl .plain ?_; refine kne rfl rfl (r := false) (by rw [hl]; simp) <| RunK.nil <| LWP.condF rfl ?_; refine LWP.skip ?_; refine LWP.seq <| LWP.seq <| LWP.region (by kernel_rfl) <| kmv rfl <| K.lenX rfl SliceT.h rfl .plain ?_; refine kmv rfl <| RunK.nil <| LWP.block ?_)
    refine LWP.loop (fun m σ => ∃ i : Nat, i ≤ a.length ∧ m = a.length - i ∧ a.take i = b.take i ∧ σ = ⟨[(0, Lx ad a.length cap), (1, Lx ad2 b.length cap2), (12, Ln .i64 (a.length : Nat)), (13, Ln .i64 (i : Nat))], [], X⟩) a.length
      ⟨_, Le.of (by exact ⟨rfl, rfl, rfl, rfl, trivial⟩) (by exact trivial) (by exact rfl) (by exact rfl) (by exact rfl), 0, by omega, rfl, rfl, rfl⟩ ?_
    rintro m σ ⟨i, hi, rfl, hpre, rfl⟩
    by_cases hlt : i < a.length
    · obtain ⟨f, hf⟩ : ∃ v, a[i]? = some v := ⟨_, List.getElem?_eq_getElem hlt⟩
      obtain ⟨f', hf'⟩ : ∃ v, b[i]? = some v := ⟨_, List.getElem?_eq_getElem (by omega)⟩
      obtain ⟨blk, off, arr, el, fr, rfl, hX, hsz, hcells⟩ := ha.at hf
      obtain ⟨blk', off', arr', el', fr', rfl, hX', hsz', hcells'⟩ := hb.at hf'
      have hio : off + Int.toNat (i : Int) * 3 = off + i * 3 := by simp
      have hio' : off' + Int.toNat (i : Int) * 3 = off' + i * 3 := by simp
      by_cases hq : f = f'
      · (refine LWP.seq <| LWP.region (by kernel_rfl) <| klt rfl rfl (decide_eq_true (by omega)) <| RunK.nil <| LWP.seq <| LWP.condT rfl ?_; refine LWP.skip ?_; refine LWP.seq <| LWP.block <| LWP.seq <| LWP.region (by kernel_rfl) <| kmv rfl <| kas rfl <| RunK.nil <| LWP.seq <| LWP.draws mixed (by kernel_rfl) <| kmv rfl <| kmv rfl <| K.indexX rfl rfl SliceT.h (by omega) hio .plain <| K.loadXagg rfl hX (by kernel_rfl) hsz hcells .plain <| kmv rfl ?_; refine kmv rfl <| K.indexX rfl rfl SliceT.h (by omega) hio' .plain <| K.loadXagg rfl hX' (by kernel_rfl) hsz' hcells' .plain <| K.aggEq (us := f.vals) (vs := f'.vals) rfl rfl rfl rfl (by kernel_rfl) (eqF f f' true (decide_eq_true hq)) (.inr ⟨rfl, rfl⟩) .plain <| RunK.nil <| And.intro (by kernel_rfl) ?_; refine LWP.condF rfl ?_; refine LWP.skip ?_; refine LWP.region (by kernel_rfl) <| kad rfl rfl (wrap_i64 (by omega)) <| kmv rfl <| RunK.nil ?_)
        exact ⟨_, _, by omega, Le.of (by exact ⟨rfl, rfl, rfl, rfl, trivial⟩) (by exact trivial) (by exact rfl) (by exact rfl) (by exact rfl), i + 1, by omega, rfl, by rw [take_snoc hf, take_snoc hf', hpre, hq], rfl⟩
      · rw [decide_eq_false (show ¬a = b from fun e => hq (by rw [e, hf'] at hf; exact (Option.some.inj hf).symm))]
        (refine LWP.seq <| LWP.region (by kernel_rfl) <| klt rfl rfl (decide_eq_true (by omega)) <| RunK.nil <| LWP.seq <| LWP.condT rfl ?_; refine LWP.skip ?_; refine LWP.seq <| LWP.block <| LWP.seq <| LWP.region (by kernel_rfl) <| kmv rfl <| kas rfl <| RunK.nil <| LWP.seq <| LWP.draws mixed (by kernel_rfl) <| kmv rfl <| kmv rfl <| K.indexX rfl rfl SliceT.h (by omega) hio .plain <| K.loadXagg rfl hX (by kernel_rfl) hsz hcells .plain <| kmv rfl ?_; refine kmv rfl <| K.indexX rfl rfl SliceT.h (by omega) hio' .plain <| K.loadXagg rfl hX' (by kernel_rfl) hsz' hcells' .plain <| K.aggEq (us := f.vals) (vs := f'.vals) rfl rfl rfl rfl (by kernel_rfl) (eqF f f' false (decide_eq_false hq)) (.inr ⟨rfl, rfl⟩) .plain <| RunK.nil <| And.intro (by kernel_rfl) ?_; refine LWP.condT rfl ?_; refine LWP.seq <| LWP.region (by kernel_rfl) <| kas rfl <| RunK.nil <| LWP.ret ?_)
        exact ⟨[_], ⟨rfl, trivial⟩, rfl⟩
    · have e : i = a.length := by omega
      subst e
      rw [List.take_length, List.take_of_length_le (by omega)] at hpre
      rw [decide_eq_true hpre]
      (refine LWP.seq <| LWP.region (by kernel_rfl) <| klt rfl rfl (decide_eq_false (by omega)) <| RunK.nil <| LWP.seq <| LWP.condF rfl ?_; refine LWP.exit <| LWP.seq <| LWP.region (by kernel_rfl) <| kas rfl <| RunK.nil <| LWP.ret ?_)
      exact ⟨[_], ⟨rfl, trivial⟩, rfl⟩
  · rw [decide_eq_false (show ¬a = b from fun e => hl (by rw [e]))]
    (refine LWP.seq <| LWP.region (by kernel_rfl) <| kas rfl <| RunK.nil <| LWP.seq <| LWP.seq <| LWP.region (by kernel_rfl) <| kmv rfl <| K.lenX rfl SliceT.h rfl .plain ?_; refine kmv rfl <| K.lenX rfl SliceT.h rfl .plain ?_; refine kne rfl rfl (r := true) (by rw [bne_iff_ne]; omega) <| RunK.nil <| LWP.condT rfl ?_; refine LWP.seq <| LWP.region (by kernel_rfl) <| kas rfl <| RunK.nil <| LWP.ret ?_)
    exact ⟨[_], ⟨rfl, trivial⟩, rfl⟩
theorem pSameComp (a b : Cp) (ad ad2 : Option Addr) (cap cap2 : Nat) (ha : FieldsIn X ad a.fs) (hb : FieldsIn X ad2 b.fs) (hbig : a.fs.length < 4611686018427387904) (r : Bool) (hr : decide (a = b) = r) :
    PSpec Tryd.prog X 29 [Cx a ad cap, Cx b ad2 cap2] (Lb r) := by
  subst hr
  refine PSpec.intro Tryd.func29 rfl (by kernel_rfl) rfl rfl ?_
  intro C
  by_cases h1 : a.id = b.id
  · by_cases h2 : a.nm = b.nm
    · have hF := feq_spec X ad ad2 cap cap2 a.fs b.fs ha hb hbig (decide (a.fs = b.fs)) rfl
      have e : decide (a = b) = decide (a.fs = b.fs) := by
        cases a; cases b; simp only at h1 h2; subst h1 h2; simp
      rw [e]
      (refine LWP.seq <| LWP.region (by kernel_rfl) <| K.box rfl rfl rfl .plain <| K.box rfl rfl rfl .plain <| kas rfl <| RunK.nil <| LWP.seq <| LWP.region (by kernel_rfl) <| kfa rfl rfl ?_; refine kl1 rfl rfl rfl <| kfa rfl rfl ?_; refine kl1 rfl rfl rfl <| keq rfl rfl (r := true) (by rw [beq_iff_eq]; exact h1) <| kmv rfl <| K.fieldAddr rfl rfl (.taken rfl rfl) ?_; refine K.loadOne rfl rfl rfl (.taken rfl rfl) ?_; refine K.fieldAddr rfl rfl (.taken rfl rfl) ?_; refine K.loadOne rfl rfl rfl (.taken rfl rfl) ?_; refine K.strEq rfl rfl (strs_eq (r := true) (by rw [h2]; simp)) (.taken rfl rfl) ?_; refine kpt rfl rfl <| kmv rfl <| K.fieldAddr rfl rfl (.taken rfl rfl) ?_; refine K.loadOne rfl rfl rfl (.taken rfl rfl) ?_; refine K.fieldAddr rfl rfl (.taken rfl rfl) ?_; refine K.loadOne rfl rfl rfl (.taken rfl rfl) ?_; refine gca rfl rfl hF rfl rfl <| kpt rfl rfl <| kas rfl <| RunK.nil <| LWP.ret ?_)
      exact ⟨[_], ⟨rfl, trivial⟩, rfl⟩
    · rw [decide_eq_false (show ¬a = b from fun e => h2 (by rw [e]))]
      (refine LWP.seq <| LWP.region (by kernel_rfl) <| K.box rfl rfl rfl .plain <| K.box rfl rfl rfl .plain <| kas rfl <| RunK.nil <| LWP.seq <| LWP.region (by kernel_rfl) <| kfa rfl rfl ?_; refine kl1 rfl rfl rfl <| kfa rfl rfl ?_; refine kl1 rfl rfl rfl <| keq rfl rfl (r := true) (by rw [beq_iff_eq]; exact h1) <| kmv rfl <| K.fieldAddr rfl rfl (.taken rfl rfl) ?_; refine K.loadOne rfl rfl rfl (.taken rfl rfl) ?_; refine K.fieldAddr rfl rfl (.taken rfl rfl) ?_; refine K.loadOne rfl rfl rfl (.taken rfl rfl) ?_; refine K.strEq rfl rfl (strs_eq (r := false) (by rw [beq_eq_false_iff_ne]; exact h2)) (.taken rfl rfl) ?_; refine kpt rfl rfl <| kmv rfl <| RunK.passed rfl rfl rfl <| RunK.passed rfl rfl rfl <| RunK.passed rfl rfl rfl <| RunK.passed rfl rfl rfl <| RunK.passed rfl rfl rfl <| kpf rfl rfl <| kas rfl <| RunK.nil <| LWP.ret ?_)
      exact ⟨[_], ⟨rfl, trivial⟩, rfl⟩
  · rw [decide_eq_false (show ¬a = b from fun e => h1 (by rw [e]))]
    (refine LWP.seq <| LWP.region (by kernel_rfl) <| K.box rfl rfl rfl .plain <| K.box rfl rfl rfl .plain <| kas rfl <| RunK.nil <| LWP.seq <| LWP.region (by kernel_rfl) <| kfa rfl rfl ?_; refine kl1 rfl rfl rfl <| kfa rfl rfl ?_; refine kl1 rfl rfl rfl <| keq rfl rfl (r := false) (by rw [beq_eq_false_iff_ne]; exact h1) <| kmv rfl <| RunK.passed rfl rfl rfl <| RunK.passed rfl rfl rfl <| RunK.passed rfl rfl rfl <| RunK.passed rfl rfl rfl <| RunK.passed rfl rfl rfl <| kpf rfl rfl <| kmv rfl <| RunK.passed rfl rfl rfl <| RunK.passed rfl rfl rfl <| RunK.passed rfl rfl rfl <| RunK.passed rfl rfl rfl ?_; refine RunK.passed rfl rfl rfl <| kpf rfl rfl <| kas rfl <| RunK.nil <| LWP.ret ?_)
    exact ⟨[_], ⟨rfl, trivial⟩, rfl⟩
set_option maxHeartbeats 1600000 in
theorem ceq_spec (ad ad2 : Option Addr) (cap cap2 : Nat) (a b : List Cp) (ha : CompsIn X ad a) (hb : CompsIn X ad2 b) (hbig : a.length < 4611686018427387904) (hfs : ∀ c ∈ a, c.fs.length < 4611686018427387904) :
    PSpec Tryd.prog X 28 [Lx ad a.length cap, Lx ad2 b.length cap2, Lf 29 []] (Lb (decide (a = b))) := by
  refine PSpec.intro Tryd.func28 rfl (by kernel_rfl) rfl rfl ?_
  intro C
  by_cases hl : a.length = b.length
  · (refine LWP.seq <| LWP.region (by kernel_rfl) <| kas rfl <| RunK.nil <| LWP.seq <| LWP.seq <| LWP.region (by kernel_rfl) <| kmv rfl <| K.lenX rfl SliceT.h rfl .plain ?_; refine kmv rfl <| K.lenX rfl SliceT.h rfl .plain ?_; refine kne rfl rfl (r := false) (by rw [hl]; simp) <| RunK.nil <| LWP.condF rfl ?_; refine LWP.skip ?_; refine LWP.seq <| LWP.seq <| LWP.region (by kernel_rfl) <| kmv rfl <| K.lenX rfl SliceT.h rfl .plain ?_; refine kmv rfl <| RunK.nil <| LWP.block ?_)
    refine LWP.loop (fun m σ => ∃ i : Nat, i ≤ a.length ∧ m = a.length - i ∧ a.take i = b.take i ∧ σ = ⟨[(1, Lx ad2 b.length cap2), (2, Lf 29 []), (15, Lx ad a.length cap), (16, Ln .i64 (a.length : Nat)), (17, Ln .i64 (i : Nat))], [], X⟩) a.length
      ⟨_, Le.of (by exact ⟨rfl, rfl, rfl, rfl, rfl, trivial⟩) (by exact trivial) (by exact rfl) (by exact rfl) (by exact rfl), 0, by omega, rfl, rfl, rfl⟩ ?_
    rintro m σ ⟨i, hi, rfl, hpre, rfl⟩
    by_cases hlt : i < a.length
    · obtain ⟨c, hc⟩ : ∃ v, a[i]? = some v := ⟨_, List.getElem?_eq_getElem hlt⟩
      obtain ⟨d, hd⟩ : ∃ v, b[i]? = some v := ⟨_, List.getElem?_eq_getElem (by omega)⟩
      obtain ⟨blk, off, arr, el, fr, fad, fcap, rfl, hX, hsz, hcs, _, _, _, hF⟩ := ha.get hc
      obtain ⟨blk', off', arr', el', fr', fad', fcap', rfl, hX', hsz', hcs', _, _, _, hF'⟩ := hb.get hd
      have hio : off + Int.toNat (i : Int) * 3 = off + i * 3 := by simp
      have hio' : off' + Int.toNat (i : Int) * 3 = off' + i * 3 := by simp
      have hq := pSameComp X c d fad fad' fcap fcap' hF hF' (hfs c (List.mem_of_getElem? hc)) (decide (c = d)) rfl
      by_cases he : c = d
      · rw [decide_eq_true he] at hq
        (refine LWP.seq <| LWP.region (by kernel_rfl) <| klt rfl rfl (decide_eq_true (by omega)) <| RunK.nil <| LWP.seq <| LWP.condT rfl ?_; refine LWP.skip ?_; refine LWP.seq <| LWP.block <| LWP.seq <| LWP.region (by kernel_rfl) <| kmv rfl <| K.indexX rfl rfl SliceT.h (by omega) hio .plain <| K.loadXagg rfl hX (by kernel_rfl) hsz hcs .plain <| K.alloc rfl .plain ?_; refine kas rfl <| K.storeAll rfl rfl rfl rfl rfl rfl .plain ?_; refine RunK.nil <| LWP.seq <| LWP.region (by kernel_rfl) <| kmv rfl <| kmv rfl <| K.indexX rfl rfl SliceT.h (by omega) hio' .plain <| K.loadXagg rfl hX' (by kernel_rfl) hsz' hcs' .plain <| K.alloc rfl .plain ?_; refine K.storeAll rfl rfl rfl rfl rfl rfl .plain ?_; refine RunK.nil <| LWP.seq <| LWP.region (by kernel_rfl) <| kmv rfl <| K.loadAll rfl rfl rfl .plain ?_; refine K.loadAll rfl rfl rfl .plain ?_; refine K.callF (caps := []) rfl rfl rfl hq .plain ?_; refine K.not rfl rfl .plain <| RunK.nil <| LWP.condF rfl ?_; refine LWP.skip ?_; refine LWP.region (by kernel_rfl) <| kad rfl rfl (wrap_i64 (by omega)) <| kmv rfl <| RunK.nil ?_)
        exact ⟨_, _, by omega, Le.of (by exact ⟨rfl, rfl, rfl, rfl, rfl, trivial⟩) (by exact trivial) (by exact rfl) (by exact rfl) (by exact rfl), i + 1, by omega, rfl, by rw [take_snoc hc, take_snoc hd, hpre, he], rfl⟩
      · rw [decide_eq_false he] at hq
        rw [decide_eq_false (show ¬a = b from fun e => he (by rw [e, hd] at hc; exact (Option.some.inj hc).symm))]
        (refine LWP.seq <| LWP.region (by kernel_rfl) <| klt rfl rfl (decide_eq_true (by omega)) <| RunK.nil <| LWP.seq <| LWP.condT rfl ?_; refine LWP.skip ?_; refine LWP.seq <| LWP.block <| LWP.seq <| LWP.region (by kernel_rfl) <| kmv rfl <| K.indexX rfl rfl SliceT.h (by omega) hio .plain <| K.loadXagg rfl hX (by kernel_rfl) hsz hcs .plain <| K.alloc rfl .plain ?_; refine kas rfl <| K.storeAll rfl rfl rfl rfl rfl rfl .plain ?_; refine RunK.nil <| LWP.seq <| LWP.region (by kernel_rfl) <| kmv rfl <| kmv rfl <| K.indexX rfl rfl SliceT.h (by omega) hio' .plain <| K.loadXagg rfl hX' (by kernel_rfl) hsz' hcs' .plain <| K.alloc rfl .plain ?_; refine K.storeAll rfl rfl rfl rfl rfl rfl .plain ?_; refine RunK.nil <| LWP.seq <| LWP.region (by kernel_rfl) <| kmv rfl <| K.loadAll rfl rfl rfl .plain ?_; refine K.loadAll rfl rfl rfl .plain ?_; refine K.callF (caps := []) rfl rfl rfl hq .plain ?_; refine K.not rfl rfl .plain <| RunK.nil <| LWP.condT rfl ?_; refine LWP.seq <| LWP.region (by kernel_rfl) <| kas rfl <| RunK.nil <| LWP.ret ?_)
        exact ⟨[_], ⟨rfl, trivial⟩, rfl⟩
    · have e : i = a.length := by omega
      subst e
      rw [List.take_length, List.take_of_length_le (by omega)] at hpre
      rw [decide_eq_true hpre]
      (refine LWP.seq <| LWP.region (by kernel_rfl) <| klt rfl rfl (decide_eq_false (by omega)) <| RunK.nil <| LWP.seq <| LWP.condF rfl ?_; refine LWP.exit <| LWP.seq <| LWP.region (by kernel_rfl) <| kas rfl <| RunK.nil <| LWP.ret ?_)
      exact ⟨[_], ⟨rfl, trivial⟩, rfl⟩
  · rw [decide_eq_false (show ¬a = b from fun e => hl (by rw [e]))]
    (refine LWP.seq <| LWP.region (by kernel_rfl) <| kas rfl <| RunK.nil <| LWP.seq <| LWP.seq <| LWP.region (by kernel_rfl) <| kmv rfl <| K.lenX rfl SliceT.h rfl .plain ?_; refine kmv rfl <| K.lenX rfl SliceT.h rfl .plain ?_; refine kne rfl rfl (r := true) (by rw [bne_iff_ne]; omega) <| RunK.nil <| LWP.condT rfl ?_; refine LWP.seq <| LWP.region (by kernel_rfl) <| kas rfl <| RunK.nil <| LWP.ret ?_)
    exact ⟨[_], ⟨rfl, trivial⟩, rfl⟩
theorem pSameBig (a b : Sc) (ad ad2 : Option Addr) (cap cap2 : Nat) (ha : CompsIn X ad a.cs) (hb : CompsIn X ad2 b.cs) (hbig : a.cs.length < 4611686018427387904) (hfs : ∀ c ∈ a.cs, c.fs.length < 4611686018427387904) (r : Bool) (hr : decide (a = b) = r) :
    PSpec Tryd.prog X 17 [Sx a.ver ad a.cs.length cap, Sx b.ver ad2 b.cs.length cap2] (Lb r) := by
  subst hr
  refine PSpec.intro Tryd.func17 rfl (by kernel_rfl) rfl rfl ?_
  intro C
  by_cases h1 : a.ver = b.ver
  · have hq := ceq_spec X ad ad2 cap cap2 a.cs b.cs ha hb hbig hfs
    have e : decide (a = b) = decide (a.cs = b.cs) := by
      cases a; cases b; simp only at h1; subst h1; simp
    rw [e]
    (refine LWP.seq <| LWP.region (by kernel_rfl) <| K.box rfl rfl rfl .plain <| K.box rfl rfl rfl .plain <| kas rfl <| RunK.nil <| LWP.seq <| LWP.region (by kernel_rfl) <| kfa rfl rfl ?_; refine kl1 rfl rfl rfl <| kfa rfl rfl ?_; refine kl1 rfl rfl rfl <| keq rfl rfl (r := true) (by rw [beq_iff_eq]; exact h1) <| kmv rfl <| K.fieldAddr rfl rfl (.taken rfl rfl) ?_; refine K.loadOne rfl rfl rfl (.taken rfl rfl) ?_; refine K.fieldAddr rfl rfl (.taken rfl rfl) ?_; refine K.loadOne rfl rfl rfl (.taken rfl rfl) ?_; refine gca rfl rfl hq rfl rfl <| kpt rfl rfl <| kas rfl <| RunK.nil <| LWP.ret ?_)
    exact ⟨[_], ⟨rfl, trivial⟩, rfl⟩
  · rw [decide_eq_false (show ¬a = b from fun e => h1 (by rw [e]))]
    (refine LWP.seq <| LWP.region (by kernel_rfl) <| K.box rfl rfl rfl .plain <| K.box rfl rfl rfl .plain <| kas rfl <| RunK.nil <| LWP.seq <| LWP.region (by kernel_rfl) <| kfa rfl rfl ?_; refine kl1 rfl rfl rfl <| kfa rfl rfl ?_; refine kl1 rfl rfl rfl <| keq rfl rfl (r := false) (by rw [beq_eq_false_iff_ne]; exact h1) <| kmv rfl <| RunK.passed rfl rfl rfl <| RunK.passed rfl rfl rfl <| RunK.passed rfl rfl rfl <| RunK.passed rfl rfl rfl <| RunK.passed rfl rfl rfl <| kpf rfl rfl <| kas rfl <| RunK.nil <| LWP.ret ?_)
    exact ⟨[_], ⟨rfl, trivial⟩, rfl⟩
end Go.Proofs.YtfcaebhofjjjnaaDoor
end
section
namespace Go.Lg.Fld
open Go Go.Lg
theorem fields_none {X : Nat → Option Obj} {ad : Option Addr} {fs : List Fl} (h : fs = []) : FieldsIn X ad fs := by
  subst h
  exact ⟨fun k r hr => (by simp at hr), fun f hf => (by cases hf)⟩
end Go.Lg.Fld
namespace Go.Proofs.YtfcaebhofjjjnaaDoor
open Go Go.Lg Go.Lg.Fld
set_option maxRecDepth 100000
section
variable {n : Nat} {C : Ctx} {X : Nat → Option Obj} {s : List (Nat × LV)} {bx : List (Nat × Option Box)} {k : Nat}
end
variable (X : Nat → Option Obj)
end Go.Proofs.YtfcaebhofjjjnaaDoor
end
section

end
section
namespace Go.Proofs.YtfcaebhofjjjnaaDoor
open Go Go.Lg Go.Lg.Fld Go.RowKit Go.ChangeShapes Go.WideShapes Go.Joins
set_option maxRecDepth 100000
section
variable {H : Type} {enc : TypeId × Value → H} {w : World}
end
end Go.Proofs.YtfcaebhofjjjnaaDoor
end
section
namespace Go.Proofs.YtfcaebhofjjjnaaDoor
open Go Go.Lg Go.Lg.Fld
set_option maxRecDepth 100000
variable (X : Nat → Option Obj)
end Go.Proofs.YtfcaebhofjjjnaaDoor
end
section
namespace Go.Proofs.YtfcaebhofjjjnaaDoor
open Go Go.Lg Go.Lg.Fld
set_option maxRecDepth 100000
variable (X : Nat → Option Obj)
end Go.Proofs.YtfcaebhofjjjnaaDoor
end
section
namespace Go.Lg.Fld
open Go Go.Lg
theorem any_at {α : Type} {p : α → Bool} {l : List α} {i : Nat} {x : α} (h : l[i]? = some x) (hp : p x = true) : l.any p = true := List.any_eq_true.2 ⟨x, List.mem_of_getElem? h, hp⟩
theorem any_no {α : Type} {p : α → Bool} {l : List α} (h : ∀ (j : Nat) (y : α), l[j]? = some y → p y = false) : l.any p = false := by
  rw [List.any_eq_false]
  intro y hy
  obtain ⟨j, hj⟩ := List.mem_iff_getElem?.1 hy
  rw [h j y hj]; simp
end Go.Lg.Fld
namespace Go.Proofs.YtfcaebhofjjjnaaDoor
open Go Go.Lg Go.Lg.Fld
set_option maxRecDepth 100000
variable (X : Nat → Option Obj)
def cs0 : List Cp := [⟨1, [112, 111, 115], [⟨[120], 3, 1⟩, ⟨[121], 3, 1⟩]⟩, ⟨3, [116, 97, 103], []⟩]
end Go.Proofs.YtfcaebhofjjjnaaDoor
end
section
namespace Go.Proofs.YtfcaebhofjjjnaaDoor
open Go Go.Lg Go.Lg.Fld
set_option maxRecDepth 100000
variable (X : Nat → Option Obj)
end Go.Proofs.YtfcaebhofjjjnaaDoor
end
section
namespace Go.Lg.Fld
open Go Go.Lg
def Scan {α : Type} (p : α → Bool) (l : List α) (k : Nat) (v : Int) : Prop := (v = -1 ∧ ∀ (m : Nat) (y : α), k ≤ m → l[m]? = some y → p y = false) ∨ ∃ (i : Nat) (c : α), v = (i : Nat) ∧ l[i]? = some c ∧ p c = true ∧ ∀ (m : Nat) (y : α), k ≤ m → m < i → l[m]? = some y → p y = false
theorem Scan.hit {α : Type} {p : α → Bool} {l : List α} {k : Nat} {y : α} (hy : l[k]? = some y) (hp : p y = true) : Scan p l k (k : Nat) := .inr ⟨k, y, rfl, hy, hp, fun m y hm hk => by omega⟩
end Go.Lg.Fld
namespace Go.Proofs.YtfcaebhofjjjnaaDoor
open Go Go.Lg Go.Lg.Fld
set_option maxRecDepth 100000
variable (X : Nat → Option Obj)
end Go.Proofs.YtfcaebhofjjjnaaDoor
end
section
namespace Go.Proofs.YtfcaebhofjjjnaaDoor
open Go Go.Lg Go.Lg.Fld
set_option maxRecDepth 100000
variable (X : Nat → Option Obj)
end Go.Proofs.YtfcaebhofjjjnaaDoor
end
section
namespace Go.Lg.Fld
open Go Go.Lg
structure Good (cs : List Cp) : Prop where
  one : ∀ (i : Nat) (c : Cp), cs[i]? = some c → 1 ≤ c.id ∧ c.id ≤ 24 ∧ nmB c.nm = true ∧ firstE (fldE c.fs) 0 c.fs.length = 0 ∧ layErr c.fs = 0
  two : ∀ (i j : Nat) (c d : Cp), i < j → cs[i]? = some c → cs[j]? = some d → c.id < d.id ∧ c.nm ≠ d.nm
theorem good_of {cs : List Cp} (h : firstE (cmpE cs) 0 cs.length = 0) : Good cs := by
  have h0 : ∀ (i : Nat) (c : Cp), cs[i]? = some c → ¬(c.id < 1 ∨ 24 < c.id ∨ (0 < i ∧ c.id ≤ prevId cs i)) ∧ nmB c.nm = true ∧ (cs.take i).any (fun g => g.nm == c.nm) = false ∧ firstE (fldE c.fs) 0 c.fs.length = 0 ∧ layErr c.fs = 0 := fun i c hc => by
    have hi := (List.getElem?_eq_some_iff.1 hc).1
    have h1 := firstE_zero h i (Nat.zero_le _) (by omega)
    rw [cmpE_at hc] at h1
    by_cases b1 : c.id < 1 ∨ 24 < c.id ∨ (0 < i ∧ c.id ≤ prevId cs i)
    · rw [if_pos b1] at h1; cases h1
    · rw [if_neg b1] at h1
      by_cases b2 : nmB c.nm = true
      · rw [if_pos b2] at h1
        by_cases b3 : (cs.take i).any (fun g => g.nm == c.nm) = true
        · rw [if_pos b3] at h1; cases h1
        · rw [if_neg b3] at h1
          by_cases b4 : firstE (fldE c.fs) 0 c.fs.length = 0
          · rw [if_pos b4] at h1
            exact ⟨b1, b2, by simpa using b3, b4, h1⟩
          · rw [if_neg b4] at h1; cases h1
      · rw [if_neg b2] at h1; cases h1
  refine ⟨fun i c hc => ?_, fun i j c d hij hc hd => ⟨?_, fun e => ?_⟩⟩
  · obtain ⟨h1, h2, _, h4, h5⟩ := h0 i c hc
    exact ⟨by omega, by omega, h2, h4, h5⟩
  · obtain ⟨k, rfl⟩ : ∃ k, j = i + 1 + k := ⟨j - (i + 1), by omega⟩
    induction k generalizing d with
    | zero =>
      obtain ⟨h1, _⟩ := h0 _ d hd
      have hp : cs[i + 1 + 0 - 1]? = some c := hc
      have := prev_at hp
      omega
    | succ k ih =>
      obtain ⟨d', hd'⟩ : ∃ d', cs[i + 1 + k]? = some d' := ⟨_, List.getElem?_eq_getElem (by have := (List.getElem?_eq_some_iff.1 hd).1; omega)⟩
      have h2 := ih d' (by omega) hd'
      obtain ⟨h1, _⟩ := h0 _ d hd
      have hp : cs[i + 1 + (k + 1) - 1]? = some d' := hd'
      have := prev_at hp
      omega
  · obtain ⟨_, _, h3, _⟩ := h0 j d hd
    have := any_true (p := fun g : Cp => g.nm == d.nm) hij hc (by rw [beq_iff_eq]; exact e)
    rw [h3] at this; cases this
theorem fields_apart {fs : List Fl} (h : firstE (fldE fs) 0 fs.length = 0) {i j : Nat} {f g : Fl} (hij : i < j) (hf : fs[i]? = some f) (hg : fs[j]? = some g) : f.nm ≠ g.nm := fun e => by
  have h1 := firstE_zero h j (Nat.zero_le _) (by have := (List.getElem?_eq_some_iff.1 hg).1; omega)
  rw [fldE_at hg] at h1
  have := any_true (p := fun x : Fl => x.nm == g.nm) hij hf (by rw [beq_iff_eq]; exact e)
  rw [this] at h1
  split at h1 <;> cases h1
end Go.Lg.Fld
end
section
namespace Go.Lg.Fld
open Go Go.Lg
structure Ch where
  kind : Int
  comp : Int
  fld : List UInt8
instance : DecidableEq Ch := fun a b => decidable_of_iff (a.kind = b.kind ∧ a.comp = b.comp ∧ a.fld = b.fld) ⟨fun ⟨h1, h2, h3⟩ => by cases a; cases b; simp_all, fun h => by rw [h]; exact ⟨rfl, rfl, rfl⟩⟩
def fldAt (fs : List Fl) (nm : List UInt8) : Option Fl := fs.find? fun f => f.nm == nm
def fldIx (fs : List Fl) (nm : List UInt8) : Int := findI (fun f => f.nm == nm) fs
def movStep (b : List Fl) (s : Int × Bool) (f : Fl) : Int × Bool := if 0 ≤ fldIx b f.nm then (fldIx b f.nm, s.2 || decide (fldIx b f.nm < s.1)) else s
def movB (a b : List Fl) : Bool := (a.foldl (movStep b) (-1, false)).2
def drpF (b : List Fl) (f : Fl) : Bool := decide (fldIx b f.nm < 0)
def retF (b : List Fl) (f : Fl) : Bool := match fldAt b f.nm with | some g => decide (g ≠ f) | none => false
def rowD (a b : Cp) : Nat → List Ch
  | 3 => if a.nm = b.nm then [] else [⟨3, a.id, []⟩]
  | 4 => (a.fs.filter (drpF b.fs)).map fun f => ⟨4, a.id, f.nm⟩
  | 5 => (b.fs.filter (drpF a.fs)).map fun f => ⟨5, a.id, f.nm⟩
  | 6 => (a.fs.filter (retF b.fs)).map fun f => ⟨6, a.id, f.nm⟩
  | 7 => if movB a.fs b.fs = true then [⟨7, a.id, []⟩] else []
  | _ => []
def compD (a b : Cp) : List Ch := rowD a b 3 ++ rowD a b 4 ++ rowD a b 5 ++ rowD a b 6 ++ rowD a b 7
def atId (cs : List Cp) (id : Int) : Option Cp := cs.find? fun c => c.id == id
def idD (a b : List Cp) (id : Int) : List Ch := match atId a id, atId b id with
  | none, none => []
  | none, some _ => [⟨1, id, []⟩]
  | some _, none => [⟨2, id, []⟩]
  | some c, some d => compD c d
def upD (a b : List Cp) (n : Nat) : List Ch := (List.range n).flatMap fun i => idD a b ((i + 1 : Nat) : Int)
def diffL (a b : List Cp) : List Ch := upD a b 24
theorem upD_succ (a b : List Cp) (n : Nat) : upD a b (n + 1) = upD a b n ++ idD a b ((n + 1 : Nat) : Int) := by
  unfold upD; rw [List.range_succ, List.flatMap_append]; simp
def keptL (a b : List Cp) : List Int := (a.filter fun c => (atId b c.id).isSome).map Cp.id
theorem fldIx_some {fs : List Fl} {nm : List UInt8} (h : 0 ≤ fldIx fs nm) : ∃ (k : Nat) (g : Fl), fs[k]? = some g ∧ g.nm = nm ∧ fldIx fs nm = (k : Nat) ∧ fldAt fs nm = some g ∧ ∀ (j : Nat) (y : Fl), j < k → fs[j]? = some y → y.nm ≠ nm := by
  unfold fldIx findI at h
  cases hf : fs.findIdx? (fun f => f.nm == nm) with
  | none => rw [hf] at h; simp only at h; omega
  | some k =>
    obtain ⟨hk, h1, h2⟩ := List.findIdx?_eq_some_iff_getElem.1 hf
    refine ⟨k, fs[k], List.getElem?_eq_getElem hk, by simpa using h1, by unfold fldIx findI; rw [hf], ?_, fun j y hj hy => ?_⟩
    · unfold fldAt
      rw [List.find?_eq_some_iff_getElem]
      exact ⟨h1, k, hk, rfl, fun j hj => by simpa using h2 j hj⟩
    · obtain ⟨hj', e⟩ := List.getElem?_eq_some_iff.1 hy
      have := h2 j hj
      rw [e] at this
      simpa using this
theorem fldIx_none {fs : List Fl} {nm : List UInt8} (h : fldIx fs nm < 0) : (∀ f ∈ fs, f.nm ≠ nm) ∧ fldAt fs nm = none ∧ fldIx fs nm = -1 := by
  unfold fldIx findI at h
  cases hf : fs.findIdx? (fun f => f.nm == nm) with
  | some k => rw [hf] at h; simp only at h; omega
  | none =>
    have h1 := List.findIdx?_eq_none_iff.1 hf
    refine ⟨fun f hf => by simpa using h1 f hf, ?_, by unfold fldIx findI; rw [hf]⟩
    unfold fldAt
    rw [List.find?_eq_none]
    intro f hf
    simpa using h1 f hf
theorem fldIx_at {fs : List Fl} (ha : ∀ (i j : Nat) (f g : Fl), i < j → fs[i]? = some f → fs[j]? = some g → f.nm ≠ g.nm) {k : Nat} {g : Fl} (hk : fs[k]? = some g) : fldIx fs g.nm = (k : Nat) ∧ fldAt fs g.nm = some g := by
  have h0 : 0 ≤ fldIx fs g.nm := by
    rcases Int.lt_or_le (fldIx fs g.nm) 0 with h | h
    · exact absurd rfl ((fldIx_none h).1 g (List.mem_of_getElem? hk))
    · exact h
  obtain ⟨j, f, hj, hn, he, hf, hp⟩ := fldIx_some h0
  have : j = k := by
    rcases Nat.lt_trichotomy j k with h | h | h
    · exact absurd hn (ha j k f g h hj hk)
    · exact h
    · exact absurd rfl (hp k g h hk)
  subst this
  rw [hk] at hj
  cases hj
  exact ⟨he, hf⟩
end Go.Lg.Fld
end
section
namespace Go.Lg.Fld
open Go Go.Lg
def Apart (fs : List Fl) : Prop := fs.Pairwise fun f g => f.nm ≠ g.nm
theorem Apart.ix {fs : List Fl} (h : Apart fs) {i j : Nat} {f g : Fl} (hij : i < j) (hf : fs[i]? = some f) (hg : fs[j]? = some g) : f.nm ≠ g.nm := by
  obtain ⟨hi, e1⟩ := List.getElem?_eq_some_iff.1 hf
  obtain ⟨hj, e2⟩ := List.getElem?_eq_some_iff.1 hg
  have := List.pairwise_iff_getElem.1 h i j hi hj hij
  rw [e1, e2] at this
  exact this
theorem Apart.at {fs : List Fl} (h : Apart fs) {k : Nat} {g : Fl} (hk : fs[k]? = some g) : fldIx fs g.nm = (k : Nat) ∧ fldAt fs g.nm = some g := fldIx_at (fun _ _ _ _ hij hf hg => h.ix hij hf hg) hk
theorem Apart.mem {fs : List Fl} (h : Apart fs) {g : Fl} (hg : g ∈ fs) : fldAt fs g.nm = some g := by
  obtain ⟨k, hk⟩ := List.mem_iff_getElem?.1 hg
  exact (h.at hk).2
theorem Apart.eq {fs : List Fl} (h : Apart fs) {f g : Fl} (hf : f ∈ fs) (hg : g ∈ fs) (e : f.nm = g.nm) : f = g := by
  have h1 := h.mem hf
  rw [e, h.mem hg] at h1
  exact (Option.some.inj h1).symm
theorem Good.apart {cs : List Cp} (h : Good cs) {c : Cp} (hc : c ∈ cs) : Apart c.fs := by
  obtain ⟨i, hi⟩ := List.mem_iff_getElem?.1 hc
  obtain ⟨_, _, _, h4, _⟩ := h.one i c hi
  refine List.pairwise_iff_getElem.2 fun i j hi hj hij => ?_
  exact fields_apart h4 hij (List.getElem?_eq_getElem hi) (List.getElem?_eq_getElem hj)
theorem fldAt_mem {fs : List Fl} {nm : List UInt8} {g : Fl} (h : fldAt fs nm = some g) : g ∈ fs ∧ g.nm = nm := ⟨List.mem_of_find?_eq_some h, by simpa using List.find?_some h⟩
theorem fldAt_ix {fs : List Fl} {nm : List UInt8} : (fldAt fs nm).isSome = decide (0 ≤ fldIx fs nm) := by
  rcases Int.lt_or_le (fldIx fs nm) 0 with h | h
  · rw [(fldIx_none h).2.1, decide_eq_false (by omega)]; rfl
  · obtain ⟨_, g, _, _, _, hg, _⟩ := fldIx_some h
    rw [hg, decide_eq_true h]; rfl
theorem atId_mem {cs : List Cp} {id : Int} {c : Cp} (h : atId cs id = some c) : c ∈ cs ∧ c.id = id := ⟨List.mem_of_find?_eq_some h, by simpa using List.find?_some h⟩
theorem Good.atId {cs : List Cp} (h : Good cs) {c : Cp} (hc : c ∈ cs) : atId cs c.id = some c := by
  obtain ⟨i, hi⟩ := List.mem_iff_getElem?.1 hc
  obtain ⟨hl, e⟩ := List.getElem?_eq_some_iff.1 hi
  unfold Go.Lg.Fld.atId
  rw [List.find?_eq_some_iff_getElem]
  refine ⟨by simp, i, hl, e, fun j hj => ?_⟩
  have := (h.two j i _ c hj (List.getElem?_eq_getElem (by omega)) hi).1
  simp only [Bool.not_eq_true', beq_eq_false_iff_ne, ne_eq]
  omega
theorem sorted_eq {α : Type} (key : α → Int) : ∀ {l1 l2 : List α}, l1.Pairwise (fun x y => key x < key y) → l2.Pairwise (fun x y => key x < key y) → (∀ x, x ∈ l1 ↔ x ∈ l2) → l1 = l2
  | [], [], _, _, _ => rfl
  | [], y :: _, _, _, h => by have := (h y).2 List.mem_cons_self; cases this
  | x :: _, [], _, _, h => by have := (h x).1 List.mem_cons_self; cases this
  | x :: t1, y :: t2, h1, h2, h => by
    obtain ⟨a1, b1⟩ := List.pairwise_cons.1 h1
    obtain ⟨a2, b2⟩ := List.pairwise_cons.1 h2
    have e : x = y := by
      rcases List.mem_cons.1 ((h x).1 List.mem_cons_self) with e | hx
      · exact e
      · rcases List.mem_cons.1 ((h y).2 List.mem_cons_self) with e | hy
        · exact e.symm
        · have := a1 y hy; have := a2 x hx; omega
    subst e
    rw [sorted_eq key b1 b2 fun z => ⟨fun hz => ?_, fun hz => ?_⟩]
    · rcases List.mem_cons.1 ((h z).1 (List.mem_cons_of_mem _ hz)) with e | h'
      · have := a1 z hz; rw [e] at this; omega
      · exact h'
    · rcases List.mem_cons.1 ((h z).2 (List.mem_cons_of_mem _ hz)) with e | h'
      · have := a2 z hz; rw [e] at this; omega
      · exact h'
theorem mov_fold (b : List Fl) : ∀ (l : List Fl) (last : Int) (mv : Bool), (l.foldl (movStep b) (last, mv)).2 = false ↔
    mv = false ∧ (∀ f ∈ l, 0 ≤ fldIx b f.nm → last ≤ fldIx b f.nm) ∧ l.Pairwise fun f g => 0 ≤ fldIx b f.nm → 0 ≤ fldIx b g.nm → fldIx b f.nm ≤ fldIx b g.nm
  | [], last, mv => by simp
  | f :: t, last, mv => by
    rw [List.foldl_cons, List.pairwise_cons]
    by_cases hc : 0 ≤ fldIx b f.nm
    · rw [show movStep b (last, mv) f = (fldIx b f.nm, mv || decide (fldIx b f.nm < last)) by unfold movStep; rw [if_pos hc]]
      rw [mov_fold b t]
      constructor
      · rintro ⟨h1, h2, h3⟩
        rw [Bool.or_eq_false_iff, decide_eq_false_iff_not] at h1
        refine ⟨h1.1, fun g hg hg0 => ?_, fun g hg _ hg0 => h2 g hg hg0, h3⟩
        rcases List.mem_cons.1 hg with rfl | hg
        · omega
        · have := h2 g hg hg0; omega
      · rintro ⟨h1, h2, h3, h4⟩
        refine ⟨?_, fun g hg hg0 => h3 g hg hc hg0, h4⟩
        rw [h1, Bool.false_or, decide_eq_false_iff_not]
        have := h2 f List.mem_cons_self hc
        omega
    · rw [show movStep b (last, mv) f = (last, mv) by unfold movStep; rw [if_neg hc]]
      rw [mov_fold b t]
      constructor
      · rintro ⟨h1, h2, h3⟩
        refine ⟨h1, fun g hg hg0 => ?_, fun g hg h0 _ => absurd h0 hc, h3⟩
        rcases List.mem_cons.1 hg with rfl | hg
        · exact absurd hg0 hc
        · exact h2 g hg hg0
      · rintro ⟨h1, h2, _, h4⟩
        exact ⟨h1, fun g hg hg0 => h2 g (List.mem_cons_of_mem _ hg) hg0, h4⟩
theorem movB_iff {a b : List Fl} : movB a b = false ↔ a.Pairwise fun f g => 0 ≤ fldIx b f.nm → 0 ≤ fldIx b g.nm → fldIx b f.nm ≤ fldIx b g.nm := by
  unfold movB
  rw [mov_fold]
  exact ⟨fun h => h.2.2, fun h => ⟨rfl, fun f _ hf => by omega, h⟩⟩
theorem movB_le {a b : List Fl} (_ : Apart a) (hb : Apart b) (h : movB a b = false) : movB b a = false := by
  rw [movB_iff] at h ⊢
  refine List.pairwise_iff_getElem.2 fun i j hi hj hij hf hg => ?_
  have ei := (hb.at (List.getElem?_eq_getElem hi)).1
  have ej := (hb.at (List.getElem?_eq_getElem hj)).1
  obtain ⟨p, f', hp, hfn, hpe, _, _⟩ := fldIx_some hf
  obtain ⟨q, g', hq, hgn, hqe, _, _⟩ := fldIx_some hg
  rw [hpe, hqe]
  rcases Nat.lt_or_ge q p with hlt | hge
  · obtain ⟨hp', e1⟩ := List.getElem?_eq_some_iff.1 hp
    obtain ⟨hq', e2⟩ := List.getElem?_eq_some_iff.1 hq
    have h2 := List.pairwise_iff_getElem.1 h q p hq' hp' hlt
    rw [e1, e2, hfn, hgn, ei, ej] at h2
    have := h2 (by omega) (by omega)
    omega
  · omega
theorem movB_comm {a b : List Fl} (ha : Apart a) (hb : Apart b) : movB a b = movB b a := by
  cases h : movB a b with
  | false => rw [movB_le ha hb h]
  | true =>
    cases h2 : movB b a with
    | true => rfl
    | false => rw [movB_le hb ha h2] at h; cases h
def turnK (k : Int) : Int := if k = 1 then 2 else if k = 2 then 1 else if k = 4 then 5 else if k = 5 then 4 else k
def turnC (x : Ch) : Ch := ⟨turnK x.kind, x.comp, x.fld⟩
theorem turnK_turn (k : Int) : turnK (turnK k) = k := by
  unfold turnK
  split <;> (try split) <;> (try split) <;> (try split) <;> omega
theorem turnC_turn (x : Ch) : turnC (turnC x) = x := by
  obtain ⟨k, c, f⟩ := x
  show (⟨turnK (turnK k), c, f⟩ : Ch) = _
  rw [turnK_turn]
theorem row_kind {c d : Cp} {k : Nat} {x : Ch} (hx : x ∈ rowD c d k) : x.kind = (k : Nat) ∧ x.comp = c.id ∧ 3 ≤ k ∧ k ≤ 7 := by
  match k, hx with
  | 3, hx =>
    simp only [rowD] at hx
    split at hx
    · cases hx
    · rw [List.mem_singleton.1 hx]; exact ⟨rfl, rfl, by omega, by omega⟩
  | 4, hx =>
    simp only [rowD] at hx
    obtain ⟨f, _, rfl⟩ := List.mem_map.1 hx
    exact ⟨rfl, rfl, by omega, by omega⟩
  | 5, hx =>
    simp only [rowD] at hx
    obtain ⟨f, _, rfl⟩ := List.mem_map.1 hx
    exact ⟨rfl, rfl, by omega, by omega⟩
  | 6, hx =>
    simp only [rowD] at hx
    obtain ⟨f, _, rfl⟩ := List.mem_map.1 hx
    exact ⟨rfl, rfl, by omega, by omega⟩
  | 7, hx =>
    simp only [rowD] at hx
    split at hx
    · rw [List.mem_singleton.1 hx]; exact ⟨rfl, rfl, by omega, by omega⟩
    · cases hx
  | 0, hx => simp [rowD] at hx
  | 1, hx => simp [rowD] at hx
  | 2, hx => simp [rowD] at hx
  | _ + 8, hx => simp [rowD] at hx
theorem mem_compD {c d : Cp} {x : Ch} : x ∈ compD c d ↔ ∃ k, x ∈ rowD c d k := by
  unfold compD
  simp only [List.mem_append]
  constructor
  · rintro ((((h | h) | h) | h) | h)
    · exact ⟨3, h⟩
    · exact ⟨4, h⟩
    · exact ⟨5, h⟩
    · exact ⟨6, h⟩
    · exact ⟨7, h⟩
  · rintro ⟨k, h⟩
    obtain ⟨_, _, h3, h7⟩ := row_kind h
    rcases (by omega : k = 3 ∨ k = 4 ∨ k = 5 ∨ k = 6 ∨ k = 7) with rfl | rfl | rfl | rfl | rfl
    · exact .inl (.inl (.inl (.inl h)))
    · exact .inl (.inl (.inl (.inr h)))
    · exact .inl (.inl (.inr h))
    · exact .inl (.inr h)
    · exact .inr h
theorem retF_turn {a b : List Fl} (ha : Apart a) (hb : Apart b) {f : Fl} (hf : f ∈ a) (h : retF b f = true) : ∃ g ∈ b, g.nm = f.nm ∧ retF a g = true := by
  unfold retF at h
  cases hg : fldAt b f.nm with
  | none => rw [hg] at h; cases h
  | some g =>
    rw [hg] at h
    obtain ⟨h1, h2⟩ := fldAt_mem hg
    refine ⟨g, h1, h2, ?_⟩
    unfold retF
    rw [h2, ha.mem hf]
    simp only [decide_eq_true_eq] at h ⊢
    exact fun e => h e.symm
theorem row_turn {c d : Cp} (hc : Apart c.fs) (hd : Apart d.fs) (hid : c.id = d.id) {k : Nat} {x : Ch} (hx : x ∈ rowD c d k) : ∃ k', turnC x ∈ rowD d c k' := by
  obtain ⟨_, _, h3, h7⟩ := row_kind hx
  rcases (by omega : k = 3 ∨ k = 4 ∨ k = 5 ∨ k = 6 ∨ k = 7) with rfl | rfl | rfl | rfl | rfl
  · refine ⟨3, ?_⟩
    simp only [rowD] at hx ⊢
    split at hx
    · cases hx
    · rename_i h
      rw [if_neg (fun e => h e.symm), List.mem_singleton.1 hx, ← hid]
      exact List.mem_singleton.2 rfl
  · refine ⟨5, ?_⟩
    simp only [rowD] at hx ⊢
    obtain ⟨f, hf, rfl⟩ := List.mem_map.1 hx
    exact List.mem_map.2 ⟨f, hf, by rw [← hid]; rfl⟩
  · refine ⟨4, ?_⟩
    simp only [rowD] at hx ⊢
    obtain ⟨f, hf, rfl⟩ := List.mem_map.1 hx
    exact List.mem_map.2 ⟨f, hf, by rw [← hid]; rfl⟩
  · refine ⟨6, ?_⟩
    simp only [rowD] at hx ⊢
    obtain ⟨f, hf, rfl⟩ := List.mem_map.1 hx
    obtain ⟨h1, h2⟩ := List.mem_filter.1 hf
    obtain ⟨g, hg, hn, hr⟩ := retF_turn hc hd h1 h2
    exact List.mem_map.2 ⟨g, List.mem_filter.2 ⟨hg, hr⟩, by rw [← hid, hn]; rfl⟩
  · refine ⟨7, ?_⟩
    simp only [rowD] at hx ⊢
    split at hx
    · rename_i h
      rw [movB_comm hd hc, if_pos h, List.mem_singleton.1 hx, ← hid]
      exact List.mem_singleton.2 rfl
    · cases hx
theorem idD_comp {a b : List Cp} {id : Int} {x : Ch} (hx : x ∈ idD a b id) : x.comp = id := by
  unfold idD at hx
  split at hx
  · cases hx
  · rw [List.mem_singleton.1 hx]
  · rw [List.mem_singleton.1 hx]
  · rename_i c d hc hd
    obtain ⟨k, hk⟩ := mem_compD.1 hx
    rw [(row_kind hk).2.1]
    exact (atId_mem hc).2
theorem idD_turn {a b : List Cp} (ha : Good a) (hb : Good b) {id : Int} {x : Ch} (hx : x ∈ idD a b id) : turnC x ∈ idD b a id := by
  unfold idD at hx ⊢
  split at hx
  · cases hx
  · rename_i h1 h2
    rw [h1, h2, List.mem_singleton.1 hx]
    exact List.mem_singleton.2 rfl
  · rename_i h1 h2
    rw [h1, h2, List.mem_singleton.1 hx]
    exact List.mem_singleton.2 rfl
  · rename_i c d h1 h2
    rw [h1, h2]
    obtain ⟨k, hk⟩ := mem_compD.1 hx
    obtain ⟨hc, ec⟩ := atId_mem h1
    obtain ⟨hd, ed⟩ := atId_mem h2
    obtain ⟨k', h'⟩ := row_turn (ha.apart hc) (hb.apart hd) (ec.trans ed.symm) hk
    exact mem_compD.2 ⟨k', h'⟩
theorem mem_upD {a b : List Cp} {n : Nat} {x : Ch} : x ∈ upD a b n ↔ ∃ i, i < n ∧ x ∈ idD a b ((i + 1 : Nat) : Int) := by
  unfold upD
  rw [List.mem_flatMap]
  exact ⟨fun ⟨i, h1, h2⟩ => ⟨i, List.mem_range.1 h1, h2⟩, fun ⟨i, h1, h2⟩ => ⟨i, List.mem_range.2 h1, h2⟩⟩
theorem diff_turn {a b : List Cp} (ha : Good a) (hb : Good b) {x : Ch} (hx : x ∈ diffL a b) : turnC x ∈ diffL b a := by
  obtain ⟨i, h1, h2⟩ := mem_upD.1 hx
  exact mem_upD.2 ⟨i, h1, idD_turn ha hb h2⟩
theorem map_nodup {fs : List Fl} (h : Apart fs) (p : Fl → Bool) (k id : Int) : ((fs.filter p).map fun f => (⟨k, id, f.nm⟩ : Ch)).Nodup := by
  rw [List.nodup_iff_pairwise_ne, List.pairwise_map]
  exact (List.Pairwise.filter p h).imp fun hn e => hn (by have := congrArg Ch.fld e; exact this)
theorem row_nodup {c d : Cp} (hc : Apart c.fs) (hd : Apart d.fs) (k : Nat) : (rowD c d k).Nodup := by
  match k with
  | 3 => simp only [rowD]; split <;> simp
  | 4 => exact map_nodup hc _ _ _
  | 5 => exact map_nodup hd _ _ _
  | 6 => exact map_nodup hc _ _ _
  | 7 => simp only [rowD]; split <;> simp
  | 0 => simp [rowD]
  | 1 => simp [rowD]
  | 2 => simp [rowD]
  | _ + 8 => simp [rowD]
theorem compD_nodup {c d : Cp} (hc : Apart c.fs) (hd : Apart d.fs) : (compD c d).Nodup := by
  have hn := row_nodup hc hd
  have ne : ∀ {x y : Ch} {j k : Nat}, j ≠ k → x ∈ rowD c d j → y ∈ rowD c d k → x ≠ y := fun hjk hx hy e => by
    have h1 := (row_kind hx).1
    have h2 := (row_kind hy).1
    rw [e, h2] at h1
    omega
  unfold compD
  simp only [List.nodup_append, List.mem_append]
  refine ⟨⟨⟨⟨hn 3, hn 4, fun x hx y hy => ne (by decide) hx hy⟩, hn 5, fun x hx y hy => ?_⟩, hn 6, fun x hx y hy => ?_⟩, hn 7, fun x hx y hy => ?_⟩
  · rcases hx with hx | hx <;> exact ne (by decide) hx hy
  · rcases hx with (hx | hx) | hx <;> exact ne (by decide) hx hy
  · rcases hx with ((hx | hx) | hx) | hx <;> exact ne (by decide) hx hy
theorem idD_nodup {a b : List Cp} (ha : Good a) (hb : Good b) (id : Int) : (idD a b id).Nodup := by
  unfold idD
  split
  · exact List.nodup_nil
  · simp
  · simp
  · rename_i c d h1 h2
    exact compD_nodup (ha.apart (atId_mem h1).1) (hb.apart (atId_mem h2).1)
theorem diff_nodup {a b : List Cp} (ha : Good a) (hb : Good b) : (diffL a b).Nodup := by
  unfold diffL upD
  rw [List.nodup_iff_pairwise_ne, List.pairwise_flatMap]
  refine ⟨fun i _ => List.nodup_iff_pairwise_ne.1 (idD_nodup ha hb _), ?_⟩
  refine (List.nodup_iff_pairwise_ne.1 List.nodup_range).imp fun hij x hx y hy e => hij ?_
  have h1 := idD_comp hx
  have h2 := idD_comp hy
  rw [e, h2] at h1
  omega
theorem diff_perm {a b : List Cp} (ha : Good a) (hb : Good b) : ((diffL a b).map turnC).Perm (diffL b a) := by
  rw [List.perm_ext_iff_of_nodup ?_ (diff_nodup hb ha)]
  · intro x
    constructor
    · intro h
      obtain ⟨y, hy, rfl⟩ := List.mem_map.1 h
      exact diff_turn ha hb hy
    · intro h
      exact List.mem_map.2 ⟨turnC x, diff_turn hb ha h, turnC_turn x⟩
  · rw [List.nodup_iff_pairwise_ne, List.pairwise_map]
    exact (List.nodup_iff_pairwise_ne.1 (diff_nodup ha hb)).imp fun hn e => hn (by have := congrArg turnC e; rw [turnC_turn, turnC_turn] at this; exact this)
theorem diff_len {a b : List Cp} (ha : Good a) (hb : Good b) : (diffL a b).length = (diffL b a).length := by
  have := (diff_perm ha hb).length_eq
  rw [List.length_map] at this
  exact this
theorem diff_once {a b : List Cp} (ha : Good a) (hb : Good b) {x : Ch} (hx : x ∈ diffL a b) : (diffL b a).countP (fun y => decide (y = turnC x)) = 1 := by
  have h1 : (diffL b a).countP (fun y => decide (y = turnC x)) = (diffL b a).countP (fun y => y == turnC x) := by
    congr 1
  rw [h1]
  have h2 := List.Nodup.count (a := turnC x) (diff_nodup hb ha)
  rw [if_pos (diff_turn ha hb hx)] at h2
  exact h2
theorem compD_self {c : Cp} (hc : Apart c.fs) : compD c c = [] := by
  have h4 : c.fs.filter (drpF c.fs) = [] := List.filter_eq_nil_iff.2 fun f hf => by
    obtain ⟨k, hk⟩ := List.mem_iff_getElem?.1 hf
    unfold drpF
    rw [(hc.at hk).1]
    simp
  have h6 : c.fs.filter (retF c.fs) = [] := List.filter_eq_nil_iff.2 fun f hf => by
    unfold retF
    rw [hc.mem hf]
    simp
  have h7 : movB c.fs c.fs = false := movB_iff.2 (List.pairwise_iff_getElem.2 fun i j hi hj hij _ _ => by
    rw [(hc.at (List.getElem?_eq_getElem hi)).1, (hc.at (List.getElem?_eq_getElem hj)).1]; omega)
  unfold compD rowD
  simp [h4, h6, h7]
theorem compD_nil {c d : Cp} (hc : Apart c.fs) (hd : Apart d.fs) (h : compD c d = []) : c.nm = d.nm ∧ c.fs = d.fs := by
  have hr : ∀ k, rowD c d k = [] := fun k => by
    cases hk : rowD c d k with
    | nil => rfl
    | cons x t =>
      have : x ∈ compD c d := mem_compD.2 ⟨k, by rw [hk]; exact List.mem_cons_self⟩
      rw [h] at this; cases this
  have h3 := hr 3
  have h4 := hr 4
  have h5 := hr 5
  have h6 := hr 6
  have h7 := hr 7
  simp only [rowD] at h3 h4 h5 h6 h7
  have e3 : c.nm = d.nm := by
    by_cases e : c.nm = d.nm
    · exact e
    · rw [if_neg e] at h3; cases h3
  have e7 : movB c.fs d.fs = false := by
    cases hm : movB c.fs d.fs with
    | false => rfl
    | true => rw [hm, if_pos rfl] at h7; cases h7
  rw [List.map_eq_nil_iff, List.filter_eq_nil_iff] at h4 h5 h6
  have sub : ∀ {p q : List Fl}, Apart p → Apart q → (∀ f ∈ p, ¬drpF q f = true) → (∀ f ∈ p, ¬retF q f = true) → ∀ f ∈ p, f ∈ q := fun {p q} _ _ hdr hre f hf => by
    have h1 := hdr f hf
    unfold drpF at h1
    simp only [decide_eq_true_eq, Int.not_lt] at h1
    obtain ⟨_, g, _, _, _, hg, _⟩ := fldIx_some h1
    have h2 := hre f hf
    unfold retF at h2
    rw [hg] at h2
    simp only [decide_eq_true_eq, Decidable.not_not] at h2
    rw [← h2]
    exact (fldAt_mem hg).1
  have s1 := sub hc hd h4 h6
  have s2 := sub hd hc h5 (fun g hg hr => by
    obtain ⟨f, hf, _, hr'⟩ := retF_turn hd hc hg hr
    exact h6 f hf hr')
  refine ⟨e3, sorted_eq (fun f => fldIx d.fs f.nm) ?_ ?_ fun x => ⟨s1 x, s2 x⟩⟩
  · refine List.pairwise_iff_getElem.2 fun i j hi hj hij => ?_
    have h1 := List.pairwise_iff_getElem.1 (movB_iff.1 e7) i j hi hj hij
    obtain ⟨p, hp⟩ := List.mem_iff_getElem?.1 (s1 _ (List.getElem_mem hi))
    obtain ⟨q, hq⟩ := List.mem_iff_getElem?.1 (s1 _ (List.getElem_mem hj))
    have hne := hc.ix hij (List.getElem?_eq_getElem hi) (List.getElem?_eq_getElem hj)
    rw [(hd.at hp).1, (hd.at hq).1] at h1 ⊢
    have h2 := h1 (by omega) (by omega)
    have : p ≠ q := fun e => by
      rw [e, hq] at hp
      exact hne (by rw [← Option.some.inj hp])
    omega
  · refine List.pairwise_iff_getElem.2 fun i j hi hj hij => ?_
    rw [(hd.at (List.getElem?_eq_getElem hi)).1, (hd.at (List.getElem?_eq_getElem hj)).1]; omega
theorem Good.ids {cs : List Cp} (h : Good cs) {c : Cp} (hc : c ∈ cs) : 1 ≤ c.id ∧ c.id ≤ 24 := by
  obtain ⟨i, hi⟩ := List.mem_iff_getElem?.1 hc
  obtain ⟨h1, h2, _⟩ := h.one i c hi
  exact ⟨h1, h2⟩
theorem Good.sorted {cs : List Cp} (h : Good cs) : cs.Pairwise fun x y => x.id < y.id :=
  List.pairwise_iff_getElem.2 fun i j hi hj hij => (h.two i j _ _ hij (List.getElem?_eq_getElem hi) (List.getElem?_eq_getElem hj)).1
theorem diff_nil {a b : List Cp} (ha : Good a) (hb : Good b) : (diffL a b).length = 0 ↔ a = b := by
  rw [List.length_eq_zero_iff]
  constructor
  · intro h
    have hi : ∀ id : Int, 1 ≤ id → id ≤ 24 → idD a b id = [] := fun id h1 h2 => by
      cases hk : idD a b id with
      | nil => rfl
      | cons x t =>
        have : x ∈ diffL a b := mem_upD.2 ⟨(id - 1).toNat, by omega, by
          rw [show (((id - 1).toNat + 1 : Nat) : Int) = id by omega, hk]; exact List.mem_cons_self⟩
        rw [h] at this; cases this
    have sub : ∀ {p q : List Cp}, Good p → Good q → (∀ id : Int, 1 ≤ id → id ≤ 24 → idD p q id = []) → ∀ c ∈ p, c ∈ q := fun {p q} hp hq hpq c hc => by
      obtain ⟨h1, h2⟩ := hp.ids hc
      have h3 := hpq c.id h1 h2
      unfold idD at h3
      rw [hp.atId hc] at h3
      cases hd : Go.Lg.Fld.atId q c.id with
      | none => rw [hd] at h3; cases h3
      | some d =>
        rw [hd] at h3
        obtain ⟨hdm, hdi⟩ := atId_mem hd
        obtain ⟨e1, e2⟩ := compD_nil (hp.apart hc) (hq.apart hdm) h3
        have : c = d := by cases c; cases d; simp only at e1 e2 hdi; rw [e1, e2, hdi]
        rw [this]; exact hdm
    refine sorted_eq Cp.id ha.sorted hb.sorted fun c => ⟨sub ha hb hi c, sub hb ha (fun id h1 h2 => ?_) c⟩
    cases hk : idD b a id with
    | nil => rfl
    | cons x t =>
      have := idD_turn hb ha (show x ∈ idD b a id by rw [hk]; exact List.mem_cons_self)
      rw [hi id h1 h2] at this; cases this
  · rintro rfl
    cases h : diffL a a with
    | nil => rfl
    | cons x t =>
      have hx : x ∈ diffL a a := by rw [h]; exact List.mem_cons_self
      obtain ⟨i, _, h2⟩ := mem_upD.1 hx
      unfold idD at h2
      split at h2
      · cases h2
      · rename_i h3 h4; rw [h3] at h4; cases h4
      · rename_i h3 h4; rw [h3] at h4; cases h4
      · rename_i c d h3 h4
        rw [h3] at h4
        cases h4
        rw [compD_self (ha.apart (atId_mem h3).1)] at h2
        cases h2
end Go.Lg.Fld
end
section
namespace Go.Lg.Fld
open Go Go.Lg
def bothK (x : Ch) : Bool := decide (x.kind ≠ 1) && decide (x.kind ≠ 2)
theorem mem_kept {a b : List Cp} (ha : Good a) {id : Int} : id ∈ keptL a b ↔ (atId a id).isSome = true ∧ (atId b id).isSome = true := by
  unfold keptL
  rw [List.mem_map]
  constructor
  · rintro ⟨c, hc, rfl⟩
    obtain ⟨h1, h2⟩ := List.mem_filter.1 hc
    exact ⟨by rw [ha.atId h1]; rfl, h2⟩
  · rintro ⟨h1, h2⟩
    cases hc : Go.Lg.Fld.atId a id with
    | none => rw [hc] at h1; cases h1
    | some c =>
      obtain ⟨h3, h4⟩ := atId_mem hc
      exact ⟨c, List.mem_filter.2 ⟨h3, by rw [h4]; exact h2⟩, h4⟩
theorem idD_kind {a b : List Cp} {id : Int} {x : Ch} (hx : x ∈ idD a b id) : (bothK x = true ↔ (atId a id).isSome = true ∧ (atId b id).isSome = true) ∧ (x.kind = 2 ↔ (atId a id).isSome = true ∧ (atId b id).isSome = false) ∧ 1 ≤ x.kind ∧ x.kind ≤ 7 := by
  unfold idD at hx
  split at hx
  · cases hx
  · rename_i h1 h2
    rw [h1, h2, List.mem_singleton.1 hx]
    refine ⟨by simp [bothK], by simp, by simp⟩
  · rename_i h1 h2
    rw [h1, h2, List.mem_singleton.1 hx]
    refine ⟨by simp [bothK], by simp, by simp⟩
  · rename_i c d h1 h2
    obtain ⟨k, hk⟩ := mem_compD.1 hx
    obtain ⟨e, _, h3, h7⟩ := row_kind hk
    rw [h1, h2, e]
    refine ⟨?_, ?_, by omega, by omega⟩
    · unfold bothK
      rw [e, decide_eq_true (by omega), decide_eq_true (by omega)]
      simp
    · simp only [Option.isSome_some, Bool.true_eq_false, and_false, iff_false]; omega
theorem diff_kept {a b : List Cp} (ha : Good a) {x : Ch} (hx : x ∈ diffL a b) : (keptL a b).any (fun id => id == x.comp) = bothK x := by
  obtain ⟨i, _, h2⟩ := mem_upD.1 hx
  have hc := idD_comp h2
  have hk := (idD_kind h2).1
  rw [← hc] at hk
  have key : (keptL a b).any (fun id => id == x.comp) = true ↔ bothK x = true := by
    rw [hk, ← mem_kept ha, List.any_eq_true]
    constructor
    · rintro ⟨y, hy, e⟩
      rw [beq_iff_eq] at e
      rw [← e]; exact hy
    · exact fun h => ⟨_, h, by rw [beq_iff_eq]⟩
  exact Bool.eq_iff_iff.2 key
theorem diff_kinds {a b : List Cp} {x : Ch} (hx : x ∈ diffL a b) : 1 ≤ x.kind ∧ x.kind ≤ 7 := by
  obtain ⟨i, _, h2⟩ := mem_upD.1 hx
  exact (idD_kind h2).2.2
theorem diff_comps {a b : List Cp} {x : Ch} (hx : x ∈ diffL a b) : 1 ≤ x.comp ∧ x.comp ≤ 24 := by
  obtain ⟨i, h1, h2⟩ := mem_upD.1 hx
  have := idD_comp h2
  omega
theorem diff_rise (a b : List Cp) : (diffL a b).Pairwise fun x y => x.comp ≤ y.comp := by
  unfold diffL upD
  rw [List.pairwise_flatMap]
  refine ⟨fun i _ => ?_, ?_⟩
  · refine List.pairwise_iff_getElem.2 fun j k hj hk _ => ?_
    rw [idD_comp (List.getElem_mem hj), idD_comp (List.getElem_mem hk)]
    omega
  · have h : (List.range 24).Pairwise (fun i j => i < j) := List.pairwise_iff_getElem.2 fun i j hi hj hij => by simpa using hij
    exact h.imp fun hij x hx y hy => by rw [idD_comp hx, idD_comp hy]; omega
theorem diff_rise_at {a b : List Cp} {i : Nat} {x y : Ch} (hx : (diffL a b)[i]? = some x) (hy : (diffL a b)[i + 1]? = some y) : x.comp ≤ y.comp := by
  obtain ⟨h1, e1⟩ := List.getElem?_eq_some_iff.1 hx
  obtain ⟨h2, e2⟩ := List.getElem?_eq_some_iff.1 hy
  have := List.pairwise_iff_getElem.1 (diff_rise a b) i (i + 1) h1 h2 (by omega)
  rw [e1, e2] at this
  exact this
theorem kind2 {a b : List Cp} {id : Int} {x : Ch} (hx : x ∈ idD a b id) (h : x.kind = 2) : x = ⟨2, id, []⟩ := by
  unfold idD at hx
  split at hx
  · cases hx
  · rw [List.mem_singleton.1 hx] at h; cases h
  · exact List.mem_singleton.1 hx
  · obtain ⟨k, hk⟩ := mem_compD.1 hx
    obtain ⟨e, _, h3, h7⟩ := row_kind hk
    omega
theorem kept_len {a b : List Cp} (ha : Good a) (hb : Good b) : (keptL a b).length + (diffL a b).countP (fun x => decide (x.kind = 2)) = a.length := by
  have hp : ((((diffL a b).filter fun x => decide (x.kind = 2)).map Ch.comp)).Perm ((a.filter fun c => !(atId b c.id).isSome).map Cp.id) := by
    rw [List.perm_ext_iff_of_nodup]
    · intro id
      constructor
      · intro h
        obtain ⟨x, hx, rfl⟩ := List.mem_map.1 h
        obtain ⟨h1, h2⟩ := List.mem_filter.1 hx
        obtain ⟨i, hi, h3⟩ := mem_upD.1 h1
        have hc := idD_comp h3
        obtain ⟨h4, h5⟩ := (idD_kind h3).2.1.1 (by simpa using h2)
        rw [← hc] at h4 h5
        cases hq : Go.Lg.Fld.atId a x.comp with
        | none => rw [hq] at h4; cases h4
        | some c =>
          obtain ⟨h6, h7⟩ := atId_mem hq
          exact List.mem_map.2 ⟨c, List.mem_filter.2 ⟨h6, by rw [h7, h5]; rfl⟩, h7⟩
      · intro h
        obtain ⟨c, hc, rfl⟩ := List.mem_map.1 h
        obtain ⟨h1, h2⟩ := List.mem_filter.1 hc
        obtain ⟨h3, h4⟩ := ha.ids h1
        have h5 : atId b c.id = none := by
          cases hq : Go.Lg.Fld.atId b c.id with
          | none => rfl
          | some d => rw [hq] at h2; cases h2
        refine List.mem_map.2 ⟨⟨2, c.id, []⟩, List.mem_filter.2 ⟨mem_upD.2 ⟨(c.id - 1).toNat, by omega, ?_⟩, by simp⟩, rfl⟩
        rw [show (((c.id - 1).toNat + 1 : Nat) : Int) = c.id by omega]
        unfold idD
        rw [ha.atId h1, h5]
        exact List.mem_singleton.2 rfl
    · rw [List.nodup_iff_pairwise_ne, List.pairwise_map]
      refine (List.pairwise_iff_getElem.2 fun i j hi hj hij e => ?_)
      have hn := List.pairwise_iff_getElem.1 (List.nodup_iff_pairwise_ne.1 ((diff_nodup ha hb).filter (fun x => decide (x.kind = 2)))) i j hi hj hij
      have m1 := List.mem_filter.1 (List.getElem_mem hi)
      have m2 := List.mem_filter.1 (List.getElem_mem hj)
      obtain ⟨i1, _, g1⟩ := mem_upD.1 m1.1
      obtain ⟨i2, _, g2⟩ := mem_upD.1 m2.1
      refine hn ?_
      rw [kind2 g1 (by simpa using m1.2), kind2 g2 (by simpa using m2.2), ← idD_comp g1, ← idD_comp g2, e]
    · rw [List.nodup_iff_pairwise_ne, List.pairwise_map]
      exact (List.Pairwise.filter _ ha.sorted).imp fun h e => by omega
  have h1 := hp.length_eq
  rw [List.length_map, List.length_map] at h1
  rw [List.countP_eq_length_filter, h1]
  unfold keptL
  rw [List.length_map, ← List.countP_eq_length_filter, ← List.countP_eq_length_filter]
  have := List.length_eq_countP_add_countP (fun c : Cp => (atId b c.id).isSome) (l := a)
  rw [this]
  congr 1
  exact List.countP_congr fun c _ => by simp
end Go.Lg.Fld
end
section
namespace Go.Lg
open Go Go.RowKit
section
variable {P : Program} {n : Nat} {ops os : List Oper} {acc : List Eff} {K : List Eff → St → Prop} {s : List (Nat × LV)} {bx : List (Nat × Option Box)} {X : Nat → Option Obj} {σ : St}
end
section
variable {P : Program} {n : Nat} {C : Ctx} {c : Code} {Q : Exit → St → Prop} {X : Nat → Option Obj}
end
theorem Le.loose {n : Nat} {C : Ctx} {s : List (Nat × LV)} {bx : List (Nat × Option Box)} {X : Nat → Option Obj} {j : Nat} {e : TypeId} {A : List CV} {r : Bool} : Le n C ⟨s, (j, some ⟨e, A, r⟩) :: bx, X⟩ ⟨s, (j, some ⟨e, A, true⟩) :: bx, X⟩ := by
  have h := Le.trim (n := n) (C := C) (s := s) (bx := bx) (X := X) (j := j) (e := e) (A := A) (B := []) (r := r)
  rw [List.append_nil] at h
  exact h
end Go.Lg
end
section
namespace Go.Lg.Fld
open Go Go.Lg
def Ch.vals (x : Ch) : List Value := [.int .i64 x.kind, .int .i64 x.comp, .string ⟨x.fld.toArray⟩]
def chV (l : List Ch) : List Value := (l.map Ch.vals).flatten
theorem chV_app (a b : List Ch) : chV (a ++ b) = chV a ++ chV b := by unfold chV; rw [List.map_append, List.flatten_append]
theorem chV_len (l : List Ch) : (chV l).length = l.length * 3 := by
  unfold chV
  induction l with
  | nil => rfl
  | cons x t ih => rw [List.map_cons, List.flatten_cons, List.length_append, ih, List.length_cons]; simp [Ch.vals]; omega
theorem chV_at {l : List Ch} {i : Nat} {x : Ch} (h : l[i]? = some x) : ((chV l).map CV.val)[i * 3]? = some (.val (.int .i64 x.kind)) ∧ ((chV l).map CV.val)[i * 3 + 1]? = some (.val (.int .i64 x.comp)) ∧ ((chV l).map CV.val)[i * 3 + 2]? = some (.val (.string ⟨x.fld.toArray⟩)) ∧ (((chV l).map CV.val).drop (i * 3)).take 3 = x.vals.map CV.val ∧ i * 3 + 3 ≤ ((chV l).map CV.val).length := by
  have hs : l = l.take i ++ x :: l.drop (i + 1) := by
    obtain ⟨hi, e⟩ := List.getElem?_eq_some_iff.1 h
    rw [← e, ← List.drop_eq_getElem_cons hi, List.take_append_drop]
  have hp : ((chV (l.take i)).map CV.val).length = i * 3 := by
    have := (List.getElem?_eq_some_iff.1 h).1
    rw [List.length_map, chV_len, List.length_take, Nat.min_eq_left (by omega)]
  have hc : (chV l).map CV.val = (chV (l.take i)).map CV.val ++ (x.vals.map CV.val ++ (chV (l.drop (i + 1))).map CV.val) := by
    conv => lhs; rw [hs, chV_app]
    rw [List.map_append, show chV (x :: l.drop (i + 1)) = x.vals ++ chV (l.drop (i + 1)) from rfl, List.map_append]
  rw [hc]
  generalize (chV (l.take i)).map CV.val = R at *
  rw [← hp]
  refine ⟨?_, ?_, ?_, ?_, ?_⟩
  · rw [List.getElem?_append_right (Nat.le_refl _), Nat.sub_self]; rfl
  · rw [List.getElem?_append_right (by omega), Nat.add_sub_cancel_left]; rfl
  · rw [List.getElem?_append_right (by omega), Nat.add_sub_cancel_left]; rfl
  · rw [List.drop_left]; rfl
  · rw [List.length_append, List.length_append, show (x.vals.map CV.val).length = 3 from rfl]; omega
theorem filter_snoc {α β : Type} {l : List α} {i : Nat} {x : α} (h : l[i]? = some x) (p : α → Bool) (g : α → β) : ((l.take (i + 1)).filter p).map g = ((l.take i).filter p).map g ++ (if p x = true then [g x] else []) := by
  rw [take_snoc h, List.filter_append, List.map_append]
  congr 1
  cases hp : p x <;> simp [hp]
end Go.Lg.Fld
namespace Go.Proofs.YtfcaebhofjjjnaaDoor
open Go Go.Lg Go.Lg.Fld
set_option maxRecDepth 100000
variable (X : Nat → Option Obj)
theorem rField_spec (c : Cp) (fad : Option Addr) (fcap : Nat) (nm : List UInt8) (hF : FieldsIn X fad c.fs) (hbig : c.fs.length < 4611686018427387904) :
    PSpec Tryd.prog X 35 [Cx c fad fcap, Ls nm] (Ln .i64 (fldIx c.fs nm)) := by
  refine PSpec.intro Tryd.func35 rfl (by kernel_rfl) rfl rfl ?_
  intro C
  unfold fldIx
  (refine LWP.seq <| LWP.region (by kernel_rfl) <| K.box rfl rfl rfl .plain <| kas rfl <| RunK.nil <| LWP.seq <| LWP.seq <| LWP.region (by kernel_rfl) <| kas rfl <| RunK.nil <| LWP.block ?_)
  refine LWP.loop (fun m σ => ∃ i : Nat, i ≤ c.fs.length ∧ m = c.fs.length - i ∧ (∀ (j : Nat) (y : Fl), j < i → c.fs[j]? = some y → (y.nm == nm) = false) ∧ σ = ⟨[(1, Ls nm), (2, Lp 2), (5, Ln .i64 (i : Nat))], [cpB 2 c fad fcap], X⟩) c.fs.length
    ⟨_, Le.of (by exact ⟨rfl, rfl, rfl, trivial⟩) (by exact ⟨rfl, trivial⟩) (by exact rfl) (by exact rfl) (by repeat' (first | refine all_cons_true ?_ ?_ | rfl | exact bytes_inUse | exact vals_inUse | exact mid_inUse rfl)), 0, by omega, by omega, fun j y hj => absurd hj (by omega), rfl⟩ ?_
  rintro m σ ⟨i, hi, rfl, hpre, rfl⟩
  by_cases hlt : i < c.fs.length
  · obtain ⟨f, hf⟩ : ∃ f, c.fs[i]? = some f := ⟨_, List.getElem?_eq_getElem hlt⟩
    obtain ⟨fb, fo, farr, fel, ffr, rfl, hFX, hFc⟩ := hF.nm hf
    have hio : fo + Int.toNat (i : Int) * 3 = fo + i * 3 := by simp
    cases he : (f.nm == nm) with
    | true =>
      rw [findI_some hpre hf he]
      (refine LWP.seq <| LWP.seq <| LWP.region (by kernel_rfl) <| kmv rfl <| kfa rfl rfl ?_; refine kl1 rfl rfl rfl <| K.lenX rfl SliceT.h rfl .plain ?_; refine klt rfl rfl (decide_eq_true (by omega)) <| RunK.nil <| LWP.condT rfl ?_; refine LWP.skip ?_; refine LWP.seq <| LWP.block <| LWP.seq <| LWP.region (by kernel_rfl) <| kfa rfl rfl ?_; refine kl1 rfl rfl rfl <| kmv rfl <| K.indexX rfl rfl SliceT.h (by omega) hio .plain <| K.fieldAddrX rfl rfl .plain ?_; refine K.loadX rfl hFX rfl hFc .plain <| kmv rfl <| kse rfl rfl (strs_eq (r := true) he) <| RunK.nil <| LWP.condT rfl ?_; refine LWP.seq <| LWP.region (by kernel_rfl) <| kmv rfl <| kas rfl <| RunK.nil <| LWP.ret ?_)
      exact ⟨[_], ⟨rfl, trivial⟩, rfl⟩
    | false =>
      (refine LWP.seq <| LWP.seq <| LWP.region (by kernel_rfl) <| kmv rfl <| kfa rfl rfl ?_; refine kl1 rfl rfl rfl <| K.lenX rfl SliceT.h rfl .plain ?_; refine klt rfl rfl (decide_eq_true (by omega)) <| RunK.nil <| LWP.condT rfl ?_; refine LWP.skip ?_; refine LWP.seq <| LWP.block <| LWP.seq <| LWP.region (by kernel_rfl) <| kfa rfl rfl ?_; refine kl1 rfl rfl rfl <| kmv rfl <| K.indexX rfl rfl SliceT.h (by omega) hio .plain <| K.fieldAddrX rfl rfl .plain ?_; refine K.loadX rfl hFX rfl hFc .plain <| kmv rfl <| kse rfl rfl (strs_eq (r := false) he) <| RunK.nil <| LWP.condF rfl ?_; refine LWP.skip ?_; refine LWP.region (by kernel_rfl) <| kmv rfl <| kad rfl rfl (wrap_i64 (by omega)) <| kas rfl <| RunK.nil ?_)
      exact ⟨_, _, by omega, Le.of (by exact ⟨rfl, rfl, rfl, trivial⟩) (by exact ⟨rfl, trivial⟩) (by exact rfl) (by exact rfl) (by repeat' (first | refine all_cons_true ?_ ?_ | rfl | exact bytes_inUse | exact vals_inUse | exact mid_inUse rfl)), i + 1, by omega, rfl, (fun j y hj hy => by
        by_cases e : j = i
        · subst e; rw [hf] at hy; cases hy; exact he
        · exact hpre j y (by omega) hy), rfl⟩
  · rw [findI_none fun j y hy => hpre j y (by have := (List.getElem?_eq_some_iff.1 hy).1; omega) hy]
    (refine LWP.seq <| LWP.seq <| LWP.region (by kernel_rfl) <| kmv rfl <| kfa rfl rfl ?_; refine kl1 rfl rfl rfl <| K.lenX rfl SliceT.h rfl .plain ?_; refine klt rfl rfl (decide_eq_false (by omega)) <| RunK.nil <| LWP.condF rfl ?_; refine LWP.exit <| LWP.seq <| LWP.region (by kernel_rfl) <| kas rfl <| RunK.nil <| LWP.ret ?_)
    exact ⟨[_], ⟨rfl, trivial⟩, rfl⟩
abbrev chB (k : Nat) (l : List Ch) (r : Bool) : Nat × Option Box := (k, some ⟨41, (chV l).map .val, r⟩)
abbrev cmSt (a b : Cp) (ad bd : Option Addr) (ac bc_ : Nat) (k : Int) (l : List Ch) (r : Bool) (more : List (Nat × LV)) (Y : Nat → Option Obj) : St := ⟨(2, Ln .i64 k) :: (3, Lp 3) :: (4, Lp 4) :: (7, .sv (.one (.slc 500 0 l.length 3))) :: (16, Ln .i64 k) :: more, [chB 500 l r, cpB 3 a ad ac, cpB 4 b bd bc_], Y⟩
end Go.Proofs.YtfcaebhofjjjnaaDoor
end
section
namespace Go.Proofs.YtfcaebhofjjjnaaDoor
open Go Go.Lg Go.Lg.Fld
set_option maxRecDepth 100000
variable (X : Nat → Option Obj)
theorem rComp3 (a b : Cp) (ad bd : Option Addr) (ac bc_ : Nat) : MSpec Tryd.prog X 24 [Cx a ad ac, Cx b bd bc_, Ln .i64 3] [] (.sv (.one (.slc 1000001 0 (rowD a b 3).length 3))) [chB 1000001 (rowD a b 3) true] := by
  refine MSpec.intro Tryd.func24 rfl (by kernel_rfl) rfl rfl (by exact (by repeat' (first | refine all_cons_true ?_ ?_ | rfl | exact bytes_inUse | exact vals_inUse | exact mid_inUse rfl))) rfl rfl ?_
  intro C
  have hrl : ∀ l : List Ch, ((chV l).map CV.val).length = l.length * 3 := fun l => by rw [List.length_map, chV_len]
  have hnc : ∀ (l : List Ch) (k c : Int) (nm : List UInt8), (chV l).map CV.val ++ [.val (.int .i64 k), .val (.int .i64 c), .val (.string ⟨nm.toArray⟩)] = (chV (l ++ [Ch.mk k c nm])).map CV.val := fun l k c nm => by rw [chV_app, List.map_append]; rfl
  have hnl : ∀ (l : List Ch) (x : Ch), l.length + 1 = (l ++ [x]).length := fun l x => by rw [List.length_append]; rfl
  have hnc0 : ∀ (l : List Ch) (k c : Int), (chV l).map CV.val ++ [.val (.int .i64 k), .val (.int .i64 c), .val (.string ⟨#[]⟩)] = (chV (l ++ [Ch.mk k c []])).map CV.val := fun l k c => hnc l k c []
  refine LWP.ends ?_
  by_cases hn : a.nm = b.nm
  · have e : rowD a b 3 = [] := by simp only [rowD]; rw [if_pos hn]
    rw [e]
    have hne : (!(a.nm == b.nm)) = false := by rw [hn]; simp
    (refine LWP.seq <| LWP.region (by kernel_rfl) <| K.box rfl rfl rfl .plain <| K.box rfl rfl rfl .plain <| kas rfl <| RunK.nil <| LWP.seq <| LWP.region (by kernel_rfl) <| K.buildSlc (zs := []) (sz := 3) (e := 41) (by kernel_rfl) rfl rfl rfl rfl rfl rfl .plain <| kas rfl <| RunK.nil <| LWP.seq <| LWP.seq <| LWP.region (by kernel_rfl) ?_; refine kmv rfl <| RunK.nil <| LWP.block <| LWP.seq <| LWP.region (by kernel_rfl) <| keq rfl rfl (r := true) rfl <| kas rfl <| RunK.nil <| LWP.condT rfl ?_; refine LWP.seq <| LWP.region (by kernel_rfl) <| kfa rfl rfl ?_; refine kl1 rfl rfl rfl <| kfa rfl rfl ?_; refine kl1 rfl rfl rfl <| K.strNe rfl rfl (strs_ne (r := false) hne) .plain <| RunK.nil <| LWP.condF rfl ?_; refine LWP.skip ?_; refine LWP.seq <| LWP.region (by kernel_rfl) <| kmv rfl <| kas rfl <| RunK.nil <| LWP.ret ?_)
    refine Leads.le (σ' := ⟨[(6, .sv (.one (.slc 500 0 (([] : List Ch)).length 3)))], [(500, some ⟨41, (chV (([] : List Ch))).map .val, false⟩)], X⟩) (Le.ofR [(500, 15)] (by exact ⟨rfl, trivial⟩) (by repeat' (first | exact trivial | refine And.intro ⟨_, rfl, ?_⟩ ?_ | refine And.intro ⟨_, rfl⟩ ?_ | rfl | exact Box.ren_bytes _ _ _ _ | exact Box.ren_vals _ _ _ _ | exact Box.ren_mid rfl)) (by exact rfl) (by exact rfl) (by repeat' (first | refine all_cons_true ?_ ?_ | rfl | exact bytes_inUse | exact vals_inUse | exact mid_inUse rfl)) (by exact rfl) (by exact rfl)) ?_
    refine Leads.le Le.loose (Leads.done ?_)
    exact ⟨[(1000001, 500)], ⟨[_], ⟨rfl, trivial⟩, rfl⟩, (by repeat' (first | exact trivial | refine And.intro ⟨_, rfl, ?_⟩ ?_ | refine And.intro ⟨_, rfl⟩ ?_ | rfl | exact Box.ren_bytes _ _ _ _ | exact Box.ren_vals _ _ _ _ | exact Box.ren_mid rfl)), rfl, rfl⟩
  · have e : rowD a b 3 = [⟨3, a.id, []⟩] := by simp only [rowD]; rw [if_neg hn]
    rw [e]
    have hne : (!(a.nm == b.nm)) = true := by simp [hn]
    (refine LWP.seq <| LWP.region (by kernel_rfl) <| K.box rfl rfl rfl .plain <| K.box rfl rfl rfl .plain <| kas rfl <| RunK.nil <| LWP.seq <| LWP.region (by kernel_rfl) <| K.buildSlc (zs := []) (sz := 3) (e := 41) (by kernel_rfl) rfl rfl rfl rfl rfl rfl .plain <| kas rfl <| RunK.nil <| LWP.seq <| LWP.seq <| LWP.region (by kernel_rfl) ?_; refine kmv rfl <| RunK.nil <| LWP.block <| LWP.seq <| LWP.region (by kernel_rfl) <| keq rfl rfl (r := true) rfl <| kas rfl <| RunK.nil <| LWP.condT rfl ?_; refine LWP.seq <| LWP.region (by kernel_rfl) <| kfa rfl rfl ?_; refine kl1 rfl rfl rfl <| kfa rfl rfl ?_; refine kl1 rfl rfl rfl <| K.strNe rfl rfl (strs_ne (r := true) hne) .plain <| RunK.nil <| LWP.condT rfl ?_; refine LWP.region (by kernel_rfl) <| kmv rfl <| kfa rfl rfl ?_; refine kl1 rfl rfl rfl <| K.build rfl rfl (by exact rfl) (by exact nl3 rfl rfl rfl rfl) .plain ?_; refine K.buildSlc (zs := [.int .i64 0, .int .i64 0, .string ⟨#[]⟩]) (sz := 3) (e := 41) (cs' := [.val (.int .i64 3), .val (.int .i64 a.id), .val (.string ⟨#[]⟩)]) (by kernel_rfl) rfl rfl rfl rfl rfl rfl .plain <| K.appendSlc (by_ := 32) (e2 := 41) (l2 := [.val (.int .i64 3), .val (.int .i64 a.id), .val (.string ⟨#[]⟩)]) (nl := (([] : List Ch) ++ [Ch.mk 3 a.id []]).length) (nc := (chV (([] : List Ch) ++ [Ch.mk 3 a.id []])).map .val) rfl rfl (hrl ([] : List Ch)) rfl rfl (Nat.le_refl _) rfl rfl (by kernel_rfl) (by kernel_rfl) (by simp) (by simp) rfl (rfl) (hnc0 ([] : List Ch) 3 a.id) .plain <| kas rfl <| RunK.nil <| LWP.seq <| LWP.region (by kernel_rfl) <| kmv rfl <| kas rfl <| RunK.nil <| LWP.ret ?_)
    refine Leads.le (σ' := ⟨[(6, .sv (.one (.slc 500 0 (([⟨3, a.id, []⟩] : List Ch)).length 3)))], [(500, some ⟨41, (chV (([⟨3, a.id, []⟩] : List Ch))).map .val, true⟩)], X⟩) (Le.ofR [(500, 29)] (by exact ⟨rfl, trivial⟩) (by repeat' (first | exact trivial | refine And.intro ⟨_, rfl, ?_⟩ ?_ | refine And.intro ⟨_, rfl⟩ ?_ | rfl | exact Box.ren_bytes _ _ _ _ | exact Box.ren_vals _ _ _ _ | exact Box.ren_mid rfl)) (by exact rfl) (by exact rfl) (by repeat' (first | refine all_cons_true ?_ ?_ | rfl | exact bytes_inUse | exact vals_inUse | exact mid_inUse rfl)) (by exact rfl) (by exact rfl)) ?_
    refine Leads.le Le.loose (Leads.done ?_)
    exact ⟨[(1000001, 500)], ⟨[_], ⟨rfl, trivial⟩, rfl⟩, (by repeat' (first | exact trivial | refine And.intro ⟨_, rfl, ?_⟩ ?_ | refine And.intro ⟨_, rfl⟩ ?_ | rfl | exact Box.ren_bytes _ _ _ _ | exact Box.ren_vals _ _ _ _ | exact Box.ren_mid rfl)), rfl, rfl⟩
set_option maxHeartbeats 1600000 in
theorem rComp4 (a b : Cp) (ad bd : Option Addr) (ac bc_ : Nat) (hA : FieldsIn X ad a.fs) (hB : FieldsIn X bd b.fs) (hla : a.fs.length ≤ 12) (hlb : b.fs.length ≤ 12) : MSpec Tryd.prog X 24 [Cx a ad ac, Cx b bd bc_, Ln .i64 4] [] (.sv (.one (.slc 1000001 0 (rowD a b 4).length 3))) [chB 1000001 (rowD a b 4) true] := by
  refine MSpec.intro Tryd.func24 rfl (by kernel_rfl) rfl rfl (by exact (by repeat' (first | refine all_cons_true ?_ ?_ | rfl | exact bytes_inUse | exact vals_inUse | exact mid_inUse rfl))) rfl rfl ?_
  intro C
  have hrl : ∀ l : List Ch, ((chV l).map CV.val).length = l.length * 3 := fun l => by rw [List.length_map, chV_len]
  have hnc : ∀ (l : List Ch) (k c : Int) (nm : List UInt8), (chV l).map CV.val ++ [.val (.int .i64 k), .val (.int .i64 c), .val (.string ⟨nm.toArray⟩)] = (chV (l ++ [Ch.mk k c nm])).map CV.val := fun l k c nm => by rw [chV_app, List.map_append]; rfl
  have hnl : ∀ (l : List Ch) (x : Ch), l.length + 1 = (l ++ [x]).length := fun l x => by rw [List.length_append]; rfl
  have hnc0 : ∀ (l : List Ch) (k c : Int), (chV l).map CV.val ++ [.val (.int .i64 k), .val (.int .i64 c), .val (.string ⟨#[]⟩)] = (chV (l ++ [Ch.mk k c []])).map CV.val := fun l k c => hnc l k c []
  refine LWP.ends ?_
  have e : rowD a b 4 = (a.fs.filter (drpF b.fs)).map fun f => ⟨4, a.id, f.nm⟩ := by simp only [rowD]
  rw [e]
  (refine LWP.seq <| LWP.region (by kernel_rfl) <| K.box rfl rfl rfl .plain <| K.box rfl rfl rfl .plain <| kas rfl <| RunK.nil <| LWP.seq <| LWP.region (by kernel_rfl) <| K.buildSlc (zs := []) (sz := 3) (e := 41) (by kernel_rfl) rfl rfl rfl rfl rfl rfl .plain <| kas rfl <| RunK.nil <| LWP.seq <| LWP.seq <| LWP.region (by kernel_rfl) ?_; refine kmv rfl <| RunK.nil <| LWP.block <| LWP.seq <| LWP.region (by kernel_rfl) <| keq rfl rfl (r := false) rfl <| kas rfl <| RunK.nil <| LWP.condF rfl ?_; refine LWP.seq <| LWP.seq <| LWP.region (by kernel_rfl) <| keq rfl rfl (r := true) rfl <| kas rfl <| RunK.nil <| LWP.condT rfl ?_; refine LWP.skip ?_; refine LWP.condT rfl ?_; refine LWP.seq <| LWP.region (by kernel_rfl) <| kas rfl <| RunK.nil <| LWP.block ?_)
  refine LWP.loop (fun m σ => ∃ (i : Nat) (r : Bool), i ≤ a.fs.length ∧ m = a.fs.length - i ∧ σ = cmSt a b ad bd ac bc_ 4 (((a.fs.take i).filter (drpF b.fs)).map fun f => (⟨4, a.id, f.nm⟩ : Ch)) r [(8, Ln .i64 (i : Nat))] X) a.fs.length
    ⟨cmSt a b ad bd ac bc_ 4 [] false [(8, Ln .i64 (0 : Nat))] X, Le.ofR [(500, 15)] (by exact ⟨rfl, rfl, rfl, rfl, rfl, rfl, trivial⟩) (by repeat' (first | exact trivial | refine And.intro ⟨_, rfl, ?_⟩ ?_ | refine And.intro ⟨_, rfl⟩ ?_ | rfl | exact Box.ren_bytes _ _ _ _ | exact Box.ren_vals _ _ _ _ | exact Box.ren_mid rfl)) (by exact rfl) (by exact rfl) (by repeat' (first | refine all_cons_true ?_ ?_ | rfl | exact bytes_inUse | exact vals_inUse | exact mid_inUse rfl)) (by exact rfl) (by exact rfl), 0, false, by omega, by omega, rfl⟩ ?_
  rintro m σ ⟨i, r, hi, rfl, rfl⟩
  by_cases hlt : i < a.fs.length
  · obtain ⟨f, hf⟩ : ∃ f, a.fs[i]? = some f := ⟨_, List.getElem?_eq_getElem hlt⟩
    obtain ⟨fb, fo, farr, fel, ffr, had, hFX, hFc⟩ := hA.nm hf
    have hio : fo + Int.toNat (i : Int) * 3 = fo + i * 3 := by simp
    have hq := rField_spec X b bd bc_ f.nm hB (by omega)
    have hsn := filter_snoc hf (drpF b.fs) (fun f => (⟨4, a.id, f.nm⟩ : Ch))
    have hlm : (((a.fs.take i).filter (drpF b.fs)).map fun f => (⟨4, a.id, f.nm⟩ : Ch)).length ≤ 12 := by
      have h1 := List.length_filter_le (drpF b.fs) (a.fs.take i)
      rw [List.length_take] at h1
      rw [List.length_map]; omega
    subst had
    generalize hl : (((a.fs.take i).filter (drpF b.fs)).map fun f => (⟨4, a.id, f.nm⟩ : Ch)) = l at *
    by_cases hp : fldIx b.fs f.nm < 0
    · rw [show drpF b.fs f = true by unfold drpF; rw [decide_eq_true hp], if_pos rfl] at hsn
      (refine LWP.seq <| LWP.seq <| LWP.region (by kernel_rfl) <| kmv rfl <| kfa rfl rfl ?_; refine kl1 rfl rfl rfl <| K.lenX rfl SliceT.h rfl .plain ?_; refine klt rfl rfl (decide_eq_true (by omega)) <| RunK.nil <| LWP.condT rfl ?_; refine LWP.skip ?_; refine LWP.seq <| LWP.block <| LWP.seq <| LWP.draws mixed (by kernel_rfl) <| K.loadAll rfl rfl rfl .plain ?_; refine kfa rfl rfl ?_; refine kl1 rfl rfl rfl <| kmv rfl <| K.indexX rfl rfl SliceT.h (by omega) hio .plain <| K.fieldAddrX rfl rfl .plain ?_; refine K.loadX rfl hFX rfl hFc .plain <| kca rfl rfl hq <| kas rfl <| RunK.nil <| And.intro (by kernel_rfl) ?_; refine LWP.seq <| LWP.draws mixed (by kernel_rfl) <| kmv rfl <| keq rfl rfl (r := true) rfl <| kmv rfl <| gmv rfl rfl rfl <| K.lss rfl rfl (decide_eq_true hp) (.taken rfl rfl) ?_; refine kpt rfl rfl <| kmv rfl <| RunK.passed rfl rfl rfl <| RunK.passed rfl rfl rfl <| RunK.passed rfl rfl rfl <| RunK.passedU rfl rfl <| RunK.passedU rfl rfl <| RunK.passed rfl rfl rfl <| RunK.passed rfl rfl rfl <| RunK.passedU rfl rfl <| RunK.passedU rfl rfl <| RunK.passedU rfl rfl <| RunK.passedU rfl rfl <| RunK.passedU rfl rfl ?_; refine RunK.passedU rfl rfl <| RunK.passedU rfl rfl <| RunK.passedU rfl rfl <| RunK.passedU rfl rfl <| RunK.passedU rfl rfl <| RunK.passedU rfl rfl <| RunK.passed rfl rfl rfl <| kpt rfl rfl <| RunK.nil <| And.intro (by kernel_rfl) ?_; refine LWP.condT rfl ?_; refine LWP.draws mixed (by kernel_rfl) <| kmv rfl <| kmv rfl <| kfa rfl rfl ?_; refine kl1 rfl rfl rfl <| kfa rfl rfl ?_; refine kl1 rfl rfl rfl <| kmv rfl <| K.indexX rfl rfl SliceT.h (by omega) hio .plain <| K.fieldAddrX rfl rfl .plain ?_; refine K.loadX rfl hFX rfl hFc .plain <| K.build rfl rfl (by exact rfl) (by exact nl3 rfl rfl rfl rfl) .plain ?_; refine K.buildSlc (zs := [.int .i64 0, .int .i64 0, .string ⟨#[]⟩]) (sz := 3) (e := 41) (cs' := [.val (.int .i64 4), .val (.int .i64 a.id), .val (.string ⟨f.nm.toArray⟩)]) (by kernel_rfl) rfl rfl rfl rfl rfl rfl .plain <| K.appendSlc (by_ := 32) (e2 := 41) (l2 := [.val (.int .i64 4), .val (.int .i64 a.id), .val (.string ⟨f.nm.toArray⟩)]) (nl := (l ++ [Ch.mk 4 a.id f.nm]).length) (nc := (chV (l ++ [Ch.mk 4 a.id f.nm])).map .val) rfl rfl (hrl l) rfl rfl (Nat.le_refl _) rfl rfl (by kernel_rfl) (by kernel_rfl) (by omega) (by omega) rfl (hnl _ _) (hnc l 4 a.id f.nm) .plain <| kas rfl <| RunK.nil <| And.intro (by kernel_rfl) ?_; refine LWP.region (by kernel_rfl) <| kmv rfl <| kad rfl rfl (wrap_i64 (by omega)) <| kas rfl <| RunK.nil ?_)
      refine ⟨_, cmSt a b (some ⟨fb, fo, none⟩) bd ac bc_ 4 (l ++ [⟨4, a.id, f.nm⟩]) true [(8, Ln .i64 (i + 1 : Nat))] X, ?_, ?_, i + 1, true, by omega, rfl, by rw [hsn]⟩
      · omega
      · exact Le.ofR [(500, 87)] (by exact ⟨rfl, rfl, rfl, rfl, rfl, rfl, trivial⟩) (by repeat' (first | exact trivial | refine And.intro ⟨_, rfl, ?_⟩ ?_ | refine And.intro ⟨_, rfl⟩ ?_ | rfl | exact Box.ren_bytes _ _ _ _ | exact Box.ren_vals _ _ _ _ | exact Box.ren_mid rfl)) (by exact rfl) (by exact rfl) (by repeat' (first | refine all_cons_true ?_ ?_ | rfl | exact bytes_inUse | exact vals_inUse | exact mid_inUse rfl)) (by exact rfl) (by exact rfl)
    · rw [show drpF b.fs f = false by unfold drpF; rw [decide_eq_false hp], if_neg (by decide), List.append_nil] at hsn
      (refine LWP.seq <| LWP.seq <| LWP.region (by kernel_rfl) <| kmv rfl <| kfa rfl rfl ?_; refine kl1 rfl rfl rfl <| K.lenX rfl SliceT.h rfl .plain ?_; refine klt rfl rfl (decide_eq_true (by omega)) <| RunK.nil <| LWP.condT rfl ?_; refine LWP.skip ?_; refine LWP.seq <| LWP.block <| LWP.seq <| LWP.draws mixed (by kernel_rfl) <| K.loadAll rfl rfl rfl .plain ?_; refine kfa rfl rfl ?_; refine kl1 rfl rfl rfl <| kmv rfl <| K.indexX rfl rfl SliceT.h (by omega) hio .plain <| K.fieldAddrX rfl rfl .plain ?_; refine K.loadX rfl hFX rfl hFc .plain <| kca rfl rfl hq <| kas rfl <| RunK.nil <| And.intro (by kernel_rfl) ?_; refine LWP.seq <| LWP.draws mixed (by kernel_rfl) <| kmv rfl <| keq rfl rfl (r := true) rfl <| kmv rfl <| gmv rfl rfl rfl <| K.lss rfl rfl (decide_eq_false hp) (.taken rfl rfl) ?_; refine kpt rfl rfl <| kmv rfl <| gmv rfl rfl rfl <| K.eql rfl rfl (r := false) rfl (.taken rfl rfl) ?_; refine gmv rfl rfl rfl <| RunK.passed rfl rfl rfl <| RunK.passed rfl rfl rfl <| K.pickF rfl rfl (.taken rfl rfl) ?_; refine gmv rfl rfl rfl <| RunK.passed rfl rfl rfl <| RunK.passed rfl rfl rfl <| RunK.passed rfl rfl rfl <| RunK.passed rfl rfl rfl <| RunK.passed rfl rfl rfl <| RunK.passed rfl rfl rfl <| RunK.passed rfl rfl rfl <| RunK.passed rfl rfl rfl <| RunK.passed rfl rfl rfl <| RunK.passed rfl rfl rfl <| RunK.passed rfl rfl rfl <| K.pickF rfl rfl (.taken rfl rfl) ?_; refine kpf rfl rfl <| RunK.nil <| And.intro (by kernel_rfl) ?_; refine LWP.condF rfl ?_; refine LWP.skip ?_; refine LWP.region (by kernel_rfl) <| kmv rfl <| kad rfl rfl (wrap_i64 (by omega)) <| kas rfl <| RunK.nil ?_)
      exact ⟨_, cmSt a b (some ⟨fb, fo, none⟩) bd ac bc_ 4 l r [(8, Ln .i64 (i + 1 : Nat))] X, by omega, Le.of (by exact ⟨rfl, rfl, rfl, rfl, rfl, rfl, trivial⟩) (by exact ⟨rfl, rfl, rfl, trivial⟩) (by exact rfl) (by exact rfl) (by repeat' (first | refine all_cons_true ?_ ?_ | rfl | exact bytes_inUse | exact vals_inUse | exact mid_inUse rfl)), i + 1, r, by omega, rfl, by rw [hsn]⟩
  · have e : i = a.fs.length := by omega
    subst e
    rw [List.take_length]
    (refine LWP.seq <| LWP.seq <| LWP.region (by kernel_rfl) <| kmv rfl <| kfa rfl rfl ?_; refine kl1 rfl rfl rfl <| K.lenX rfl SliceT.h rfl .plain ?_; refine klt rfl rfl (decide_eq_false (by omega)) <| RunK.nil <| LWP.condF rfl ?_; refine LWP.exit <| LWP.seq <| LWP.region (by kernel_rfl) <| kmv rfl <| kas rfl <| RunK.nil <| LWP.ret ?_)
    refine Leads.le (σ' := ⟨[(6, .sv (.one (.slc 500 0 ((a.fs.filter (drpF b.fs)).map fun f => (⟨4, a.id, f.nm⟩ : Ch)).length 3)))], [(500, some ⟨41, (chV ((a.fs.filter (drpF b.fs)).map fun f => (⟨4, a.id, f.nm⟩ : Ch))).map .val, r⟩)], X⟩) (Le.ofR [(500, 500)] (by exact ⟨rfl, trivial⟩) (by repeat' (first | exact trivial | refine And.intro ⟨_, rfl, ?_⟩ ?_ | refine And.intro ⟨_, rfl⟩ ?_ | rfl | exact Box.ren_bytes _ _ _ _ | exact Box.ren_vals _ _ _ _ | exact Box.ren_mid rfl)) (by exact rfl) (by exact rfl) (by repeat' (first | refine all_cons_true ?_ ?_ | rfl | exact bytes_inUse | exact vals_inUse | exact mid_inUse rfl)) (by exact rfl) (by exact rfl)) ?_
    refine Leads.le Le.loose (Leads.done ?_)
    exact ⟨[(1000001, 500)], ⟨[_], ⟨rfl, trivial⟩, rfl⟩, (by repeat' (first | exact trivial | refine And.intro ⟨_, rfl, ?_⟩ ?_ | refine And.intro ⟨_, rfl⟩ ?_ | rfl | exact Box.ren_bytes _ _ _ _ | exact Box.ren_vals _ _ _ _ | exact Box.ren_mid rfl)), rfl, rfl⟩
set_option maxHeartbeats 1600000 in
theorem rComp6 (a b : Cp) (ad bd : Option Addr) (ac bc_ : Nat) (hA : FieldsIn X ad a.fs) (hB : FieldsIn X bd b.fs) (hla : a.fs.length ≤ 12) (hlb : b.fs.length ≤ 12) : MSpec Tryd.prog X 24 [Cx a ad ac, Cx b bd bc_, Ln .i64 6] [] (.sv (.one (.slc 1000001 0 (rowD a b 6).length 3))) [chB 1000001 (rowD a b 6) true] := by
  refine MSpec.intro Tryd.func24 rfl (by kernel_rfl) rfl rfl (by exact (by repeat' (first | refine all_cons_true ?_ ?_ | rfl | exact bytes_inUse | exact vals_inUse | exact mid_inUse rfl))) rfl rfl ?_
  intro C
  have hrl : ∀ l : List Ch, ((chV l).map CV.val).length = l.length * 3 := fun l => by rw [List.length_map, chV_len]
  have hnc : ∀ (l : List Ch) (k c : Int) (nm : List UInt8), (chV l).map CV.val ++ [.val (.int .i64 k), .val (.int .i64 c), .val (.string ⟨nm.toArray⟩)] = (chV (l ++ [Ch.mk k c nm])).map CV.val := fun l k c nm => by rw [chV_app, List.map_append]; rfl
  have hnl : ∀ (l : List Ch) (x : Ch), l.length + 1 = (l ++ [x]).length := fun l x => by rw [List.length_append]; rfl
  have hnc0 : ∀ (l : List Ch) (k c : Int), (chV l).map CV.val ++ [.val (.int .i64 k), .val (.int .i64 c), .val (.string ⟨#[]⟩)] = (chV (l ++ [Ch.mk k c []])).map CV.val := fun l k c => hnc l k c []
  refine LWP.ends ?_
  have e : rowD a b 6 = (a.fs.filter (retF b.fs)).map fun f => ⟨6, a.id, f.nm⟩ := by simp only [rowD]
  rw [e]
  (refine LWP.seq <| LWP.region (by kernel_rfl) <| K.box rfl rfl rfl .plain <| K.box rfl rfl rfl .plain <| kas rfl <| RunK.nil <| LWP.seq <| LWP.region (by kernel_rfl) <| K.buildSlc (zs := []) (sz := 3) (e := 41) (by kernel_rfl) rfl rfl rfl rfl rfl rfl .plain <| kas rfl <| RunK.nil <| LWP.seq <| LWP.seq <| LWP.region (by kernel_rfl) ?_; refine kmv rfl <| RunK.nil <| LWP.block <| LWP.seq <| LWP.region (by kernel_rfl) <| keq rfl rfl (r := false) rfl <| kas rfl <| RunK.nil <| LWP.condF rfl ?_; refine LWP.seq <| LWP.seq <| LWP.region (by kernel_rfl) <| keq rfl rfl (r := false) rfl <| kas rfl <| RunK.nil <| LWP.condF rfl ?_; refine LWP.region (by kernel_rfl) <| keq rfl rfl (r := true) rfl <| kas rfl <| RunK.nil <| LWP.condT rfl ?_; refine LWP.seq <| LWP.region (by kernel_rfl) <| kas rfl <| RunK.nil <| LWP.block ?_)
  refine LWP.loop (fun m σ => ∃ (i : Nat) (r : Bool), i ≤ a.fs.length ∧ m = a.fs.length - i ∧ σ = cmSt a b ad bd ac bc_ 6 (((a.fs.take i).filter (retF b.fs)).map fun f => (⟨6, a.id, f.nm⟩ : Ch)) r [(8, Ln .i64 (i : Nat))] X) a.fs.length
    ⟨cmSt a b ad bd ac bc_ 6 [] false [(8, Ln .i64 (0 : Nat))] X, Le.ofR [(500, 15)] (by exact ⟨rfl, rfl, rfl, rfl, rfl, rfl, trivial⟩) (by repeat' (first | exact trivial | refine And.intro ⟨_, rfl, ?_⟩ ?_ | refine And.intro ⟨_, rfl⟩ ?_ | rfl | exact Box.ren_bytes _ _ _ _ | exact Box.ren_vals _ _ _ _ | exact Box.ren_mid rfl)) (by exact rfl) (by exact rfl) (by repeat' (first | refine all_cons_true ?_ ?_ | rfl | exact bytes_inUse | exact vals_inUse | exact mid_inUse rfl)) (by exact rfl) (by exact rfl), 0, false, by omega, by omega, rfl⟩ ?_
  rintro m σ ⟨i, r, hi, rfl, rfl⟩
  by_cases hlt : i < a.fs.length
  · obtain ⟨f, hf⟩ : ∃ f, a.fs[i]? = some f := ⟨_, List.getElem?_eq_getElem hlt⟩
    obtain ⟨fb, fo, farr, fel, ffr, had, hFX, hFc⟩ := hA.nm hf
    have hio : fo + Int.toNat (i : Int) * 3 = fo + i * 3 := by simp
    have hq := rField_spec X b bd bc_ f.nm hB (by omega)
    have hsn := filter_snoc hf (retF b.fs) (fun f => (⟨6, a.id, f.nm⟩ : Ch))
    have hlm : (((a.fs.take i).filter (retF b.fs)).map fun f => (⟨6, a.id, f.nm⟩ : Ch)).length ≤ 12 := by
      have h1 := List.length_filter_le (retF b.fs) (a.fs.take i)
      rw [List.length_take] at h1
      rw [List.length_map]; omega
    subst had
    obtain ⟨_, _, _, _, _, e0, hX0, hz0, hc0⟩ := hA.at hf
    simp only [Option.some.injEq, Addr.mk.injEq] at e0
    obtain ⟨rfl, rfl, _⟩ := e0
    rw [hFX] at hX0
    simp only [Option.some.injEq, Obj.cells.injEq] at hX0
    obtain ⟨rfl, rfl, rfl⟩ := hX0
    generalize hl : (((a.fs.take i).filter (retF b.fs)).map fun f => (⟨6, a.id, f.nm⟩ : Ch)) = l at *
    by_cases hp : fldIx b.fs f.nm < 0
    · rw [show retF b.fs f = false by unfold retF; rw [(fldIx_none hp).2.1], if_neg (by decide), List.append_nil] at hsn
      (refine LWP.seq <| LWP.seq <| LWP.region (by kernel_rfl) <| kmv rfl <| kfa rfl rfl ?_; refine kl1 rfl rfl rfl <| K.lenX rfl SliceT.h rfl .plain ?_; refine klt rfl rfl (decide_eq_true (by omega)) <| RunK.nil <| LWP.condT rfl ?_; refine LWP.skip ?_; refine LWP.seq <| LWP.block <| LWP.seq <| LWP.draws mixed (by kernel_rfl) <| K.loadAll rfl rfl rfl .plain ?_; refine kfa rfl rfl ?_; refine kl1 rfl rfl rfl <| kmv rfl <| K.indexX rfl rfl SliceT.h (by omega) hio .plain <| K.fieldAddrX rfl rfl .plain ?_; refine K.loadX rfl hFX rfl hFc .plain <| kca rfl rfl hq <| kas rfl <| RunK.nil <| And.intro (by kernel_rfl) ?_; refine LWP.seq <| LWP.draws mixed (by kernel_rfl) <| kmv rfl <| keq rfl rfl (r := false) rfl <| kmv rfl <| RunK.passed rfl rfl rfl <| RunK.passed rfl rfl rfl <| kpf rfl rfl <| kmv rfl <| gmv rfl rfl rfl <| K.eql rfl rfl (r := true) rfl (.taken rfl rfl) ?_; refine gmv rfl rfl rfl <| gmv rfl rfl rfl <| K.geq rfl rfl (decide_eq_false (by omega)) (.taken rfl rfl) ?_; refine K.pickT rfl rfl (.taken rfl rfl) ?_; refine gmv rfl rfl rfl <| RunK.passed rfl rfl rfl <| RunK.passed rfl rfl rfl <| RunK.passed rfl rfl rfl <| RunK.passed rfl rfl rfl <| RunK.passed rfl rfl rfl <| RunK.passed rfl rfl rfl <| RunK.passed rfl rfl rfl <| RunK.passed rfl rfl rfl <| RunK.passed rfl rfl rfl <| RunK.passed rfl rfl rfl <| RunK.passed rfl rfl rfl <| K.pickF rfl rfl (.taken rfl rfl) ?_; refine kpf rfl rfl <| RunK.nil <| And.intro (by kernel_rfl) ?_; refine LWP.condF rfl ?_; refine LWP.skip ?_; refine LWP.region (by kernel_rfl) <| kmv rfl <| kad rfl rfl (wrap_i64 (by omega)) <| kas rfl <| RunK.nil ?_)
      exact ⟨_, cmSt a b (some ⟨fb, fo, none⟩) bd ac bc_ 6 l r [(8, Ln .i64 (i + 1 : Nat))] X, by omega, Le.of (by exact ⟨rfl, rfl, rfl, rfl, rfl, rfl, trivial⟩) (by exact ⟨rfl, rfl, rfl, trivial⟩) (by exact rfl) (by exact rfl) (by repeat' (first | refine all_cons_true ?_ ?_ | rfl | exact bytes_inUse | exact vals_inUse | exact mid_inUse rfl)), i + 1, r, by omega, rfl, by rw [hsn]⟩
    · obtain ⟨q, g, hg, hgn, hqe, hga, _⟩ := fldIx_some (Int.not_lt.1 hp)
      have hret : retF b.fs f = decide (g ≠ f) := by unfold retF; rw [hga]
      have hql := (List.getElem?_eq_some_iff.1 hg).1
      obtain ⟨gb, go, garr, gel, gfr, hbd, hGX, hGz, hGc⟩ := hB.at hg
      subst hbd
      have hgo : go + Int.toNat (q : Int) * 3 = go + q * 3 := by simp
      rw [hqe] at hq
      by_cases hgf : g = f
      · rw [hret, decide_eq_false (fun h => h hgf), if_neg (by decide), List.append_nil] at hsn
        ((refine LWP.seq <| LWP.seq <| LWP.region (by kernel_rfl) <| kmv rfl <| kfa rfl rfl ?_; refine kl1 rfl rfl rfl <| K.lenX rfl SliceT.h rfl .plain ?_; refine klt rfl rfl (decide_eq_true (by omega)) <| RunK.nil <| LWP.condT rfl ?_; refine LWP.skip ?_; refine LWP.seq <| LWP.block <| LWP.seq <| LWP.draws mixed (by kernel_rfl) <| K.loadAll rfl rfl rfl .plain ?_; refine kfa rfl rfl ?_; refine kl1 rfl rfl rfl <| kmv rfl <| K.indexX rfl rfl SliceT.h (by omega) hio .plain <| K.fieldAddrX rfl rfl .plain ?_; refine K.loadX rfl hFX rfl hFc .plain <| kca rfl rfl hq <| kas rfl <| RunK.nil <| And.intro (by kernel_rfl) ?_; refine LWP.seq <| LWP.draws mixed (by kernel_rfl) <| kmv rfl <| keq rfl rfl (r := false) rfl <| kmv rfl <| RunK.passed rfl rfl rfl <| RunK.passed rfl rfl rfl <| kpf rfl rfl <| kmv rfl <| gmv rfl rfl rfl <| K.eql rfl rfl (r := true) rfl (.taken rfl rfl) ?_; refine gmv rfl rfl rfl <| gmv rfl rfl rfl <| K.geq rfl rfl (decide_eq_true (by omega)) (.taken rfl rfl) ?_; refine K.pickT rfl rfl (.taken rfl rfl) ?_; refine gmv rfl rfl rfl <| K.fieldAddr rfl rfl (.taken rfl rfl) ?_); (refine K.loadOne rfl rfl rfl (.taken rfl rfl) ?_; refine gmv rfl rfl rfl <| K.indexX rfl rfl SliceT.h (by omega) hgo (.taken rfl rfl) ?_; refine K.loadXagg rfl hGX (by kernel_rfl) hGz hGc (.taken rfl rfl) ?_; refine K.fieldAddr rfl rfl (.taken rfl rfl) ?_; refine K.loadOne rfl rfl rfl (.taken rfl rfl) ?_; refine gmv rfl rfl rfl <| K.indexX rfl rfl SliceT.h (by omega) hio (.taken rfl rfl) ?_; refine K.loadXagg rfl hFX (by kernel_rfl) hz0 hc0 (.taken rfl rfl) ?_; refine K.aggEq (us := g.vals) (vs := f.vals) rfl rfl rfl rfl (by kernel_rfl) (eqF g f true (decide_eq_true hgf)) (.inr ⟨rfl, rfl⟩) (.taken rfl rfl) ?_; refine K.pickT rfl rfl (.taken rfl rfl) ?_; refine kpf rfl rfl <| RunK.nil <| And.intro (by kernel_rfl) ?_; refine LWP.condF rfl ?_; refine LWP.skip ?_); (refine LWP.region (by kernel_rfl) <| kmv rfl <| kad rfl rfl (wrap_i64 (by omega)) <| kas rfl <| RunK.nil ?_))
        exact ⟨_, cmSt a b (some ⟨fb, fo, none⟩) (some ⟨gb, go, none⟩) ac bc_ 6 l r [(8, Ln .i64 (i + 1 : Nat))] X, by omega, Le.of (by exact ⟨rfl, rfl, rfl, rfl, rfl, rfl, trivial⟩) (by exact ⟨rfl, rfl, rfl, trivial⟩) (by exact rfl) (by exact rfl) (by repeat' (first | refine all_cons_true ?_ ?_ | rfl | exact bytes_inUse | exact vals_inUse | exact mid_inUse rfl)), i + 1, r, by omega, rfl, by rw [hsn]⟩
      · rw [hret, decide_eq_true hgf, if_pos rfl] at hsn
        ((refine LWP.seq <| LWP.seq <| LWP.region (by kernel_rfl) <| kmv rfl <| kfa rfl rfl ?_; refine kl1 rfl rfl rfl <| K.lenX rfl SliceT.h rfl .plain ?_; refine klt rfl rfl (decide_eq_true (by omega)) <| RunK.nil <| LWP.condT rfl ?_; refine LWP.skip ?_; refine LWP.seq <| LWP.block <| LWP.seq <| LWP.draws mixed (by kernel_rfl) <| K.loadAll rfl rfl rfl .plain ?_; refine kfa rfl rfl ?_; refine kl1 rfl rfl rfl <| kmv rfl <| K.indexX rfl rfl SliceT.h (by omega) hio .plain <| K.fieldAddrX rfl rfl .plain ?_; refine K.loadX rfl hFX rfl hFc .plain <| kca rfl rfl hq <| kas rfl <| RunK.nil <| And.intro (by kernel_rfl) ?_; refine LWP.seq <| LWP.draws mixed (by kernel_rfl) <| kmv rfl <| keq rfl rfl (r := false) rfl <| kmv rfl <| RunK.passed rfl rfl rfl <| RunK.passed rfl rfl rfl <| kpf rfl rfl <| kmv rfl <| gmv rfl rfl rfl <| K.eql rfl rfl (r := true) rfl (.taken rfl rfl) ?_; refine gmv rfl rfl rfl <| gmv rfl rfl rfl <| K.geq rfl rfl (decide_eq_true (by omega)) (.taken rfl rfl) ?_; refine K.pickT rfl rfl (.taken rfl rfl) ?_; refine gmv rfl rfl rfl <| K.fieldAddr rfl rfl (.taken rfl rfl) ?_); (refine K.loadOne rfl rfl rfl (.taken rfl rfl) ?_; refine gmv rfl rfl rfl <| K.indexX rfl rfl SliceT.h (by omega) hgo (.taken rfl rfl) ?_; refine K.loadXagg rfl hGX (by kernel_rfl) hGz hGc (.taken rfl rfl) ?_; refine K.fieldAddr rfl rfl (.taken rfl rfl) ?_; refine K.loadOne rfl rfl rfl (.taken rfl rfl) ?_; refine gmv rfl rfl rfl <| K.indexX rfl rfl SliceT.h (by omega) hio (.taken rfl rfl) ?_; refine K.loadXagg rfl hFX (by kernel_rfl) hz0 hc0 (.taken rfl rfl) ?_; refine K.aggEq (us := g.vals) (vs := f.vals) rfl rfl rfl rfl (by kernel_rfl) (eqF g f false (decide_eq_false hgf)) (.inr ⟨rfl, rfl⟩) (.taken rfl rfl) ?_; refine K.pickT rfl rfl (.taken rfl rfl) ?_; refine kpf rfl rfl <| RunK.nil <| And.intro (by kernel_rfl) ?_; refine LWP.condT rfl ?_; refine LWP.draws mixed (by kernel_rfl) <| kmv rfl <| kmv rfl <| kfa rfl rfl ?_); (refine kl1 rfl rfl rfl <| kfa rfl rfl ?_; refine kl1 rfl rfl rfl <| kmv rfl <| K.indexX rfl rfl SliceT.h (by omega) hio .plain <| K.fieldAddrX rfl rfl .plain ?_; refine K.loadX rfl hFX rfl hFc .plain <| K.build rfl rfl (by exact rfl) (by exact nl3 rfl rfl rfl rfl) .plain ?_; refine K.buildSlc (zs := [.int .i64 0, .int .i64 0, .string ⟨#[]⟩]) (sz := 3) (e := 41) (cs' := [.val (.int .i64 6), .val (.int .i64 a.id), .val (.string ⟨f.nm.toArray⟩)]) (by kernel_rfl) rfl rfl rfl rfl rfl rfl .plain <| K.appendSlc (by_ := 32) (e2 := 41) (l2 := [.val (.int .i64 6), .val (.int .i64 a.id), .val (.string ⟨f.nm.toArray⟩)]) (nl := (l ++ [Ch.mk 6 a.id f.nm]).length) (nc := (chV (l ++ [Ch.mk 6 a.id f.nm])).map .val) rfl rfl (hrl l) rfl rfl (Nat.le_refl _) rfl rfl (by kernel_rfl) (by kernel_rfl) (by omega) (by omega) rfl (hnl _ _) (hnc l 6 a.id f.nm) .plain <| kas rfl <| RunK.nil <| And.intro (by kernel_rfl) ?_; refine LWP.region (by kernel_rfl) <| kmv rfl <| kad rfl rfl (wrap_i64 (by omega)) <| kas rfl <| RunK.nil ?_))
        refine ⟨_, cmSt a b (some ⟨fb, fo, none⟩) (some ⟨gb, go, none⟩) ac bc_ 6 (l ++ [⟨6, a.id, f.nm⟩]) true [(8, Ln .i64 (i + 1 : Nat))] X, ?_, ?_, i + 1, true, by omega, rfl, by rw [hsn]⟩
        · omega
        · exact Le.ofR [(500, 87)] (by exact ⟨rfl, rfl, rfl, rfl, rfl, rfl, trivial⟩) (by repeat' (first | exact trivial | refine And.intro ⟨_, rfl, ?_⟩ ?_ | refine And.intro ⟨_, rfl⟩ ?_ | rfl | exact Box.ren_bytes _ _ _ _ | exact Box.ren_vals _ _ _ _ | exact Box.ren_mid rfl)) (by exact rfl) (by exact rfl) (by repeat' (first | refine all_cons_true ?_ ?_ | rfl | exact bytes_inUse | exact vals_inUse | exact mid_inUse rfl)) (by exact rfl) (by exact rfl)
  · have e : i = a.fs.length := by omega
    subst e
    rw [List.take_length]
    (refine LWP.seq <| LWP.seq <| LWP.region (by kernel_rfl) <| kmv rfl <| kfa rfl rfl ?_; refine kl1 rfl rfl rfl <| K.lenX rfl SliceT.h rfl .plain ?_; refine klt rfl rfl (decide_eq_false (by omega)) <| RunK.nil <| LWP.condF rfl ?_; refine LWP.exit <| LWP.seq <| LWP.region (by kernel_rfl) <| kmv rfl <| kas rfl <| RunK.nil <| LWP.ret ?_)
    refine Leads.le (σ' := ⟨[(6, .sv (.one (.slc 500 0 ((a.fs.filter (retF b.fs)).map fun f => (⟨6, a.id, f.nm⟩ : Ch)).length 3)))], [(500, some ⟨41, (chV ((a.fs.filter (retF b.fs)).map fun f => (⟨6, a.id, f.nm⟩ : Ch))).map .val, r⟩)], X⟩) (Le.ofR [(500, 500)] (by exact ⟨rfl, trivial⟩) (by repeat' (first | exact trivial | refine And.intro ⟨_, rfl, ?_⟩ ?_ | refine And.intro ⟨_, rfl⟩ ?_ | rfl | exact Box.ren_bytes _ _ _ _ | exact Box.ren_vals _ _ _ _ | exact Box.ren_mid rfl)) (by exact rfl) (by exact rfl) (by repeat' (first | refine all_cons_true ?_ ?_ | rfl | exact bytes_inUse | exact vals_inUse | exact mid_inUse rfl)) (by exact rfl) (by exact rfl)) ?_
    refine Leads.le Le.loose (Leads.done ?_)
    exact ⟨[(1000001, 500)], ⟨[_], ⟨rfl, trivial⟩, rfl⟩, (by repeat' (first | exact trivial | refine And.intro ⟨_, rfl, ?_⟩ ?_ | refine And.intro ⟨_, rfl⟩ ?_ | rfl | exact Box.ren_bytes _ _ _ _ | exact Box.ren_vals _ _ _ _ | exact Box.ren_mid rfl)), rfl, rfl⟩
set_option maxHeartbeats 1600000 in
theorem rComp5 (a b : Cp) (ad bd : Option Addr) (ac bc_ : Nat) (hA : FieldsIn X ad a.fs) (hB : FieldsIn X bd b.fs) (hla : a.fs.length ≤ 12) (hlb : b.fs.length ≤ 12) : MSpec Tryd.prog X 24 [Cx a ad ac, Cx b bd bc_, Ln .i64 5] [] (.sv (.one (.slc 1000001 0 (rowD a b 5).length 3))) [chB 1000001 (rowD a b 5) true] := by
  refine MSpec.intro Tryd.func24 rfl (by kernel_rfl) rfl rfl (by exact (by repeat' (first | refine all_cons_true ?_ ?_ | rfl | exact bytes_inUse | exact vals_inUse | exact mid_inUse rfl))) rfl rfl ?_
  intro C
  have hrl : ∀ l : List Ch, ((chV l).map CV.val).length = l.length * 3 := fun l => by rw [List.length_map, chV_len]
  have hnc : ∀ (l : List Ch) (k c : Int) (nm : List UInt8), (chV l).map CV.val ++ [.val (.int .i64 k), .val (.int .i64 c), .val (.string ⟨nm.toArray⟩)] = (chV (l ++ [Ch.mk k c nm])).map CV.val := fun l k c nm => by rw [chV_app, List.map_append]; rfl
  have hnl : ∀ (l : List Ch) (x : Ch), l.length + 1 = (l ++ [x]).length := fun l x => by rw [List.length_append]; rfl
  have hnc0 : ∀ (l : List Ch) (k c : Int), (chV l).map CV.val ++ [.val (.int .i64 k), .val (.int .i64 c), .val (.string ⟨#[]⟩)] = (chV (l ++ [Ch.mk k c []])).map CV.val := fun l k c => hnc l k c []
  refine LWP.ends ?_
  have e : rowD a b 5 = (b.fs.filter (drpF a.fs)).map fun f => ⟨5, a.id, f.nm⟩ := by simp only [rowD]
  rw [e]
  (refine LWP.seq <| LWP.region (by kernel_rfl) <| K.box rfl rfl rfl .plain <| K.box rfl rfl rfl .plain <| kas rfl <| RunK.nil <| LWP.seq <| LWP.region (by kernel_rfl) <| K.buildSlc (zs := []) (sz := 3) (e := 41) (by kernel_rfl) rfl rfl rfl rfl rfl rfl .plain <| kas rfl <| RunK.nil <| LWP.seq <| LWP.seq <| LWP.region (by kernel_rfl) ?_; refine kmv rfl <| RunK.nil <| LWP.block <| LWP.seq <| LWP.region (by kernel_rfl) <| keq rfl rfl (r := false) rfl <| kas rfl <| RunK.nil <| LWP.condF rfl ?_; refine LWP.seq <| LWP.seq <| LWP.region (by kernel_rfl) <| keq rfl rfl (r := false) rfl <| kas rfl <| RunK.nil <| LWP.condF rfl ?_; refine LWP.region (by kernel_rfl) <| keq rfl rfl (r := false) rfl <| kas rfl <| RunK.nil <| LWP.condF rfl ?_; refine LWP.seq <| LWP.region (by kernel_rfl) <| keq rfl rfl (r := true) rfl <| kas rfl <| RunK.nil <| LWP.condT rfl ?_; refine LWP.seq <| LWP.region (by kernel_rfl) <| kas rfl <| RunK.nil <| LWP.block ?_)
  refine LWP.loop (fun m σ => ∃ (i : Nat) (r : Bool), i ≤ b.fs.length ∧ m = b.fs.length - i ∧ σ = cmSt a b ad bd ac bc_ 5 (((b.fs.take i).filter (drpF a.fs)).map fun f => (⟨5, a.id, f.nm⟩ : Ch)) r [(10, Ln .i64 (i : Nat))] X) b.fs.length
    ⟨cmSt a b ad bd ac bc_ 5 [] false [(10, Ln .i64 (0 : Nat))] X, Le.ofR [(500, 15)] (by exact ⟨rfl, rfl, rfl, rfl, rfl, rfl, trivial⟩) (by repeat' (first | exact trivial | refine And.intro ⟨_, rfl, ?_⟩ ?_ | refine And.intro ⟨_, rfl⟩ ?_ | rfl | exact Box.ren_bytes _ _ _ _ | exact Box.ren_vals _ _ _ _ | exact Box.ren_mid rfl)) (by exact rfl) (by exact rfl) (by repeat' (first | refine all_cons_true ?_ ?_ | rfl | exact bytes_inUse | exact vals_inUse | exact mid_inUse rfl)) (by exact rfl) (by exact rfl), 0, false, by omega, by omega, rfl⟩ ?_
  rintro m σ ⟨i, r, hi, rfl, rfl⟩
  by_cases hlt : i < b.fs.length
  · obtain ⟨f, hf⟩ : ∃ f, b.fs[i]? = some f := ⟨_, List.getElem?_eq_getElem hlt⟩
    obtain ⟨fb, fo, farr, fel, ffr, had, hFX, hFc⟩ := hB.nm hf
    have hio : fo + Int.toNat (i : Int) * 3 = fo + i * 3 := by simp
    have hq := rField_spec X a ad ac f.nm hA (by omega)
    have hsn := filter_snoc hf (drpF a.fs) (fun f => (⟨5, a.id, f.nm⟩ : Ch))
    have hlm : (((b.fs.take i).filter (drpF a.fs)).map fun f => (⟨5, a.id, f.nm⟩ : Ch)).length ≤ 12 := by
      have h1 := List.length_filter_le (drpF a.fs) (b.fs.take i)
      rw [List.length_take] at h1
      rw [List.length_map]; omega
    subst had
    generalize hl : (((b.fs.take i).filter (drpF a.fs)).map fun f => (⟨5, a.id, f.nm⟩ : Ch)) = l at *
    by_cases hp : fldIx a.fs f.nm < 0
    · rw [show drpF a.fs f = true by unfold drpF; rw [decide_eq_true hp], if_pos rfl] at hsn
      (refine LWP.seq <| LWP.seq <| LWP.region (by kernel_rfl) <| kmv rfl <| kfa rfl rfl ?_; refine kl1 rfl rfl rfl <| K.lenX rfl SliceT.h rfl .plain ?_; refine klt rfl rfl (decide_eq_true (by omega)) <| RunK.nil <| LWP.condT rfl ?_; refine LWP.skip ?_; refine LWP.seq <| LWP.block <| LWP.seq <| LWP.draws mixed (by kernel_rfl) <| K.loadAll rfl rfl rfl .plain ?_; refine kfa rfl rfl ?_; refine kl1 rfl rfl rfl <| kmv rfl <| K.indexX rfl rfl SliceT.h (by omega) hio .plain <| K.fieldAddrX rfl rfl .plain ?_; refine K.loadX rfl hFX rfl hFc .plain <| kca rfl rfl hq <| klt rfl rfl (decide_eq_true hp) <| RunK.nil <| And.intro (by kernel_rfl) ?_; refine LWP.condT rfl ?_; refine LWP.draws mixed (by kernel_rfl) <| kmv rfl <| kfa rfl rfl ?_; refine kl1 rfl rfl rfl <| kfa rfl rfl ?_; refine kl1 rfl rfl rfl <| kmv rfl <| K.indexX rfl rfl SliceT.h (by omega) hio .plain <| K.fieldAddrX rfl rfl .plain ?_; refine K.loadX rfl hFX rfl hFc .plain <| K.build rfl rfl (by exact rfl) (by exact nl3 rfl rfl rfl rfl) .plain ?_; refine K.buildSlc (zs := [.int .i64 0, .int .i64 0, .string ⟨#[]⟩]) (sz := 3) (e := 41) (cs' := [.val (.int .i64 5), .val (.int .i64 a.id), .val (.string ⟨f.nm.toArray⟩)]) (by kernel_rfl) rfl rfl rfl rfl rfl rfl .plain <| K.appendSlc (by_ := 32) (e2 := 41) (l2 := [.val (.int .i64 5), .val (.int .i64 a.id), .val (.string ⟨f.nm.toArray⟩)]) (nl := (l ++ [Ch.mk 5 a.id f.nm]).length) (nc := (chV (l ++ [Ch.mk 5 a.id f.nm])).map .val) rfl rfl (hrl l) rfl rfl (Nat.le_refl _) rfl rfl (by kernel_rfl) (by kernel_rfl) (by omega) (by omega) rfl (hnl _ _) (hnc l 5 a.id f.nm) .plain <| kas rfl <| RunK.nil <| And.intro (by kernel_rfl) ?_; refine LWP.region (by kernel_rfl) <| kmv rfl <| kad rfl rfl (wrap_i64 (by omega)) <| kas rfl <| RunK.nil ?_)
      refine ⟨_, cmSt a b ad (some ⟨fb, fo, none⟩) ac bc_ 5 (l ++ [⟨5, a.id, f.nm⟩]) true [(10, Ln .i64 (i + 1 : Nat))] X, ?_, ?_, i + 1, true, by omega, rfl, by rw [hsn]⟩
      · omega
      · exact Le.ofR [(500, 117)] (by exact ⟨rfl, rfl, rfl, rfl, rfl, rfl, trivial⟩) (by repeat' (first | exact trivial | refine And.intro ⟨_, rfl, ?_⟩ ?_ | refine And.intro ⟨_, rfl⟩ ?_ | rfl | exact Box.ren_bytes _ _ _ _ | exact Box.ren_vals _ _ _ _ | exact Box.ren_mid rfl)) (by exact rfl) (by exact rfl) (by repeat' (first | refine all_cons_true ?_ ?_ | rfl | exact bytes_inUse | exact vals_inUse | exact mid_inUse rfl)) (by exact rfl) (by exact rfl)
    · rw [show drpF a.fs f = false by unfold drpF; rw [decide_eq_false hp], if_neg (by decide), List.append_nil] at hsn
      (refine LWP.seq <| LWP.seq <| LWP.region (by kernel_rfl) <| kmv rfl <| kfa rfl rfl ?_; refine kl1 rfl rfl rfl <| K.lenX rfl SliceT.h rfl .plain ?_; refine klt rfl rfl (decide_eq_true (by omega)) <| RunK.nil <| LWP.condT rfl ?_; refine LWP.skip ?_; refine LWP.seq <| LWP.block <| LWP.seq <| LWP.draws mixed (by kernel_rfl) <| K.loadAll rfl rfl rfl .plain ?_; refine kfa rfl rfl ?_; refine kl1 rfl rfl rfl <| kmv rfl <| K.indexX rfl rfl SliceT.h (by omega) hio .plain <| K.fieldAddrX rfl rfl .plain ?_; refine K.loadX rfl hFX rfl hFc .plain <| kca rfl rfl hq <| klt rfl rfl (decide_eq_false hp) <| RunK.nil <| And.intro (by kernel_rfl) ?_; refine LWP.condF rfl ?_; refine LWP.skip ?_; refine LWP.region (by kernel_rfl) <| kmv rfl <| kad rfl rfl (wrap_i64 (by omega)) <| kas rfl <| RunK.nil ?_)
      exact ⟨_, cmSt a b ad (some ⟨fb, fo, none⟩) ac bc_ 5 l r [(10, Ln .i64 (i + 1 : Nat))] X, by omega, Le.of (by exact ⟨rfl, rfl, rfl, rfl, rfl, rfl, trivial⟩) (by exact ⟨rfl, rfl, rfl, trivial⟩) (by exact rfl) (by exact rfl) (by repeat' (first | refine all_cons_true ?_ ?_ | rfl | exact bytes_inUse | exact vals_inUse | exact mid_inUse rfl)), i + 1, r, by omega, rfl, by rw [hsn]⟩
  · have e : i = b.fs.length := by omega
    subst e
    rw [List.take_length]
    (refine LWP.seq <| LWP.seq <| LWP.region (by kernel_rfl) <| kmv rfl <| kfa rfl rfl ?_; refine kl1 rfl rfl rfl <| K.lenX rfl SliceT.h rfl .plain ?_; refine klt rfl rfl (decide_eq_false (by omega)) <| RunK.nil <| LWP.condF rfl ?_; refine LWP.exit <| LWP.seq <| LWP.region (by kernel_rfl) <| kmv rfl <| kas rfl <| RunK.nil <| LWP.ret ?_)
    refine Leads.le (σ' := ⟨[(6, .sv (.one (.slc 500 0 ((b.fs.filter (drpF a.fs)).map fun f => (⟨5, a.id, f.nm⟩ : Ch)).length 3)))], [(500, some ⟨41, (chV ((b.fs.filter (drpF a.fs)).map fun f => (⟨5, a.id, f.nm⟩ : Ch))).map .val, r⟩)], X⟩) (Le.ofR [(500, 500)] (by exact ⟨rfl, trivial⟩) (by repeat' (first | exact trivial | refine And.intro ⟨_, rfl, ?_⟩ ?_ | refine And.intro ⟨_, rfl⟩ ?_ | rfl | exact Box.ren_bytes _ _ _ _ | exact Box.ren_vals _ _ _ _ | exact Box.ren_mid rfl)) (by exact rfl) (by exact rfl) (by repeat' (first | refine all_cons_true ?_ ?_ | rfl | exact bytes_inUse | exact vals_inUse | exact mid_inUse rfl)) (by exact rfl) (by exact rfl)) ?_
    refine Leads.le Le.loose (Leads.done ?_)
    exact ⟨[(1000001, 500)], ⟨[_], ⟨rfl, trivial⟩, rfl⟩, (by repeat' (first | exact trivial | refine And.intro ⟨_, rfl, ?_⟩ ?_ | refine And.intro ⟨_, rfl⟩ ?_ | rfl | exact Box.ren_bytes _ _ _ _ | exact Box.ren_vals _ _ _ _ | exact Box.ren_mid rfl)), rfl, rfl⟩
set_option maxHeartbeats 1600000 in
theorem rComp7 (a b : Cp) (ad bd : Option Addr) (ac bc_ : Nat) (hA : FieldsIn X ad a.fs) (hB : FieldsIn X bd b.fs) (hla : a.fs.length ≤ 12) (hlb : b.fs.length ≤ 12) : MSpec Tryd.prog X 24 [Cx a ad ac, Cx b bd bc_, Ln .i64 7] [] (.sv (.one (.slc 1000001 0 (rowD a b 7).length 3))) [chB 1000001 (rowD a b 7) true] := by
  refine MSpec.intro Tryd.func24 rfl (by kernel_rfl) rfl rfl (by exact (by repeat' (first | refine all_cons_true ?_ ?_ | rfl | exact bytes_inUse | exact vals_inUse | exact mid_inUse rfl))) rfl rfl ?_
  intro C
  have hrl : ∀ l : List Ch, ((chV l).map CV.val).length = l.length * 3 := fun l => by rw [List.length_map, chV_len]
  have hnc : ∀ (l : List Ch) (k c : Int) (nm : List UInt8), (chV l).map CV.val ++ [.val (.int .i64 k), .val (.int .i64 c), .val (.string ⟨nm.toArray⟩)] = (chV (l ++ [Ch.mk k c nm])).map CV.val := fun l k c nm => by rw [chV_app, List.map_append]; rfl
  have hnl : ∀ (l : List Ch) (x : Ch), l.length + 1 = (l ++ [x]).length := fun l x => by rw [List.length_append]; rfl
  have hnc0 : ∀ (l : List Ch) (k c : Int), (chV l).map CV.val ++ [.val (.int .i64 k), .val (.int .i64 c), .val (.string ⟨#[]⟩)] = (chV (l ++ [Ch.mk k c []])).map CV.val := fun l k c => hnc l k c []
  refine LWP.ends ?_
  (refine LWP.seq <| LWP.region (by kernel_rfl) <| K.box rfl rfl rfl .plain <| K.box rfl rfl rfl .plain <| kas rfl <| RunK.nil <| LWP.seq <| LWP.region (by kernel_rfl) <| K.buildSlc (zs := []) (sz := 3) (e := 41) (by kernel_rfl) rfl rfl rfl rfl rfl rfl .plain <| kas rfl <| RunK.nil <| LWP.seq <| LWP.seq <| LWP.region (by kernel_rfl) ?_; refine kmv rfl <| RunK.nil <| LWP.block <| LWP.seq <| LWP.region (by kernel_rfl) <| keq rfl rfl (r := false) rfl <| kas rfl <| RunK.nil <| LWP.condF rfl ?_; refine LWP.seq <| LWP.seq <| LWP.region (by kernel_rfl) <| keq rfl rfl (r := false) rfl <| kas rfl <| RunK.nil <| LWP.condF rfl ?_; refine LWP.region (by kernel_rfl) <| keq rfl rfl (r := false) rfl <| kas rfl <| RunK.nil <| LWP.condF rfl ?_; refine LWP.seq <| LWP.region (by kernel_rfl) <| keq rfl rfl (r := false) rfl <| kas rfl <| RunK.nil <| LWP.condF rfl ?_; refine LWP.seq <| LWP.region (by kernel_rfl) <| keq rfl rfl (r := true) rfl <| kas rfl <| RunK.nil <| LWP.condT rfl ?_; refine LWP.seq <| LWP.region (by kernel_rfl) <| kas rfl <| RunK.nil <| LWP.seq <| LWP.region (by kernel_rfl) <| kas rfl <| RunK.nil <| LWP.seq <| LWP.seq <| LWP.region (by kernel_rfl) <| kas rfl <| RunK.nil <| LWP.block ?_)
  refine LWP.loop (fun m σ => ∃ (i : Nat) (s : Int × Bool), i ≤ a.fs.length ∧ m = a.fs.length - i ∧ (a.fs.take i).foldl (movStep b.fs) (-1, false) = s ∧ -1 ≤ s.1 ∧ s.1 ≤ 12 ∧ σ = cmSt a b ad bd ac bc_ 7 [] false [(11, Ln .i64 s.1), (12, Lb s.2), (13, Ln .i64 (i : Nat))] X) a.fs.length
    ⟨cmSt a b ad bd ac bc_ 7 [] false [(11, Ln .i64 (-1)), (12, Lb false), (13, Ln .i64 (0 : Nat))] X, Le.ofR [(500, 15)] (by exact ⟨rfl, rfl, rfl, rfl, rfl, rfl, rfl, rfl, trivial⟩) (by repeat' (first | exact trivial | refine And.intro ⟨_, rfl, ?_⟩ ?_ | refine And.intro ⟨_, rfl⟩ ?_ | rfl | exact Box.ren_bytes _ _ _ _ | exact Box.ren_vals _ _ _ _ | exact Box.ren_mid rfl)) (by exact rfl) (by exact rfl) (by repeat' (first | refine all_cons_true ?_ ?_ | rfl | exact bytes_inUse | exact vals_inUse | exact mid_inUse rfl)) (by exact rfl) (by exact rfl), 0, (-1, false), by omega, by omega, rfl, by decide, by decide, rfl⟩ ?_
  rintro m σ ⟨i, s, hi, rfl, hs, hs1, hs2, rfl⟩
  by_cases hlt : i < a.fs.length
  · obtain ⟨f, hf⟩ : ∃ f, a.fs[i]? = some f := ⟨_, List.getElem?_eq_getElem hlt⟩
    obtain ⟨fb, fo, farr, fel, ffr, rfl, hFX, hFc⟩ := hA.nm hf
    have hio : fo + Int.toNat (i : Int) * 3 = fo + i * 3 := by simp
    have hq := rField_spec X b bd bc_ f.nm hB (by omega)
    have hsn : (a.fs.take (i + 1)).foldl (movStep b.fs) (-1, false) = movStep b.fs s f := by rw [take_snoc hf, List.foldl_append, hs]; rfl
    obtain ⟨last, mv⟩ := s
    simp only at hs1 hs2
    by_cases hp : 0 ≤ fldIx b.fs f.nm
    · have hst : movStep b.fs (last, mv) f = (fldIx b.fs f.nm, mv || decide (fldIx b.fs f.nm < last)) := by unfold movStep; rw [if_pos hp]
      have hq12 : fldIx b.fs f.nm ≤ 12 := by
        obtain ⟨q, g, hg, _, hqe, _, _⟩ := fldIx_some hp
        have := (List.getElem?_eq_some_iff.1 hg).1
        omega
      rw [hst] at hsn
      generalize fldIx b.fs f.nm = v at *
      cases mv with
      | true =>
        (refine LWP.seq <| LWP.seq <| LWP.region (by kernel_rfl) <| kmv rfl <| kfa rfl rfl ?_; refine kl1 rfl rfl rfl <| K.lenX rfl SliceT.h rfl .plain ?_; refine klt rfl rfl (decide_eq_true (by omega)) <| RunK.nil <| LWP.condT rfl ?_; refine LWP.skip ?_; refine LWP.seq <| LWP.block <| LWP.seq <| LWP.draws mixed (by kernel_rfl) <| K.loadAll rfl rfl rfl .plain ?_; refine kfa rfl rfl ?_; refine kl1 rfl rfl rfl <| kmv rfl <| K.indexX rfl rfl SliceT.h (by omega) hio .plain <| K.fieldAddrX rfl rfl .plain ?_; refine K.loadX rfl hFX rfl hFc .plain <| kca rfl rfl hq <| kas rfl <| RunK.nil <| And.intro (by kernel_rfl) ?_; refine LWP.seq <| LWP.region (by kernel_rfl) <| kmv rfl <| K.geq rfl rfl (decide_eq_true hp) .plain <| RunK.nil <| LWP.condT rfl ?_; refine LWP.seq <| LWP.region (by kernel_rfl) <| kmv rfl <| kmv rfl <| RunK.passed rfl rfl rfl <| RunK.passed rfl rfl rfl <| RunK.passed rfl rfl rfl <| kpt rfl rfl <| kas rfl <| RunK.nil <| LWP.region (by kernel_rfl) <| kmv rfl <| kas rfl <| RunK.nil ?_; refine LWP.region (by kernel_rfl) <| kmv rfl <| kad rfl rfl (wrap_i64 (by omega)) <| kas rfl <| RunK.nil ?_)
        exact ⟨_, cmSt a b (some ⟨fb, fo, none⟩) bd ac bc_ 7 [] false [(11, Ln .i64 v), (12, Lb true), (13, Ln .i64 (i + 1 : Nat))] X, by omega, Le.of (by exact ⟨rfl, rfl, rfl, rfl, rfl, rfl, rfl, rfl, trivial⟩) (by exact ⟨rfl, rfl, rfl, trivial⟩) (by exact rfl) (by exact rfl) (by repeat' (first | refine all_cons_true ?_ ?_ | rfl | exact bytes_inUse | exact vals_inUse | exact mid_inUse rfl)), i + 1, (v, true), by omega, rfl, hsn, by show -1 ≤ v; omega, hq12, rfl⟩
      | false =>
        (refine LWP.seq <| LWP.seq <| LWP.region (by kernel_rfl) <| kmv rfl <| kfa rfl rfl ?_; refine kl1 rfl rfl rfl <| K.lenX rfl SliceT.h rfl .plain ?_; refine klt rfl rfl (decide_eq_true (by omega)) <| RunK.nil <| LWP.condT rfl ?_; refine LWP.skip ?_; refine LWP.seq <| LWP.block <| LWP.seq <| LWP.draws mixed (by kernel_rfl) <| K.loadAll rfl rfl rfl .plain ?_; refine kfa rfl rfl ?_; refine kl1 rfl rfl rfl <| kmv rfl <| K.indexX rfl rfl SliceT.h (by omega) hio .plain <| K.fieldAddrX rfl rfl .plain ?_; refine K.loadX rfl hFX rfl hFc .plain <| kca rfl rfl hq <| kas rfl <| RunK.nil <| And.intro (by kernel_rfl) ?_; refine LWP.seq <| LWP.region (by kernel_rfl) <| kmv rfl <| K.geq rfl rfl (decide_eq_true hp) .plain <| RunK.nil <| LWP.condT rfl ?_; refine LWP.seq <| LWP.region (by kernel_rfl) <| kmv rfl <| kmv rfl <| gmv rfl rfl rfl <| gmv rfl rfl rfl <| K.lss rfl rfl rfl (.taken rfl rfl) ?_; refine kpf rfl rfl <| kas rfl <| RunK.nil <| LWP.region (by kernel_rfl) <| kmv rfl <| kas rfl <| RunK.nil <| LWP.region (by kernel_rfl) <| kmv rfl <| kad rfl rfl (wrap_i64 (by omega)) <| kas rfl <| RunK.nil ?_)
        exact ⟨_, cmSt a b (some ⟨fb, fo, none⟩) bd ac bc_ 7 [] false [(11, Ln .i64 v), (12, Lb (decide (v < last))), (13, Ln .i64 (i + 1 : Nat))] X, by omega, Le.of (by exact ⟨rfl, rfl, rfl, rfl, rfl, rfl, rfl, rfl, trivial⟩) (by exact ⟨rfl, rfl, rfl, trivial⟩) (by exact rfl) (by exact rfl) (by repeat' (first | refine all_cons_true ?_ ?_ | rfl | exact bytes_inUse | exact vals_inUse | exact mid_inUse rfl)), i + 1, (v, decide (v < last)), by omega, rfl, hsn, by show -1 ≤ v; omega, hq12, rfl⟩
    · have hst : movStep b.fs (last, mv) f = (last, mv) := by unfold movStep; rw [if_neg hp]
      rw [hst] at hsn
      generalize fldIx b.fs f.nm = v at *
      (refine LWP.seq <| LWP.seq <| LWP.region (by kernel_rfl) <| kmv rfl <| kfa rfl rfl ?_; refine kl1 rfl rfl rfl <| K.lenX rfl SliceT.h rfl .plain ?_; refine klt rfl rfl (decide_eq_true (by omega)) <| RunK.nil <| LWP.condT rfl ?_; refine LWP.skip ?_; refine LWP.seq <| LWP.block <| LWP.seq <| LWP.draws mixed (by kernel_rfl) <| K.loadAll rfl rfl rfl .plain ?_; refine kfa rfl rfl ?_; refine kl1 rfl rfl rfl <| kmv rfl <| K.indexX rfl rfl SliceT.h (by omega) hio .plain <| K.fieldAddrX rfl rfl .plain ?_; refine K.loadX rfl hFX rfl hFc .plain <| kca rfl rfl hq <| kas rfl <| RunK.nil <| And.intro (by kernel_rfl) ?_; refine LWP.seq <| LWP.region (by kernel_rfl) <| kmv rfl <| K.geq rfl rfl (decide_eq_false hp) .plain <| RunK.nil <| LWP.condF rfl ?_; refine LWP.skip ?_; refine LWP.region (by kernel_rfl) <| kmv rfl <| kad rfl rfl (wrap_i64 (by omega)) <| kas rfl <| RunK.nil ?_)
      exact ⟨_, cmSt a b (some ⟨fb, fo, none⟩) bd ac bc_ 7 [] false [(11, Ln .i64 last), (12, Lb mv), (13, Ln .i64 (i + 1 : Nat))] X, by omega, Le.of (by exact ⟨rfl, rfl, rfl, rfl, rfl, rfl, rfl, rfl, trivial⟩) (by exact ⟨rfl, rfl, rfl, trivial⟩) (by exact rfl) (by exact rfl) (by repeat' (first | refine all_cons_true ?_ ?_ | rfl | exact bytes_inUse | exact vals_inUse | exact mid_inUse rfl)), i + 1, (last, mv), by omega, rfl, hsn, hs1, hs2, rfl⟩
  · have e : i = a.fs.length := by omega
    subst e
    rw [List.take_length] at hs
    obtain ⟨last, mv⟩ := s
    have hm : movB a.fs b.fs = mv := by unfold movB; rw [hs]
    cases mv with
    | false =>
      have e : rowD a b 7 = [] := by simp only [rowD]; rw [hm]; rfl
      rw [e]
      (refine LWP.seq <| LWP.seq <| LWP.region (by kernel_rfl) <| kmv rfl <| kfa rfl rfl ?_; refine kl1 rfl rfl rfl <| K.lenX rfl SliceT.h rfl .plain ?_; refine klt rfl rfl (decide_eq_false (by omega)) <| RunK.nil <| LWP.condF rfl ?_; refine LWP.exit <| LWP.seq <| LWP.region (by kernel_rfl) <| kmv rfl <| RunK.nil <| LWP.condF rfl ?_; refine LWP.skip ?_; refine LWP.seq <| LWP.region (by kernel_rfl) <| kmv rfl <| kas rfl <| RunK.nil <| LWP.ret ?_)
      refine Leads.le (σ' := ⟨[(6, .sv (.one (.slc 500 0 (([] : List Ch)).length 3)))], [(500, some ⟨41, (chV (([] : List Ch))).map .val, false⟩)], X⟩) (Le.ofR [(500, 500)] (by exact ⟨rfl, trivial⟩) (by repeat' (first | exact trivial | refine And.intro ⟨_, rfl, ?_⟩ ?_ | refine And.intro ⟨_, rfl⟩ ?_ | rfl | exact Box.ren_bytes _ _ _ _ | exact Box.ren_vals _ _ _ _ | exact Box.ren_mid rfl)) (by exact rfl) (by exact rfl) (by repeat' (first | refine all_cons_true ?_ ?_ | rfl | exact bytes_inUse | exact vals_inUse | exact mid_inUse rfl)) (by exact rfl) (by exact rfl)) ?_
      refine Leads.le Le.loose (Leads.done ?_)
      exact ⟨[(1000001, 500)], ⟨[_], ⟨rfl, trivial⟩, rfl⟩, (by repeat' (first | exact trivial | refine And.intro ⟨_, rfl, ?_⟩ ?_ | refine And.intro ⟨_, rfl⟩ ?_ | rfl | exact Box.ren_bytes _ _ _ _ | exact Box.ren_vals _ _ _ _ | exact Box.ren_mid rfl)), rfl, rfl⟩
    | true =>
      have e : rowD a b 7 = [⟨7, a.id, []⟩] := by simp only [rowD]; rw [hm]; rfl
      rw [e]
      (refine LWP.seq <| LWP.seq <| LWP.region (by kernel_rfl) <| kmv rfl <| kfa rfl rfl ?_; refine kl1 rfl rfl rfl <| K.lenX rfl SliceT.h rfl .plain ?_; refine klt rfl rfl (decide_eq_false (by omega)) <| RunK.nil <| LWP.condF rfl ?_; refine LWP.exit <| LWP.seq <| LWP.region (by kernel_rfl) <| kmv rfl <| RunK.nil <| LWP.condT rfl ?_; refine LWP.region (by kernel_rfl) <| kmv rfl <| kfa rfl rfl ?_; refine kl1 rfl rfl rfl <| K.build rfl rfl (by exact rfl) (by exact nl3 rfl rfl rfl rfl) .plain ?_; refine K.buildSlc (zs := [.int .i64 0, .int .i64 0, .string ⟨#[]⟩]) (sz := 3) (e := 41) (cs' := [.val (.int .i64 7), .val (.int .i64 a.id), .val (.string ⟨#[]⟩)]) (by kernel_rfl) rfl rfl rfl rfl rfl rfl .plain <| K.appendSlc (by_ := 32) (e2 := 41) (l2 := [.val (.int .i64 7), .val (.int .i64 a.id), .val (.string ⟨#[]⟩)]) (nl := (([] : List Ch) ++ [Ch.mk 7 a.id []]).length) (nc := (chV (([] : List Ch) ++ [Ch.mk 7 a.id []])).map .val) rfl rfl (hrl ([] : List Ch)) rfl rfl (Nat.le_refl _) rfl rfl (by kernel_rfl) (by kernel_rfl) (by simp) (by simp) rfl (rfl) (hnc0 ([] : List Ch) 7 a.id) .plain <| kas rfl <| RunK.nil <| LWP.seq <| LWP.region (by kernel_rfl) <| kmv rfl <| kas rfl <| RunK.nil <| LWP.ret ?_)
      refine Leads.le (σ' := ⟨[(6, .sv (.one (.slc 500 0 (([⟨7, a.id, []⟩] : List Ch)).length 3)))], [(500, some ⟨41, (chV (([⟨7, a.id, []⟩] : List Ch))).map .val, true⟩)], X⟩) (Le.ofR [(500, 150)] (by exact ⟨rfl, trivial⟩) (by repeat' (first | exact trivial | refine And.intro ⟨_, rfl, ?_⟩ ?_ | refine And.intro ⟨_, rfl⟩ ?_ | rfl | exact Box.ren_bytes _ _ _ _ | exact Box.ren_vals _ _ _ _ | exact Box.ren_mid rfl)) (by exact rfl) (by exact rfl) (by repeat' (first | refine all_cons_true ?_ ?_ | rfl | exact bytes_inUse | exact vals_inUse | exact mid_inUse rfl)) (by exact rfl) (by exact rfl)) ?_
      refine Leads.le Le.loose (Leads.done ?_)
      exact ⟨[(1000001, 500)], ⟨[_], ⟨rfl, trivial⟩, rfl⟩, (by repeat' (first | exact trivial | refine And.intro ⟨_, rfl, ?_⟩ ?_ | refine And.intro ⟨_, rfl⟩ ?_ | rfl | exact Box.ren_bytes _ _ _ _ | exact Box.ren_vals _ _ _ _ | exact Box.ren_mid rfl)), rfl, rfl⟩
end Go.Proofs.YtfcaebhofjjjnaaDoor
end
section
namespace Go.Lg.Fld
open Go Go.Lg
def toD (a b : Cp) (j : Nat) : List Ch := (List.range j).flatMap fun i => rowD a b (3 + i)
theorem toD_succ (a b : Cp) (j : Nat) : toD a b (j + 1) = toD a b j ++ rowD a b (3 + j) := by
  unfold toD; rw [List.range_succ, List.flatMap_append]; simp
theorem toD_all (a b : Cp) : toD a b 5 = compD a b := by
  unfold compD
  rw [toD_succ, toD_succ, toD_succ, toD_succ, toD_succ]
  unfold toD
  simp
theorem row_len {a b : Cp} (ha : a.fs.length ≤ 12) (hb : b.fs.length ≤ 12) (k : Nat) : (rowD a b k).length ≤ 12 := by
  unfold rowD
  split
  · split <;> simp
  · rw [List.length_map]; exact Nat.le_trans (List.length_filter_le _ _) ha
  · rw [List.length_map]; exact Nat.le_trans (List.length_filter_le _ _) hb
  · rw [List.length_map]; exact Nat.le_trans (List.length_filter_le _ _) ha
  · split <;> simp
  · simp
theorem toD_len {a b : Cp} (ha : a.fs.length ≤ 12) (hb : b.fs.length ≤ 12) (j : Nat) : (toD a b j).length ≤ 12 * j := by
  induction j with
  | zero => simp [toD]
  | succ j ih =>
    have := row_len ha hb (3 + j)
    rw [toD_succ, List.length_append]; omega
theorem id_len {a b : List Cp} (ha : ∀ c ∈ a, c.fs.length ≤ 12) (hb : ∀ c ∈ b, c.fs.length ≤ 12) (id : Int) : (idD a b id).length ≤ 60 := by
  unfold idD
  cases h1 : atId a id with
  | none => cases h2 : atId b id <;> simp
  | some c =>
    cases h2 : atId b id with
    | none => simp
    | some d =>
      have := toD_len (ha c (atId_mem h1).1) (hb d (atId_mem h2).1) 5
      rw [toD_all] at this
      exact this
theorem up_len {a b : List Cp} (ha : ∀ c ∈ a, c.fs.length ≤ 12) (hb : ∀ c ∈ b, c.fs.length ≤ 12) (n : Nat) : (upD a b n).length ≤ 60 * n := by
  induction n with
  | zero => simp [upD]
  | succ n ih =>
    have := id_len ha hb ((n + 1 : Nat) : Int)
    rw [upD_succ, List.length_append]; omega
theorem chV_one (l : List Ch) : (chV l).all Value.oneCell' = true := by
  induction l with
  | nil => rfl
  | cons x t ih =>
    rw [show chV (x :: t) = x.vals ++ chV t from rfl, List.all_append, ih]
    rfl
theorem ix_id (cs : List Cp) (id : Int) : (atId cs id = none ∧ findI (fun c => c.id == id) cs = -1) ∨ ∃ (i : Nat) (c : Cp), cs[i]? = some c ∧ atId cs id = some c ∧ findI (fun c => c.id == id) cs = (i : Nat) ∧ c.id = id := by
  cases hf : cs.findIdx? (fun c => c.id == id) with
  | none =>
    refine .inl ⟨?_, by unfold findI; rw [hf]⟩
    have h1 := List.findIdx?_eq_none_iff.1 hf
    unfold atId
    rw [List.find?_eq_none]
    intro c hc
    simpa using h1 c hc
  | some i =>
    obtain ⟨hi, h1, h2⟩ := List.findIdx?_eq_some_iff_getElem.1 hf
    refine .inr ⟨i, cs[i], List.getElem?_eq_getElem hi, ?_, by unfold findI; rw [hf], by simpa using h1⟩
    unfold atId
    rw [List.find?_eq_some_iff_getElem]
    exact ⟨h1, i, hi, rfl, fun j hj => by simpa using h2 j hj⟩
end Go.Lg.Fld
namespace Go.Proofs.YtfcaebhofjjjnaaDoor
open Go Go.Lg Go.Lg.Fld
set_option maxRecDepth 100000
variable (X : Nat → Option Obj)
theorem rComp_spec (k : Nat) (h3 : 3 ≤ k) (h7 : k ≤ 7) (a b : Cp) (ad bd : Option Addr) (ac bc_ : Nat) (hA : FieldsIn X ad a.fs) (hB : FieldsIn X bd b.fs) (hla : a.fs.length ≤ 12) (hlb : b.fs.length ≤ 12) :
    MSpec Tryd.prog X 24 [Cx a ad ac, Cx b bd bc_, Ln .i64 (k : Nat)] [] (.sv (.one (.slc 1000001 0 (rowD a b k).length 3))) [chB 1000001 (rowD a b k) true] := by
  obtain rfl | rfl | rfl | rfl | rfl : k = 3 ∨ k = 4 ∨ k = 5 ∨ k = 6 ∨ k = 7 := by omega
  · exact rComp3 X a b ad bd ac bc_
  · exact rComp4 X a b ad bd ac bc_ hA hB hla hlb
  · exact rComp5 X a b ad bd ac bc_ hA hB hla hlb
  · exact rComp6 X a b ad bd ac bc_ hA hB hla hlb
  · exact rComp7 X a b ad bd ac bc_ hA hB hla hlb
abbrev dfSt (va vb : Int) (ad bd : Option Addr) (na ca nb cb : Nat) (l : List Ch) (r : Bool) (more : List (Nat × LV)) (Y : Nat → Option Obj) : St := ⟨(2, Lp 2) :: (3, Lp 3) :: (5, .sv (.one (.slc 500 0 l.length 3))) :: more, [chB 500 l r, sxB 2 va ad na ca, sxB 3 vb bd nb cb], Y⟩
set_option maxHeartbeats 1600000 in
theorem rOf_spec (a b : Sc) (ad bd : Option Addr) (ca cb : Nat) (ha : CompsIn X ad a.cs) (hb : CompsIn X bd b.cs) (hsa : a.cs.length ≤ 30) (hsb : b.cs.length ≤ 30) (hfa : ∀ c ∈ a.cs, c.fs.length ≤ 12) (hfb : ∀ c ∈ b.cs, c.fs.length ≤ 12) :
    MSpec Tryd.prog X 13 [Sx a.ver ad a.cs.length ca, Sx b.ver bd b.cs.length cb] [] (.sv (.one (.slc 1000001 0 (diffL a.cs b.cs).length 3))) [chB 1000001 (diffL a.cs b.cs) true] := by
  refine MSpec.intro Tryd.func13 rfl (by kernel_rfl) rfl rfl (by exact (by repeat' (first | refine all_cons_true ?_ ?_ | rfl | exact bytes_inUse | exact vals_inUse | exact mid_inUse rfl))) rfl rfl ?_
  intro C
  have hrl : ∀ l : List Ch, ((chV l).map CV.val).length = l.length * 3 := fun l => by rw [List.length_map, chV_len]
  have hnl : ∀ (l : List Ch) (x : Ch), l.length + 1 = (l ++ [x]).length := fun l x => by rw [List.length_append]; rfl
  have hnc0 : ∀ (l : List Ch) (k c : Int), (chV l).map CV.val ++ [.val (.int .i64 k), .val (.int .i64 c), .val (.string ⟨#[]⟩)] = (chV (l ++ [Ch.mk k c []])).map CV.val := fun l k c => by rw [chV_app, List.map_append]; rfl
  refine LWP.ends ?_
  (refine LWP.seq <| LWP.region (by kernel_rfl) <| K.box rfl rfl rfl .plain <| K.box rfl rfl rfl .plain <| kas rfl <| RunK.nil <| LWP.seq <| LWP.region (by kernel_rfl) <| K.buildSlc (zs := []) (sz := 3) (e := 41) (by kernel_rfl) rfl rfl rfl rfl rfl rfl .plain <| kas rfl <| RunK.nil <| LWP.seq <| LWP.seq <| LWP.region (by kernel_rfl) ?_; refine kas rfl <| RunK.nil <| LWP.block ?_)
  refine LWP.loop (fun m σ => ∃ (n : Nat) (r : Bool), n ≤ 24 ∧ m = 24 - n ∧ σ = dfSt a.ver b.ver ad bd a.cs.length ca b.cs.length cb (upD a.cs b.cs n) r [(6, Ln .i64 ((n + 1 : Nat) : Int))] X) 24
    ⟨dfSt a.ver b.ver ad bd a.cs.length ca b.cs.length cb ([]) false [(6, Ln .i64 ((0 + 1 : Nat) : Int))] X, Le.ofR [(500, 10)] (by exact ⟨rfl, rfl, rfl, rfl, trivial⟩) (by repeat' (first | exact trivial | refine And.intro ⟨_, rfl, ?_⟩ ?_ | refine And.intro ⟨_, rfl⟩ ?_ | rfl | exact Box.ren_bytes _ _ _ _ | exact Box.ren_vals _ _ _ _ | exact Box.ren_mid rfl)) (by exact rfl) (by exact rfl) (by repeat' (first | refine all_cons_true ?_ ?_ | rfl | exact bytes_inUse | exact vals_inUse | exact mid_inUse rfl)) (by exact rfl) (by exact rfl), 0, false, by omega, by omega, rfl⟩ ?_
  rintro m σ ⟨n, r, hn, rfl, rfl⟩
  have hup := up_len hfa hfb n
  by_cases hlt : n < 24
  · have q1 := sFind_spec X a.ver ad ca a.cs ((n + 1 : Nat) : Int) ha (by omega)
    have q2 := sFind_spec X b.ver bd cb b.cs ((n + 1 : Nat) : Int) hb (by omega)
    have hsn := upD_succ a.cs b.cs n
    have hle : (((n + 1 : Nat) : Int)) ≤ 24 := by omega
    generalize hl : upD a.cs b.cs n = l at *
    rcases ix_id a.cs ((n + 1 : Nat) : Int) with ⟨e1, f1⟩ | ⟨i, c, hc, e1, f1, hci⟩
    · rw [f1] at q1
      rcases ix_id b.cs ((n + 1 : Nat) : Int) with ⟨e2, f2⟩ | ⟨k, d, hd, e2, f2, hdi⟩
      · rw [f2] at q2
        rw [show idD a.cs b.cs ((n + 1 : Nat) : Int) = [] by unfold idD; rw [e1, e2], List.append_nil] at hsn
        (refine LWP.seq <| LWP.seq <| LWP.region (by kernel_rfl) <| kmv rfl <| K.leq rfl rfl (decide_eq_true hle) .plain <| RunK.nil <| LWP.condT rfl ?_; refine LWP.skip ?_; refine LWP.seq <| LWP.block <| LWP.seq <| LWP.region (by kernel_rfl) <| K.loadAll rfl rfl rfl .plain ?_; refine kmv rfl <| kca rfl rfl q1 <| kas rfl <| RunK.nil <| LWP.seq <| LWP.region (by kernel_rfl) <| K.loadAll rfl rfl rfl .plain ?_; refine kmv rfl <| kca rfl rfl q2 <| kas rfl <| RunK.nil <| LWP.seq <| LWP.seq <| LWP.region (by kernel_rfl) <| kmv rfl <| klt rfl rfl (r := true) rfl <| kmv rfl <| gmv rfl rfl rfl <| K.geq rfl rfl (r := false) rfl (.taken rfl rfl) ?_; refine kpt rfl rfl <| RunK.nil <| LWP.condF rfl ?_; refine LWP.skip ?_; refine LWP.seq <| LWP.seq <| LWP.region (by kernel_rfl) <| kmv rfl <| K.geq rfl rfl (r := false) rfl .plain <| kmv rfl <| RunK.passed rfl rfl rfl <| RunK.passed rfl rfl rfl <| kpf rfl rfl <| RunK.nil <| LWP.condF rfl ?_; refine LWP.skip ?_; refine LWP.seq <| LWP.region (by kernel_rfl) <| kmv rfl <| K.geq rfl rfl (r := false) rfl .plain <| kmv rfl <| RunK.passed rfl rfl rfl <| RunK.passed rfl rfl rfl <| kpf rfl rfl <| RunK.nil <| LWP.condF rfl ?_; refine LWP.skip ?_; refine LWP.region (by kernel_rfl) <| kmv rfl <| kad rfl rfl (wrap_i64 (by omega)) <| kas rfl <| RunK.nil ?_)
        exact ⟨_, dfSt a.ver b.ver ad bd a.cs.length ca b.cs.length cb (l) r [(6, Ln .i64 ((n + 1 + 1 : Nat) : Int))] X, by omega, Le.of (by exact ⟨rfl, rfl, rfl, rfl, trivial⟩) (by exact ⟨rfl, rfl, rfl, trivial⟩) (by exact rfl) (by exact rfl) (by repeat' (first | refine all_cons_true ?_ ?_ | rfl | exact bytes_inUse | exact vals_inUse | exact mid_inUse rfl)), n + 1, r, by omega, rfl, by rw [hsn]⟩
      · rw [f2] at q2
        rw [show idD a.cs b.cs ((n + 1 : Nat) : Int) = [⟨1, ((n + 1 : Nat) : Int), []⟩] by unfold idD; rw [e1, e2]] at hsn
        (refine LWP.seq <| LWP.seq <| LWP.region (by kernel_rfl) <| kmv rfl <| K.leq rfl rfl (decide_eq_true hle) .plain <| RunK.nil <| LWP.condT rfl ?_; refine LWP.skip ?_; refine LWP.seq <| LWP.block <| LWP.seq <| LWP.region (by kernel_rfl) <| K.loadAll rfl rfl rfl .plain ?_; refine kmv rfl <| kca rfl rfl q1 <| kas rfl <| RunK.nil <| LWP.seq <| LWP.region (by kernel_rfl) <| K.loadAll rfl rfl rfl .plain ?_; refine kmv rfl <| kca rfl rfl q2 <| kas rfl <| RunK.nil <| LWP.seq <| LWP.seq <| LWP.region (by kernel_rfl) <| kmv rfl <| klt rfl rfl (r := true) rfl <| kmv rfl <| gmv rfl rfl rfl <| K.geq rfl rfl (decide_eq_true (by omega)) (.taken rfl rfl) ?_; refine kpt rfl rfl <| RunK.nil <| LWP.condT rfl ?_; refine LWP.region (by kernel_rfl) <| kmv rfl <| kmv rfl <| K.build rfl rfl (by exact rfl) (by exact nl3 rfl rfl rfl rfl) .plain ?_; refine K.buildSlc (zs := [.int .i64 0, .int .i64 0, .string ⟨#[]⟩]) (sz := 3) (e := 41) (cs' := [.val (.int .i64 1), .val (.int .i64 ((n + 1 : Nat) : Int)), .val (.string ⟨#[]⟩)]) (by kernel_rfl) rfl rfl rfl rfl rfl rfl .plain <| K.appendSlc (by_ := 32) (e2 := 41) (l2 := [.val (.int .i64 1), .val (.int .i64 ((n + 1 : Nat) : Int)), .val (.string ⟨#[]⟩)]) (nl := (l ++ [Ch.mk 1 ((n + 1 : Nat) : Int) []]).length) (nc := (chV (l ++ [Ch.mk 1 ((n + 1 : Nat) : Int) []])).map .val) rfl rfl (hrl l) rfl rfl (Nat.le_refl _) rfl rfl (by kernel_rfl) (by kernel_rfl) (by omega) (by omega) rfl (hnl l _) (hnc0 l 1 ((n + 1 : Nat) : Int)) .plain <| kas rfl <| RunK.nil <| LWP.seq <| LWP.seq <| LWP.region (by kernel_rfl) <| kmv rfl <| K.geq rfl rfl (r := false) rfl .plain <| kmv rfl <| RunK.passed rfl rfl rfl <| RunK.passed rfl rfl rfl <| kpf rfl rfl <| RunK.nil ?_; refine LWP.condF rfl ?_; refine LWP.skip ?_; refine LWP.seq <| LWP.region (by kernel_rfl) <| kmv rfl <| K.geq rfl rfl (r := false) rfl .plain <| kmv rfl <| RunK.passed rfl rfl rfl <| RunK.passed rfl rfl rfl <| kpf rfl rfl <| RunK.nil <| LWP.condF rfl ?_; refine LWP.skip ?_; refine LWP.region (by kernel_rfl) <| kmv rfl <| kad rfl rfl (wrap_i64 (by omega)) <| kas rfl <| RunK.nil ?_)
        exact ⟨_, dfSt a.ver b.ver ad bd a.cs.length ca b.cs.length cb (l ++ [⟨1, ((n + 1 : Nat) : Int), []⟩]) true [(6, Ln .i64 ((n + 1 + 1 : Nat) : Int))] X, by omega, Le.ofR [(500, 31)] (by exact ⟨rfl, rfl, rfl, rfl, trivial⟩) (by repeat' (first | exact trivial | refine And.intro ⟨_, rfl, ?_⟩ ?_ | refine And.intro ⟨_, rfl⟩ ?_ | rfl | exact Box.ren_bytes _ _ _ _ | exact Box.ren_vals _ _ _ _ | exact Box.ren_mid rfl)) (by exact rfl) (by exact rfl) (by repeat' (first | refine all_cons_true ?_ ?_ | rfl | exact bytes_inUse | exact vals_inUse | exact mid_inUse rfl)) (by exact rfl) (by exact rfl), n + 1, true, by omega, rfl, by rw [hsn]⟩
    · rw [f1] at q1
      rcases ix_id b.cs ((n + 1 : Nat) : Int) with ⟨e2, f2⟩ | ⟨k, d, hd, e2, f2, hdi⟩
      · rw [f2] at q2
        rw [show idD a.cs b.cs ((n + 1 : Nat) : Int) = [⟨2, ((n + 1 : Nat) : Int), []⟩] by unfold idD; rw [e1, e2]] at hsn
        (refine LWP.seq <| LWP.seq <| LWP.region (by kernel_rfl) <| kmv rfl <| K.leq rfl rfl (decide_eq_true hle) .plain <| RunK.nil <| LWP.condT rfl ?_; refine LWP.skip ?_; refine LWP.seq <| LWP.block <| LWP.seq <| LWP.region (by kernel_rfl) <| K.loadAll rfl rfl rfl .plain ?_; refine kmv rfl <| kca rfl rfl q1 <| kas rfl <| RunK.nil <| LWP.seq <| LWP.region (by kernel_rfl) <| K.loadAll rfl rfl rfl .plain ?_; refine kmv rfl <| kca rfl rfl q2 <| kas rfl <| RunK.nil <| LWP.seq <| LWP.seq <| LWP.region (by kernel_rfl) <| kmv rfl <| klt rfl rfl (decide_eq_false (by omega)) <| kmv rfl <| RunK.passed rfl rfl rfl <| RunK.passed rfl rfl rfl <| kpf rfl rfl <| RunK.nil ?_; refine LWP.condF rfl ?_; refine LWP.skip ?_; refine LWP.seq <| LWP.seq <| LWP.region (by kernel_rfl) <| kmv rfl <| K.geq rfl rfl (decide_eq_true (by omega)) .plain <| kmv rfl <| gmv rfl rfl rfl <| K.lss rfl rfl (r := true) rfl (.taken rfl rfl) ?_; refine kpt rfl rfl <| RunK.nil <| LWP.condT rfl ?_; refine LWP.region (by kernel_rfl) <| kmv rfl <| kmv rfl <| K.build rfl rfl (by exact rfl) (by exact nl3 rfl rfl rfl rfl) .plain ?_; refine K.buildSlc (zs := [.int .i64 0, .int .i64 0, .string ⟨#[]⟩]) (sz := 3) (e := 41) (cs' := [.val (.int .i64 2), .val (.int .i64 ((n + 1 : Nat) : Int)), .val (.string ⟨#[]⟩)]) (by kernel_rfl) rfl rfl rfl rfl rfl rfl .plain <| K.appendSlc (by_ := 32) (e2 := 41) (l2 := [.val (.int .i64 2), .val (.int .i64 ((n + 1 : Nat) : Int)), .val (.string ⟨#[]⟩)]) (nl := (l ++ [Ch.mk 2 ((n + 1 : Nat) : Int) []]).length) (nc := (chV (l ++ [Ch.mk 2 ((n + 1 : Nat) : Int) []])).map .val) rfl rfl (hrl l) rfl rfl (Nat.le_refl _) rfl rfl (by kernel_rfl) (by kernel_rfl) (by omega) (by omega) rfl (hnl l _) (hnc0 l 2 ((n + 1 : Nat) : Int)) .plain <| kas rfl <| RunK.nil <| LWP.seq <| LWP.region (by kernel_rfl) <| kmv rfl <| K.geq rfl rfl (decide_eq_true (by omega)) .plain <| kmv rfl <| gmv rfl rfl rfl <| K.geq rfl rfl (r := false) rfl (.taken rfl rfl) ?_; refine kpt rfl rfl <| RunK.nil <| LWP.condF rfl ?_; refine LWP.skip ?_; refine LWP.region (by kernel_rfl) <| kmv rfl <| kad rfl rfl (wrap_i64 (by omega)) <| kas rfl <| RunK.nil ?_)
        exact ⟨_, dfSt a.ver b.ver ad bd a.cs.length ca b.cs.length cb (l ++ [⟨2, ((n + 1 : Nat) : Int), []⟩]) true [(6, Ln .i64 ((n + 1 + 1 : Nat) : Int))] X, by omega, Le.ofR [(500, 42)] (by exact ⟨rfl, rfl, rfl, rfl, trivial⟩) (by repeat' (first | exact trivial | refine And.intro ⟨_, rfl, ?_⟩ ?_ | refine And.intro ⟨_, rfl⟩ ?_ | rfl | exact Box.ren_bytes _ _ _ _ | exact Box.ren_vals _ _ _ _ | exact Box.ren_mid rfl)) (by exact rfl) (by exact rfl) (by repeat' (first | refine all_cons_true ?_ ?_ | rfl | exact bytes_inUse | exact vals_inUse | exact mid_inUse rfl)) (by exact rfl) (by exact rfl), n + 1, true, by omega, rfl, by rw [hsn]⟩
      · rw [f2] at q2
        rw [show idD a.cs b.cs ((n + 1 : Nat) : Int) = compD c d by unfold idD; rw [e1, e2]] at hsn
        obtain ⟨blk, off, arr, el, fr, fad, fcap, rfl, hX, hsz, hcs, _, _, _, hF⟩ := ha.get hc
        obtain ⟨blk', off', arr', el', fr', fad', fcap', rfl, hX', hsz', hcs', _, _, _, hF'⟩ := hb.get hd
        have hio : off + Int.toNat (i : Int) * 3 = off + i * 3 := by simp
        have hio' : off' + Int.toNat (k : Int) * 3 = off' + k * 3 := by simp
        have hil := (List.getElem?_eq_some_iff.1 hc).1
        have hkl := (List.getElem?_eq_some_iff.1 hd).1
        have hcl := hfa c (List.mem_of_getElem? hc)
        have hdl := hfb d (List.mem_of_getElem? hd)
        (refine LWP.seq <| LWP.seq <| LWP.region (by kernel_rfl) <| kmv rfl <| K.leq rfl rfl (decide_eq_true hle) .plain <| RunK.nil <| LWP.condT rfl ?_; refine LWP.skip ?_; refine LWP.seq <| LWP.block <| LWP.seq <| LWP.region (by kernel_rfl) <| K.loadAll rfl rfl rfl .plain ?_; refine kmv rfl <| kca rfl rfl q1 <| kas rfl <| RunK.nil <| LWP.seq <| LWP.region (by kernel_rfl) <| K.loadAll rfl rfl rfl .plain ?_; refine kmv rfl <| kca rfl rfl q2 <| kas rfl <| RunK.nil <| LWP.seq <| LWP.seq <| LWP.region (by kernel_rfl) <| kmv rfl <| klt rfl rfl (decide_eq_false (by omega)) <| kmv rfl <| RunK.passed rfl rfl rfl <| RunK.passed rfl rfl rfl <| kpf rfl rfl <| RunK.nil ?_; refine LWP.condF rfl ?_; refine LWP.skip ?_; refine LWP.seq <| LWP.seq <| LWP.region (by kernel_rfl) <| kmv rfl <| K.geq rfl rfl (decide_eq_true (by omega)) .plain <| kmv rfl <| gmv rfl rfl rfl <| K.lss rfl rfl (decide_eq_false (by omega)) (.taken rfl rfl) ?_; refine kpt rfl rfl <| RunK.nil <| LWP.condF rfl ?_; refine LWP.skip ?_; refine LWP.seq <| LWP.region (by kernel_rfl) <| kmv rfl <| K.geq rfl rfl (decide_eq_true (by omega)) .plain <| kmv rfl <| gmv rfl rfl rfl <| K.geq rfl rfl (decide_eq_true (by omega)) (.taken rfl rfl) ?_; refine kpt rfl rfl <| RunK.nil <| LWP.condT rfl ?_; refine LWP.seq <| LWP.region (by kernel_rfl) <| kas rfl <| RunK.nil <| LWP.block ?_)
        refine LWP.loop (fun m σ => ∃ (j : Nat) (r : Bool), j ≤ 5 ∧ m = 5 - j ∧ σ = dfSt a.ver b.ver (some ⟨blk, off, none⟩) (some ⟨blk', off', none⟩) a.cs.length ca b.cs.length cb (l ++ toD c d j) r [(6, Ln .i64 ((n + 1 : Nat) : Int)), (7, Ln .i64 (i : Nat)), (8, Ln .i64 (k : Nat)), (9, Ln .i64 ((3 + j : Nat) : Int))] X) 5
          ⟨dfSt a.ver b.ver (some ⟨blk, off, none⟩) (some ⟨blk', off', none⟩) a.cs.length ca b.cs.length cb (l) r [(6, Ln .i64 ((n + 1 : Nat) : Int)), (7, Ln .i64 (i : Nat)), (8, Ln .i64 (k : Nat)), (9, Ln .i64 ((3 + 0 : Nat) : Int))] X, Le.of (by exact ⟨rfl, rfl, rfl, rfl, rfl, rfl, rfl, trivial⟩) (by exact ⟨rfl, rfl, rfl, trivial⟩) (by exact rfl) (by exact rfl) (by repeat' (first | refine all_cons_true ?_ ?_ | rfl | exact bytes_inUse | exact vals_inUse | exact mid_inUse rfl)), 0, r, by omega, by omega, by show dfSt a.ver b.ver (some ⟨blk, off, none⟩) (some ⟨blk', off', none⟩) a.cs.length ca b.cs.length cb (l) r [(6, Ln .i64 ((n + 1 : Nat) : Int)), (7, Ln .i64 (i : Nat)), (8, Ln .i64 (k : Nat)), (9, Ln .i64 ((3 + 0 : Nat) : Int))] X = dfSt a.ver b.ver (some ⟨blk, off, none⟩) (some ⟨blk', off', none⟩) a.cs.length ca b.cs.length cb (l ++ toD c d 0) r [(6, Ln .i64 ((n + 1 : Nat) : Int)), (7, Ln .i64 (i : Nat)), (8, Ln .i64 (k : Nat)), (9, Ln .i64 ((3 + 0 : Nat) : Int))] X; rw [show toD c d 0 = [] from rfl, List.append_nil]⟩ ?_
        rintro m σ ⟨j, r2, hj, rfl, rfl⟩
        have hto := toD_len hcl hdl j
        have htl : (l ++ toD c d j).length = l.length + (toD c d j).length := List.length_append
        by_cases hjl : j < 5
        · have q3 := rComp_spec X (3 + j) (by omega) (by omega) c d fad fad' fcap fcap' hF hF' hcl hdl
          have hrw := row_len hcl hdl (3 + j)
          have hts : (l ++ toD c d j) ++ rowD c d (3 + j) = l ++ toD c d (j + 1) := by rw [toD_succ, List.append_assoc]
          generalize l ++ toD c d j = L at *
          generalize rowD c d (3 + j) = R at *
          have z1 : R.length * 3 ≤ ((chV R).map CV.val).length := Nat.le_of_eq (hrl R).symm
          have z2 : ((chV R).map CV.val).take (R.length * 3) = (chV R).map CV.val := by rw [← hrl R]; exact List.take_length
          have z3 : L.length + R.length = (L ++ R).length := List.length_append.symm
          have z4 : (chV L).map CV.val ++ (chV R).map CV.val = (chV (L ++ R)).map CV.val := by rw [chV_app, List.map_append]
          (refine LWP.seq <| LWP.seq <| LWP.region (by kernel_rfl) <| kmv rfl <| K.leq rfl rfl (decide_eq_true (by omega)) .plain <| RunK.nil <| LWP.condT rfl ?_; refine LWP.skip ?_; refine LWP.seq <| LWP.block <| LWP.draws mixed (by kernel_rfl) <| kmv rfl <| kfa rfl rfl ?_; refine kl1 rfl rfl rfl <| kmv rfl <| K.indexX rfl rfl SliceT.h (by omega) hio .plain <| K.loadXagg rfl hX (by kernel_rfl) hsz hcs .plain <| kfa rfl rfl ?_; refine kl1 rfl rfl rfl <| kmv rfl <| K.indexX rfl rfl SliceT.h (by omega) hio' .plain <| K.loadXagg rfl hX' (by kernel_rfl) hsz' hcs' .plain <| kmv rfl <| K.callMp [(1000001, 501)] (.sv (.one (.slc 501 0 R.length 3))) [chB 501 R true] (q3) rfl rfl (by exact trivial) rfl rfl rfl rfl rfl (by exact (.box rfl (Box.ren_vals _ _ _ _) .nil)) .plain <| K.appendSlc (by_ := 32) (e2 := 41) (l2 := (chV R).map CV.val) (nl := (L ++ R).length) (nc := (chV (L ++ R)).map CV.val) rfl rfl (hrl L) rfl rfl z1 z2 (vals_solid (chV_one R)) (by kernel_rfl) (by kernel_rfl) (by omega) (by omega) rfl z3 z4 .plain <| kas rfl <| RunK.nil <| And.intro (by kernel_rfl) ?_; refine LWP.region (by kernel_rfl) <| kmv rfl <| kad rfl rfl (wrap_i64 (by omega)) <| kas rfl <| RunK.nil ?_)
          exact ⟨_, dfSt a.ver b.ver (some ⟨blk, off, none⟩) (some ⟨blk', off', none⟩) a.cs.length ca b.cs.length cb (L ++ R) true [(6, Ln .i64 ((n + 1 : Nat) : Int)), (7, Ln .i64 (i : Nat)), (8, Ln .i64 (k : Nat)), (9, Ln .i64 ((3 + (j + 1) : Nat) : Int))] X, by omega, Le.ofR [(500, 66)] (by exact ⟨rfl, rfl, rfl, rfl, rfl, rfl, rfl, trivial⟩) (by repeat' (first | exact trivial | refine And.intro ⟨_, rfl, ?_⟩ ?_ | refine And.intro ⟨_, rfl⟩ ?_ | rfl | exact Box.ren_bytes _ _ _ _ | exact Box.ren_vals _ _ _ _ | exact Box.ren_mid rfl)) (by exact rfl) (by exact rfl) (by repeat' (first | refine all_cons_true ?_ ?_ | rfl | exact bytes_inUse | exact vals_inUse | exact mid_inUse rfl)) (by exact rfl) (by exact rfl), j + 1, true, by omega, rfl, by rw [← hts]⟩
        · have e : j = 5 := by omega
          subst e
          rw [toD_all, ← hsn]
          (refine LWP.seq <| LWP.seq <| LWP.region (by kernel_rfl) <| kmv rfl <| K.leq rfl rfl (decide_eq_false (by omega)) .plain <| RunK.nil <| LWP.condF rfl ?_; refine LWP.exit <| LWP.region (by kernel_rfl) <| kmv rfl <| kad rfl rfl (wrap_i64 (by omega)) <| kas rfl <| RunK.nil ?_)
          exact ⟨_, dfSt a.ver b.ver (some ⟨blk, off, none⟩) (some ⟨blk', off', none⟩) a.cs.length ca b.cs.length cb (upD a.cs b.cs (n + 1)) r2 [(6, Ln .i64 ((n + 1 + 1 : Nat) : Int))] X, by omega, Le.of (by exact ⟨rfl, rfl, rfl, rfl, trivial⟩) (by exact ⟨rfl, rfl, rfl, trivial⟩) (by exact rfl) (by exact rfl) (by repeat' (first | refine all_cons_true ?_ ?_ | rfl | exact bytes_inUse | exact vals_inUse | exact mid_inUse rfl)), n + 1, r2, by omega, rfl, rfl⟩
  · have e : n = 24 := by omega
    subst e
    (refine LWP.seq <| LWP.seq <| LWP.region (by kernel_rfl) <| kmv rfl <| K.leq rfl rfl (decide_eq_false (by omega)) .plain <| RunK.nil <| LWP.condF rfl ?_; refine LWP.exit <| LWP.seq <| LWP.region (by kernel_rfl) <| kmv rfl <| kas rfl <| RunK.nil <| LWP.ret ?_)
    refine Leads.le (σ' := ⟨[(4, .sv (.one (.slc 500 0 (diffL a.cs b.cs).length 3)))], [(500, some ⟨41, (chV (diffL a.cs b.cs)).map .val, r⟩)], X⟩) (Le.ofR [(500, 500)] (by exact ⟨rfl, trivial⟩) (by repeat' (first | exact trivial | refine And.intro ⟨_, rfl, ?_⟩ ?_ | refine And.intro ⟨_, rfl⟩ ?_ | rfl | exact Box.ren_bytes _ _ _ _ | exact Box.ren_vals _ _ _ _ | exact Box.ren_mid rfl)) (by exact rfl) (by exact rfl) (by repeat' (first | refine all_cons_true ?_ ?_ | rfl | exact bytes_inUse | exact vals_inUse | exact mid_inUse rfl)) (by exact rfl) (by exact rfl)) ?_
    refine Leads.le Le.loose (Leads.done ?_)
    exact ⟨[(1000001, 500)], ⟨[_], ⟨rfl, trivial⟩, rfl⟩, (by repeat' (first | exact trivial | refine And.intro ⟨_, rfl, ?_⟩ ?_ | refine And.intro ⟨_, rfl⟩ ?_ | rfl | exact Box.ren_bytes _ _ _ _ | exact Box.ren_vals _ _ _ _ | exact Box.ren_mid rfl)), rfl, rfl⟩
end Go.Proofs.YtfcaebhofjjjnaaDoor
end
section
namespace Go.Lg.Fld
open Go Go.Lg
def sgn (neg : Bool) (m : Nat) : Int := if neg = true then -(m : Int) else m
theorem sgn_of (v : Int) : sgn (decide (v < 0)) v.natAbs = v := by
  unfold sgn
  by_cases h : v < 0
  · rw [decide_eq_true h, if_pos rfl]; omega
  · rw [decide_eq_false h, if_neg (by decide)]; omega
theorem sgn_mod (neg : Bool) (m : Nat) : (sgn neg m).tmod 10 = sgn neg (m % 10) := by
  unfold sgn
  cases neg with
  | false => rfl
  | true =>
    rw [if_pos rfl, if_pos rfl, Int.neg_tmod]
    rfl
theorem sgn_div (neg : Bool) (m : Nat) : (sgn neg m).tdiv 10 = sgn neg (m / 10) := by
  unfold sgn
  cases neg with
  | false => rfl
  | true =>
    rw [if_pos rfl, if_pos rfl, Int.neg_tdiv]
    rfl
def digI (u m : Nat) (s : List UInt8) : Prop := if m = 0 ∧ s ≠ [] then Lib.decDigits u = s else Lib.decDigits u = Lib.decDigits m ++ s
theorem digI_start (u : Nat) : digI u u [] := by
  unfold digI
  rw [if_neg (by simp), List.append_nil]
theorem digI_step {u m : Nat} {s : List UInt8} (h : digI u m s) (hm : ¬(m = 0 ∧ s ≠ [])) : digI u (m / 10) (UInt8.ofNat (48 + m % 10) :: s) := by
  unfold digI at h
  rw [if_neg hm] at h
  by_cases hl : m < 10
  · have e : m / 10 = 0 := by omega
    have e2 : m % 10 = m := by omega
    unfold digI
    rw [if_pos ⟨e, by simp⟩, h, e2, Lib.decDigits_one hl]
    rfl
  · unfold digI
    rw [if_neg (by omega), h]
    conv => lhs; rw [Lib.decDigits, dif_neg hl]
    rw [List.append_assoc]
    rfl
theorem digI_end {u : Nat} {s : List UInt8} (h : digI u 0 s) (hs : s ≠ []) : Lib.decDigits u = s := by
  unfold digI at h
  rw [if_pos ⟨rfl, hs⟩] at h
  exact h
theorem digI_len {u m : Nat} {s : List UInt8} (h : digI u m s) (hu : u < 18446744073709551616) : s.length ≤ 20 := by
  have h1 : (Lib.decDigits u).length ≤ 20 := by rw [Lib.decDigits_length]; exact Lib.nDigits_le20 u hu
  unfold digI at h
  split at h
  · rw [← h]; exact h1
  · rw [h, List.length_append] at h1; omega
theorem digit_toNat (p : Nat) (h : p < 10) : (UInt8.ofNat (48 + p)).toNat = 48 + p := by
  simp
  omega
def chWs : List (List UInt8) := [[], [97, 100, 100, 101, 100], [100, 114, 111, 112, 112, 101, 100], [114, 101, 110, 97, 109, 101, 100], [102, 105, 101, 108, 100, 100, 114, 111, 112, 112, 101, 100], [102, 105, 101, 108, 100, 97, 100, 100, 101, 100], [114, 101, 116, 121, 112, 101, 100], [109, 111, 118, 101, 100]]
def chW (k : Int) : List UInt8 := chWs.getD k.toNat []
def lineT (x : Ch) : List UInt8 := if x.kind < 1 ∨ 7 < x.kind then [] else
  if x.fld = [] then chW x.kind ++ [32] ++ Lib.itoa x.comp else chW x.kind ++ [32] ++ Lib.itoa x.comp ++ [32] ++ x.fld
theorem chW_len (k : Int) : (chW k).length ≤ 12 := by
  unfold chW
  rw [List.getD_eq_getElem?_getD]
  have : ∀ l ∈ chWs, l.length ≤ 12 := by decide
  cases h : chWs[k.toNat]? with
  | none => simp
  | some l => exact this l (List.mem_of_getElem? h)
theorem chW_at {k : Int} (h1 : 1 ≤ k) (h7 : k ≤ 7) : (chWs.map fun l => CV.val (.string ⟨l.toArray⟩))[k.toNat]? = some (.val (.string ⟨(chW k).toArray⟩)) := by
  obtain ⟨j, rfl⟩ : ∃ j : Nat, k = (j : Nat) := ⟨k.toNat, by omega⟩
  unfold chW
  rw [List.getD_eq_getElem?_getD, List.getElem?_map]
  show (chWs[j]?).map (fun l => CV.val (.string ⟨l.toArray⟩)) = some (CV.val (.string ⟨((chWs[j]?).getD []).toArray⟩))
  rw [List.getElem?_eq_getElem (show j < chWs.length by show j < 8; omega)]
  rfl
end Go.Lg.Fld
namespace Go.Proofs.YtfcaebhofjjjnaaDoor
open Go Go.Lg Go.Lg.Fld
set_option maxRecDepth 100000
variable (X : Nat → Option Obj)
set_option maxHeartbeats 1600000 in
theorem rDigits_spec (v : Int) (h0 : -9223372036854775808 ≤ v) (h1 : v < 9223372036854775808) :
    PSpec Tryd.prog X 25 [Ln .i64 v] (Ls (Lib.itoa v)) := by
  refine PSpec.intro Tryd.func25 rfl (by kernel_rfl) rfl rfl ?_
  intro C
  have hu : v.natAbs < 18446744073709551616 := by omega
  have hu2 : v.natAbs ≤ 9223372036854775808 := by omega
  have hneg : ∀ m : Nat, m < 10 → IntKind.i64.wrap (0 - sgn (decide (v < 0)) m) = sgn (!decide (v < 0)) m := fun m hm => by
    unfold sgn
    cases decide (v < 0) with
    | false => rw [if_neg (by decide), if_pos (by decide)]; refine (wrap_i64 ⟨?_, ?_⟩).trans ?_ <;> omega
    | true => rw [if_pos rfl, if_neg (by decide)]; refine (wrap_i64 ⟨?_, ?_⟩).trans ?_ <;> omega
  (refine LWP.seq <| LWP.region (by kernel_rfl) <| kas rfl <| RunK.nil <| LWP.seq <| LWP.region (by kernel_rfl) <| kas rfl <| RunK.nil <| LWP.seq <| LWP.region (by kernel_rfl) <| kmv rfl <| klt rfl rfl rfl <| kas rfl <| RunK.nil ?_; refine LWP.seq <| LWP.block ?_)
  refine LWP.loop (fun k σ => ∃ (m : Nat) (s : List UInt8), m ≤ v.natAbs ∧ digI v.natAbs m s ∧ k = m + (if s = [] then 1 else 0) ∧ σ = ⟨[(0, Ln .i64 (sgn (decide (v < 0)) m)), (3, Ls s), (4, Lb (decide (v < 0)))], [], X⟩) (v.natAbs + 1)
    ⟨⟨[(0, Ln .i64 v), (3, Ls []), (4, Lb (decide (v < 0)))], [], X⟩, Le.of (by exact ⟨rfl, rfl, rfl, trivial⟩) (by exact trivial) (by exact rfl) (by exact rfl) (by repeat' (first | refine all_cons_true ?_ ?_ | rfl | exact bytes_inUse | exact vals_inUse | exact mid_inUse rfl)), v.natAbs, [], Nat.le_refl _, digI_start _, by simp, by rw [sgn_of]⟩ ?_
  rintro k σ ⟨m, s, hm, hI, rfl, rfl⟩
  have hsl := digI_len hI hu
  by_cases hend : m = 0 ∧ s ≠ []
  · obtain ⟨rfl, hs⟩ := hend
    have he := digI_end hI hs
    have hse : (s == ([] : List UInt8)) = false := beq_eq_false_iff_ne.2 hs
    have hz : sgn (decide (v < 0)) 0 = 0 := by unfold sgn; split <;> rfl
    rw [hz]
    by_cases hv : v < 0
    · rw [show Lib.itoa v = 45 :: s by unfold Lib.itoa; rw [if_pos hv, he]]
      (refine LWP.seq <| LWP.seq <| LWP.region (by kernel_rfl) <| kmv rfl <| kse rfl rfl (strs_eq (r := false) hse) <| kmv rfl <| gmv rfl rfl rfl <| K.neq rfl rfl (r := false) rfl (.taken rfl rfl) ?_; refine kpf rfl rfl <| RunK.nil <| LWP.condF rfl ?_; refine LWP.exit <| LWP.seq <| LWP.seq <| LWP.region (by kernel_rfl) <| kmv (lv := Lb true) (congrArg (fun b => some (Lb b)) (decide_eq_true hv)) <| RunK.nil <| LWP.condT rfl ?_; refine LWP.region (by kernel_rfl) <| kmv rfl <| K.strAdd rfl rfl (Nat.le_trans (Nat.add_le_add_left hsl _) (by decide)) (str_add [45] s) .plain <| kas rfl <| RunK.nil <| LWP.seq <| LWP.region (by kernel_rfl) <| kmv rfl <| kas rfl <| RunK.nil <| LWP.ret ?_)
      exact ⟨[_], ⟨rfl, trivial⟩, rfl⟩
    · rw [show Lib.itoa v = s by unfold Lib.itoa; rw [if_neg hv, ← he]; congr 1; omega]
      (refine LWP.seq <| LWP.seq <| LWP.region (by kernel_rfl) <| kmv rfl <| kse rfl rfl (strs_eq (r := false) hse) <| kmv rfl <| gmv rfl rfl rfl <| K.neq rfl rfl (r := false) rfl (.taken rfl rfl) ?_; refine kpf rfl rfl <| RunK.nil <| LWP.condF rfl ?_; refine LWP.exit <| LWP.seq <| LWP.seq <| LWP.region (by kernel_rfl) <| kmv (lv := Lb false) (congrArg (fun b => some (Lb b)) (decide_eq_false hv)) <| RunK.nil <| LWP.condF rfl ?_; refine LWP.skip ?_; refine LWP.seq <| LWP.region (by kernel_rfl) <| kmv rfl <| kas rfl <| RunK.nil <| LWP.ret ?_)
      exact ⟨[_], ⟨rfl, trivial⟩, rfl⟩
  · have hst := digI_step hI hend
    have hp : m % 10 < 10 := Nat.mod_lt _ (by decide)
    have hmod := sgn_mod (decide (v < 0)) m
    have hdiv : IntKind.i64.wrap ((sgn (decide (v < 0)) m).tdiv 10) = sgn (decide (v < 0)) (m / 10) := by
      rw [sgn_div]
      unfold sgn
      refine wrap_i64 ⟨?_, ?_⟩ <;> split <;> omega
    have hd := digit_toNat (m % 10) hp
    have hadd : IntKind.i64.wrap (48 + ((m % 10 : Nat) : Int)) = ((48 + m % 10 : Nat) : Int) := by
      refine (wrap_i64 ⟨?_, ?_⟩).trans ?_ <;> omega
    have hcv : IntKind.u8.wrap ((48 + m % 10 : Nat) : Int) = (((UInt8.ofNat (48 + m % 10)).toNat : Nat) : Int) := by
      rw [hd]
      refine wrap_u8 ⟨?_, ?_⟩ <;> omega
    have hcut : ((([UInt8.ofNat (48 + m % 10)] : List UInt8).map bc).drop 0).take 1 = ([UInt8.ofNat (48 + m % 10)] : List UInt8).map bc := rfl
    have hless : m / 10 + 0 < m + (if s = [] then 1 else 0) := by
      by_cases hs : s = []
      · rw [if_pos hs]; omega
      · rw [if_neg hs]
        have : m ≠ 0 := fun h => hend ⟨h, hs⟩
        omega
    have hsa := str_add [UInt8.ofNat (48 + m % 10)] s
    have hszA : (⟨([UInt8.ofNat (48 + m % 10)] : List UInt8).toArray⟩ : ByteArray).size + (⟨s.toArray⟩ : ByteArray).size ≤ 9223372036854775807 := by
      show 1 + s.length ≤ _
      omega
    have hcond : (s == ([] : List UInt8)) = true ∨ ((s == ([] : List UInt8)) = false ∧ (sgn (decide (v < 0)) m != 0) = true) := by
      by_cases hs : s = []
      · exact .inl (beq_iff_eq.2 hs)
      · refine .inr ⟨beq_eq_false_iff_ne.2 hs, bne_iff_ne.2 ?_⟩
        have : m ≠ 0 := fun h => hend ⟨h, hs⟩
        unfold sgn
        split <;> omega
    have hsg : (sgn (decide (v < 0)) (m % 10) < 0 ∧ sgn (!decide (v < 0)) (m % 10) = ((m % 10 : Nat) : Int)) ∨ (¬ sgn (decide (v < 0)) (m % 10) < 0 ∧ sgn (decide (v < 0)) (m % 10) = ((m % 10 : Nat) : Int)) := by
      unfold sgn
      cases decide (v < 0) with
      | false => right; simp; omega
      | true =>
        by_cases h : m % 10 = 0
        · right; simp; omega
        · left; simp; omega
    have hn := hneg (m % 10) hp
    generalize sgn (decide (v < 0)) m = z at *
    generalize hz2 : sgn (decide (v < 0)) (m % 10) = z2 at *
    generalize sgn (!decide (v < 0)) (m % 10) = z3 at *
    generalize hb : UInt8.ofNat (48 + m % 10) = b at *
    rcases hcond with hc1 | ⟨hc1, hc2⟩
    · rcases hsg with ⟨hs1, hs2⟩ | ⟨hs1, hs2⟩
      · rw [hs2] at hn
        (refine LWP.seq <| LWP.seq <| LWP.region (by kernel_rfl) <| kmv rfl <| kse rfl rfl (strs_eq (r := true) hc1) <| kmv rfl <| RunK.passed rfl rfl rfl <| RunK.passed rfl rfl rfl <| kpt rfl rfl <| RunK.nil <| LWP.condT rfl ?_; refine LWP.skip ?_; refine LWP.block <| LWP.seq <| LWP.region (by kernel_rfl) <| kmv rfl <| K.rem rfl rfl (by decide) hmod .plain <| kas rfl <| RunK.nil <| LWP.seq <| LWP.seq <| LWP.region (by kernel_rfl) <| kmv rfl <| klt rfl rfl (decide_eq_true hs1) <| RunK.nil <| LWP.condT rfl ?_; refine LWP.region (by kernel_rfl) <| kmv rfl <| K.neg rfl hn .plain <| kas rfl <| RunK.nil <| LWP.seq <| LWP.region (by kernel_rfl) <| kmv rfl <| kad rfl rfl hadd <| kcv rfl hcv ?_; refine K.buildSlc (zs := [.int .u8 0]) (sz := 1) (e := 5) (cs' := [b].map bc) (by kernel_rfl) rfl rfl rfl rfl rfl rfl .plain <| K.convStr (l := [b]) rfl rfl (by kernel_rfl) StrT.u (Nat.le_refl _) hcut .plain <| kmv rfl <| K.strAdd rfl rfl hszA hsa .plain <| kas rfl <| RunK.nil <| LWP.region (by kernel_rfl) <| kmv rfl <| K.quo rfl rfl (by decide) hdiv .plain <| kas rfl <| RunK.nil ?_)
        exact ⟨m / 10 + 0, ⟨[(0, Ln .i64 (sgn (decide (v < 0)) (m / 10))), (3, Ls (b :: s)), (4, Lb (decide (v < 0)))], [], X⟩, hless, Le.of (by exact ⟨rfl, rfl, rfl, trivial⟩) (by exact trivial) (by exact rfl) (by exact rfl) (by repeat' (first | refine all_cons_true ?_ ?_ | rfl | exact bytes_inUse | exact vals_inUse | exact mid_inUse rfl)), m / 10, b :: s, by omega, hst, rfl, rfl⟩
      · subst hs2
        (refine LWP.seq <| LWP.seq <| LWP.region (by kernel_rfl) <| kmv rfl <| kse rfl rfl (strs_eq (r := true) hc1) <| kmv rfl <| RunK.passed rfl rfl rfl <| RunK.passed rfl rfl rfl <| kpt rfl rfl <| RunK.nil <| LWP.condT rfl ?_; refine LWP.skip ?_; refine LWP.block <| LWP.seq <| LWP.region (by kernel_rfl) <| kmv rfl <| K.rem rfl rfl (by decide) hmod .plain <| kas rfl <| RunK.nil <| LWP.seq <| LWP.seq <| LWP.region (by kernel_rfl) <| kmv rfl <| klt rfl rfl (decide_eq_false hs1) <| RunK.nil <| LWP.condF rfl ?_; refine LWP.skip ?_; refine LWP.seq <| LWP.region (by kernel_rfl) <| kmv rfl <| kad rfl rfl hadd <| kcv rfl hcv ?_; refine K.buildSlc (zs := [.int .u8 0]) (sz := 1) (e := 5) (cs' := [b].map bc) (by kernel_rfl) rfl rfl rfl rfl rfl rfl .plain <| K.convStr (l := [b]) rfl rfl (by kernel_rfl) StrT.u (Nat.le_refl _) hcut .plain <| kmv rfl <| K.strAdd rfl rfl hszA hsa .plain <| kas rfl <| RunK.nil <| LWP.region (by kernel_rfl) <| kmv rfl <| K.quo rfl rfl (by decide) hdiv .plain <| kas rfl <| RunK.nil ?_)
        exact ⟨m / 10 + 0, ⟨[(0, Ln .i64 (sgn (decide (v < 0)) (m / 10))), (3, Ls (b :: s)), (4, Lb (decide (v < 0)))], [], X⟩, hless, Le.of (by exact ⟨rfl, rfl, rfl, trivial⟩) (by exact trivial) (by exact rfl) (by exact rfl) (by repeat' (first | refine all_cons_true ?_ ?_ | rfl | exact bytes_inUse | exact vals_inUse | exact mid_inUse rfl)), m / 10, b :: s, by omega, hst, rfl, rfl⟩
    · rcases hsg with ⟨hs1, hs2⟩ | ⟨hs1, hs2⟩
      · rw [hs2] at hn
        (refine LWP.seq <| LWP.seq <| LWP.region (by kernel_rfl) <| kmv rfl <| kse rfl rfl (strs_eq (r := false) hc1) <| kmv rfl <| gmv rfl rfl rfl <| K.neq rfl rfl hc2 (.taken rfl rfl) ?_; refine kpf rfl rfl <| RunK.nil <| LWP.condT rfl ?_; refine LWP.skip ?_; refine LWP.block <| LWP.seq <| LWP.region (by kernel_rfl) <| kmv rfl <| K.rem rfl rfl (by decide) hmod .plain <| kas rfl <| RunK.nil <| LWP.seq <| LWP.seq <| LWP.region (by kernel_rfl) <| kmv rfl <| klt rfl rfl (decide_eq_true hs1) <| RunK.nil <| LWP.condT rfl ?_; refine LWP.region (by kernel_rfl) <| kmv rfl <| K.neg rfl hn .plain <| kas rfl <| RunK.nil <| LWP.seq <| LWP.region (by kernel_rfl) <| kmv rfl <| kad rfl rfl hadd <| kcv rfl hcv ?_; refine K.buildSlc (zs := [.int .u8 0]) (sz := 1) (e := 5) (cs' := [b].map bc) (by kernel_rfl) rfl rfl rfl rfl rfl rfl .plain <| K.convStr (l := [b]) rfl rfl (by kernel_rfl) StrT.u (Nat.le_refl _) hcut .plain <| kmv rfl <| K.strAdd rfl rfl hszA hsa .plain <| kas rfl <| RunK.nil <| LWP.region (by kernel_rfl) <| kmv rfl <| K.quo rfl rfl (by decide) hdiv .plain <| kas rfl <| RunK.nil ?_)
        exact ⟨m / 10 + 0, ⟨[(0, Ln .i64 (sgn (decide (v < 0)) (m / 10))), (3, Ls (b :: s)), (4, Lb (decide (v < 0)))], [], X⟩, hless, Le.of (by exact ⟨rfl, rfl, rfl, trivial⟩) (by exact trivial) (by exact rfl) (by exact rfl) (by repeat' (first | refine all_cons_true ?_ ?_ | rfl | exact bytes_inUse | exact vals_inUse | exact mid_inUse rfl)), m / 10, b :: s, by omega, hst, rfl, rfl⟩
      · subst hs2
        (refine LWP.seq <| LWP.seq <| LWP.region (by kernel_rfl) <| kmv rfl <| kse rfl rfl (strs_eq (r := false) hc1) <| kmv rfl <| gmv rfl rfl rfl <| K.neq rfl rfl hc2 (.taken rfl rfl) ?_; refine kpf rfl rfl <| RunK.nil <| LWP.condT rfl ?_; refine LWP.skip ?_; refine LWP.block <| LWP.seq <| LWP.region (by kernel_rfl) <| kmv rfl <| K.rem rfl rfl (by decide) hmod .plain <| kas rfl <| RunK.nil <| LWP.seq <| LWP.seq <| LWP.region (by kernel_rfl) <| kmv rfl <| klt rfl rfl (decide_eq_false hs1) <| RunK.nil <| LWP.condF rfl ?_; refine LWP.skip ?_; refine LWP.seq <| LWP.region (by kernel_rfl) <| kmv rfl <| kad rfl rfl hadd <| kcv rfl hcv ?_; refine K.buildSlc (zs := [.int .u8 0]) (sz := 1) (e := 5) (cs' := [b].map bc) (by kernel_rfl) rfl rfl rfl rfl rfl rfl .plain <| K.convStr (l := [b]) rfl rfl (by kernel_rfl) StrT.u (Nat.le_refl _) hcut .plain <| kmv rfl <| K.strAdd rfl rfl hszA hsa .plain <| kas rfl <| RunK.nil <| LWP.region (by kernel_rfl) <| kmv rfl <| K.quo rfl rfl (by decide) hdiv .plain <| kas rfl <| RunK.nil ?_)
        exact ⟨m / 10 + 0, ⟨[(0, Ln .i64 (sgn (decide (v < 0)) (m / 10))), (3, Ls (b :: s)), (4, Lb (decide (v < 0)))], [], X⟩, hless, Le.of (by exact ⟨rfl, rfl, rfl, trivial⟩) (by exact trivial) (by exact rfl) (by exact rfl) (by repeat' (first | refine all_cons_true ?_ ?_ | rfl | exact bytes_inUse | exact vals_inUse | exact mid_inUse rfl)), m / 10, b :: s, by omega, hst, rfl, rfl⟩
instance : ArrB Tryd.prog 64 (List.replicate 8 (.string ⟨#[]⟩)) 1 := ⟨by kernel_rfl⟩
abbrev Hx (x : Ch) : LV := .sv (.agg [.val (.int .i64 x.kind), .val (.int .i64 x.comp), .val (.string ⟨x.fld.toArray⟩)])
theorem rLine_spec (x : Ch) (h0 : -9223372036854775808 ≤ x.comp) (h1 : x.comp < 9223372036854775808) (hfl : x.fld.length ≤ 4611686018427387904) :
    PSpec Tryd.prog X 14 [Hx x] (Ls (lineT x)) := by
  refine PSpec.intro Tryd.func14 rfl (by kernel_rfl) rfl rfl ?_
  intro C
  by_cases hk1 : x.kind < 1
  · rw [show lineT x = [] by unfold lineT; rw [if_pos (.inl hk1)]]
    (refine LWP.seq <| LWP.region (by kernel_rfl) <| K.box rfl rfl rfl .plain <| kas rfl <| RunK.nil <| LWP.seq <| LWP.seq <| LWP.region (by kernel_rfl) <| kfa rfl rfl ?_; refine kl1 rfl rfl rfl <| klt rfl rfl (decide_eq_true hk1) <| kmv rfl <| RunK.passed rfl rfl rfl <| RunK.passed rfl rfl rfl <| RunK.passed rfl rfl rfl <| kpt rfl rfl <| RunK.nil <| LWP.condT rfl ?_; refine LWP.seq <| LWP.region (by kernel_rfl) <| kas rfl <| RunK.nil <| LWP.ret ?_)
    exact ⟨[_], ⟨rfl, trivial⟩, rfl⟩
  · by_cases hk7 : 7 < x.kind
    · rw [show lineT x = [] by unfold lineT; rw [if_pos (.inr hk7)]]
      (refine LWP.seq <| LWP.region (by kernel_rfl) <| K.box rfl rfl rfl .plain <| kas rfl <| RunK.nil <| LWP.seq <| LWP.seq <| LWP.region (by kernel_rfl) <| kfa rfl rfl ?_; refine kl1 rfl rfl rfl <| klt rfl rfl (decide_eq_false hk1) <| kmv rfl <| K.fieldAddr rfl rfl (.taken rfl rfl) ?_; refine K.loadOne rfl rfl rfl (.taken rfl rfl) ?_; refine K.gtr rfl rfl (decide_eq_true hk7) (.taken rfl rfl) ?_; refine kpf rfl rfl <| RunK.nil <| LWP.condT rfl ?_; refine LWP.seq <| LWP.region (by kernel_rfl) <| kas rfl <| RunK.nil <| LWP.ret ?_)
      exact ⟨[_], ⟨rfl, trivial⟩, rfl⟩
    · have hD := rDigits_spec X x.comp h0 h1
      have hw := chW_at (k := x.kind) (by omega) (by omega)
      have hi : 0 + Int.toNat x.kind * 1 = x.kind.toNat := by omega
      have hl1 := chW_len x.kind
      have hl2 := Lib.itoa_length_le x.comp h0 (by omega)
      have hle : lineT x = if x.fld = [] then chW x.kind ++ [32] ++ Lib.itoa x.comp else chW x.kind ++ [32] ++ Lib.itoa x.comp ++ [32] ++ x.fld := by unfold lineT; rw [if_neg (by omega)]
      rw [hle]
      generalize Lib.itoa x.comp = t at *
      generalize chW x.kind = w at *
      have g1 : (⟨w.toArray⟩ : ByteArray).size + (⟨([32] : List UInt8).toArray⟩ : ByteArray).size ≤ 9223372036854775807 := by show w.length + 1 ≤ _; omega
      have g2 : (⟨(w ++ [32]).toArray⟩ : ByteArray).size + (⟨t.toArray⟩ : ByteArray).size ≤ 9223372036854775807 := by show (w ++ [32]).length + t.length ≤ _; rw [List.length_append]; simp only [List.length_singleton]; omega
      have gl : (w ++ [32] ++ t).length ≤ 40 := by rw [List.length_append, List.length_append]; simp only [List.length_singleton]; omega
      by_cases hf : x.fld = []
      · have hne : (!(x.fld == ([] : List UInt8))) = false := by rw [hf]; rfl
        rw [if_pos hf]
        (refine LWP.seq <| LWP.region (by kernel_rfl) <| K.box rfl rfl rfl .plain <| kas rfl <| RunK.nil <| LWP.seq <| LWP.seq <| LWP.region (by kernel_rfl) <| kfa rfl rfl ?_; refine kl1 rfl rfl rfl <| klt rfl rfl (decide_eq_false hk1) <| kmv rfl <| K.fieldAddr rfl rfl (.taken rfl rfl) ?_; refine K.loadOne rfl rfl rfl (.taken rfl rfl) ?_; refine K.gtr rfl rfl (decide_eq_false hk7) (.taken rfl rfl) ?_; refine kpf rfl rfl <| RunK.nil <| LWP.condF rfl ?_; refine LWP.skip ?_; refine LWP.seq <| LWP.region (by kernel_rfl) <| K.buildArr rfl rfl (by exact rfl) rfl .plain ?_; refine K.alloc rfl .plain ?_; refine K.storeAll rfl rfl rfl rfl rfl rfl .plain ?_; refine RunK.nil <| LWP.seq <| LWP.draws mixed (by kernel_rfl) <| kfa rfl rfl ?_; refine kl1 rfl rfl rfl <| K.indexArr rfl rfl (by omega) hi .plain ?_; refine kl1 rfl rfl hw <| K.strAdd rfl rfl g1 (str_add w [32]) .plain <| kfa rfl rfl ?_; refine kl1 rfl rfl rfl <| kca rfl rfl hD <| K.strAdd rfl rfl g2 (str_add (w ++ [32]) t) .plain <| kas rfl <| RunK.nil <| And.intro (by kernel_rfl) ?_; refine LWP.seq <| LWP.seq <| LWP.region (by kernel_rfl) <| kfa rfl rfl ?_; refine kl1 rfl rfl rfl <| K.strNe rfl rfl (strs_ne (r := false) hne) .plain <| RunK.nil <| LWP.condF rfl ?_; refine LWP.skip ?_; refine LWP.seq <| LWP.region (by kernel_rfl) <| kmv rfl <| kas rfl <| RunK.nil <| LWP.ret ?_)
        exact ⟨[_], ⟨rfl, trivial⟩, rfl⟩
      · have hne : (!(x.fld == ([] : List UInt8))) = true := by rw [beq_eq_false_iff_ne.2 hf]; rfl
        rw [if_neg hf]
        have g3 : (⟨(w ++ [32] ++ t).toArray⟩ : ByteArray).size + (⟨([32] : List UInt8).toArray⟩ : ByteArray).size ≤ 9223372036854775807 := by show (w ++ [32] ++ t).length + 1 ≤ _; omega
        have g4 : (⟨(w ++ [32] ++ t ++ [32]).toArray⟩ : ByteArray).size + (⟨x.fld.toArray⟩ : ByteArray).size ≤ 9223372036854775807 := by show (w ++ [32] ++ t ++ [32]).length + x.fld.length ≤ _; rw [List.length_append (bs := [32])]; simp only [List.length_singleton]; omega
        (refine LWP.seq <| LWP.region (by kernel_rfl) <| K.box rfl rfl rfl .plain <| kas rfl <| RunK.nil <| LWP.seq <| LWP.seq <| LWP.region (by kernel_rfl) <| kfa rfl rfl ?_; refine kl1 rfl rfl rfl <| klt rfl rfl (decide_eq_false hk1) <| kmv rfl <| K.fieldAddr rfl rfl (.taken rfl rfl) ?_; refine K.loadOne rfl rfl rfl (.taken rfl rfl) ?_; refine K.gtr rfl rfl (decide_eq_false hk7) (.taken rfl rfl) ?_; refine kpf rfl rfl <| RunK.nil <| LWP.condF rfl ?_; refine LWP.skip ?_; refine LWP.seq <| LWP.region (by kernel_rfl) <| K.buildArr rfl rfl (by exact rfl) rfl .plain ?_; refine K.alloc rfl .plain ?_; refine K.storeAll rfl rfl rfl rfl rfl rfl .plain ?_; refine RunK.nil <| LWP.seq <| LWP.draws mixed (by kernel_rfl) <| kfa rfl rfl ?_; refine kl1 rfl rfl rfl <| K.indexArr rfl rfl (by omega) hi .plain ?_; refine kl1 rfl rfl hw <| K.strAdd rfl rfl g1 (str_add w [32]) .plain <| kfa rfl rfl ?_; refine kl1 rfl rfl rfl <| kca rfl rfl hD <| K.strAdd rfl rfl g2 (str_add (w ++ [32]) t) .plain <| kas rfl <| RunK.nil <| And.intro (by kernel_rfl) ?_; refine LWP.seq <| LWP.seq <| LWP.region (by kernel_rfl) <| kfa rfl rfl ?_; refine kl1 rfl rfl rfl <| K.strNe rfl rfl (strs_ne (r := true) hne) .plain <| RunK.nil <| LWP.condT rfl ?_; refine LWP.region (by kernel_rfl) <| kmv rfl <| K.strAdd rfl rfl g3 (str_add (w ++ [32] ++ t) [32]) .plain <| kfa rfl rfl ?_; refine kl1 rfl rfl rfl <| K.strAdd rfl rfl g4 (str_add (w ++ [32] ++ t ++ [32]) x.fld) .plain <| kas rfl <| RunK.nil <| LWP.seq <| LWP.region (by kernel_rfl) <| kmv rfl <| kas rfl <| RunK.nil <| LWP.ret ?_)
        exact ⟨[_], ⟨rfl, trivial⟩, rfl⟩
end Go.Proofs.YtfcaebhofjjjnaaDoor
end
section
namespace Go.Lg.Fld
open Go Go.Lg
def okT (nm : List UInt8) : Prop := nm.length < 256
def okF (f : Fl) : Prop := okT f.nm ∧ (0 ≤ f.kind ∧ f.kind < 256) ∧ (0 ≤ f.count ∧ f.count < 256)
def okC (c : Cp) : Prop := (0 ≤ c.id ∧ c.id < 256) ∧ okT c.nm ∧ c.fs.length < 256 ∧ ∀ f ∈ c.fs, okF f
theorem ok_of_check {s : Sc} (h : chkE s = 0) : (1 ≤ s.ver ∧ s.ver ≤ 1073741824) ∧ s.cs.length ≤ 24 ∧ ∀ c ∈ s.cs, okC c := by
  unfold chkE at h
  by_cases hv : s.ver < 1 ∨ 1073741824 < s.ver
  · rw [if_pos hv] at h; cases h
  rw [if_neg hv] at h
  have g := good_of h
  have hnm : ∀ l : List UInt8, nmB l = true → l.length ≤ 12 := fun l hl => by
    unfold nmB at hl
    simp only [Bool.and_eq_true, decide_eq_true_eq] at hl
    exact hl.1.2
  have hid : ∀ (i : Nat) (c : Cp), s.cs[i]? = some c → (i : Int) + 1 ≤ c.id := by
    intro i
    induction i with
    | zero => intro c hc; have := (g.one 0 c hc).1; omega
    | succ i ih =>
      intro c hc
      obtain ⟨d, hd⟩ : ∃ d, s.cs[i]? = some d := ⟨_, List.getElem?_eq_getElem (by have := (List.getElem?_eq_some_iff.1 hc).1; omega)⟩
      have h1 := ih d hd
      have h2 := (g.two i (i + 1) d c (by omega) hd hc).1
      omega
  refine ⟨by omega, ?_, fun c hc => ?_⟩
  · by_cases h0 : s.cs.length = 0
    · omega
    · obtain ⟨d, hd⟩ : ∃ d, s.cs[s.cs.length - 1]? = some d := ⟨_, List.getElem?_eq_getElem (by omega)⟩
      have h1 := hid _ d hd
      have h2 := (g.one _ d hd).2.1
      omega
  · obtain ⟨i, hi⟩ := List.mem_iff_getElem?.1 hc
    obtain ⟨h1, h2, h3, h4, h5⟩ := g.one i c hi
    obtain ⟨h8, hall, _⟩ := Go.Proofs.YtfcaebhofjjjnaaDoor.layErr_facts h5
    refine ⟨by omega, by have := hnm _ h3; unfold okT; omega, by omega, fun f hf => ?_⟩
    obtain ⟨k, hk⟩ := List.mem_iff_getElem?.1 hf
    have e1 := firstE_zero h4 k (Nat.zero_le _) (by have := (List.getElem?_eq_some_iff.1 hk).1; omega)
    rw [fldE_at hk] at e1
    have hfn : nmB f.nm = true := by
      by_cases hfn : nmB f.nm = true
      · exact hfn
      · rw [if_neg hfn] at e1; cases e1
    have hok := List.all_eq_true.1 hall f hf
    unfold Fl.ok at hok
    simp only [Bool.and_eq_true, decide_eq_true_eq] at hok
    refine ⟨by have := hnm _ hfn; unfold okT; omega, ?_, by omega⟩
    have := (kK_iff _).1 hok.1
    omega
end Go.Lg.Fld
end
section
namespace Go.Lg.Col
open Go Go.Lg Go.RowKit
abbrev Ext (X Y : Nat → Option Obj) : Prop := ∀ b o, X b = some o → Y b = some o
abbrev strV (l : List UInt8) : Value := .string ⟨l.toArray⟩
def txV (L : List (List UInt8)) : List Value := L.map strV
theorem txV_len (L : List (List UInt8)) : (txV L).length = L.length := List.length_map _
theorem txV_at {L : List (List UInt8)} {i : Nat} {l : List UInt8} (h : L[i]? = some l) : (txV L)[i]? = some (strV l) := by unfold txV; rw [List.getElem?_map, h]; rfl
theorem txC_at {L : List (List UInt8)} {i : Nat} {l : List UInt8} (h : L[i]? = some l) : ((txV L).map CV.val)[i]? = some (.val (strV l)) := by rw [List.getElem?_map, txV_at h]; rfl
theorem more {X Y : Nat → Option Obj} (hXY : Ext X Y) {ad : Option Addr} {vs : List Value} (h : OneIn X ad vs) : OneIn Y ad vs := fun i v hi => by
  obtain ⟨blk, off, arr, el, fr, h1, h2, h3⟩ := h i v hi
  exact ⟨blk, off, arr, el, fr, h1, hXY _ _ h2, h3⟩
theorem snoc {α : Type} {l : List α} {i : Nat} {f : α} (h : l[i]? = some f) : l.take (i + 1) = l.take i ++ [f] := by
  obtain ⟨hi, e⟩ := List.getElem?_eq_some_iff.1 h
  rw [List.take_add_one, h]; rfl
end Go.Lg.Col
namespace Go.Proofs.YtfcaebhofjjjnaaDoor
open Go Go.Lg Go.Lg.Col
set_option maxRecDepth 100000
variable (X : Nat → Option Obj)
end Go.Proofs.YtfcaebhofjjjnaaDoor
end
section
namespace Go.Lg.Fld
open Go Go.Lg
def Small9 (cs : List Cp) : Prop := cs.length ≤ 30 ∧ ∀ c ∈ cs, c.fs.length ≤ 12
def greatB9 (cs : List Cp) : Bool := decide (30 < cs.length) || cs.any fun c => decide (12 < c.fs.length)
theorem greatB9_small {cs : List Cp} (h : greatB9 cs = false) : Small9 cs := by
  unfold greatB9 at h
  rw [Bool.or_eq_false_iff] at h
  refine ⟨by have := of_decide_eq_false h.1; omega, fun c hc => ?_⟩
  have h2 := List.any_eq_false.1 h.2 c hc
  simp only [decide_eq_true_eq] at h2
  omega
def chkAB (a b : Sc) : Int := if chkE a = 0 then chkE b else chkE a
theorem chkAB_zero {a b : Sc} : chkAB a b = 0 ↔ chkE a = 0 ∧ chkE b = 0 := by
  unfold chkAB
  by_cases h : chkE a = 0
  · rw [if_pos h]; exact ⟨fun h2 => ⟨h, h2⟩, fun h2 => h2.2⟩
  · rw [if_neg h]; exact ⟨fun h2 => absurd h2 h, fun h2 => absurd h2.1 h⟩
def intV (l : List Int) : List Value := l.map (Value.int .i64 ·)
def inF (b : List Fl) (f : Fl) : Bool := decide (0 ≤ fldIx b f.nm)
def shN (a b : List Fl) : List (List UInt8) := (a.filter (inF b)).map Fl.nm
theorem mem_shN {a b : List Fl} {nm : List UInt8} : nm ∈ shN a b ↔ (fldAt a nm).isSome = true ∧ (fldAt b nm).isSome = true := by
  unfold shN
  rw [List.mem_map]
  constructor
  · rintro ⟨f, hf, rfl⟩
    obtain ⟨h1, h2⟩ := List.mem_filter.1 hf
    unfold inF at h2
    refine ⟨?_, by rw [fldAt_ix]; exact h2⟩
    unfold fldAt
    rw [List.find?_isSome]
    exact ⟨f, h1, by simp⟩
  · rintro ⟨h1, h2⟩
    obtain ⟨f, hf⟩ := Option.isSome_iff_exists.1 h1
    obtain ⟨h3, h4⟩ := fldAt_mem hf
    refine ⟨f, List.mem_filter.2 ⟨h3, ?_⟩, h4⟩
    unfold inF
    rw [h4, ← fldAt_ix]; exact h2
theorem ix_sorted {b : List Fl} (hb : Apart b) : b.Pairwise fun f g => fldIx b f.nm < fldIx b g.nm := by
  refine List.pairwise_iff_getElem.2 fun i j hi hj hij => ?_
  rw [(hb.at (List.getElem?_eq_getElem hi)).1, (hb.at (List.getElem?_eq_getElem hj)).1]
  omega
theorem sh_sorted {a b : List Fl} (hb : Apart b) : (shN b a).Pairwise fun x y => fldIx b x < fldIx b y := by
  unfold shN
  rw [List.pairwise_map]
  exact List.Pairwise.filter _ (ix_sorted hb)
theorem movB_sh {a b : List Fl} (ha : Apart a) (hb : Apart b) : movB a b = !decide (shN a b = shN b a) := by
  cases h : movB a b with
  | false =>
    rw [movB_iff] at h
    have e : shN a b = shN b a := by
      refine sorted_eq (fldIx b) ?_ (sh_sorted hb) fun x => by rw [mem_shN, mem_shN, and_comm]
      unfold shN
      rw [List.pairwise_map, List.pairwise_filter]
      refine List.Pairwise.imp₂ (R := fun f g : Fl => f.nm ≠ g.nm) (fun f g hn h2 h3 h4 => ?_) ha h
      unfold inF at h3 h4
      have h3 := of_decide_eq_true h3
      have h4 := of_decide_eq_true h4
      have h5 := h2 h3 h4
      have h6 : fldIx b f.nm ≠ fldIx b g.nm := fun e => by
        obtain ⟨p, f', hp, hfn, hpe, _, _⟩ := fldIx_some h3
        obtain ⟨q, g', hq, hgn, hqe, _, _⟩ := fldIx_some h4
        have : p = q := by omega
        subst this
        rw [hp] at hq
        cases hq
        exact hn (hfn.symm.trans hgn)
      omega
    rw [decide_eq_true e]; rfl
  | true =>
    cases hd : decide (shN a b = shN b a) with
    | false => rfl
    | true =>
      have e := of_decide_eq_true hd
      have h2 := sh_sorted (a := a) hb
      rw [← e] at h2
      unfold shN at h2
      rw [List.pairwise_map, List.pairwise_filter] at h2
      have : movB a b = false := by
        rw [movB_iff]
        refine List.Pairwise.imp (fun {f g} h3 h4 h5 => ?_) h2
        have := h3 (by unfold inF; exact decide_eq_true h4) (by unfold inF; exact decide_eq_true h5)
        omega
      rw [this] at h; cases h
theorem retF_ix {b : List Fl} {f : Fl} : retF b f = (inF b f && (match fldAt b f.nm with | some g => (!(g.kind == f.kind) || !(g.count == f.count)) | none => false)) := by
  unfold retF inF
  rw [← fldAt_ix]
  cases h : fldAt b f.nm with
  | none => rfl
  | some g =>
    have hn := (fldAt_mem h).2
    simp only [Option.isSome_some, Bool.true_and]
    obtain ⟨gn, gk, gc⟩ := g
    obtain ⟨fn, fk, fc⟩ := f
    simp only at hn
    subst hn
    by_cases h1 : gk = fk <;> by_cases h2 : gc = fc <;> simp [h1, h2]
theorem drpF_in {b : List Fl} {f : Fl} : drpF b f = !inF b f := by
  unfold drpF inF
  by_cases h : fldIx b f.nm < 0
  · rw [decide_eq_true h, decide_eq_false (by omega)]; rfl
  · rw [decide_eq_false h, decide_eq_true (by omega)]; rfl
theorem chk_good {s : Sc} (h : chkE s = 0) : Good s.cs := by
  unfold chkE at h
  split at h
  · cases h
  · exact good_of h
theorem chk_flds {s : Sc} (h : chkE s = 0) : ∀ c ∈ s.cs, ∀ f ∈ c.fs, f.nm.length < 256 := fun c hc f hf => by
  obtain ⟨_, _, h2⟩ := ok_of_check h
  obtain ⟨_, _, _, h3⟩ := h2 c hc
  exact (h3 f hf).1
theorem row_fld {c d : Cp} {k n : Nat} {x : Ch} (hx : x ∈ rowD c d k) (hc : ∀ f ∈ c.fs, f.nm.length < n + 1) (hd : ∀ f ∈ d.fs, f.nm.length < n + 1) : x.fld.length < n + 1 := by
  have hf : ∀ (fs : List Fl) (p : Fl → Bool) (q : Int), (∀ f ∈ fs, f.nm.length < n + 1) → x ∈ ((fs.filter p).map fun f => (⟨q, c.id, f.nm⟩ : Ch)) → x.fld.length < n + 1 := fun fs p q h hx => by
    obtain ⟨f, h1, rfl⟩ := List.mem_map.1 hx
    exact h f ((List.mem_filter.1 h1).1)
  match k, hx with
  | 3, hx =>
    simp only [rowD] at hx
    split at hx
    · cases hx
    · rw [List.mem_singleton.1 hx]; exact Nat.succ_pos _
  | 4, hx => simp only [rowD] at hx; exact hf _ _ _ hc hx
  | 5, hx => simp only [rowD] at hx; exact hf _ _ _ hd hx
  | 6, hx => simp only [rowD] at hx; exact hf _ _ _ hc hx
  | 7, hx =>
    simp only [rowD] at hx
    split at hx
    · rw [List.mem_singleton.1 hx]; exact Nat.succ_pos _
    · cases hx
  | 0, hx => simp [rowD] at hx
  | 1, hx => simp [rowD] at hx
  | 2, hx => simp [rowD] at hx
  | _ + 8, hx => simp [rowD] at hx
theorem diff_fld {a b : List Cp} {n : Nat} (ha : ∀ c ∈ a, ∀ f ∈ c.fs, f.nm.length < n + 1) (hb : ∀ c ∈ b, ∀ f ∈ c.fs, f.nm.length < n + 1) {x : Ch} (hx : x ∈ diffL a b) : x.fld.length < n + 1 := by
  obtain ⟨i, _, h⟩ := mem_upD.1 hx
  unfold idD at h
  split at h
  · cases h
  · rw [List.mem_singleton.1 h]; exact Nat.succ_pos _
  · rw [List.mem_singleton.1 h]; exact Nat.succ_pos _
  · rename_i c d h1 h2
    obtain ⟨k, hk⟩ := mem_compD.1 h
    exact row_fld hk (ha c (atId_mem h1).1) (hb d (atId_mem h2).1)
end Go.Lg.Fld
namespace Go.Proofs.YtfcaebhofjjjnaaDoor
open Go Go.Lg Go.Lg.Fld
set_option maxRecDepth 100000
abbrev dhB (k : Nat) (l : List Ch) : Nat × Option Box := (k, some ⟨40, (chV l).map .val, true⟩)
abbrev lnB (k : Nat) (l : List (List UInt8)) : Nat × Option Box := (k, some ⟨9, (Col.txV l).map .val, true⟩)
abbrev kpB (k : Nat) (l : List Int) : Nat × Option Box := (k, some ⟨3, (intV l).map .val, true⟩)
end Go.Proofs.YtfcaebhofjjjnaaDoor
end
