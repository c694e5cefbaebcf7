/- A piece of a proof over this program: contracts of its functions, and a logic to prove them by. -/
import Derived.Test.YteappfihapeakaaP3
import Derived.Test.YteappfihapeakaaP4
import Derived.Test.YteappfihapeakaaP5
import Derived.Test.YteappfihapeakaaP6
import Derived.Test.YteappfihapeakaaRows
section
-- package schema: Ids, SameComp, Same
namespace Go.Lg.Fld
open Go Go.Lg
def idsV (cs : List Cp) : List Value := cs.map fun c => .int .i64 c.id
end Go.Lg.Fld
namespace Go.Proofs.Yteappfihapeakaa
open Go Go.Lg Go.Lg.Fld
set_option maxRecDepth 100000
variable (X : Nat → Option Obj)
theorem pIds (ver : Int) (ad : Option Addr) (cap : Nat) (cs : List Cp) (hin : CompsIn X ad cs) (hS : cs.length ≤ 65536) : MSpec Try.prog X 18 [Sx ver ad cs.length cap] [] (.sv (.one (.slc 1000001 0 cs.length))) [(1000001, some ⟨3, (idsV cs).map .val, false⟩)] := by
  refine MSpec.intro Try.func18 rfl (by kernel_rfl) rfl rfl (by exact (by repeat' (first | refine all_cons_true ?_ ?_ | rfl | exact bytes_inUse | exact vals_inUse | exact mid_inUse rfl))) rfl rfl ?_
  intro C
  have hmk : slcBuild Try.prog 44 cs.length = some (List.replicate cs.length (.int .i64 0), 1, 3) := slcBuild_one (by kernel_rfl) (by kernel_rfl) (by omega)
  (refine LWP.seq <| LWP.region (by kernel_rfl) <| K.box rfl rfl rfl .plain <| kas rfl <| RunK.nil <| LWP.seq <| LWP.region (by kernel_rfl) <| kfa rfl rfl ?_; refine kl1 rfl rfl rfl <| K.lenX rfl SliceT.h rfl .plain ?_; refine K.makeSlc (m := cs.length) (bytes := 8) rfl rfl hmk (by kernel_rfl) (by omega) rfl rfl .plain <| kas rfl <| RunK.nil <| LWP.seq <| LWP.seq <| LWP.region (by kernel_rfl) <| kfa rfl rfl ?_; refine kl1 rfl rfl rfl <| K.lenX rfl SliceT.h rfl .plain ?_; refine kmv rfl <| RunK.nil <| LWP.block ?_)
  refine LWP.loop (fun m σ => ∃ i : Nat, i ≤ cs.length ∧ m = cs.length - i ∧ σ = ⟨[(3, .sv (.one (.slc 9 0 cs.length))), (11, Lx ad cs.length cap), (12, Ln .i64 (cs.length : Nat)), (13, Ln .i64 (i : Nat))], [(9, some ⟨3, (idsV (cs.take i) ++ List.replicate (cs.length - i) (Value.int .i64 0)).map .val, false⟩)], X⟩) cs.length
    ⟨_, Le.of (by exact ⟨rfl, rfl, rfl, rfl, trivial⟩) (by exact ⟨rfl, trivial⟩) (by exact rfl) (by exact rfl) (by repeat' (first | refine all_cons_true ?_ ?_ | rfl | exact bytes_inUse | exact vals_inUse | exact mid_inUse rfl)), 0, by omega, by omega, rfl⟩ ?_
  rintro m σ ⟨i, hi, rfl, rfl⟩
  by_cases hlt : i < cs.length
  · obtain ⟨c, hc⟩ : ∃ c, cs[i]? = some c := ⟨_, List.getElem?_eq_getElem hlt⟩
    obtain ⟨blk, off, arr, el, fr, fad, fcap, rfl, hX, hsz, hcs, _, _, _, hF⟩ := hin.get hc
    have hio : off + Int.toNat (i : Int) * 3 = off + i * 3 := by simp
    have hix : 0 + Int.toNat (i : Int) * 1 = i := by rw [Int.toNat_natCast]; omega
    have hil : (idsV (cs.take i)).length = i := by unfold idsV; rw [List.length_map, List.length_take]; omega
    have hroom : i + 1 ≤ ((idsV (cs.take i) ++ List.replicate (cs.length - i) (Value.int .i64 0)).map CV.val).length := by rw [List.length_map, List.length_append, hil, List.length_replicate]; omega
    have hspl : splice ((idsV (cs.take i) ++ List.replicate (cs.length - i) (Value.int .i64 0)).map CV.val) i [.val (.int .i64 c.id)] = (idsV (cs.take (i + 1)) ++ List.replicate (cs.length - (i + 1)) (Value.int .i64 0)).map CV.val := by
      unfold splice
      rw [show cs.length - i = (cs.length - (i + 1)) + 1 by omega, List.replicate_succ, take_snoc hc]
      have e : idsV (cs.take i ++ [c]) = idsV (cs.take i) ++ [.int .i64 c.id] := by unfold idsV; rw [List.map_append]; rfl
      rw [e]
      simp only [List.map_append, List.append_assoc]
      have hml : ((idsV (cs.take i)).map CV.val).length = i := by rw [List.length_map, hil]
      generalize (idsV (cs.take i)).map CV.val = R at *
      rw [← hml, List.take_left, List.drop_length_add_append]
      simp
    (refine LWP.seq <| LWP.region (by kernel_rfl) <| klt rfl rfl (decide_eq_true (by omega)) <| RunK.nil <| LWP.seq <| LWP.condT rfl ?_; refine LWP.skip ?_; refine LWP.seq <| LWP.block <| LWP.seq <| LWP.region (by kernel_rfl) <| kmv rfl <| K.indexX rfl rfl SliceT.h (by omega) hio .plain <| K.loadXagg rfl hX (by kernel_rfl) hsz hcs .plain <| K.alloc rfl .plain ?_; refine kas rfl <| K.storeAll rfl rfl rfl rfl rfl rfl .plain ?_; refine RunK.nil <| LWP.region (by kernel_rfl) <| kmv rfl <| kmv rfl <| kfa rfl rfl ?_; refine kl1 rfl rfl rfl <| K.indexSlc rfl rfl (by omega) hix .plain ?_; refine K.store rfl rfl rfl rfl (by kernel_rfl) hroom hspl .plain <| RunK.nil <| LWP.region (by kernel_rfl) <| kad rfl rfl (wrap_i64 (by omega)) <| kmv rfl <| RunK.nil ?_)
    exact ⟨_, _, by omega, Le.of (by exact ⟨rfl, rfl, rfl, rfl, trivial⟩) (by exact ⟨rfl, trivial⟩) (by exact rfl) (by exact rfl) (by repeat' (first | refine all_cons_true ?_ ?_ | rfl | exact bytes_inUse | exact vals_inUse | exact mid_inUse rfl)), i + 1, by omega, rfl, rfl⟩
  · have e : i = cs.length := by omega
    subst e
    rw [List.take_length, Nat.sub_self, List.replicate_zero, List.append_nil]
    (refine LWP.seq <| LWP.region (by kernel_rfl) <| klt rfl rfl (decide_eq_false (by omega)) <| RunK.nil <| LWP.seq <| LWP.condF rfl ?_; refine LWP.exit <| LWP.seq <| LWP.region (by kernel_rfl) <| kmv rfl <| kas rfl <| RunK.nil <| LWP.ret ?_)
    exact ⟨[(1000001, 9)], ⟨[_], ⟨rfl, trivial⟩, rfl⟩, (by repeat' (first | exact trivial | refine And.intro ⟨_, rfl, ?_⟩ ?_ | refine And.intro ⟨_, rfl⟩ ?_ | rfl | exact Box.ren_bytes _ _ _ _ | exact Box.ren_vals _ _ _ _ | exact Box.ren_mid rfl)), rfl, rfl⟩
theorem feq_spec (ad ad2 : Option Addr) (cap cap2 : Nat) (a b : List Fl) (ha : FieldsIn X ad a) (hb : FieldsIn X ad2 b) (hbig : a.length < 4611686018427387904) (r : Bool) (hr : decide (a = b) = r) :
    PSpec Try.prog X 42 [Lx ad a.length cap, Lx ad2 b.length cap2] (Lb r) := by
  subst hr
  refine PSpec.intro Try.func42 rfl (by kernel_rfl) rfl rfl ?_
  intro C
  by_cases hl : a.length = b.length
  · (refine LWP.seq <| LWP.region (by kernel_rfl) <| kas rfl <| RunK.nil <| LWP.seq <| LWP.seq <| LWP.region (by kernel_rfl) <| kmv rfl <| K.lenX rfl SliceT.h rfl .plain ?_; refine kmv rfl <| K.lenX rfl SliceT.h rfl .plain ?_; refine kne rfl rfl (r := false) (by rw [hl]; simp) <| RunK.nil <| LWP.condF rfl ?_; refine LWP.skip ?_; refine LWP.seq <| LWP.seq <| LWP.region (by kernel_rfl) <| kmv rfl <| K.lenX rfl SliceT.h rfl .plain ?_; refine kmv rfl <| RunK.nil <| LWP.block ?_)
    refine LWP.loop (fun m σ => ∃ i : Nat, i ≤ a.length ∧ m = a.length - i ∧ a.take i = b.take i ∧ σ = ⟨[(0, Lx ad a.length cap), (1, Lx ad2 b.length cap2), (12, Ln .i64 (a.length : Nat)), (13, Ln .i64 (i : Nat))], [], X⟩) a.length
      ⟨_, Le.of (by exact ⟨rfl, rfl, rfl, rfl, trivial⟩) (by exact trivial) (by exact rfl) (by exact rfl) (by exact rfl), 0, by omega, rfl, rfl, rfl⟩ ?_
    rintro m σ ⟨i, hi, rfl, hpre, rfl⟩
    by_cases hlt : i < a.length
    · obtain ⟨f, hf⟩ : ∃ v, a[i]? = some v := ⟨_, List.getElem?_eq_getElem hlt⟩
      obtain ⟨f', hf'⟩ : ∃ v, b[i]? = some v := ⟨_, List.getElem?_eq_getElem (by omega)⟩
      obtain ⟨blk, off, arr, el, fr, rfl, hX, hsz, hcells⟩ := ha.at hf
      obtain ⟨blk', off', arr', el', fr', rfl, hX', hsz', hcells'⟩ := hb.at hf'
      have hio : off + Int.toNat (i : Int) * 3 = off + i * 3 := by simp
      have hio' : off' + Int.toNat (i : Int) * 3 = off' + i * 3 := by simp
      by_cases hq : f = f'
      · (refine LWP.seq <| LWP.region (by kernel_rfl) <| klt rfl rfl (decide_eq_true (by omega)) <| RunK.nil <| LWP.seq <| LWP.condT rfl ?_; refine LWP.skip ?_; refine LWP.seq <| LWP.block <| LWP.seq <| LWP.region (by kernel_rfl) <| kmv rfl <| kas rfl <| RunK.nil <| LWP.seq <| LWP.draws mixed (by kernel_rfl) <| kmv rfl <| kmv rfl <| K.indexX rfl rfl SliceT.h (by omega) hio .plain <| K.loadXagg rfl hX (by kernel_rfl) hsz hcells .plain <| kmv rfl ?_; refine kmv rfl <| K.indexX rfl rfl SliceT.h (by omega) hio' .plain <| K.loadXagg rfl hX' (by kernel_rfl) hsz' hcells' .plain <| K.aggEq (us := f.vals) (vs := f'.vals) rfl rfl rfl rfl (by kernel_rfl) (eqF f f' true (decide_eq_true hq)) (.inr ⟨rfl, rfl⟩) .plain <| RunK.nil <| And.intro (by kernel_rfl) ?_; refine LWP.condF rfl ?_; refine LWP.skip ?_; refine LWP.region (by kernel_rfl) <| kad rfl rfl (wrap_i64 (by omega)) <| kmv rfl <| RunK.nil ?_)
        exact ⟨_, _, by omega, Le.of (by exact ⟨rfl, rfl, rfl, rfl, trivial⟩) (by exact trivial) (by exact rfl) (by exact rfl) (by exact rfl), i + 1, by omega, rfl, by rw [take_snoc hf, take_snoc hf', hpre, hq], rfl⟩
      · rw [decide_eq_false (show ¬a = b from fun e => hq (by rw [e, hf'] at hf; exact (Option.some.inj hf).symm))]
        (refine LWP.seq <| LWP.region (by kernel_rfl) <| klt rfl rfl (decide_eq_true (by omega)) <| RunK.nil <| LWP.seq <| LWP.condT rfl ?_; refine LWP.skip ?_; refine LWP.seq <| LWP.block <| LWP.seq <| LWP.region (by kernel_rfl) <| kmv rfl <| kas rfl <| RunK.nil <| LWP.seq <| LWP.draws mixed (by kernel_rfl) <| kmv rfl <| kmv rfl <| K.indexX rfl rfl SliceT.h (by omega) hio .plain <| K.loadXagg rfl hX (by kernel_rfl) hsz hcells .plain <| kmv rfl ?_; refine kmv rfl <| K.indexX rfl rfl SliceT.h (by omega) hio' .plain <| K.loadXagg rfl hX' (by kernel_rfl) hsz' hcells' .plain <| K.aggEq (us := f.vals) (vs := f'.vals) rfl rfl rfl rfl (by kernel_rfl) (eqF f f' false (decide_eq_false hq)) (.inr ⟨rfl, rfl⟩) .plain <| RunK.nil <| And.intro (by kernel_rfl) ?_; refine LWP.condT rfl ?_; refine LWP.seq <| LWP.region (by kernel_rfl) <| kas rfl <| RunK.nil <| LWP.ret ?_)
        exact ⟨[_], ⟨rfl, trivial⟩, rfl⟩
    · have e : i = a.length := by omega
      subst e
      rw [List.take_length, List.take_of_length_le (by omega)] at hpre
      rw [decide_eq_true hpre]
      (refine LWP.seq <| LWP.region (by kernel_rfl) <| klt rfl rfl (decide_eq_false (by omega)) <| RunK.nil <| LWP.seq <| LWP.condF rfl ?_; refine LWP.exit <| LWP.seq <| LWP.region (by kernel_rfl) <| kas rfl <| RunK.nil <| LWP.ret ?_)
      exact ⟨[_], ⟨rfl, trivial⟩, rfl⟩
  · rw [decide_eq_false (show ¬a = b from fun e => hl (by rw [e]))]
    (refine LWP.seq <| LWP.region (by kernel_rfl) <| kas rfl <| RunK.nil <| LWP.seq <| LWP.seq <| LWP.region (by kernel_rfl) <| kmv rfl <| K.lenX rfl SliceT.h rfl .plain ?_; refine kmv rfl <| K.lenX rfl SliceT.h rfl .plain ?_; refine kne rfl rfl (r := true) (by rw [bne_iff_ne]; omega) <| RunK.nil <| LWP.condT rfl ?_; refine LWP.seq <| LWP.region (by kernel_rfl) <| kas rfl <| RunK.nil <| LWP.ret ?_)
    exact ⟨[_], ⟨rfl, trivial⟩, rfl⟩
theorem pSameComp (a b : Cp) (ad ad2 : Option Addr) (cap cap2 : Nat) (ha : FieldsIn X ad a.fs) (hb : FieldsIn X ad2 b.fs) (hbig : a.fs.length < 4611686018427387904) (r : Bool) (hr : decide (a = b) = r) :
    PSpec Try.prog X 21 [Cx a ad cap, Cx b ad2 cap2] (Lb r) := by
  subst hr
  refine PSpec.intro Try.func21 rfl (by kernel_rfl) rfl rfl ?_
  intro C
  by_cases h1 : a.id = b.id
  · by_cases h2 : a.nm = b.nm
    · have hF := feq_spec X ad ad2 cap cap2 a.fs b.fs ha hb hbig (decide (a.fs = b.fs)) rfl
      have e : decide (a = b) = decide (a.fs = b.fs) := by
        cases a; cases b; simp only at h1 h2; subst h1 h2; simp
      rw [e]
      (refine LWP.seq <| LWP.region (by kernel_rfl) <| K.box rfl rfl rfl .plain <| K.box rfl rfl rfl .plain <| kas rfl <| RunK.nil <| LWP.seq <| LWP.region (by kernel_rfl) <| kfa rfl rfl ?_; refine kl1 rfl rfl rfl <| kfa rfl rfl ?_; refine kl1 rfl rfl rfl <| keq rfl rfl (r := true) (by rw [beq_iff_eq]; exact h1) <| kmv rfl <| K.fieldAddr rfl rfl (.taken rfl rfl) ?_; refine K.loadOne rfl rfl rfl (.taken rfl rfl) ?_; refine K.fieldAddr rfl rfl (.taken rfl rfl) ?_; refine K.loadOne rfl rfl rfl (.taken rfl rfl) ?_; refine K.strEq rfl rfl (strs_eq (r := true) (by rw [h2]; simp)) (.taken rfl rfl) ?_; refine kpt rfl rfl <| kmv rfl <| K.fieldAddr rfl rfl (.taken rfl rfl) ?_; refine K.loadOne rfl rfl rfl (.taken rfl rfl) ?_; refine K.fieldAddr rfl rfl (.taken rfl rfl) ?_; refine K.loadOne rfl rfl rfl (.taken rfl rfl) ?_; refine gca rfl rfl hF rfl rfl <| kpt rfl rfl <| kas rfl <| RunK.nil <| LWP.ret ?_)
      exact ⟨[_], ⟨rfl, trivial⟩, rfl⟩
    · rw [decide_eq_false (show ¬a = b from fun e => h2 (by rw [e]))]
      (refine LWP.seq <| LWP.region (by kernel_rfl) <| K.box rfl rfl rfl .plain <| K.box rfl rfl rfl .plain <| kas rfl <| RunK.nil <| LWP.seq <| LWP.region (by kernel_rfl) <| kfa rfl rfl ?_; refine kl1 rfl rfl rfl <| kfa rfl rfl ?_; refine kl1 rfl rfl rfl <| keq rfl rfl (r := true) (by rw [beq_iff_eq]; exact h1) <| kmv rfl <| K.fieldAddr rfl rfl (.taken rfl rfl) ?_; refine K.loadOne rfl rfl rfl (.taken rfl rfl) ?_; refine K.fieldAddr rfl rfl (.taken rfl rfl) ?_; refine K.loadOne rfl rfl rfl (.taken rfl rfl) ?_; refine K.strEq rfl rfl (strs_eq (r := false) (by rw [beq_eq_false_iff_ne]; exact h2)) (.taken rfl rfl) ?_; refine kpt rfl rfl <| kmv rfl <| RunK.passed rfl rfl rfl <| RunK.passed rfl rfl rfl <| RunK.passed rfl rfl rfl <| RunK.passed rfl rfl rfl <| RunK.passed rfl rfl rfl <| kpf rfl rfl <| kas rfl <| RunK.nil <| LWP.ret ?_)
      exact ⟨[_], ⟨rfl, trivial⟩, rfl⟩
  · rw [decide_eq_false (show ¬a = b from fun e => h1 (by rw [e]))]
    (refine LWP.seq <| LWP.region (by kernel_rfl) <| K.box rfl rfl rfl .plain <| K.box rfl rfl rfl .plain <| kas rfl <| RunK.nil <| LWP.seq <| LWP.region (by kernel_rfl) <| kfa rfl rfl ?_; refine kl1 rfl rfl rfl <| kfa rfl rfl ?_; refine kl1 rfl rfl rfl <| keq rfl rfl (r := false) (by rw [beq_eq_false_iff_ne]; exact h1) <| kmv rfl <| RunK.passed rfl rfl rfl <| RunK.passed rfl rfl rfl <| RunK.passed rfl rfl rfl <| RunK.passed rfl rfl rfl <| RunK.passed rfl rfl rfl <| kpf rfl rfl <| kmv rfl <| RunK.passed rfl rfl rfl <| RunK.passed rfl rfl rfl <| RunK.passed rfl rfl rfl <| RunK.passed rfl rfl rfl ?_; refine RunK.passed rfl rfl rfl <| kpf rfl rfl <| kas rfl <| RunK.nil <| LWP.ret ?_)
    exact ⟨[_], ⟨rfl, trivial⟩, rfl⟩
set_option maxHeartbeats 1600000 in
theorem ceq_spec (ad ad2 : Option Addr) (cap cap2 : Nat) (a b : List Cp) (ha : CompsIn X ad a) (hb : CompsIn X ad2 b) (hbig : a.length < 4611686018427387904) (hfs : ∀ c ∈ a, c.fs.length < 4611686018427387904) :
    PSpec Try.prog X 43 [Lx ad a.length cap, Lx ad2 b.length cap2, Lf 21 []] (Lb (decide (a = b))) := by
  refine PSpec.intro Try.func43 rfl (by kernel_rfl) rfl rfl ?_
  intro C
  by_cases hl : a.length = b.length
  · (refine LWP.seq <| LWP.region (by kernel_rfl) <| kas rfl <| RunK.nil <| LWP.seq <| LWP.seq <| LWP.region (by kernel_rfl) <| kmv rfl <| K.lenX rfl SliceT.h rfl .plain ?_; refine kmv rfl <| K.lenX rfl SliceT.h rfl .plain ?_; refine kne rfl rfl (r := false) (by rw [hl]; simp) <| RunK.nil <| LWP.condF rfl ?_; refine LWP.skip ?_; refine LWP.seq <| LWP.seq <| LWP.region (by kernel_rfl) <| kmv rfl <| K.lenX rfl SliceT.h rfl .plain ?_; refine kmv rfl <| RunK.nil <| LWP.block ?_)
    refine LWP.loop (fun m σ => ∃ i : Nat, i ≤ a.length ∧ m = a.length - i ∧ a.take i = b.take i ∧ σ = ⟨[(1, Lx ad2 b.length cap2), (2, Lf 21 []), (15, Lx ad a.length cap), (16, Ln .i64 (a.length : Nat)), (17, Ln .i64 (i : Nat))], [], X⟩) a.length
      ⟨_, Le.of (by exact ⟨rfl, rfl, rfl, rfl, rfl, trivial⟩) (by exact trivial) (by exact rfl) (by exact rfl) (by exact rfl), 0, by omega, rfl, rfl, rfl⟩ ?_
    rintro m σ ⟨i, hi, rfl, hpre, rfl⟩
    by_cases hlt : i < a.length
    · obtain ⟨c, hc⟩ : ∃ v, a[i]? = some v := ⟨_, List.getElem?_eq_getElem hlt⟩
      obtain ⟨d, hd⟩ : ∃ v, b[i]? = some v := ⟨_, List.getElem?_eq_getElem (by omega)⟩
      obtain ⟨blk, off, arr, el, fr, fad, fcap, rfl, hX, hsz, hcs, _, _, _, hF⟩ := ha.get hc
      obtain ⟨blk', off', arr', el', fr', fad', fcap', rfl, hX', hsz', hcs', _, _, _, hF'⟩ := hb.get hd
      have hio : off + Int.toNat (i : Int) * 3 = off + i * 3 := by simp
      have hio' : off' + Int.toNat (i : Int) * 3 = off' + i * 3 := by simp
      have hq := pSameComp X c d fad fad' fcap fcap' hF hF' (hfs c (List.mem_of_getElem? hc)) (decide (c = d)) rfl
      by_cases he : c = d
      · rw [decide_eq_true he] at hq
        (refine LWP.seq <| LWP.region (by kernel_rfl) <| klt rfl rfl (decide_eq_true (by omega)) <| RunK.nil <| LWP.seq <| LWP.condT rfl ?_; refine LWP.skip ?_; refine LWP.seq <| LWP.block <| LWP.seq <| LWP.region (by kernel_rfl) <| kmv rfl <| K.indexX rfl rfl SliceT.h (by omega) hio .plain <| K.loadXagg rfl hX (by kernel_rfl) hsz hcs .plain <| K.alloc rfl .plain ?_; refine kas rfl <| K.storeAll rfl rfl rfl rfl rfl rfl .plain ?_; refine RunK.nil <| LWP.seq <| LWP.region (by kernel_rfl) <| kmv rfl <| kmv rfl <| K.indexX rfl rfl SliceT.h (by omega) hio' .plain <| K.loadXagg rfl hX' (by kernel_rfl) hsz' hcs' .plain <| K.alloc rfl .plain ?_; refine K.storeAll rfl rfl rfl rfl rfl rfl .plain ?_; refine RunK.nil <| LWP.seq <| LWP.region (by kernel_rfl) <| kmv rfl <| K.loadAll rfl rfl rfl .plain ?_; refine K.loadAll rfl rfl rfl .plain ?_; refine K.callF (caps := []) rfl rfl rfl hq .plain ?_; refine K.not rfl rfl .plain <| RunK.nil <| LWP.condF rfl ?_; refine LWP.skip ?_; refine LWP.region (by kernel_rfl) <| kad rfl rfl (wrap_i64 (by omega)) <| kmv rfl <| RunK.nil ?_)
        exact ⟨_, _, by omega, Le.of (by exact ⟨rfl, rfl, rfl, rfl, rfl, trivial⟩) (by exact trivial) (by exact rfl) (by exact rfl) (by exact rfl), i + 1, by omega, rfl, by rw [take_snoc hc, take_snoc hd, hpre, he], rfl⟩
      · rw [decide_eq_false he] at hq
        rw [decide_eq_false (show ¬a = b from fun e => he (by rw [e, hd] at hc; exact (Option.some.inj hc).symm))]
        (refine LWP.seq <| LWP.region (by kernel_rfl) <| klt rfl rfl (decide_eq_true (by omega)) <| RunK.nil <| LWP.seq <| LWP.condT rfl ?_; refine LWP.skip ?_; refine LWP.seq <| LWP.block <| LWP.seq <| LWP.region (by kernel_rfl) <| kmv rfl <| K.indexX rfl rfl SliceT.h (by omega) hio .plain <| K.loadXagg rfl hX (by kernel_rfl) hsz hcs .plain <| K.alloc rfl .plain ?_; refine kas rfl <| K.storeAll rfl rfl rfl rfl rfl rfl .plain ?_; refine RunK.nil <| LWP.seq <| LWP.region (by kernel_rfl) <| kmv rfl <| kmv rfl <| K.indexX rfl rfl SliceT.h (by omega) hio' .plain <| K.loadXagg rfl hX' (by kernel_rfl) hsz' hcs' .plain <| K.alloc rfl .plain ?_; refine K.storeAll rfl rfl rfl rfl rfl rfl .plain ?_; refine RunK.nil <| LWP.seq <| LWP.region (by kernel_rfl) <| kmv rfl <| K.loadAll rfl rfl rfl .plain ?_; refine K.loadAll rfl rfl rfl .plain ?_; refine K.callF (caps := []) rfl rfl rfl hq .plain ?_; refine K.not rfl rfl .plain <| RunK.nil <| LWP.condT rfl ?_; refine LWP.seq <| LWP.region (by kernel_rfl) <| kas rfl <| RunK.nil <| LWP.ret ?_)
        exact ⟨[_], ⟨rfl, trivial⟩, rfl⟩
    · have e : i = a.length := by omega
      subst e
      rw [List.take_length, List.take_of_length_le (by omega)] at hpre
      rw [decide_eq_true hpre]
      (refine LWP.seq <| LWP.region (by kernel_rfl) <| klt rfl rfl (decide_eq_false (by omega)) <| RunK.nil <| LWP.seq <| LWP.condF rfl ?_; refine LWP.exit <| LWP.seq <| LWP.region (by kernel_rfl) <| kas rfl <| RunK.nil <| LWP.ret ?_)
      exact ⟨[_], ⟨rfl, trivial⟩, rfl⟩
  · rw [decide_eq_false (show ¬a = b from fun e => hl (by rw [e]))]
    (refine LWP.seq <| LWP.region (by kernel_rfl) <| kas rfl <| RunK.nil <| LWP.seq <| LWP.seq <| LWP.region (by kernel_rfl) <| kmv rfl <| K.lenX rfl SliceT.h rfl .plain ?_; refine kmv rfl <| K.lenX rfl SliceT.h rfl .plain ?_; refine kne rfl rfl (r := true) (by rw [bne_iff_ne]; omega) <| RunK.nil <| LWP.condT rfl ?_; refine LWP.seq <| LWP.region (by kernel_rfl) <| kas rfl <| RunK.nil <| LWP.ret ?_)
    exact ⟨[_], ⟨rfl, trivial⟩, rfl⟩
/-- Same of any schemas -/
theorem pSameBig (a b : Sc) (ad ad2 : Option Addr) (cap cap2 : Nat) (ha : CompsIn X ad a.cs) (hb : CompsIn X ad2 b.cs) (hbig : a.cs.length < 4611686018427387904) (hfs : ∀ c ∈ a.cs, c.fs.length < 4611686018427387904) (r : Bool) (hr : decide (a = b) = r) :
    PSpec Try.prog X 22 [Sx a.ver ad a.cs.length cap, Sx b.ver ad2 b.cs.length cap2] (Lb r) := by
  subst hr
  refine PSpec.intro Try.func22 rfl (by kernel_rfl) rfl rfl ?_
  intro C
  by_cases h1 : a.ver = b.ver
  · have hq := ceq_spec X ad ad2 cap cap2 a.cs b.cs ha hb hbig hfs
    have e : decide (a = b) = decide (a.cs = b.cs) := by
      cases a; cases b; simp only at h1; subst h1; simp
    rw [e]
    (refine LWP.seq <| LWP.region (by kernel_rfl) <| K.box rfl rfl rfl .plain <| K.box rfl rfl rfl .plain <| kas rfl <| RunK.nil <| LWP.seq <| LWP.region (by kernel_rfl) <| kfa rfl rfl ?_; refine kl1 rfl rfl rfl <| kfa rfl rfl ?_; refine kl1 rfl rfl rfl <| keq rfl rfl (r := true) (by rw [beq_iff_eq]; exact h1) <| kmv rfl <| K.fieldAddr rfl rfl (.taken rfl rfl) ?_; refine K.loadOne rfl rfl rfl (.taken rfl rfl) ?_; refine K.fieldAddr rfl rfl (.taken rfl rfl) ?_; refine K.loadOne rfl rfl rfl (.taken rfl rfl) ?_; refine gca rfl rfl hq rfl rfl <| kpt rfl rfl <| kas rfl <| RunK.nil <| LWP.ret ?_)
    exact ⟨[_], ⟨rfl, trivial⟩, rfl⟩
  · rw [decide_eq_false (show ¬a = b from fun e => h1 (by rw [e]))]
    (refine LWP.seq <| LWP.region (by kernel_rfl) <| K.box rfl rfl rfl .plain <| K.box rfl rfl rfl .plain <| kas rfl <| RunK.nil <| LWP.seq <| LWP.region (by kernel_rfl) <| kfa rfl rfl ?_; refine kl1 rfl rfl rfl <| kfa rfl rfl ?_; refine kl1 rfl rfl rfl <| keq rfl rfl (r := false) (by rw [beq_eq_false_iff_ne]; exact h1) <| kmv rfl <| RunK.passed rfl rfl rfl <| RunK.passed rfl rfl rfl <| RunK.passed rfl rfl rfl <| RunK.passed rfl rfl rfl <| RunK.passed rfl rfl rfl <| kpf rfl rfl <| kas rfl <| RunK.nil <| LWP.ret ?_)
    exact ⟨[_], ⟨rfl, trivial⟩, rfl⟩
theorem pSame (a b : Sc) (ad ad2 : Option Addr) (cap cap2 : Nat) (ha : CompsIn X ad a.cs) (hb : CompsIn X ad2 b.cs) (hS : SmallC a.cs) (r : Bool) (hr : decide (a = b) = r) :
    PSpec Try.prog X 22 [Sx a.ver ad a.cs.length cap, Sx b.ver ad2 b.cs.length cap2] (Lb r) :=
  pSameBig X a b ad ad2 cap cap2 ha hb (by have := hS.1; omega) (fun c hc => by have := (hS.2 c hc).1; omega) r hr
end Go.Proofs.Yteappfihapeakaa
end
section
-- package schema: Clone, CheckPart, CheckParts
namespace Go.Lg.Fld
open Go Go.Lg
theorem rowsZ_app : ∀ {a b : List Cp} {u v : List Value}, u.length = a.length → rowsZ (a ++ b) (u ++ v) = rowsZ a u ++ rowsZ b v
  | [], _, [], _, _ => rfl
  | _ :: a, b, _ :: u, v, h => by
    simp only [List.length_cons] at h
    simp only [List.cons_append, rowsZ]
    rw [rowsZ_app (a := a) (b := b) (u := u) (v := v) (by omega)]
  | [], _, _ :: _, _, h => by simp at h
  | _ :: _, _, [], _, h => by simp at h
theorem joinM_has {C : Ctx} {Y H : Nat → Option Obj} (hO : OwnedM C Y H) {b : Nat} {o : Obj} (h : Y b = some o) : joinM Y H b = some o := by
  cases hb : H b with
  | none => rw [joinM_out hb]; exact h
  | some o' => have := (hO.own b o' hb).2.2; rw [this] at h; cases h
/-- zero components -/
def zer (k : Nat) : List Value := (List.replicate k [Value.int .i64 0, Value.string ⟨#[]⟩, Value.slice none 0 0]).flatten
theorem zer_succ (k : Nat) : zer (k + 1) = [Value.int .i64 0, Value.string ⟨#[]⟩, Value.slice none 0 0] ++ zer k := by unfold zer; rw [List.replicate_succ, List.flatten_cons]
theorem zer_len (k : Nat) : (zer k).length = k * 3 := by
  induction k with
  | zero => rfl
  | succ k ih => rw [zer_succ, List.length_append, ih]; simp; omega
theorem rowsZ_snoc {cs : List Cp} {cells : List Value} {i : Nat} {c : Cp} {v : Value} (hl : cells.length = i) (hc : cs[i]? = some c) : rowsZ (cs.take (i + 1)) (cells ++ [v]) = rowsZ (cs.take i) cells ++ [.int .i64 c.id, .string ⟨c.nm.toArray⟩, v] := by
  rw [take_snoc hc, rowsZ_app (by rw [List.length_take]; have := (List.getElem?_eq_some_iff.1 hc).1; omega)]; rfl
/-- ids that were seen, as a map has them -/
def idM (ns : List Int) : List (Value × Value) := ns.map fun x => (.int .i64 x, .agg #[])
theorem idM_at (ns : List Int) (x : Int) : At (idM ns) (.int .i64 x) (.agg #[]) (.agg #[]) := by
  by_cases h : x ∈ ns
  · exact .inl (List.mem_map.2 ⟨x, h, rfl⟩)
  · refine .inr ⟨fun p hp e => ?_, rfl⟩
    obtain ⟨y, hy, rfl⟩ := List.mem_map.1 hp
    simp only [Value.int.injEq, true_and] at e
    exact h (e ▸ hy)
theorem idM_any (ns : List Int) (x : Int) (r : Bool) (hr : ns.any (fun m => m == x) = r) : r = true ↔ ∃ p ∈ idM ns, p.1 = .int .i64 x := by
  subst hr
  rw [List.any_eq_true]
  constructor
  · rintro ⟨m, hm, he⟩
    rw [beq_iff_eq] at he
    subst he
    exact ⟨_, List.mem_map.2 ⟨m, hm, rfl⟩, rfl⟩
  · rintro ⟨p, hp, e⟩
    obtain ⟨y, hy, rfl⟩ := List.mem_map.1 hp
    simp only [Value.int.injEq, true_and] at e
    exact ⟨y, hy, by rw [beq_iff_eq]; exact e⟩
theorem idM_put {ns : List Int} {x : Int} (h : ns.any (fun m => m == x) = false) : Put (idM ns) (.int .i64 x) (.agg #[]) (idM (ns ++ [x])) := by
  refine .inr ⟨fun p hp e => ?_, by unfold idM; rw [List.map_append]; rfl⟩
  obtain ⟨y, hy, rfl⟩ := List.mem_map.1 hp
  simp only [Value.int.injEq, true_and] at e
  rw [List.any_eq_false] at h
  exact h y hy (by rw [beq_iff_eq]; exact e)
theorem fields_none {X : Nat → Option Obj} {ad : Option Addr} {fs : List Fl} (h : fs = []) : FieldsIn X ad fs := by
  subst h
  exact ⟨fun k r hr => (by simp at hr), fun f hf => (by cases hf)⟩
/-- fields of a box that is lent -/
theorem lent_fields {S : Nat → Option (Option Box)} {Y : Nat → Option Obj} {k n : Nat} {el : TypeId} {row : Bool} {fs : List Fl} {u : Value} (hk : S k = some (some ⟨el, (flV fs).map .val, row⟩)) (hs : ∀ f ∈ fs, (-9223372036854775808 ≤ f.kind ∧ f.kind < 9223372036854775808) ∧ (-9223372036854775808 ≤ f.count ∧ f.count < 9223372036854775808)) (h : LentC S Y (.slc k 0 n 3) u) :
    ∃ (fa : Addr) (fcap : Nat), u = .slice (some fa) n fcap ∧ FieldsIn Y (some fa) fs := by
  obtain ⟨b, blk, cap2, m, hk', rfl, hc, hfit, hB⟩ := h
  rw [hk] at hk'
  simp only [Option.some.injEq] at hk'
  subst hk'
  obtain ⟨arr, fr, us', sp, hYb, hsz, harr, hv⟩ := hB
  have := hv _ rfl
  subst this
  exact ⟨⟨blk, 0, none⟩, cap2, rfl, fields_block hYb harr hs⟩
end Go.Lg.Fld
namespace Go.Proofs.Yteappfihapeakaa
open Go Go.Lg Go.Lg.Fld
set_option maxRecDepth 100000
section
variable {n : Nat} {C : Ctx} {X : Nat → Option Obj} {s : List (Nat × LV)} {bx : List (Nat × Option Box)} {k : Nat}
/-- components that were made become a resource -/
theorem sc_shut {Mid : St → Prop} {cs : List Cp} {H : Nat → Option Obj} {cells sp : List Value} (hO : OwnedM C X H) (G : Twigs H 41 3 [] cells (cs.map fun c => flV c.fs)) (hb : InB cs)
    (h : Leads n C Mid ⟨s, scB k cs :: bx, X⟩) : Leads n C Mid ⟨s, (k, some ⟨34, (rowsZ cs cells ++ sp).map .val, false⟩) :: bx, joinM X H⟩ := by
  refine Leads.closeRes (vals := rowsZ cs cells ++ sp) hO (fun ρ fr h1 h2 h3 => ?_) h
  refine ⟨_, fr, cells, sp, withBlock_at _ _ _, ?_, ?_, ?_, hb⟩
  · rw [h3]; simp
  · simp
  · rw [cut_with h1]; exact G
end
variable (X : Nat → Option Obj)
abbrev kcSt (ver : Int) (ad : Option Addr) (n cap i : Nat) (rows : List Value) (Y : Nat → Option Obj) : St :=
  ⟨[(1, Lp 1), (2, Lp 2), (3, .sv (.one (.slc 9 0 n 3))), (11, Lx ad n cap), (12, Ln .i64 (n : Nat)), (13, Ln .i64 (i : Nat))], [(9, some ⟨34, rows.map .val, false⟩), sxB 1 ver ad n cap, (2, some ⟨24, [.val (.int .i64 0), .val (.slice none 0 0)], false⟩)], Y⟩
set_option maxHeartbeats 6400000 in
theorem pCloneBig (ver : Int) (ad : Option Addr) (cap : Nat) (cs : List Cp) (hin : CompsIn X ad cs) (hn : cs.length ≤ 65536) (hfb0 : ∀ c ∈ cs, c.fs.length ≤ 65536) : MSpec Try.prog X 24 [Sx ver ad cs.length cap] [] (.sv (.agg [.val (.int .i64 ver), .slc 1000001 0 cs.length 3])) [scB 1000001 cs] := by
  refine MSpec.intro Try.func24 rfl (by kernel_rfl) rfl rfl (by exact (by repeat' (first | refine all_cons_true ?_ ?_ | rfl | exact bytes_inUse | exact vals_inUse | exact mid_inUse rfl))) rfl rfl ?_
  intro C
  have hInb : InB cs := fun c hc => by
    obtain ⟨i, hi⟩ := List.mem_iff_getElem?.1 hc
    obtain ⟨_, _, _, _, _, _, _, _, _, _, _, _, _, _, hF⟩ := hin.get hi
    exact ⟨hin.small c hc, hF.small⟩
  have hmk : slcBuild Try.prog 22 cs.length = some (zer cs.length, 3, 34) := slcBuild_many (z := #[.int .i64 0, .string ⟨#[]⟩, .slice none 0 0]) (by kernel_rfl) (by kernel_rfl) rfl (by omega)
  refine LWP.ends ?_
  (refine LWP.seq <| LWP.region (by kernel_rfl) <| K.box rfl rfl rfl .plain <| K.alloc rfl .plain ?_; refine RunK.nil <| LWP.seq <| LWP.region (by kernel_rfl) <| kfa rfl rfl ?_; refine kl1 rfl rfl rfl <| K.lenX rfl SliceT.h rfl .plain ?_; refine K.makeSlc (m := cs.length) (bytes := 48) rfl rfl hmk (by kernel_rfl) (by omega) rfl rfl .plain <| kas rfl <| RunK.nil <| LWP.seq <| LWP.seq <| LWP.region (by kernel_rfl) <| kfa rfl rfl ?_; refine kl1 rfl rfl rfl <| K.lenX rfl SliceT.h rfl .plain ?_; refine kmv rfl <| RunK.nil <| LWP.block ?_)
  refine LWP.loopL (fun m σ => ∃ (i : Nat) (cells : List Value) (H : Nat → Option Obj), i ≤ cs.length ∧ m = cs.length - i ∧ OwnedM C X H ∧ Twigs H 41 3 [] cells ((cs.take i).map fun c => flV c.fs) ∧ σ = kcSt ver ad cs.length cap i (rowsZ (cs.take i) cells ++ zer (cs.length - i)) (joinM X H)) cs.length
    (Leads.le (σ' := kcSt ver ad cs.length cap 0 (rowsZ (cs.take 0) [] ++ zer (cs.length - 0)) X) ?_ (Leads.done ⟨0, [], fun _ => none, by omega, by omega, OwnedM.nil _ _, Twigs.nil _ _ _ _, rfl⟩)) ?_
  · exact Le.of (by exact ⟨rfl, rfl, rfl, rfl, rfl, rfl, trivial⟩) (by exact ⟨rfl, rfl, rfl, trivial⟩) (by exact rfl) (by exact rfl) (by repeat' (first | refine all_cons_true ?_ ?_ | rfl | exact bytes_inUse | exact vals_inUse | exact mid_inUse rfl))
  rintro m σ ⟨i, cells, H, hi, rfl, hO, G, rfl⟩
  have hcl : cells.length = i := by rw [G.len, List.length_map, List.length_take]; omega
  by_cases hlt : i < cs.length
  · obtain ⟨c, hc⟩ : ∃ c, cs[i]? = some c := ⟨_, List.getElem?_eq_getElem hlt⟩
    obtain ⟨blk, off, arr, el, fr, fad, fcap, rfl, hX, hsz, hcs, _, _, _, hF⟩ := hin.get hc
    have hio : off + Int.toNat (i : Int) * 3 = off + i * 3 := by simp
    have hix : 0 + Int.toNat (i : Int) * 3 = i * 3 := by rw [Int.toNat_natCast]; omega
    have hX1 : joinM X H blk = some (.cells arr el fr) := joinM_has hO hX
    have hpl : (rowsZ (cs.take i) cells).length = i * 3 := by rw [rowsZ_len (by rw [hcl, List.length_take]; omega), List.length_take, Nat.min_eq_left (by omega)]
    have hFY := hF.mono (Y := joinM X H) fun b o h => joinM_has hO h
    have hfb := hfb0 c (List.mem_of_getElem? hc)
    have hroom : i * 3 + 3 ≤ ((rowsZ (cs.take i) cells ++ zer (cs.length - i)).map CV.val).length := by rw [List.length_map, List.length_append, hpl, zer_len]; omega
    have hspl : ∀ cv : CV, splice ((rowsZ (cs.take i) cells ++ zer (cs.length - i)).map CV.val) (i * 3) [.val (.int .i64 c.id), .val (.string ⟨c.nm.toArray⟩), cv] = (rowsZ (cs.take i) cells ++ [Value.int .i64 c.id, Value.string ⟨c.nm.toArray⟩]).map CV.val ++ cv :: (zer (cs.length - (i + 1))).map .val := fun cv => by
      unfold splice
      rw [show cs.length - i = (cs.length - (i + 1)) + 1 by omega, zer_succ]
      simp only [List.map_append, List.append_assoc]
      have hml : ((rowsZ (cs.take i) cells).map CV.val).length = i * 3 := by rw [List.length_map, hpl]
      generalize (rowsZ (cs.take i) cells).map CV.val = R at *
      rw [← hml, List.take_left, List.drop_length_add_append]
      simp
    cases fad with
    | none =>
      have hf0 := hF.none
      have hq := cclone_nil (joinM X H) c fcap hf0
      have hl0 : c.fs.length = 0 := by rw [hf0]; rfl
      have hm0 : rowsZ (cs.take (i + 1)) (cells ++ [.slice none 0 0]) = rowsZ (cs.take i) cells ++ [.int .i64 c.id, .string ⟨c.nm.toArray⟩, .slice none 0 0] := rowsZ_snoc hcl hc
      (refine LWP.seq <| LWP.region (by kernel_rfl) <| klt rfl rfl (decide_eq_true (by omega)) <| RunK.nil <| LWP.seq <| LWP.condT rfl ?_; refine LWP.skip ?_; refine LWP.seq <| LWP.block <| LWP.seq <| LWP.region (by kernel_rfl) <| kmv rfl <| K.indexX rfl rfl SliceT.h (by omega) hio .plain <| K.loadXagg rfl hX1 (by kernel_rfl) hsz hcs .plain <| K.alloc rfl .plain ?_; refine kas rfl <| K.storeAll rfl rfl rfl rfl rfl rfl .plain ?_; refine RunK.nil <| LWP.region (by kernel_rfl) <| kmv rfl <| kmv rfl <| K.loadAll rfl rfl rfl .plain ?_; refine kca rfl rfl hq <| K.indexSlc rfl rfl (by omega) hix .plain ?_; refine K.store rfl rfl rfl rfl (by kernel_rfl) hroom (hspl (.val (.slice none c.fs.length 0))) .plain <| RunK.nil <| LWP.region (by kernel_rfl) <| kad rfl rfl (wrap_i64 (by omega)) <| kmv rfl <| RunK.nil ?_)
      refine Leads.le (σ' := kcSt ver (some ⟨blk, off, none⟩) cs.length cap (i + 1) (rowsZ (cs.take (i + 1)) (cells ++ [.slice none 0 0]) ++ zer (cs.length - (i + 1))) (joinM X H)) ?_ (Leads.done ⟨cs.length - (i + 1), by omega, i + 1, cells ++ [.slice none 0 0], H, by omega, rfl, hO, ?_, rfl⟩)
      · have hcell : (rowsZ (cs.take i) cells ++ [Value.int .i64 c.id, Value.string ⟨c.nm.toArray⟩]).map CV.val ++ .val (.slice none c.fs.length 0) :: (zer (cs.length - (i + 1))).map .val = (rowsZ (cs.take (i + 1)) (cells ++ [.slice none 0 0]) ++ zer (cs.length - (i + 1))).map .val := by rw [hm0, hl0]; simp
        rw [hcell]
        exact Le.of (by exact ⟨rfl, rfl, rfl, rfl, rfl, rfl, trivial⟩) (by exact ⟨rfl, rfl, rfl, trivial⟩) (by exact rfl) (by exact rfl) (by repeat' (first | refine all_cons_true ?_ ?_ | rfl | exact bytes_inUse | exact vals_inUse | exact mid_inUse rfl))
      · have G2 := G.pushZ none 0
        rw [take_snoc hc, List.map_append, List.map_cons, List.map_nil, show flV c.fs = [] by rw [hf0]; rfl]
        exact G2
    | some fa =>
      have hq := cclone_some (joinM X H) c fa fcap hFY hfb
      (refine LWP.seq <| LWP.region (by kernel_rfl) <| klt rfl rfl (decide_eq_true (by omega)) <| RunK.nil <| LWP.seq <| LWP.condT rfl ?_; refine LWP.skip ?_; refine LWP.seq <| LWP.block <| LWP.seq <| LWP.region (by kernel_rfl) <| kmv rfl <| K.indexX rfl rfl SliceT.h (by omega) hio .plain <| K.loadXagg rfl hX1 (by kernel_rfl) hsz hcs .plain <| K.alloc rfl .plain ?_; refine kas rfl <| K.storeAll rfl rfl rfl rfl rfl rfl .plain ?_; refine RunK.nil <| LWP.region (by kernel_rfl) <| kmv rfl <| kmv rfl <| K.loadAll rfl rfl rfl .plain ?_; refine K.callMp [(1000001, 20)] (.sv (SCs c 20)) [fdB 20 c.fs] (hq) rfl rfl (by exact trivial) rfl rfl rfl rfl rfl (by exact (.box rfl (Box.ren_vals _ _ _ _) .nil)) .plain <| K.indexSlc rfl rfl (by omega) hix .plain ?_; refine K.store rfl rfl rfl rfl (by kernel_rfl) hroom (hspl (.slc 20 0 c.fs.length 3)) .plain <| RunK.nil <| LWP.region (by kernel_rfl) <| kad rfl rfl (wrap_i64 (by omega)) <| kmv rfl <| RunK.nil ?_)
      refine Leads.le (σ' := ⟨[(1, Lp 1), (2, Lp 2), (3, .sv (.one (.slc 9 0 cs.length 3))), (11, Lx (some ⟨blk, off, none⟩) cs.length cap), (12, Ln .i64 (cs.length : Nat)), (13, Ln .i64 (i + 1 : Nat))], [(9, some ⟨34, (rowsZ (cs.take i) cells ++ [Value.int .i64 c.id, Value.string ⟨c.nm.toArray⟩]).map .val ++ .slc 20 0 c.fs.length 3 :: (zer (cs.length - (i + 1))).map .val, false⟩), (20, some ⟨41, (flV c.fs).map .val, true⟩), sxB 1 ver (some ⟨blk, off, none⟩) cs.length cap, (2, some ⟨24, [.val (.int .i64 0), .val (.slice none 0 0)], false⟩)], joinM X H⟩) (Le.of (by exact ⟨rfl, rfl, rfl, rfl, rfl, rfl, trivial⟩) (by exact ⟨rfl, rfl, rfl, rfl, trivial⟩) (by exact rfl) (by exact rfl) (by repeat' (first | refine all_cons_true ?_ ?_ | rfl | exact bytes_inUse | exact vals_inUse | exact mid_inUse rfl))) ?_
      refine Leads.closeCell hO (flV_len _) rfl vals_inUse vals_inUse rfl rfl rfl fun b o v g1 _ hO3 hv => Leads.done ⟨cs.length - (i + 1), by omega, i + 1, cells ++ [v], withBlock H b o, by omega, rfl, hO3, ?_, ?_⟩
      · rw [take_snoc hc, List.map_append, List.map_cons, List.map_nil]
        by_cases hf0 : flV c.fs = []
        · rw [hf0] at hv ⊢
          obtain ⟨len, cap', arr, fr, rfl, h2, _⟩ := hv
          have e0 : len = 0 := by rw [List.length_nil] at h2; omega
          subst e0
          exact (G.more g1).pushZ _ _
        · exact G.push g1 hv hf0
      · rw [rowsZ_snoc hcl hc]
        unfold kcSt
        simp
  · have e : i = cs.length := by omega
    subst e
    rw [List.take_length] at *
    (refine LWP.seq <| LWP.region (by kernel_rfl) <| klt rfl rfl (decide_eq_false (by omega)) <| RunK.nil <| LWP.seq <| LWP.condF rfl ?_; refine LWP.exit <| LWP.seq <| LWP.region (by kernel_rfl) <| kfa rfl rfl ?_; refine kl1 rfl rfl rfl <| kmv rfl <| K.build rfl rfl (by exact rfl) (by exact nl2 rfl rfl rfl) .plain ?_; refine K.storeAll rfl rfl rfl rfl rfl rfl .plain ?_; refine RunK.nil <| LWP.ret ?_)
    refine Leads.le (σ' := ⟨[(2, Lp 2)], [(9, some ⟨34, (rowsZ cs cells ++ []).map .val, false⟩), (2, some ⟨24, [.val (.int .i64 ver), .slc 9 0 cs.length 3], false⟩)], joinM X H⟩) (by rw [Nat.sub_self]; exact Le.of (by exact ⟨rfl, trivial⟩) (by exact ⟨rfl, rfl, trivial⟩) (by exact rfl) (by exact rfl) (by repeat' (first | refine all_cons_true ?_ ?_ | rfl | exact bytes_inUse | exact vals_inUse | exact mid_inUse rfl))) ?_
    refine sc_shut hO G hInb (Leads.done ?_)
    exact ⟨[(1000001, 9)], ⟨[_], ⟨⟨_, _, rfl, rfl, rfl, .inl ⟨AggT.h, rfl⟩⟩, trivial⟩, rfl⟩, (by repeat' (first | exact trivial | refine And.intro ⟨_, rfl, ?_⟩ ?_ | refine And.intro ⟨_, rfl⟩ ?_ | rfl | exact Box.ren_bytes _ _ _ _ | exact Box.ren_vals _ _ _ _ | exact Box.ren_mid rfl)), rfl, rfl⟩
theorem pClone (ver : Int) (ad : Option Addr) (cap : Nat) (cs : List Cp) (hin : CompsIn X ad cs) (hS : SmallC cs) : MSpec Try.prog X 24 [Sx ver ad cs.length cap] [] (.sv (.agg [.val (.int .i64 ver), .slc 1000001 0 cs.length 3])) [scB 1000001 cs] :=
  pCloneBig X ver ad cap cs hin (by have := hS.1; omega) fun c hc => by have := (hS.2 c hc).1; omega
/-- Fit of fields in a box -/
theorem fit_lent {S : Nat → Option (Option Box)} {k : Nat} {fs : List Fl} {vad : Option Addr} {vcap : Nat} {ns : List (Bool × Int)} {el : TypeId} {row : Bool} {e : Int} (hs : ∀ f ∈ fs, (-9223372036854775808 ≤ f.kind ∧ f.kind < 9223372036854775808) ∧ (-9223372036854775808 ≤ f.count ∧ f.count < 9223372036854775808)) (hbig : fs.length < 4611686018427387904) (hns : NumsIn X vad ns) (hnb : ns.length < 4611686018427387904)
    (hk : S k = some (some ⟨el, (flV fs).map .val, row⟩)) (he : fitErr fs ns = e) :
    ∀ (Y : Nat → Option Obj) (us : List Value), (∀ b o, X b = some o → Y b = some o) → LentLs S Y [.sv (.one (.slc k 0 fs.length 3)), Lx vad ns.length vcap] us → PSpec Try.prog Y 40 (us.map toLV) (Ln .i64 e) := by
  intro Y us hY hL
  obtain ⟨u1, us1, rfl, h1, u2, us2, rfl, h2, rfl⟩ := hL
  have h2 : u2 = .slice vad ns.length vcap := h2
  subst h2
  obtain ⟨fa, fcap, rfl, hF⟩ := lent_fields hk hs h1
  subst he
  exact lFit_spec Y (some fa) vad fcap vcap fs ns hF hbig ⟨hns.rows.mono hY, hns.in2⟩ hnb
theorem pPartBig (ver : Int) (ad vad : Option Addr) (cap vcap : Nat) (cs : List Cp) (p : Pt) (hin : CompsIn X ad cs) (hbig : cs.length < 4611686018427387904) (hfs : ∀ c ∈ cs, c.fs.length ≤ 65536) (hns : NumsIn X vad p.val) (hnb : p.val.length < 4611686018427387904) (e : Int) (he : partE cs p = e) :
    PSpec Try.prog X 19 [Sx ver ad cs.length cap, Px p vad vcap] (Ln .i64 e) := by
  subst he
  refine PSpec.intro Try.func19 rfl (by kernel_rfl) rfl rfl ?_
  intro C
  unfold partE
  rcases find_cases cs p.comp with ⟨i, c, hc, he, hpre⟩ | hno
  · rw [find_at hpre hc he]
    have hfb := hfs c (List.mem_of_getElem? hc)
    rcases pFind X ver ad cap cs p.comp hin hbig hfs hpre hc he with ⟨h0, hF⟩ | hF
    · have hR := lFit_spec X none vad 0 vcap c.fs p.val (fields_none h0) (by omega) hns hnb
      simp only
      generalize fitErr c.fs p.val = e at *
      (refine LWP.seq <| LWP.region (by kernel_rfl) <| K.box rfl rfl rfl .plain <| K.box rfl rfl rfl .plain <| kas rfl <| RunK.nil <| LWP.seq <| LWP.region (by kernel_rfl) <| K.loadAll rfl rfl rfl .plain ?_; refine kfa rfl rfl ?_; refine kl1 rfl rfl rfl <| kca rfl rfl hF <| kmv rfl <| kex rfl rfl <| kex rfl rfl <| K.alloc rfl .plain ?_; refine K.storeAll rfl rfl rfl rfl rfl rfl .plain ?_; refine kas rfl <| RunK.nil <| LWP.seq <| LWP.seq <| LWP.region (by kernel_rfl) <| kmv rfl <| K.not rfl rfl .plain <| RunK.nil <| LWP.condF rfl ?_; refine LWP.skip ?_; refine LWP.seq <| LWP.region (by kernel_rfl) <| kfa rfl rfl ?_; refine kl1 rfl rfl rfl <| kfa rfl rfl ?_; refine kl1 rfl rfl rfl <| kca rfl rfl (hR) <| kas rfl <| RunK.nil <| LWP.ret ?_)
      exact ⟨[_], ⟨rfl, trivial⟩, rfl⟩
    · obtain ⟨_, _, _, _, _, _, _, _, _, _, _, _, _, _, hFs⟩ := hin.get hc
      have hR := fun (S : Nat → Option (Option Box)) (hk : S 20 = some (some ⟨41, (flV c.fs).map .val, true⟩)) => fit_lent X (S := S) (k := 20) (vcap := vcap) hFs.small (by omega) hns hnb hk rfl
      simp only
      generalize fitErr c.fs p.val = e at *
      (refine LWP.seq <| LWP.region (by kernel_rfl) <| K.box rfl rfl rfl .plain <| K.box rfl rfl rfl .plain <| kas rfl <| RunK.nil <| LWP.seq <| LWP.region (by kernel_rfl) <| K.loadAll rfl rfl rfl .plain ?_; refine kfa rfl rfl ?_; refine kl1 rfl rfl rfl <| K.callMp [(1000001, 20)] (.tup [SCs c 20, Sb true]) [fdB 20 c.fs] (hF) rfl rfl (by exact trivial) rfl rfl rfl rfl rfl (by exact (.box rfl (Box.ren_vals _ _ _ _) .nil)) .plain <| kmv rfl <| kex rfl rfl <| kex rfl rfl <| K.alloc rfl .plain ?_; refine K.storeAll rfl rfl rfl rfl rfl rfl .plain ?_; refine kas rfl <| RunK.nil <| LWP.seq <| LWP.seq <| LWP.region (by kernel_rfl) <| kmv rfl <| K.not rfl rfl .plain <| RunK.nil <| LWP.condF rfl ?_; refine LWP.skip ?_; refine LWP.seq <| LWP.region (by kernel_rfl) <| kfa rfl rfl ?_; refine kl1 rfl rfl rfl <| kfa rfl rfl ?_; refine kl1 rfl rfl rfl <| K.callL [20] rfl rfl rfl (hR _ rfl) .plain ?_; refine kas rfl <| RunK.nil <| LWP.ret ?_)
      exact ⟨[_], ⟨rfl, trivial⟩, rfl⟩
  · rw [find_no hno]
    have hF := pFind_no X ver ad cap cs p.comp hin hbig hno
    (refine LWP.seq <| LWP.region (by kernel_rfl) <| K.box rfl rfl rfl .plain <| K.box rfl rfl rfl .plain <| kas rfl <| RunK.nil <| LWP.seq <| LWP.region (by kernel_rfl) <| K.loadAll rfl rfl rfl .plain ?_; refine kfa rfl rfl ?_; refine kl1 rfl rfl rfl <| kca rfl rfl hF <| kmv rfl <| kex rfl rfl <| kex rfl rfl <| K.alloc rfl .plain ?_; refine K.storeAll rfl rfl rfl rfl rfl rfl .plain ?_; refine kas rfl <| RunK.nil <| LWP.seq <| LWP.seq <| LWP.region (by kernel_rfl) <| kmv rfl <| K.not rfl rfl .plain <| RunK.nil <| LWP.condT rfl ?_; refine LWP.seq <| LWP.region (by kernel_rfl) <| kas rfl <| RunK.nil <| LWP.ret ?_)
    exact ⟨[_], ⟨rfl, trivial⟩, rfl⟩
theorem pPart (ver : Int) (ad vad : Option Addr) (cap vcap : Nat) (cs : List Cp) (p : Pt) (hin : CompsIn X ad cs) (hS : SmallC cs) (hns : NumsIn X vad p.val) (hnb : p.val.length ≤ 100) (e : Int) (he : partE cs p = e) :
    PSpec Try.prog X 19 [Sx ver ad cs.length cap, Px p vad vcap] (Ln .i64 e) :=
  pPartBig X ver ad vad cap vcap cs p hin (by have := hS.1; omega) (fun c hc => by have := (hS.2 c hc).1; omega) hns (by omega) e he
abbrev idBx (k : Nat) (ns : List Int) : Nat × Option Box := (k, some ⟨0, [], .res (mapR Try.prog 3 (idM ns))⟩)
set_option maxHeartbeats 3200000 in
theorem pPartsBig (ver : Int) (ad pad : Option Addr) (cap pcap : Nat) (cs : List Cp) (ps : List Pt) (hin : CompsIn X ad cs) (hbig : cs.length < 4611686018427387904) (hfs : ∀ c ∈ cs, c.fs.length ≤ 65536) (hps : PartsIn X pad ps) (hpb : ps.length < 4611686018427387904) (hnb : ∀ p ∈ ps, p.val.length < 4611686018427387904) (e : Int) (he : partsE cs ps = e) :
    PSpec Try.prog X 25 [Sx ver ad cs.length cap, Lx pad ps.length pcap] (Ln .i64 e) := by
  subst he
  refine PSpec.intro Try.func25 rfl (by kernel_rfl) rfl rfl ?_
  intro C
  (refine LWP.seq <| LWP.region (by kernel_rfl) <| K.box rfl rfl rfl .plain <| kas rfl <| RunK.nil <| LWP.seq <| LWP.region (by kernel_rfl) <| K.makeMap 3 rfl .plain ?_; refine kas rfl <| RunK.nil <| LWP.seq <| LWP.seq <| LWP.region (by kernel_rfl) <| kmv rfl <| K.lenX rfl SliceT.h rfl .plain ?_; refine kmv rfl <| RunK.nil <| LWP.block ?_)
  refine LWP.loop (fun m σ => ∃ i : Nat, i ≤ ps.length ∧ m = ps.length - i ∧ (∀ j, 0 ≤ j → j < i → ptE cs ps j = 0) ∧ σ = ⟨[(2, Lp 2), (5, Lmp 11), (12, Lx pad ps.length pcap), (13, Ln .i64 (ps.length : Nat)), (14, Ln .i64 (i : Nat))], [sxB 2 ver ad cs.length cap, idBx 11 ((ps.take i).map Pt.comp)], X⟩) ps.length
    ⟨_, Le.of (by exact ⟨rfl, rfl, rfl, rfl, rfl, trivial⟩) (by exact ⟨rfl, rfl, trivial⟩) (by exact rfl) (by exact rfl) (by repeat' (first | refine all_cons_true ?_ ?_ | rfl | exact bytes_inUse | exact vals_inUse | exact mid_inUse rfl)), 0, by omega, by omega, fun j _ hj => absurd hj (by omega), rfl⟩ ?_
  rintro m σ ⟨i, hi, rfl, hpre, rfl⟩
  by_cases hlt : i < ps.length
  · obtain ⟨p, hp⟩ : ∃ p, ps[i]? = some p := ⟨_, List.getElem?_eq_getElem hlt⟩
    obtain ⟨blk, off, arr, el, fr, vad, vcap, rfl, hX, hsz, hcs, _, _, hN⟩ := hps.get hp
    have hio : off + Int.toNat (i : Int) * 2 = off + i * 2 := by simp
    have hE := ptE_at (cs := cs) hp
    have hsm := hps.small p (List.mem_of_getElem? hp)
    have hkey : Go.keyOf Try.prog 3 (.int .i64 p.comp) = some (.int .i64 p.comp) := by
      rw [keyOf_int (q := .i64) (by kernel_rfl)]
      unfold mapKey
      rw [show Try.prog.underlying 3 = some (.int .i64) by kernel_rfl]
      have hw : (Lit.int .i64 p.comp).wf = true := by
        show (decide (IntKind.i64.min ≤ p.comp) && decide (p.comp ≤ IntKind.i64.max)) = true
        rw [show IntKind.i64.min = -9223372036854775808 from rfl, show IntKind.i64.max = 9223372036854775807 from rfl, decide_eq_true hsm.1, decide_eq_true (show p.comp ≤ 9223372036854775807 by omega)]; rfl
      simp [hw]
    have hat := idM_at ((ps.take i).map Pt.comp) p.comp
    have hP := pPartBig X ver ad vad cap vcap cs p hin hbig hfs hN (hnb p (List.mem_of_getElem? hp)) (partE cs p) rfl
    have hany : ((ps.take i).map Pt.comp).any (fun m => m == p.comp) = (ps.take i).any (fun g => g.comp == p.comp) := by rw [List.any_map]; rfl
    have hts : (ps.take (i + 1)).map Pt.comp = (ps.take i).map Pt.comp ++ [p.comp] := by rw [take_snoc hp, List.map_append]; rfl
    cases hin2 : (ps.take i).any (fun g => g.comp == p.comp) with
    | true =>
      rw [hin2] at hE hany
      rw [if_pos rfl] at hE
      rw [show partsE cs ps = 1 from firstE_some hpre (Nat.zero_le _) (by omega) hE (by decide)]
      have hr := idM_any _ p.comp true hany
      generalize (ps.take i).map Pt.comp = ns at *
      (refine LWP.seq <| LWP.region (by kernel_rfl) <| klt rfl rfl (decide_eq_true (by omega)) <| RunK.nil <| LWP.seq <| LWP.condT rfl ?_; refine LWP.skip ?_; refine LWP.seq <| LWP.block <| LWP.seq <| LWP.region (by kernel_rfl) <| K.indexX rfl rfl SliceT.h (by omega) hio .plain <| K.loadXagg rfl hX (by kernel_rfl) hsz hcs .plain <| K.alloc rfl .plain ?_; refine K.storeAll rfl rfl rfl rfl rfl rfl .plain ?_; refine RunK.nil <| LWP.seq <| LWP.seq <| LWP.region (by kernel_rfl) <| kmv rfl <| kfa rfl rfl ?_; refine kl1 rfl rfl rfl <| K.lookupOk (et := 82) (.agg []) (v := .agg #[]) (z := .agg #[]) rfl rfl rfl (by kernel_rfl) (KL.int (q := .i64) (by kernel_rfl)) hkey (by kernel_rfl) hat agg0_rel hr .plain ?_; refine kmv rfl <| kex rfl rfl <| kex rfl rfl <| K.alloc rfl .plain ?_; refine K.storeAll rfl rfl rfl rfl rfl rfl .plain ?_; refine kas rfl <| RunK.nil <| LWP.seq <| LWP.region (by kernel_rfl) <| kmv rfl <| RunK.nil <| LWP.condT rfl ?_; refine LWP.seq <| LWP.region (by kernel_rfl) <| kas rfl <| RunK.nil <| LWP.ret ?_)
      exact ⟨[_], ⟨rfl, trivial⟩, rfl⟩
    | false =>
      rw [hin2] at hE hany
      rw [if_neg (by decide)] at hE
      have hr := idM_any _ p.comp false hany
      have hput := idM_put hany
      rw [← hts] at hput
      generalize (ps.take i).map Pt.comp = ns at *
      generalize hns : (ps.take (i + 1)).map Pt.comp = ns' at *
      by_cases he0 : partE cs p = 0
      · rw [he0] at hP hE
        (refine LWP.seq <| LWP.region (by kernel_rfl) <| klt rfl rfl (decide_eq_true (by omega)) <| RunK.nil <| LWP.seq <| LWP.condT rfl ?_; refine LWP.skip ?_; refine LWP.seq <| LWP.block <| LWP.seq <| LWP.region (by kernel_rfl) <| K.indexX rfl rfl SliceT.h (by omega) hio .plain <| K.loadXagg rfl hX (by kernel_rfl) hsz hcs .plain <| K.alloc rfl .plain ?_; refine K.storeAll rfl rfl rfl rfl rfl rfl .plain ?_; refine RunK.nil <| LWP.seq <| LWP.seq <| LWP.region (by kernel_rfl) <| kmv rfl <| kfa rfl rfl ?_; refine kl1 rfl rfl rfl <| K.lookupOk (et := 82) (.agg []) (v := .agg #[]) (z := .agg #[]) rfl rfl rfl (by kernel_rfl) (KL.int (q := .i64) (by kernel_rfl)) hkey (by kernel_rfl) hat agg0_rel hr .plain ?_; refine kmv rfl <| kex rfl rfl <| kex rfl rfl <| K.alloc rfl .plain ?_; refine K.storeAll rfl rfl rfl rfl rfl rfl .plain ?_; refine kas rfl <| RunK.nil <| LWP.seq <| LWP.region (by kernel_rfl) <| kmv rfl <| RunK.nil <| LWP.condF rfl ?_; refine LWP.skip ?_; refine LWP.seq <| LWP.region (by kernel_rfl) <| kmv rfl <| kfa rfl rfl ?_; refine kl1 rfl rfl rfl <| K.build rfl rfl (by exact rfl) (by exact nl0 rfl) .plain ?_; refine K.mapPut (et := 82) (idM ns') rfl rfl rfl rfl (by kernel_rfl) (KL.int (q := .i64) (by kernel_rfl)) hkey hput .plain ?_; refine RunK.nil <| LWP.seq <| LWP.region (by kernel_rfl) <| K.loadAll rfl rfl rfl .plain ?_; refine K.loadAll rfl rfl rfl .plain ?_; refine kca rfl rfl hP <| kas rfl <| RunK.nil <| LWP.seq <| LWP.region (by kernel_rfl) <| kmv rfl <| kne rfl rfl ((bne_eq_false_iff_eq.2 (by omega))) <| RunK.nil <| LWP.condF rfl ?_; refine LWP.skip ?_; refine LWP.region (by kernel_rfl) <| kad rfl rfl (wrap_i64 (by omega)) <| kmv rfl <| RunK.nil ?_)
        subst hns
        exact ⟨_, _, by omega, Le.of (by exact ⟨rfl, rfl, rfl, rfl, rfl, trivial⟩) (by exact ⟨rfl, rfl, trivial⟩) (by exact rfl) (by exact rfl) (by repeat' (first | refine all_cons_true ?_ ?_ | rfl | exact bytes_inUse | exact vals_inUse | exact mid_inUse rfl)), i + 1, by omega, rfl, (fun j h0 hj => by
          by_cases e : j = i
          · rw [e]; exact hE
          · exact hpre j h0 (by omega)), rfl⟩
      · rw [show partsE cs ps = partE cs p from firstE_some hpre (Nat.zero_le _) (by omega) hE he0]
        have hne : (partE cs p != 0) = true := by rw [bne_iff_ne]; exact he0
        generalize partE cs p = E at *
        (refine LWP.seq <| LWP.region (by kernel_rfl) <| klt rfl rfl (decide_eq_true (by omega)) <| RunK.nil <| LWP.seq <| LWP.condT rfl ?_; refine LWP.skip ?_; refine LWP.seq <| LWP.block <| LWP.seq <| LWP.region (by kernel_rfl) <| K.indexX rfl rfl SliceT.h (by omega) hio .plain <| K.loadXagg rfl hX (by kernel_rfl) hsz hcs .plain <| K.alloc rfl .plain ?_; refine K.storeAll rfl rfl rfl rfl rfl rfl .plain ?_; refine RunK.nil <| LWP.seq <| LWP.seq <| LWP.region (by kernel_rfl) <| kmv rfl <| kfa rfl rfl ?_; refine kl1 rfl rfl rfl <| K.lookupOk (et := 82) (.agg []) (v := .agg #[]) (z := .agg #[]) rfl rfl rfl (by kernel_rfl) (KL.int (q := .i64) (by kernel_rfl)) hkey (by kernel_rfl) hat agg0_rel hr .plain ?_; refine kmv rfl <| kex rfl rfl <| kex rfl rfl <| K.alloc rfl .plain ?_; refine K.storeAll rfl rfl rfl rfl rfl rfl .plain ?_; refine kas rfl <| RunK.nil <| LWP.seq <| LWP.region (by kernel_rfl) <| kmv rfl <| RunK.nil <| LWP.condF rfl ?_; refine LWP.skip ?_; refine LWP.seq <| LWP.region (by kernel_rfl) <| kmv rfl <| kfa rfl rfl ?_; refine kl1 rfl rfl rfl <| K.build rfl rfl (by exact rfl) (by exact nl0 rfl) .plain ?_; refine K.mapPut (et := 82) (idM ns') rfl rfl rfl rfl (by kernel_rfl) (KL.int (q := .i64) (by kernel_rfl)) hkey hput .plain ?_; refine RunK.nil <| LWP.seq <| LWP.region (by kernel_rfl) <| K.loadAll rfl rfl rfl .plain ?_; refine K.loadAll rfl rfl rfl .plain ?_; refine kca rfl rfl hP <| kas rfl <| RunK.nil <| LWP.seq <| LWP.region (by kernel_rfl) <| kmv rfl <| kne rfl rfl hne <| RunK.nil <| LWP.condT rfl ?_; refine LWP.seq <| LWP.region (by kernel_rfl) <| kmv rfl <| kas rfl <| RunK.nil <| LWP.ret ?_)
        exact ⟨[_], ⟨rfl, trivial⟩, rfl⟩
  · rw [show partsE cs ps = 0 from firstE_none fun j h0 hj => hpre j h0 (by omega)]
    (refine LWP.seq <| LWP.region (by kernel_rfl) <| klt rfl rfl (decide_eq_false (by omega)) <| RunK.nil <| LWP.seq <| LWP.condF rfl ?_; refine LWP.exit <| LWP.seq <| LWP.region (by kernel_rfl) <| kas rfl <| RunK.nil <| LWP.ret ?_)
    exact ⟨[_], ⟨rfl, trivial⟩, rfl⟩
theorem pParts (ver : Int) (ad pad : Option Addr) (cap pcap : Nat) (cs : List Cp) (ps : List Pt) (hin : CompsIn X ad cs) (hS : SmallC cs) (hps : PartsIn X pad ps) (hpb : ps.length ≤ 12) (hnb : ∀ p ∈ ps, p.val.length ≤ 100) (e : Int) (he : partsE cs ps = e) :
    PSpec Try.prog X 25 [Sx ver ad cs.length cap, Lx pad ps.length pcap] (Ln .i64 e) :=
  pPartsBig X ver ad pad cap pcap cs ps hin (by have := hS.1; omega) (fun c hc => by have := (hS.2 c hc).1; omega) hps (by omega) (fun p hp => by have := hnb p hp; omega) e he
end Go.Proofs.Yteappfihapeakaa
end
section
-- package schema: what its callers know of it stands in P1 .. P5
end
section
namespace Go.Proofs.Yteappfihapeakaa
open Go Go.Lg Go.Lg.Fld Go.RowKit Go.ChangeShapes Go.WideShapes Go.Joins
set_option maxRecDepth 100000
section
variable {H : Type} {enc : TypeId × Value → H} {w : World}
/-- fields that are handed in -/
theorem open_fields {r : Reach} {b0 : Nat} {v : Value} {d : DataW H} {p : List MemPlace} (hv : Value.okWide Try.prog w r b0 32 v) (h : DataW.Trod enc Try.prog w 0 (fun _ => true) true 32 v d p) :
    ∃ (ad : Option Addr) (cap : Nat) (fs : List Fl), v = .slice ad fs.length cap ∧ fs.length ≤ cap ∧ cap ≤ maxLen ∧ FieldsIn (fun b => w.heap[b]?) ad fs ∧ ∀ by_ B : Nat, (∀ elems spare, d = .slice elems spare → (elems.length + spare.length) * by_ ≤ B) → fs.length * by_ ≤ B := by
  obtain ⟨ad, cap, rows, rfl, h1, h2, h3, h4, hsz⟩ := open_rows (e := 41) (sz := 3) (by kernel_rfl) (by kernel_rfl) (by decide) hv h
  obtain ⟨fs, rfl, h5⟩ := map_of (f := Fl.vals) (q := fun f => (-9223372036854775808 ≤ f.kind ∧ f.kind < 9223372036854775808) ∧ (-9223372036854775808 ≤ f.count ∧ f.count < 9223372036854775808)) (vs := rows) (fun u hu => by
    obtain ⟨hlen, n, x, hx⟩ := h4 u hu
    obtain ⟨y0, y1, y2, n', _, _, g0, g1, g2⟩ := Deep.trod_struct3 (t := 41) Try.underlying41 hx
    obtain ⟨c0, c1, c2, rfl⟩ : ∃ c0 c1 c2, u = [c0, c1, c2] := by
      match u, hlen with
      | [c0, c1, c2], _ => exact ⟨c0, c1, c2, rfl⟩
    obtain ⟨s, e0, _, _⟩ := DataW.trod_string (by kernel_rfl) g0
    obtain ⟨k, e1, _, wa1⟩ := DataW.trod_int (k := .i64) (by kernel_rfl) g1
    obtain ⟨c, e2, _, wa2⟩ := DataW.trod_int (k := .i64) (by kernel_rfl) g2
    have q0 : c0 = .string s := by simpa using (show ([c0, c1, c2].drop 0).take 1 = [.string s] from e0)
    have q1 : c1 = .int .i64 k := by simpa using (show ([c0, c1, c2].drop 1).take 1 = [.int .i64 k] from e1)
    have q2 : c2 = .int .i64 c := by simpa using (show ([c0, c1, c2].drop 2).take 1 = [.int .i64 c] from e2)
    subst q0 q1 q2
    have b1 := bounds_i64 wa1
    have b2 := bounds_i64 wa2
    exact ⟨⟨s.data.toList, k, c⟩, rfl, (show (-9223372036854775808 ≤ k ∧ k < 9223372036854775808) ∧ (-9223372036854775808 ≤ c ∧ c < 9223372036854775808) by omega)⟩)
  exact ⟨ad, cap, fs, by rw [List.length_map], by rw [List.length_map] at h1; exact h1, h2, ⟨h3, h5⟩, by rw [List.length_map] at hsz; exact hsz⟩
/-- numbers that are handed in -/
theorem open_nums {r : Reach} {b0 : Nat} {v : Value} {d : DataW H} {p : List MemPlace} (hv : Value.okWide Try.prog w r b0 48 v) (h : DataW.Trod enc Try.prog w 0 (fun _ => true) true 48 v d p) :
    ∃ (ad : Option Addr) (cap : Nat) (ns : List (Bool × Int)), v = .slice ad ns.length cap ∧ ns.length ≤ cap ∧ cap ≤ maxLen ∧ NumsIn (fun b => w.heap[b]?) ad ns ∧ ∀ by_ B : Nat, (∀ elems spare, d = .slice elems spare → (elems.length + spare.length) * by_ ≤ B) → ns.length * by_ ≤ B := by
  obtain ⟨ad, cap, rows, rfl, h1, h2, h3, h4, hsz⟩ := open_rows (e := 63) (sz := 3) (by kernel_rfl) (by kernel_rfl) (by decide) hv h
  obtain ⟨ns, rfl, h5⟩ := map_of (f := nmV) (q := fun n => In2 n.2) (vs := rows) (fun u hu => by
    obtain ⟨hlen, n, x, hx⟩ := h4 u hu
    obtain ⟨y0, y1, y2, n', _, _, g0, g1, g2⟩ := Deep.trod_struct3 (t := 63) Try.underlying63 hx
    obtain ⟨c0, c1, c2, rfl⟩ : ∃ c0 c1 c2, u = [c0, c1, c2] := by
      match u, hlen with
      | [c0, c1, c2], _ => exact ⟨c0, c1, c2, rfl⟩
    obtain ⟨b, e0, _⟩ := DataW.trod_bool (by kernel_rfl) g0
    obtain ⟨x, e1, _, wa1⟩ := DataW.trod_int (k := .u64) (by kernel_rfl) g1
    obtain ⟨y, e2, _, wa2⟩ := DataW.trod_int (k := .u64) (by kernel_rfl) g2
    have q0 : c0 = .bool b := by simpa using (show ([c0, c1, c2].drop 0).take 1 = [.bool b] from e0)
    have q1 : c1 = .int .u64 x := by simpa using (show ([c0, c1, c2].drop 1).take 1 = [.int .u64 x] from e1)
    have q2 : c2 = .int .u64 y := by simpa using (show ([c0, c1, c2].drop 2).take 1 = [.int .u64 y] from e2)
    subst q0 q1 q2
    have b1 := bounds_u64 wa1
    have b2 := bounds_u64 wa2
    refine ⟨(b, x * 18446744073709551616 + y), ?_, by show 0 ≤ x * 18446744073709551616 + y; omega, by show x * 18446744073709551616 + y < _; omega⟩
    unfold nmV
    rw [show (b, x * 18446744073709551616 + y).2 / 18446744073709551616 = x by show (x * 18446744073709551616 + y) / 18446744073709551616 = x; omega, show (b, x * 18446744073709551616 + y).2 % 18446744073709551616 = y by show (x * 18446744073709551616 + y) % 18446744073709551616 = y; omega])
  exact ⟨ad, cap, ns, by rw [List.length_map], by rw [List.length_map] at h1; exact h1, h2, ⟨h3, h5⟩, by rw [List.length_map] at hsz; exact hsz⟩
theorem cellsF : Try.prog.cellsOf 41 = 3 := by kernel_rfl
/-- a field that is handed in -/
theorem open_field {r : Reach} {b0 : Nat} {v : Value} {d : DataW H} {p : List MemPlace} (hv : Value.okWide Try.prog w r b0 41 v) (h : DataW.Trod enc Try.prog w 0 (fun _ => true) true 41 v d p) :
    ∃ f : Fl, v = .agg f.vals.toArray ∧ p = p ∧ p = [] ∧ (-9223372036854775808 ≤ f.kind ∧ f.kind < 9223372036854775808) ∧ (-9223372036854775808 ≤ f.count ∧ f.count < 9223372036854775808) := by
  obtain ⟨c0, c1, c2, y0, y1, y2, m, rfl, rfl, rfl, hy0, hy1, hy2⟩ := open_agg3 Try.underlying41 (by kernel_rfl) cellsF hv h
  obtain ⟨s, e0, rfl, _⟩ := DataW.trod_string (by kernel_rfl) hy0
  obtain ⟨x, e1, rfl, wx⟩ := DataW.trod_int (k := .i64) (by kernel_rfl) hy1
  obtain ⟨y, e2, rfl, wy⟩ := DataW.trod_int (k := .i64) (by kernel_rfl) hy2
  simp at e0 e1 e2
  subst e0 e1 e2
  have b1 := bounds_i64 wx
  have b2 := bounds_i64 wy
  exact ⟨⟨s.data.toList, x, y⟩, rfl, rfl, rfl, (show (-9223372036854775808 ≤ x ∧ x < 9223372036854775808) ∧ (-9223372036854775808 ≤ y ∧ y < 9223372036854775808) by omega)⟩
end
end Go.Proofs.Yteappfihapeakaa
end
section
namespace Go.Proofs.Yteappfihapeakaa
open Go Go.Lg Go.Lg.Fld
set_option maxRecDepth 100000
variable (X : Nat → Option Obj)
theorem nums_eq {b b' : Bool} {N N' : Int} (h1 : In2 N) (h2 : In2 N') : (b == b' && (N / 18446744073709551616 == N' / 18446744073709551616 && N % 18446744073709551616 == N' % 18446744073709551616)) = ((b, N) == (b', N')) := by
  unfold In2 at *
  by_cases hb : b = b'
  · subst hb
    by_cases hn : N = N'
    · subst hn; simp
    · have hne : ((b, N) == (b, N')) = false := beq_eq_false_iff_ne.2 (fun e => hn (by injection e))
      rw [hne]
      cases hc : (b == b && (N / 18446744073709551616 == N' / 18446744073709551616 && N % 18446744073709551616 == N' % 18446744073709551616)) with
      | false => rfl
      | true =>
        simp only [Bool.and_eq_true, beq_iff_eq] at hc
        exact absurd (show N = N' by omega) hn
  · have hne : ((b, N) == (b', N')) = false := beq_eq_false_iff_ne.2 (fun e => hb (by injection e))
    rw [hne, beq_eq_false_iff_ne.2 hb, Bool.false_and]
end Go.Proofs.Yteappfihapeakaa
end
section
namespace Go.Proofs.Yteappfihapeakaa
open Go Go.Lg Go.Lg.Fld
set_option maxRecDepth 100000
theorem rows_in {Y : Nat → Option Obj} {blk : Nat} {arr : Array Value} {el : TypeId} {fr : Nat × Nat} {sz : Nat} {rows : List (List Value)} (hY : Y blk = some (.cells arr el fr)) (hl : ∀ r ∈ rows, r.length = sz) (hsp : ∃ sp, arr.toList = rows.flatten ++ sp) : Go.Lg.RowsIn Y (some ⟨blk, 0, none⟩) sz rows := fun i r hi => by
  obtain ⟨sp, e⟩ := hsp
  obtain ⟨h1, h2⟩ := flat_row hl (sp := sp) hi
  refine ⟨blk, 0, arr, el, fr, rfl, hY, ?_, ?_⟩
  · rw [← Array.length_toList, e]; omega
  · rw [e, Nat.zero_add]; exact h2
theorem nums_in {Y : Nat → Option Obj} {blk : Nat} {arr : Array Value} {el : TypeId} {fr : Nat × Nat} {zs : List Int} (hY : Y blk = some (.cells arr el fr)) (h : ∀ z ∈ zs, R127 z) (hsp : ∃ sp, arr.toList = nsV zs ++ sp) : NumsIn Y (some ⟨blk, 0, none⟩) (zs.map qn) :=
  ⟨rows_in hY (fun r hr => by obtain ⟨n, _, rfl⟩ := List.mem_map.1 hr; rfl) (by
    obtain ⟨sp, e⟩ := hsp
    exact ⟨sp, by rw [e, List.map_map]; rfl⟩), nums_in2 h⟩
def fs0 : List Fl := [⟨[], 6, 1⟩, ⟨[], 4, 1⟩, ⟨[], 6, 1⟩]
theorem fields_in {Y : Nat → Option Obj} {blk : Nat} {arr : Array Value} {el : TypeId} {fr : Nat × Nat} {fs : List Fl} (hY : Y blk = some (.cells arr el fr)) (h : ∀ f ∈ fs, (-9223372036854775808 ≤ f.kind ∧ f.kind < 9223372036854775808) ∧ (-9223372036854775808 ≤ f.count ∧ f.count < 9223372036854775808)) (hsp : ∃ sp, arr.toList = (fs.map Fl.vals).flatten ++ sp) : FieldsIn Y (some ⟨blk, 0, none⟩) fs :=
  ⟨rows_in hY (fun r hr => by obtain ⟨n, _, rfl⟩ := List.mem_map.1 hr; rfl) hsp, h⟩
variable (X : Nat → Option Obj)
end Go.Proofs.Yteappfihapeakaa
end
section
-- the laws' great and two
namespace Go.Lg.Fld
open Go Go.Lg
/-- more than is asked -/
def bigF (fs : List Fl) : Bool := fs.any fun f => decide (100 < f.nm.length)
def bigC (c : Cp) : Bool := (decide (12 < c.fs.length) || decide (100 < c.nm.length)) || bigF c.fs
def greatB (cs : List Cp) : Bool := decide (30 < cs.length) || cs.any bigC
theorem greatB_small {cs : List Cp} (h : greatB cs = false) : SmallC cs := by
  unfold greatB at h
  rw [Bool.or_eq_false_iff] at h
  refine ⟨by have := of_decide_eq_false h.1; omega, fun c hc => ?_⟩
  have h2 := List.any_eq_false.1 h.2 c hc
  have h3 : bigC c = false := by simpa using h2
  unfold bigC at h3
  rw [Bool.or_eq_false_iff, Bool.or_eq_false_iff] at h3
  refine ⟨by have := of_decide_eq_false h3.1.1; omega, by have := of_decide_eq_false h3.1.2; omega, fun f hf => ?_⟩
  have h4 := List.any_eq_false.1 h3.2 f hf
  simp only [decide_eq_true_eq] at h4
  omega
theorem any_at {α : Type} {p : α → Bool} {l : List α} {i : Nat} {x : α} (h : l[i]? = some x) (hp : p x = true) : l.any p = true := List.any_eq_true.2 ⟨x, List.mem_of_getElem? h, hp⟩
theorem any_no {α : Type} {p : α → Bool} {l : List α} (h : ∀ (j : Nat) (y : α), l[j]? = some y → p y = false) : l.any p = false := by
  rw [List.any_eq_false]
  intro y hy
  obtain ⟨j, hj⟩ := List.mem_iff_getElem?.1 hy
  rw [h j y hj]; simp
end Go.Lg.Fld
namespace Go.Proofs.Yteappfihapeakaa
open Go Go.Lg Go.Lg.Fld
set_option maxRecDepth 100000
variable (X : Nat → Option Obj)
set_option maxHeartbeats 3200000 in
theorem great7_spec (ver : Int) (ad : Option Addr) (cap : Nat) (cs : List Cp) (hin : CompsIn X ad cs) (r : Bool) (hr : greatB cs = r) : PSpec Try.prog X 8 [Sx ver ad cs.length cap] (Lb r) := by
  subst hr
  refine PSpec.intro Try.func8 rfl (by kernel_rfl) rfl rfl ?_
  intro C
  by_cases hn : 30 < cs.length
  · rw [show greatB cs = true by unfold greatB; rw [decide_eq_true hn]; rfl]
    (refine LWP.seq <| LWP.region (by kernel_rfl) <| K.box rfl rfl rfl .plain <| kas rfl <| RunK.nil <| LWP.seq <| LWP.seq <| LWP.region (by kernel_rfl) <| kfa rfl rfl ?_; refine kl1 rfl rfl rfl <| K.lenX rfl SliceT.h rfl .plain ?_; refine K.gtr rfl rfl (decide_eq_true (by omega)) .plain <| RunK.nil <| LWP.condT rfl ?_; refine LWP.seq <| LWP.region (by kernel_rfl) <| kas rfl <| RunK.nil <| LWP.ret ?_)
    exact ⟨[_], ⟨rfl, trivial⟩, rfl⟩
  have yes : ∀ (i : Nat) (c : Cp), cs[i]? = some c → bigC c = true → greatB cs = true := fun i c hc h => by
    unfold greatB; rw [any_at hc h, Bool.or_true]
  (refine LWP.seq <| LWP.region (by kernel_rfl) <| K.box rfl rfl rfl .plain <| kas rfl <| RunK.nil <| LWP.seq <| LWP.seq <| LWP.region (by kernel_rfl) <| kfa rfl rfl ?_; refine kl1 rfl rfl rfl <| K.lenX rfl SliceT.h rfl .plain ?_; refine K.gtr rfl rfl (decide_eq_false (by omega)) .plain <| RunK.nil <| LWP.condF rfl ?_; refine LWP.skip ?_; refine LWP.seq <| LWP.seq <| LWP.region (by kernel_rfl) <| kas rfl <| RunK.nil <| LWP.block ?_)
  refine LWP.loop (fun m σ => ∃ i : Nat, i ≤ cs.length ∧ m = cs.length - i ∧ (∀ (j : Nat) (y : Cp), j < i → cs[j]? = some y → bigC y = false) ∧ σ = ⟨[(1, Lp 1), (3, Ln .i64 (i : Nat))], [sxB 1 ver ad cs.length cap], X⟩) cs.length
    ⟨_, Le.of (by exact ⟨rfl, rfl, trivial⟩) (by exact ⟨rfl, trivial⟩) (by exact rfl) (by exact rfl) (by repeat' (first | refine all_cons_true ?_ ?_ | rfl | exact bytes_inUse | exact vals_inUse | exact mid_inUse rfl)), 0, by omega, by omega, fun j y hj => absurd hj (by omega), rfl⟩ ?_
  rintro m σ ⟨i, hi, rfl, hpre, rfl⟩
  by_cases hlt : i < cs.length
  · obtain ⟨c, hc⟩ : ∃ c, cs[i]? = some c := ⟨_, List.getElem?_eq_getElem hlt⟩
    obtain ⟨blk, off, arr, el, fr, fad, fcap, rfl, hX, hsz, hcs, g1, g2, g3, hF⟩ := hin.get hc
    have hio : off + Int.toNat (i : Int) * 3 = off + i * 3 := by simp
    have hlen : (⟨c.nm.toArray⟩ : ByteArray).size = c.nm.length := rfl
    by_cases h1 : 12 < c.fs.length
    · rw [yes i c hc (by unfold bigC; rw [decide_eq_true h1]; rfl)]
      (refine LWP.seq <| LWP.seq <| LWP.region (by kernel_rfl) <| kmv rfl <| kfa rfl rfl ?_; refine kl1 rfl rfl rfl <| K.lenX rfl SliceT.h rfl .plain ?_; refine klt rfl rfl (decide_eq_true (by omega)) <| RunK.nil <| LWP.condT rfl ?_; refine LWP.skip ?_; refine LWP.seq <| LWP.block <| LWP.seq <| LWP.seq <| LWP.region (by kernel_rfl) <| kfa rfl rfl ?_; refine kl1 rfl rfl rfl <| kmv rfl <| K.indexX rfl rfl SliceT.h (by omega) hio .plain <| K.fieldAddrX rfl rfl .plain ?_; refine K.loadX rfl hX rfl g3 .plain <| K.lenX rfl SliceT.h rfl .plain ?_; refine K.gtr rfl rfl (decide_eq_true (by omega)) .plain <| kmv rfl <| RunK.passed rfl rfl rfl <| RunK.passed rfl rfl rfl <| RunK.passed rfl rfl rfl <| RunK.passed rfl rfl rfl <| RunK.passed rfl rfl rfl <| RunK.passed rfl rfl rfl <| RunK.passed rfl rfl rfl <| RunK.passed rfl rfl rfl <| kpt rfl rfl <| RunK.nil <| LWP.condT rfl ?_; refine LWP.seq <| LWP.region (by kernel_rfl) <| kas rfl <| RunK.nil <| LWP.ret ?_)
      exact ⟨[_], ⟨rfl, trivial⟩, rfl⟩
    by_cases h2 : 100 < c.nm.length
    · rw [yes i c hc (by unfold bigC; rw [decide_eq_true h2]; simp)]
      (refine LWP.seq <| LWP.seq <| LWP.region (by kernel_rfl) <| kmv rfl <| kfa rfl rfl ?_; refine kl1 rfl rfl rfl <| K.lenX rfl SliceT.h rfl .plain ?_; refine klt rfl rfl (decide_eq_true (by omega)) <| RunK.nil <| LWP.condT rfl ?_; refine LWP.skip ?_; refine LWP.seq <| LWP.block <| LWP.seq <| LWP.seq <| LWP.region (by kernel_rfl) <| kfa rfl rfl ?_; refine kl1 rfl rfl rfl <| kmv rfl <| K.indexX rfl rfl SliceT.h (by omega) hio .plain <| K.fieldAddrX rfl rfl .plain ?_; refine K.loadX rfl hX rfl g3 .plain <| K.lenX rfl SliceT.h rfl .plain ?_; refine K.gtr rfl rfl (decide_eq_false (by omega)) .plain <| kmv rfl <| K.fieldAddr rfl rfl (.taken rfl rfl) ?_; refine K.loadOne rfl rfl rfl (.taken rfl rfl) ?_; refine gmv rfl rfl rfl <| K.indexX rfl rfl SliceT.h (by omega) hio (.taken rfl rfl) ?_; refine K.fieldAddrX rfl rfl (.taken rfl rfl) ?_; refine K.loadX rfl hX rfl g2 (.taken rfl rfl) ?_; refine K.lenStr rfl (.taken rfl rfl) ?_; refine K.gtr rfl rfl (decide_eq_true (by rw [hlen]; omega)) (.taken rfl rfl) ?_; refine kpf rfl rfl <| RunK.nil <| LWP.condT rfl ?_; refine LWP.seq <| LWP.region (by kernel_rfl) <| kas rfl <| RunK.nil <| LWP.ret ?_)
      exact ⟨[_], ⟨rfl, trivial⟩, rfl⟩
    (refine LWP.seq <| LWP.seq <| LWP.region (by kernel_rfl) <| kmv rfl <| kfa rfl rfl ?_; refine kl1 rfl rfl rfl <| K.lenX rfl SliceT.h rfl .plain ?_; refine klt rfl rfl (decide_eq_true (by omega)) <| RunK.nil <| LWP.condT rfl ?_; refine LWP.skip ?_; refine LWP.seq <| LWP.block <| LWP.seq <| LWP.seq <| LWP.region (by kernel_rfl) <| kfa rfl rfl ?_; refine kl1 rfl rfl rfl <| kmv rfl <| K.indexX rfl rfl SliceT.h (by omega) hio .plain <| K.fieldAddrX rfl rfl .plain ?_; refine K.loadX rfl hX rfl g3 .plain <| K.lenX rfl SliceT.h rfl .plain ?_; refine K.gtr rfl rfl (decide_eq_false (by omega)) .plain <| kmv rfl <| K.fieldAddr rfl rfl (.taken rfl rfl) ?_; refine K.loadOne rfl rfl rfl (.taken rfl rfl) ?_; refine gmv rfl rfl rfl <| K.indexX rfl rfl SliceT.h (by omega) hio (.taken rfl rfl) ?_; refine K.fieldAddrX rfl rfl (.taken rfl rfl) ?_; refine K.loadX rfl hX rfl g2 (.taken rfl rfl) ?_; refine K.lenStr rfl (.taken rfl rfl) ?_; refine K.gtr rfl rfl (decide_eq_false (by rw [hlen]; omega)) (.taken rfl rfl) ?_; refine kpf rfl rfl <| RunK.nil <| LWP.condF rfl ?_; refine LWP.skip ?_; refine LWP.seq <| LWP.region (by kernel_rfl) <| kas rfl <| RunK.nil <| LWP.block ?_)
    refine LWP.loop (fun m σ => ∃ k : Nat, k ≤ c.fs.length ∧ m = c.fs.length - k ∧ (∀ (j : Nat) (y : Fl), j < k → c.fs[j]? = some y → decide (100 < y.nm.length) = false) ∧ σ = ⟨[(1, Lp 1), (3, Ln .i64 (i : Nat)), (4, Ln .i64 (k : Nat))], [sxB 1 ver (some ⟨blk, off, none⟩) cs.length cap], X⟩) c.fs.length
      ⟨_, Le.of (by exact ⟨rfl, rfl, rfl, trivial⟩) (by exact ⟨rfl, trivial⟩) (by exact rfl) (by exact rfl) (by repeat' (first | refine all_cons_true ?_ ?_ | rfl | exact bytes_inUse | exact vals_inUse | exact mid_inUse rfl)), 0, by omega, by omega, fun j y hj => absurd hj (by omega), rfl⟩ ?_
    rintro m σ ⟨k, hk, rfl, hpre2, rfl⟩
    by_cases hkl : k < c.fs.length
    · obtain ⟨f, hf⟩ : ∃ f, c.fs[k]? = some f := ⟨_, List.getElem?_eq_getElem hkl⟩
      obtain ⟨fb, fo, farr, fel, ffr, rfl, hFX, hFc⟩ := hF.nm hf
      have hio3 : fo + Int.toNat (k : Int) * 3 = fo + k * 3 := by simp
      have hlen2 : (⟨f.nm.toArray⟩ : ByteArray).size = f.nm.length := rfl
      by_cases h3 : 100 < f.nm.length
      · rw [yes i c hc (by unfold bigC bigF; rw [any_at hf (by exact decide_eq_true h3), Bool.or_true])]
        (refine LWP.seq <| LWP.seq <| LWP.region (by kernel_rfl) <| kmv rfl <| kfa rfl rfl ?_; refine kl1 rfl rfl rfl <| kmv rfl <| K.indexX rfl rfl SliceT.h (by omega) hio .plain <| K.fieldAddrX rfl rfl .plain ?_; refine K.loadX rfl hX rfl g3 .plain <| K.lenX rfl SliceT.h rfl .plain ?_; refine klt rfl rfl (decide_eq_true (by omega)) <| RunK.nil <| LWP.condT rfl ?_; refine LWP.skip ?_; refine LWP.seq <| LWP.block <| LWP.seq <| LWP.region (by kernel_rfl) <| kfa rfl rfl ?_; refine kl1 rfl rfl rfl <| kmv rfl <| K.indexX rfl rfl SliceT.h (by omega) hio .plain <| K.fieldAddrX rfl rfl .plain ?_; refine K.loadX rfl hX rfl g3 .plain <| kmv rfl <| K.indexX rfl rfl SliceT.h (by omega) hio3 .plain <| K.fieldAddrX rfl rfl .plain ?_; refine K.loadX rfl hFX rfl hFc .plain <| kln rfl <| K.gtr rfl rfl (decide_eq_true (by rw [hlen2]; omega)) .plain <| RunK.nil <| LWP.condT rfl ?_; refine LWP.seq <| LWP.region (by kernel_rfl) <| kas rfl <| RunK.nil <| LWP.ret ?_)
        exact ⟨[_], ⟨rfl, trivial⟩, rfl⟩
      · (refine LWP.seq <| LWP.seq <| LWP.region (by kernel_rfl) <| kmv rfl <| kfa rfl rfl ?_; refine kl1 rfl rfl rfl <| kmv rfl <| K.indexX rfl rfl SliceT.h (by omega) hio .plain <| K.fieldAddrX rfl rfl .plain ?_; refine K.loadX rfl hX rfl g3 .plain <| K.lenX rfl SliceT.h rfl .plain ?_; refine klt rfl rfl (decide_eq_true (by omega)) <| RunK.nil <| LWP.condT rfl ?_; refine LWP.skip ?_; refine LWP.seq <| LWP.block <| LWP.seq <| LWP.region (by kernel_rfl) <| kfa rfl rfl ?_; refine kl1 rfl rfl rfl <| kmv rfl <| K.indexX rfl rfl SliceT.h (by omega) hio .plain <| K.fieldAddrX rfl rfl .plain ?_; refine K.loadX rfl hX rfl g3 .plain <| kmv rfl <| K.indexX rfl rfl SliceT.h (by omega) hio3 .plain <| K.fieldAddrX rfl rfl .plain ?_; refine K.loadX rfl hFX rfl hFc .plain <| kln rfl <| K.gtr rfl rfl (decide_eq_false (by rw [hlen2]; omega)) .plain <| RunK.nil <| LWP.condF rfl ?_; refine LWP.skip ?_; refine LWP.region (by kernel_rfl) <| kmv rfl <| kad rfl rfl (wrap_i64 (by omega)) <| kas rfl <| RunK.nil ?_)
        exact ⟨_, _, by omega, Le.of (by exact ⟨rfl, rfl, rfl, trivial⟩) (by exact ⟨rfl, trivial⟩) (by exact rfl) (by exact rfl) (by repeat' (first | refine all_cons_true ?_ ?_ | rfl | exact bytes_inUse | exact vals_inUse | exact mid_inUse rfl)), k + 1, by omega, rfl, (fun j y hj hy => by
          by_cases e : j = k
          · subst e; rw [hf] at hy; cases hy; exact decide_eq_false h3
          · exact hpre2 j y (by omega) hy), rfl⟩
    · (refine LWP.seq <| LWP.seq <| LWP.region (by kernel_rfl) <| kmv rfl <| kfa rfl rfl ?_; refine kl1 rfl rfl rfl <| kmv rfl <| K.indexX rfl rfl SliceT.h (by omega) hio .plain <| K.fieldAddrX rfl rfl .plain ?_; refine K.loadX rfl hX rfl g3 .plain <| K.lenX rfl SliceT.h rfl .plain ?_; refine klt rfl rfl (decide_eq_false (by omega)) <| RunK.nil <| LWP.condF rfl ?_; refine LWP.exit <| LWP.region (by kernel_rfl) <| kmv rfl <| kad rfl rfl (wrap_i64 (by omega)) <| kas rfl <| RunK.nil ?_)
      exact ⟨_, _, by omega, Le.of (by exact ⟨rfl, rfl, trivial⟩) (by exact ⟨rfl, trivial⟩) (by exact rfl) (by exact rfl) (by repeat' (first | refine all_cons_true ?_ ?_ | rfl | exact bytes_inUse | exact vals_inUse | exact mid_inUse rfl)), i + 1, by omega, rfl, (fun j y hj hy => by
        by_cases e : j = i
        · subst e
          rw [hc] at hy
          cases hy
          unfold bigC bigF
          rw [decide_eq_false h1, decide_eq_false h2, any_no fun j y hy => hpre2 j y (by have := (List.getElem?_eq_some_iff.1 hy).1; omega) hy]; rfl
        · exact hpre j y (by omega) hy), rfl⟩
  · rw [show greatB cs = false by unfold greatB; rw [decide_eq_false hn, any_no fun j y hy => hpre j y (by have := (List.getElem?_eq_some_iff.1 hy).1; omega) hy]; rfl]
    (refine LWP.seq <| LWP.seq <| LWP.region (by kernel_rfl) <| kmv rfl <| kfa rfl rfl ?_; refine kl1 rfl rfl rfl <| K.lenX rfl SliceT.h rfl .plain ?_; refine klt rfl rfl (decide_eq_false (by omega)) <| RunK.nil <| LWP.condF rfl ?_; refine LWP.exit <| LWP.seq <| LWP.region (by kernel_rfl) <| kas rfl <| RunK.nil <| LWP.ret ?_)
    exact ⟨[_], ⟨rfl, trivial⟩, rfl⟩
def cs0 : List Cp := [⟨1, [112, 111, 115], [⟨[120], 3, 1⟩, ⟨[121], 3, 1⟩]⟩, ⟨3, [116, 97, 103], []⟩]
/-- the components' cells, but for the fields' slice -/
abbrev two0 (c : CV) : List CV := [.val (.int .i64 1), .val (.string ⟨#[112, 111, 115]⟩), c, .val (.int .i64 3), .val (.string ⟨#[116, 97, 103]⟩), .val (.slice none 0 0)]
def fl0 : List Fl := [⟨[120], 3, 1⟩, ⟨[121], 3, 1⟩]
theorem two_spec : MSpec Try.prog X 27 [] [] (.sv (.agg [.val (.int .i64 1), .slc 1000001 0 2 3])) [(1000001, some ⟨34, two0 (.slc 1000002 0 2 3), false⟩), (1000002, some ⟨41, (flV fl0).map .val, false⟩)] := by
  refine MSpec.intro Try.func27 rfl (by kernel_rfl) rfl rfl (by exact (by repeat' (first | refine all_cons_true ?_ ?_ | rfl | exact bytes_inUse | exact vals_inUse | exact mid_inUse rfl))) rfl rfl ?_
  intro C
  (refine LWP.seq <| LWP.region (by kernel_rfl) <| K.alloc rfl .plain ?_; refine RunK.nil <| LWP.seq <| LWP.region (by kernel_rfl) <| K.build rfl rfl (by exact rfl) (by exact nl3 rfl rfl rfl rfl) .plain ?_; refine K.build rfl rfl (by exact rfl) (by exact nl3 rfl rfl rfl rfl) .plain ?_; refine K.buildSlc (zs := (List.replicate 2 [Value.string ⟨#[]⟩, .int .i64 0, .int .i64 0]).flatten) (sz := 3) (e := 41) (cs' := (flV fl0).map .val) (by kernel_rfl) rfl rfl rfl rfl rfl rfl .plain <| K.build rfl rfl (by exact rfl) (by exact nl3 rfl rfl rfl rfl) .plain ?_; refine K.build rfl rfl (by exact rfl) (by exact nl3 rfl rfl rfl rfl) .plain ?_; refine K.buildSlc (zs := (List.replicate 2 [Value.int .i64 0, .string ⟨#[]⟩, .slice none 0 0]).flatten) (sz := 3) (e := 34) (cs' := two0 (.slc 3 0 2 3)) (by kernel_rfl) rfl rfl rfl rfl rfl rfl .plain <| K.build rfl rfl (by exact rfl) (by exact nl2 rfl rfl rfl) .plain ?_; refine K.storeAll rfl rfl rfl rfl rfl rfl .plain ?_; refine RunK.nil <| LWP.ret ?_)
  exact ⟨[(1000001, 6), (1000002, 3)], ⟨[_], ⟨⟨_, _, rfl, rfl, rfl, .inl ⟨AggT.h, rfl⟩⟩, trivial⟩, rfl⟩, (by repeat' (first | exact trivial | refine And.intro ⟨_, rfl, ?_⟩ ?_ | refine And.intro ⟨_, rfl⟩ ?_ | rfl | exact Box.ren_bytes _ _ _ _ | exact Box.ren_vals _ _ _ _ | exact Box.ren_mid rfl)), rfl, rfl⟩
end Go.Proofs.Yteappfihapeakaa
end
section
-- layer 7's answers by number
namespace Go.Proofs.Yteappfihapeakaa
open Go Go.Lg Go.Lg.Fld
set_option maxRecDepth 100000
theorem cs0_small : SmallC cs0 := by
  unfold SmallC cs0
  refine ⟨by decide, fun c hc => ?_⟩
  simp only [List.mem_cons, List.not_mem_nil, or_false] at hc
  rcases hc with rfl | rfl
  · refine ⟨by decide, by decide, fun f hf => ?_⟩
    simp only [List.mem_cons, List.not_mem_nil, or_false] at hf
    rcases hf with rfl | rfl <;> decide
  · exact ⟨by decide, by decide, fun f hf => by cases hf⟩
theorem cs0_inb : InB cs0 := by
  unfold InB cs0
  intro c hc
  simp only [List.mem_cons, List.not_mem_nil, or_false] at hc
  rcases hc with rfl | rfl
  · refine ⟨by decide, fun f hf => ?_⟩
    simp only [List.mem_cons, List.not_mem_nil, or_false] at hf
    rcases hf with rfl | rfl <;> decide
  · exact ⟨by decide, fun f hf => by cases hf⟩
variable (X : Nat → Option Obj)
/-- CheckPart of what stays and a value in a box -/
theorem part_lent {S : Nat → Option (Option Box)} {ver : Int} {ad : Option Addr} {cap k : Nat} {cs : List Cp} {comp : Int} {zs : List Int} {el : TypeId} {row : Bool} {e : Int} (hin : CompsIn X ad cs) (hS : SmallC cs) (hzb : zs.length ≤ 100) (hR : ∀ z ∈ zs, R127 z) (hk : S k = some (some ⟨el, (nsV zs).map .val, row⟩)) (he : partE cs ⟨comp, zs.map qn⟩ = e) :
    ∀ (Y : Nat → Option Obj) (us : List Value), (∀ b o, X b = some o → Y b = some o) → LentLs S Y [Sx ver ad cs.length cap, .sv (.agg [.val (.int .i64 comp), .slc k 0 zs.length 3])] us → PSpec Try.prog Y 19 (us.map toLV) (Ln .i64 e) := by
  intro Y us hY hL
  obtain ⟨u1, us1, rfl, ⟨av, rfl, a1, av1, rfl, h1, a2, as2, rfl, h2, rfl⟩, u2, us2, rfl, ⟨bs, rfl, b1, bs1, rfl, h3, b2, bs2, rfl, ⟨b, blk, cap2, m, hk', rfl, hc, hfit, hB⟩, rfl⟩, rfl⟩ := hL
  have h1 : a1 = .int .i64 ver := h1
  have h2 : a2 = .slice ad cs.length cap := h2
  have h3 : b1 = .int .i64 comp := h3
  subst h1 h2 h3
  rw [hk] at hk'
  simp only [Option.some.injEq] at hk'
  subst hk'
  obtain ⟨arr, fr, us', sp, hYb, hsz, harr, hv⟩ := hB
  have := hv (nsV zs) rfl
  subst this
  have h := pPart Y ver ad (some ⟨blk, 0, none⟩) cap cap2 cs ⟨comp, zs.map qn⟩ (hin.mono hY) hS (nums_in hYb hR ⟨sp, harr⟩) (by rw [List.length_map]; exact hzb) e he
  unfold Px at h
  simp only [List.length_map] at h
  exact h
/-- CheckParts of what stays and parts without values in a box -/
theorem parts_lent {S : Nat → Option (Option Box)} {ver : Int} {ad : Option Addr} {cap k : Nat} {cs : List Cp} {a b : Int} {el : TypeId} {row : Bool} {e : Int} (hin : CompsIn X ad cs) (hS : SmallC cs) (ha : -9223372036854775808 ≤ a ∧ a < 9223372036854775808) (hb : -9223372036854775808 ≤ b ∧ b < 9223372036854775808) (hk : S k = some (some ⟨el, ([.int .i64 a, .slice none 0 0, .int .i64 b, .slice none 0 0] : List Value).map .val, row⟩)) (he : partsE cs [⟨a, []⟩, ⟨b, []⟩] = e) :
    ∀ (Y : Nat → Option Obj) (us : List Value), (∀ b o, X b = some o → Y b = some o) → LentLs S Y [Sx ver ad cs.length cap, .sv (.one (.slc k 0 2 2))] us → PSpec Try.prog Y 25 (us.map toLV) (Ln .i64 e) := by
  intro Y us hY hL
  obtain ⟨u1, us1, rfl, ⟨av, rfl, a1, av1, rfl, h1, a2, as2, rfl, h2, rfl⟩, u2, us2, rfl, ⟨bb, blk, cap2, m, hk', rfl, hc, hfit, hB⟩, rfl⟩ := hL
  have h1 : a1 = .int .i64 ver := h1
  have h2 : a2 = .slice ad cs.length cap := h2
  subst h1 h2
  rw [hk] at hk'
  simp only [Option.some.injEq] at hk'
  subst hk'
  obtain ⟨arr, fr, us', sp, hYb, hsz, harr, hv⟩ := hB
  have := hv _ rfl
  subst this
  have hnil : NumsIn Y none [] := ⟨fun i r h => by simp at h, fun n hn => by cases hn⟩
  refine pParts Y ver ad (some ⟨blk, 0, none⟩) cap cap2 cs [⟨a, []⟩, ⟨b, []⟩] (hin.mono hY) hS ⟨fun i p hp => ?_, fun p hp => ?_⟩ (by show 2 ≤ 12; omega) (fun p hp => ?_) e he
  · have hl : arr.size = 4 + sp.length := by rw [← Array.length_toList, harr, List.length_append]; rfl
    match i, hp with
    | 0, hp =>
      simp only [List.getElem?_cons_zero, Option.some.injEq] at hp
      subst hp
      exact ⟨blk, 0, arr, _, fr, none, 0, rfl, hYb, by omega, by rw [harr]; rfl, hnil⟩
    | 1, hp =>
      simp only [List.getElem?_cons_succ, List.getElem?_cons_zero, Option.some.injEq] at hp
      subst hp
      exact ⟨blk, 0, arr, _, fr, none, 0, rfl, hYb, by omega, by rw [harr]; rfl, hnil⟩
    | _ + 2, hp => simp at hp
  · simp only [List.mem_cons, List.not_mem_nil, or_false] at hp
    rcases hp with rfl | rfl
    · exact ha
    · exact hb
  · simp only [List.mem_cons, List.not_mem_nil, or_false] at hp
    rcases hp with rfl | rfl <;> exact Nat.zero_le _
theorem same_schema (Y : Nat → Option Obj) (a b : Sc) (ad ad2 : Option Addr) (cap cap2 : Nat) (ha : CompsIn Y ad a.cs) (hb : CompsIn Y ad2 b.cs) (hS : SmallC a.cs) (_ : SmallC b.cs) (r : Bool) (hr : decide (a = b) = r) : PSpec Try.prog Y 22 [Sx a.ver ad a.cs.length cap, Sx b.ver ad2 b.cs.length cap2] (Lb r) := pSame Y a b ad ad2 cap cap2 ha hb hS r hr
theorem same_retrofitref07 (Y : Nat → Option Obj) (a b : Sc) (ad ad2 : Option Addr) (cap cap2 : Nat) (ha : CompsIn Y ad a.cs) (hb : CompsIn Y ad2 b.cs) (hS : SmallC a.cs) (_ : SmallC b.cs) (r : Bool) (hr : decide (a = b) = r) : PSpec Try.prog Y 23 [Sx a.ver ad a.cs.length cap, Sx b.ver ad2 b.cs.length cap2] (Lb r) := sSame_spec Y a b ad ad2 cap cap2 ha hb (by have := hS.1; omega) (fun c hc => by have := (hS.2 c hc).1; omega) r hr
/-- Same of what stays and a clone, or the other way around -/
theorem same_lent_schema {S : Nat → Option (Option Box)} {ver : Int} {ad : Option Addr} {cap k : Nat} {cs : List Cp} {e : TypeId} {cc : List CV} (hin : CompsIn X ad cs) (hS : SmallC cs) (hk : S k = some (some ⟨e, cc, .res (scR cs)⟩)) :
    ∀ (Y : Nat → Option Obj) (us : List Value), (∀ b o, X b = some o → Y b = some o) → LentLs S Y [Sx ver ad cs.length cap, .sv (.agg [.val (.int .i64 ver), .slc k 0 cs.length 3])] us → PSpec Try.prog Y 22 (us.map toLV) (Lb true) := by
  intro Y us hY hL
  obtain ⟨u1, us1, rfl, ⟨av, rfl, a1, av1, rfl, h1, a2, as2, rfl, h2, rfl⟩, u2, us2, rfl, ⟨bs, rfl, b1, bs1, rfl, h3, b2, bs2, rfl, ⟨b, blk, cap2, m, hk', rfl, hc, hfit, hB⟩, rfl⟩, rfl⟩ := hL
  have h1 : a1 = .int .i64 ver := h1
  have h2 : a2 = .slice ad cs.length cap := h2
  have h3 : b1 = .int .i64 ver := h3
  subst h1 h2 h3
  rw [hk] at hk'
  simp only [Option.some.injEq] at hk'
  subst hk'
  obtain ⟨H, hR, hHY⟩ := hB
  exact same_schema Y ⟨ver, cs⟩ ⟨ver, cs⟩ ad (some ⟨blk, 0, none⟩) cap cap2 (hin.mono hY) (scR_in hR hHY) hS hS true (decide_eq_true rfl)
theorem same_lent2_schema {S : Nat → Option (Option Box)} {ver : Int} {ad : Option Addr} {cap k : Nat} {cs : List Cp} {e : TypeId} {cc : List CV} (hin : CompsIn X ad cs) (hS : SmallC cs) (hk : S k = some (some ⟨e, cc, .res (scR cs)⟩)) :
    ∀ (Y : Nat → Option Obj) (us : List Value), (∀ b o, X b = some o → Y b = some o) → LentLs S Y [.sv (.agg [.val (.int .i64 ver), .slc k 0 cs.length 3]), Sx ver ad cs.length cap] us → PSpec Try.prog Y 22 (us.map toLV) (Lb true) := by
  intro Y us hY hL
  obtain ⟨u2, us2, rfl, ⟨bs, rfl, b1, bs1, rfl, h3, b2, bs2, rfl, ⟨b, blk, cap2, m, hk', rfl, hc, hfit, hB⟩, rfl⟩, u1, us1, rfl, ⟨av, rfl, a1, av1, rfl, h1, a2, as2, rfl, h2, rfl⟩, rfl⟩ := hL
  have h1 : a1 = .int .i64 ver := h1
  have h2 : a2 = .slice ad cs.length cap := h2
  have h3 : b1 = .int .i64 ver := h3
  subst h1 h2 h3
  rw [hk] at hk'
  simp only [Option.some.injEq] at hk'
  subst hk'
  obtain ⟨H, hR, hHY⟩ := hB
  exact same_schema Y ⟨ver, cs⟩ ⟨ver, cs⟩ (some ⟨blk, 0, none⟩) ad cap2 cap (scR_in hR hHY) (hin.mono hY) hS hS true (decide_eq_true rfl)
/-- Same of what stays and a clone, or the other way around -/
theorem same_lent_retrofitref07 {S : Nat → Option (Option Box)} {ver : Int} {ad : Option Addr} {cap k : Nat} {cs : List Cp} {e : TypeId} {cc : List CV} (hin : CompsIn X ad cs) (hS : SmallC cs) (hk : S k = some (some ⟨e, cc, .res (scR cs)⟩)) :
    ∀ (Y : Nat → Option Obj) (us : List Value), (∀ b o, X b = some o → Y b = some o) → LentLs S Y [Sx ver ad cs.length cap, .sv (.agg [.val (.int .i64 ver), .slc k 0 cs.length 3])] us → PSpec Try.prog Y 23 (us.map toLV) (Lb true) := by
  intro Y us hY hL
  obtain ⟨u1, us1, rfl, ⟨av, rfl, a1, av1, rfl, h1, a2, as2, rfl, h2, rfl⟩, u2, us2, rfl, ⟨bs, rfl, b1, bs1, rfl, h3, b2, bs2, rfl, ⟨b, blk, cap2, m, hk', rfl, hc, hfit, hB⟩, rfl⟩, rfl⟩ := hL
  have h1 : a1 = .int .i64 ver := h1
  have h2 : a2 = .slice ad cs.length cap := h2
  have h3 : b1 = .int .i64 ver := h3
  subst h1 h2 h3
  rw [hk] at hk'
  simp only [Option.some.injEq] at hk'
  subst hk'
  obtain ⟨H, hR, hHY⟩ := hB
  exact same_retrofitref07 Y ⟨ver, cs⟩ ⟨ver, cs⟩ ad (some ⟨blk, 0, none⟩) cap cap2 (hin.mono hY) (scR_in hR hHY) hS hS true (decide_eq_true rfl)
theorem same_lent2_retrofitref07 {S : Nat → Option (Option Box)} {ver : Int} {ad : Option Addr} {cap k : Nat} {cs : List Cp} {e : TypeId} {cc : List CV} (hin : CompsIn X ad cs) (hS : SmallC cs) (hk : S k = some (some ⟨e, cc, .res (scR cs)⟩)) :
    ∀ (Y : Nat → Option Obj) (us : List Value), (∀ b o, X b = some o → Y b = some o) → LentLs S Y [.sv (.agg [.val (.int .i64 ver), .slc k 0 cs.length 3]), Sx ver ad cs.length cap] us → PSpec Try.prog Y 23 (us.map toLV) (Lb true) := by
  intro Y us hY hL
  obtain ⟨u2, us2, rfl, ⟨bs, rfl, b1, bs1, rfl, h3, b2, bs2, rfl, ⟨b, blk, cap2, m, hk', rfl, hc, hfit, hB⟩, rfl⟩, u1, us1, rfl, ⟨av, rfl, a1, av1, rfl, h1, a2, as2, rfl, h2, rfl⟩, rfl⟩ := hL
  have h1 : a1 = .int .i64 ver := h1
  have h2 : a2 = .slice ad cs.length cap := h2
  have h3 : b1 = .int .i64 ver := h3
  subst h1 h2 h3
  rw [hk] at hk'
  simp only [Option.some.injEq] at hk'
  subst hk'
  obtain ⟨H, hR, hHY⟩ := hB
  exact same_retrofitref07 Y ⟨ver, cs⟩ ⟨ver, cs⟩ (some ⟨blk, 0, none⟩) ad cap2 cap (scR_in hR hHY) (hin.mono hY) hS hS true (decide_eq_true rfl)
set_option maxHeartbeats 6400000 in
theorem awake7_spec : PSpec Try.prog X 7 [] (Lb true) := by
  have hT := two_spec X
  refine PSpec.intro Try.func7 rfl (by kernel_rfl) rfl rfl ?_
  intro C
  (refine LWP.seq <| LWP.region (by kernel_rfl) <| kas rfl <| RunK.nil <| LWP.seq <| LWP.region (by kernel_rfl) <| K.callMp [(1000001, 500), (1000002, 501)] (.sv (.agg [.val (.int .i64 1), .slc 500 0 2 3])) [(500, some ⟨34, two0 (.slc 501 0 2 3), false⟩), (501, some ⟨41, (flV fl0).map .val, false⟩)] (hT) rfl rfl (by exact trivial) rfl rfl rfl rfl rfl (by exact (.box rfl rfl (.box rfl rfl .nil))) .plain <| K.alloc rfl .plain ?_; refine K.storeAll rfl rfl rfl rfl rfl rfl .plain ?_; refine RunK.nil <| LWP.seq ?_)
  refine LWP.le (σ' := ⟨[(1, Lp 1)], [(500, some ⟨34, [.val (.int .i64 1), .val (.string ⟨#[112, 111, 115]⟩)] ++ .slc 501 0 2 3 :: [.val (.int .i64 3), .val (.string ⟨#[116, 97, 103]⟩), .val (.slice none 0 0)], false⟩), (501, some ⟨41, (flV fl0).map .val, false⟩), (1, some ⟨24, [.val (.int .i64 1), .slc 500 0 2 3], false⟩)], X⟩) (Le.of (by exact ⟨rfl, trivial⟩) (by exact ⟨rfl, rfl, rfl, trivial⟩) (by exact rfl) (by exact rfl) (by repeat' (first | refine all_cons_true ?_ ?_ | rfl | exact bytes_inUse | exact vals_inUse | exact mid_inUse rfl))) ?_
  refine LWP.freezeCell rfl rfl rfl rfl rfl rfl fun b1 c1 a1 f1 n1 _ k1 k2 hs1 => ?_
  refine LWP.le (σ' := ⟨[(1, Lp 1)], [(1, some ⟨24, [.val (.int .i64 1)] ++ .slc 500 0 2 3 :: [], false⟩), (500, some ⟨34, (rowsZ cs0 [.slice (some ⟨b1, 0, none⟩) 2 c1, .slice none 0 0]).map .val, false⟩)], withBlock X b1 (.cells a1 41 f1)⟩) ?_ ?_
  · exact Le.same ⟨fun _ => rfl, fun j => look_swap rfl, rfl⟩
  refine LWP.freezeCell rfl rfl rfl rfl rfl rfl fun b2 c2 a2 f2 n2 _ _ _ hs2 => ?_
  have hne : b1 ≠ b2 := fun e => by
    rw [e] at n2
    unfold withBlock at n2
    rw [if_pos rfl] at n2
    cases n2
  have hX : ∀ b o, X b = some o → withBlock (withBlock X b1 (.cells a1 41 f1)) b2 (.cells a2 34 f2) b = some o := fun b o h => withBlock_old n2 b o (withBlock_old n1 b o h)
  have hin : CompsIn (withBlock (withBlock X b1 (.cells a1 41 f1)) b2 (.cells a2 34 f2)) (some ⟨b2, 0, none⟩) cs0 := by
    obtain ⟨sp1, e1⟩ := hs1
    obtain ⟨sp2, e2⟩ := hs2
    refine comps_block (fel := 41) (cells := [.slice (some ⟨b1, 0, none⟩) 2 c1, .slice none 0 0]) (withBlock_at _ _ _) e2 rfl cs0_inb fun i c v hc hv => ?_
    match i, hc, hv with
    | 0, hc, hv =>
      unfold cs0 at hc
      simp only [List.getElem?_cons_zero, Option.some.injEq] at hc hv
      subst hc hv
      exact .inr ⟨b1, ⟨2, c1, a1, f1, rfl, rfl, k1, by omega, withBlock_old n2 _ _ (withBlock_at _ _ _), sp1, e1⟩, fun e => by cases e⟩
    | 1, hc, hv =>
      unfold cs0 at hc
      simp only [List.getElem?_cons_succ, List.getElem?_cons_zero, Option.some.injEq] at hc hv
      subst hc hv
      exact .inl ⟨rfl, none, 0, rfl⟩
    | _ + 2, hc, hv => simp at hv
  generalize withBlock (withBlock X b1 (.cells a1 41 f1)) b2 (.cells a2 34 f2) = Z at *
  refine LWP.meetL (fun σ => ∃ (Z' : Nat → Option Obj) (fad : Option Addr) (fcap : Nat), (∀ b o, Z b = some o → Z' b = some o) ∧ σ = ⟨[(1, Lp 1), (2, Lp 2), (3, Lb true)], [cpB 2 ⟨3, [116, 97, 103], []⟩ fad fcap, sxB 1 1 (some ⟨b2, 0, none⟩) 2 c2], Z'⟩) ?_ ?_
  · rcases pFind Z 1 (some ⟨b2, 0, none⟩) c2 cs0 3 hin (by decide) (by decide) (i := 1) (c := ⟨3, [116, 97, 103], []⟩) (fun j y hj hy => by
      obtain rfl : j = 0 := by omega
      unfold cs0 at hy
      simp only [List.getElem?_cons_zero, Option.some.injEq] at hy
      subst hy; rfl) rfl rfl with ⟨_, p1⟩ | p1
    · (refine LWP.region (by kernel_rfl) <| K.loadAll rfl rfl rfl .plain ?_; refine kca rfl rfl (p1) <| kmv rfl <| kex rfl rfl <| kex rfl rfl <| K.alloc rfl .plain ?_; refine K.storeAll rfl rfl rfl rfl rfl rfl .plain ?_; refine kas rfl <| RunK.nil ?_)
      exact Leads.here (Le.of (by exact ⟨rfl, rfl, rfl, trivial⟩) (by exact ⟨rfl, rfl, trivial⟩) (by exact rfl) (by exact rfl) (by repeat' (first | refine all_cons_true ?_ ?_ | rfl | exact bytes_inUse | exact vals_inUse | exact mid_inUse rfl))) ⟨Z, none, 0, fun _ _ h => h, rfl⟩
    · (refine LWP.region (by kernel_rfl) <| K.loadAll rfl rfl rfl .plain ?_; refine K.callMp [(1000001, 20)] (.tup [SCs ⟨3, [116, 97, 103], []⟩ 20, Sb true]) [fdB 20 []] (p1) rfl rfl (by exact trivial) rfl rfl rfl rfl rfl (by exact (.box rfl rfl .nil)) .plain <| kmv rfl <| kex rfl rfl <| kex rfl rfl <| K.alloc rfl .plain ?_; refine K.storeAll rfl rfl rfl rfl rfl rfl .plain ?_; refine kas rfl <| RunK.nil ?_)
      refine Leads.le (σ' := ⟨[(1, Lp 1), (2, Lp 2), (3, Lb true)], [(2, some ⟨34, [.val (.int .i64 3), .val (.string ⟨#[116, 97, 103]⟩)] ++ .slc 20 0 0 3 :: [], false⟩), (20, some ⟨41, ([] : List Value).map .val, true⟩), sxB 1 1 (some ⟨b2, 0, none⟩) 2 c2], Z⟩) (Le.of (by exact ⟨rfl, rfl, rfl, trivial⟩) (by exact ⟨rfl, rfl, rfl, trivial⟩) (by exact rfl) (by exact rfl) (by repeat' (first | refine all_cons_true ?_ ?_ | rfl | exact bytes_inUse | exact vals_inUse | exact mid_inUse rfl))) ?_
      refine Leads.freezeCell rfl rfl rfl rfl rfl rfl fun b c a f hn _ _ _ _ => ?_
      exact Leads.done ⟨_, some ⟨b, 0, none⟩, c, withBlock_old hn, rfl⟩
  rintro σ ⟨Z', fad, fcap, hZ, rfl⟩
  replace hin := hin.mono hZ
  have p2 := pNamed_no Z' 1 (some ⟨b2, 0, none⟩) c2 cs0 [118, 101, 108] hin (by decide) (fun j y hy => by
    unfold cs0 at hy
    match j, hy with
    | 0, hy => simp only [List.getElem?_cons_zero, Option.some.injEq] at hy; subst hy; rfl
    | 1, hy => simp only [List.getElem?_cons_succ, List.getElem?_cons_zero, Option.some.injEq] at hy; subst hy; rfl
    | _ + 2, hy => simp at hy)
  obtain ⟨blk, off, arr, el, fr, fad0, fcap0, e0, hX0, hsz, hcs, _, _, _, hF0⟩ := hin.get (i := 0) (c := ⟨1, [112, 111, 115], fl0⟩) rfl
  simp only [Option.some.injEq, Addr.mk.injEq] at e0
  obtain ⟨rfl, rfl, _⟩ := e0
  have p3 := pField Z' ⟨1, [112, 111, 115], fl0⟩ fad0 fcap0 [121] hF0 (by decide) (i := 1) (f := ⟨[121], 3, 1⟩) (fun j y hj hy => by
    obtain rfl : j = 0 := by omega
    unfold fl0 at hy
    simp only [List.getElem?_cons_zero, Option.some.injEq] at hy
    subst hy; rfl) rfl rfl
  (refine LWP.seq <| LWP.region (by kernel_rfl) <| K.loadAll rfl rfl rfl .plain ?_; refine kca rfl rfl (p2) <| kmv rfl <| kex rfl rfl <| kex rfl rfl <| K.alloc rfl .plain ?_; refine K.storeAll rfl rfl rfl rfl rfl rfl .plain ?_; refine kas rfl <| RunK.nil <| LWP.seq <| LWP.region (by kernel_rfl) <| kfa rfl rfl ?_; refine kl1 rfl rfl rfl <| K.indexX rfl rfl SliceT.h (by omega) rfl .plain <| K.loadXagg rfl hX0 (by kernel_rfl) hsz hcs .plain <| kca rfl rfl (p3) <| kmv rfl <| kex rfl rfl <| kex rfl rfl <| kas rfl <| kas rfl <| RunK.nil <| LWP.seq ?_)
  refine LWP.le (σ' := ⟨[(1, Lp 1), (2, Lp 2), (3, Lb true), (5, Lb false), (6, Ln .i64 (1 : Nat)), (7, Lb true)], [sxB 1 1 (some ⟨b2, 0, none⟩) 2 c2, (2, some ⟨34, [.val (.int .i64 3), .val (.string ⟨#[116, 97, 103]⟩), .val (.slice fad 0 fcap)], false⟩)], Z'⟩) (Le.of (by exact ⟨rfl, rfl, rfl, rfl, rfl, rfl, trivial⟩) (by exact ⟨rfl, rfl, trivial⟩) (by exact rfl) (by exact rfl) (by repeat' (first | refine all_cons_true ?_ ?_ | rfl | exact bytes_inUse | exact vals_inUse | exact mid_inUse rfl))) ?_
  have hI := pIds Z' 1 (some ⟨b2, 0, none⟩) c2 cs0 hin (by decide)
  have hC := pCheck Z' ⟨1, cs0⟩ (some ⟨b2, 0, none⟩) c2 hin cs0_small 0 (by decide)
  have m1 := pIsName Z' [97, 57] true (by decide)
  have m2 := pIsName Z' [57, 97] false (by decide)
  have hnil : NumsIn Z' none [] := ⟨fun i r h => by simp at h, fun n hn => by cases hn⟩
  have q1 := pPart Z' 1 (some ⟨b2, 0, none⟩) none c2 0 cs0 ⟨2, []⟩ hin cs0_small hnil (by decide) 6 (by decide)
  have o1 := Of_spec Z' 1 (by decide)
  have o2 := Of_spec Z' 32768 (by decide)
  have hR2 : ∀ z ∈ [1, 32768], R127 z := fun z hz => by
    simp only [List.mem_cons, List.not_mem_nil, or_false] at hz
    rcases hz with rfl | rfl <;> (unfold R127; decide)
  have hQ := pClone Z' 1 (some ⟨b2, 0, none⟩) c2 cs0 hin cs0_small
  ((refine LWP.region (by kernel_rfl) <| K.loadAll rfl rfl rfl .plain ?_; refine K.callMp [(1000001, 502)] (.sv (.one (.slc 502 0 2))) [(502, some ⟨3, (idsV cs0).map .val, false⟩)] (hI) rfl rfl (by exact trivial) rfl rfl rfl rfl rfl (by exact (.box rfl rfl .nil)) .plain <| kas rfl <| RunK.nil <| LWP.seq <| LWP.draws mixed (by kernel_rfl) <| K.loadAll rfl rfl rfl .plain ?_; refine kca rfl rfl hC <| keq rfl rfl (beq_iff_eq.2 (by omega)) <| kmv rfl <| gmv rfl rfl rfl <| kpt rfl rfl <| kmv rfl <| K.fieldAddr rfl rfl (.taken rfl rfl) ?_; refine K.loadOne rfl rfl rfl (.taken rfl rfl) ?_; refine K.strEq rfl rfl (strs_eq (r := true) (by decide)) (.taken rfl rfl) ?_; refine kpt rfl rfl <| kmv rfl <| gmv rfl rfl rfl <| K.not rfl rfl (.taken rfl rfl) ?_; refine kpt rfl rfl <| kmv rfl <| gmv rfl rfl rfl <| kpt rfl rfl <| kmv rfl <| gmv rfl rfl rfl <| K.eql rfl rfl (beq_iff_eq.2 (by omega)) (.taken rfl rfl) ?_; refine kpt rfl rfl <| kmv rfl <| gca rfl rfl m1 rfl rfl <| kpt rfl rfl <| kmv rfl <| gca rfl rfl m2 rfl rfl <| K.not rfl rfl (.taken rfl rfl) ?_; refine kpt rfl rfl <| kmv rfl <| K.loadAll rfl rfl rfl (.taken rfl rfl) ?_; refine K.build rfl rfl (by exact rfl) (by exact nl2 rfl rfl rfl) (.taken rfl rfl) ?_; refine gca rfl rfl q1 rfl rfl <| K.eql rfl rfl (beq_iff_eq.2 (by omega)) (.taken rfl rfl) ?_; refine kpt rfl rfl <| kmv rfl <| K.loadAll rfl rfl rfl (.taken rfl rfl) ?_); (refine gca rfl rfl o1 rfl rfl <| gca rfl rfl o2 rfl rfl <| K.buildSlc (zs := (List.replicate 2 [Value.bool false, .int .u64 0, .int .u64 0]).flatten) (sz := 3) (e := 63) (cs' := (nsV [1, 32768]).map .val) (by kernel_rfl) rfl rfl rfl rfl rfl rfl (.taken rfl rfl) ?_; refine K.build rfl rfl (by exact rfl) (by exact nl2 rfl rfl rfl) (.taken rfl rfl) ?_; refine K.callL [69] rfl rfl rfl (part_lent (zs := [1, 32768]) Z' hin cs0_small (by decide) hR2 rfl (e := 3) (by decide)) (.taken rfl rfl) ?_; refine K.eql rfl rfl (beq_iff_eq.2 (by omega)) (.taken rfl rfl) ?_; refine kpt rfl rfl <| kmv rfl <| K.loadAll rfl rfl rfl (.taken rfl rfl) ?_; refine K.build rfl rfl (by exact rfl) (by exact nl2 rfl rfl rfl) (.taken rfl rfl) ?_; refine K.build rfl rfl (by exact rfl) (by exact nl2 rfl rfl rfl) (.taken rfl rfl) ?_; refine K.buildSlc (zs := (List.replicate 2 [Value.int .i64 0, .slice none 0 0]).flatten) (sz := 2) (e := 50) (cs' := ([.int .i64 3, .slice none 0 0, .int .i64 3, .slice none 0 0] : List Value).map .val) (by kernel_rfl) rfl rfl rfl rfl rfl rfl (.taken rfl rfl) ?_; refine K.callL [78] rfl rfl rfl (parts_lent Z' hin cs0_small (by decide) (by decide) rfl (e := 1) (by decide)) (.taken rfl rfl) ?_; refine K.eql rfl rfl (beq_iff_eq.2 (by omega)) (.taken rfl rfl) ?_; refine kpt rfl rfl <| kmv rfl <| gmv rfl rfl rfl <| K.lenSlc rfl SliceT.h rfl (.taken rfl rfl) ?_; refine K.eql rfl rfl (beq_iff_eq.2 (by omega)) (.taken rfl rfl) ?_); (refine kpt rfl rfl <| kmv rfl <| gmv rfl rfl rfl <| K.indexSlc rfl rfl (by omega) rfl (.taken rfl rfl) ?_; refine K.loadOne rfl rfl rfl (.taken rfl rfl) ?_; refine K.eql rfl rfl rfl (.taken rfl rfl) ?_; refine kpt rfl rfl <| kmv rfl <| K.loadAll rfl rfl rfl (.taken rfl rfl) ?_; refine K.loadAll rfl rfl rfl (.taken rfl rfl) ?_; refine K.callMp [(1000001, 503)] (.sv (.agg [.val (.int .i64 1), .slc 503 0 2 3])) [scB 503 cs0] (hQ) rfl rfl (by exact trivial) rfl rfl rfl rfl rfl (by exact (.box rfl rfl .nil)) (.taken rfl rfl) ?_; refine K.callL [503] rfl rfl rfl (same_lent_schema Z' hin cs0_small rfl) (.taken rfl rfl) ?_; refine kpt rfl rfl <| kas rfl <| RunK.nil <| And.intro (by kernel_rfl) ?_; refine LWP.ret ?_))
  exact ⟨[_], ⟨rfl, trivial⟩, rfl⟩
end Go.Proofs.Yteappfihapeakaa
end
section
-- SchemaExact
namespace Go.Lg.Fld
open Go Go.Lg
/-- looked through from the end down to a place: the first one from there on, or -1 -/
def Scan {α : Type} (p : α → Bool) (l : List α) (k : Nat) (v : Int) : Prop := (v = -1 ∧ ∀ (m : Nat) (y : α), k ≤ m → l[m]? = some y → p y = false) ∨ ∃ (i : Nat) (c : α), v = (i : Nat) ∧ l[i]? = some c ∧ p c = true ∧ ∀ (m : Nat) (y : α), k ≤ m → m < i → l[m]? = some y → p y = false
theorem Scan.start {α : Type} {p : α → Bool} {l : List α} : Scan p l l.length (-1) := .inl ⟨rfl, fun m y hm hy => by have := (List.getElem?_eq_some_iff.1 hy).1; omega⟩
theorem Scan.hit {α : Type} {p : α → Bool} {l : List α} {k : Nat} {y : α} (hy : l[k]? = some y) (hp : p y = true) : Scan p l k (k : Nat) := .inr ⟨k, y, rfl, hy, hp, fun m y hm hk => by omega⟩
theorem Scan.miss {α : Type} {p : α → Bool} {l : List α} {k : Nat} {v : Int} {y : α} (h : Scan p l (k + 1) v) (hy : l[k]? = some y) (hp : p y = false) : Scan p l k v := by
  rcases h with ⟨h1, h2⟩ | ⟨i, c, h1, h2, h3, h4⟩
  · exact .inl ⟨h1, fun m z hm hz => by
      by_cases e : m = k
      · subst e; rw [hy] at hz; cases hz; exact hp
      · exact h2 m z (by omega) hz⟩
  · exact .inr ⟨i, c, h1, h2, h3, fun m z hm hi hz => by
      by_cases e : m = k
      · subst e; rw [hy] at hz; cases hz; exact hp
      · exact h4 m z (by omega) hi hz⟩
theorem Scan.low {α : Type} {p : α → Bool} {l : List α} {k : Nat} {v : Int} (h : Scan p l k v) : -1 ≤ v ∧ v < l.length := by
  rcases h with ⟨h1, _⟩ | ⟨i, c, h1, h2, _⟩
  · omega
  · have := (List.getElem?_eq_some_iff.1 h2).1; omega
end Go.Lg.Fld
namespace Go.Proofs.Yteappfihapeakaa
open Go Go.Lg Go.Lg.Fld
set_option maxRecDepth 100000
variable (X : Nat → Option Obj)
/-- what Find answers, and the reference: a component there is, or none -/
theorem find_both (ver : Int) (ad : Option Addr) (cap : Nat) (cs : List Cp) (id : Int) (hin : CompsIn X ad cs) (hS : SmallC cs) :
    ∃ (c : Cp) (b : Bool) (v : Int), (∀ f ∈ c.fs, (-9223372036854775808 ≤ f.kind ∧ f.kind < 9223372036854775808) ∧ (-9223372036854775808 ≤ f.count ∧ f.count < 9223372036854775808)) ∧ c.fs.length ≤ 12 ∧ ((c.fs = [] ∧ PSpec Try.prog X 14 [Sx ver ad cs.length cap, Ln .i64 id] (.tup [SCx c none 0, Sb b])) ∨
        MSpec Try.prog X 14 [Sx ver ad cs.length cap, Ln .i64 id] [] (.tup [SCs c 1000001, Sb b]) [fdB 1000001 c.fs]) ∧
      PSpec Try.prog X 13 [Sx ver ad cs.length cap, Ln .i64 id] (Ln .i64 v) ∧ ((b = true ∧ ∃ i : Nat, v = i ∧ cs[i]? = some c) ∨ (b = false ∧ v = -1 ∧ c = ⟨0, [], []⟩)) := by
  have hb1 : cs.length < 4611686018427387904 := by have := hS.1; omega
  have hR := sFind_spec X ver ad cap cs id hin hb1
  rcases find_cases cs id with ⟨i, c, hc, he, hpre⟩ | hno
  · obtain ⟨h1, _, h3⟩ := hS.2 c (List.mem_of_getElem? hc)
    rw [findI_some hpre hc (by rw [beq_iff_eq]; exact he)] at hR
    obtain ⟨_, _, _, _, _, _, _, _, _, _, _, _, _, _, hFs⟩ := hin.get hc
    exact ⟨c, true, _, hFs.small, h1, pFind X ver ad cap cs id hin hb1 (fun c hc => by have := (hS.2 c hc).1; omega) hpre hc he, hR, .inl ⟨rfl, i, rfl, hc⟩⟩
  · rw [findI_none hno] at hR
    exact ⟨⟨0, [], []⟩, false, -1, fun f hf => (by cases hf), by decide, .inl ⟨rfl, pFind_no X ver ad cap cs id hin hb1 hno⟩, hR, .inr ⟨rfl, rfl, rfl⟩⟩
/-- what Named answers, where the scan came to v -/
theorem named_both (ver : Int) (ad : Option Addr) (cap : Nat) (cs : List Cp) (nm : List UInt8) (hin : CompsIn X ad cs) (hS : SmallC cs) {v : Int} (h : Scan (fun c : Cp => c.nm == nm) cs 0 v) :
    ∃ (c : Cp) (b : Bool), (∀ f ∈ c.fs, (-9223372036854775808 ≤ f.kind ∧ f.kind < 9223372036854775808) ∧ (-9223372036854775808 ≤ f.count ∧ f.count < 9223372036854775808)) ∧ c.fs.length ≤ 12 ∧ ((c.fs = [] ∧ PSpec Try.prog X 16 [Sx ver ad cs.length cap, Ls nm] (.tup [SCx c none 0, Sb b])) ∨
        MSpec Try.prog X 16 [Sx ver ad cs.length cap, Ls nm] [] (.tup [SCs c 1000001, Sb b]) [fdB 1000001 c.fs]) ∧
      ((b = true ∧ ∃ i : Nat, v = i ∧ cs[i]? = some c) ∨ (b = false ∧ v = -1 ∧ c = ⟨0, [], []⟩)) := by
  have hb1 : cs.length < 4611686018427387904 := by have := hS.1; omega
  rcases h with ⟨h1, h2⟩ | ⟨i, c, h1, h2, h3, h4⟩
  · exact ⟨⟨0, [], []⟩, false, fun f hf => (by cases hf), by decide, .inl ⟨rfl, pNamed_no X ver ad cap cs nm hin hb1 (fun j y hy => h2 j y (Nat.zero_le _) hy)⟩, .inr ⟨rfl, h1, rfl⟩⟩
  · obtain ⟨_, _, _, _, _, _, _, _, _, _, _, _, _, _, hFs⟩ := hin.get h2
    exact ⟨c, true, hFs.small, (hS.2 c (List.mem_of_getElem? h2)).1, pNamed X ver ad cap cs nm hin hb1 (fun c hc => by have := (hS.2 c hc).1; omega) (fun j y hj hy => h4 j y (Nat.zero_le _) hj hy) h2 (by simpa using h3), .inl ⟨rfl, i, h1, h2⟩⟩
/-- what FieldNamed answers, where the scan came to v -/
theorem field_both (c : Cp) (fad : Option Addr) (fcap : Nat) (nm : List UInt8) (hF : FieldsIn X fad c.fs) (hfb : c.fs.length ≤ 12) {v : Int} (h : Scan (fun f : Fl => f.nm == nm) c.fs 0 v) :
    ∃ (n : Int) (b : Bool), PSpec Try.prog X 17 [Cx c fad fcap, Ls nm] (.tup [Sn .i64 n, Sb b]) ∧ ((b = true ∧ n = v ∧ 0 ≤ v) ∨ (b = false ∧ n = 0 ∧ v = -1)) := by
  rcases h with ⟨h1, h2⟩ | ⟨i, f, h1, h2, h3, h4⟩
  · exact ⟨0, false, pField_no X c fad fcap nm hF (by omega) (fun j y hy => h2 j y (Nat.zero_le _) hy), .inr ⟨rfl, rfl, h1⟩⟩
  · exact ⟨(i : Nat), true, pField X c fad fcap nm hF (by omega) (fun j y hj hy => h4 j y (Nat.zero_le _) hj hy) h2 (by simpa using h3), .inl ⟨rfl, h1.symm, by omega⟩⟩
abbrev seSt (ver id : Int) (nm : List UInt8) (ad : Option Addr) (n cap : Nat) (extra : List (Nat × LV)) (bx : List (Nat × Option Box)) (Y : Nat → Option Obj) : St := ⟨(1, Ln .i64 id) :: (2, Ls nm) :: (3, Lp 3) :: extra, sxB 3 ver ad n cap :: bx, Y⟩
set_option maxHeartbeats 12800000 in
theorem SchemaExact_spec (s : Sc) (ad : Option Addr) (cap : Nat) (id : Int) (nm : List UInt8) (hin : CompsIn X ad s.cs) :
    PSpec Try.prog X 3 [Sx s.ver ad s.cs.length cap, Ln .i64 id, Ls nm] (Lb true) := by
  obtain ⟨ver, cs⟩ := s
  simp only at hin ⊢
  have hW := awake7_spec X
  have hG := great7_spec X ver ad cap cs hin (greatB cs) rfl
  refine PSpec.intro Try.func3 rfl (by kernel_rfl) rfl rfl ?_
  intro C
  have hlen : (⟨nm.toArray⟩ : ByteArray).size = nm.length := rfl
  cases hg : greatB cs with
  | true =>
    rw [hg] at hG
    (refine LWP.seq <| LWP.region (by kernel_rfl) <| K.box rfl rfl rfl .plain <| kas rfl <| RunK.nil <| LWP.seq <| LWP.seq <| LWP.region (by kernel_rfl) <| kca rfl rfl (hW) <| K.not rfl rfl .plain <| RunK.nil <| LWP.condF rfl ?_; refine LWP.skip ?_; refine LWP.seq <| LWP.seq <| LWP.region (by kernel_rfl) <| K.loadAll rfl rfl rfl .plain ?_; refine kca rfl rfl (hG) <| kmv rfl <| RunK.passed rfl rfl rfl <| RunK.passed rfl rfl rfl <| RunK.passed rfl rfl rfl <| kpt rfl rfl <| RunK.nil <| LWP.condT rfl ?_; refine LWP.seq <| LWP.region (by kernel_rfl) <| kas rfl <| RunK.nil <| LWP.ret ?_)
    exact ⟨[_], ⟨rfl, trivial⟩, rfl⟩
  | false =>
  rw [hg] at hG
  have hS := greatB_small hg
  by_cases hnb : 100 < nm.length
  · (refine LWP.seq <| LWP.region (by kernel_rfl) <| K.box rfl rfl rfl .plain <| kas rfl <| RunK.nil <| LWP.seq <| LWP.seq <| LWP.region (by kernel_rfl) <| kca rfl rfl (hW) <| K.not rfl rfl .plain <| RunK.nil <| LWP.condF rfl ?_; refine LWP.skip ?_; refine LWP.seq <| LWP.seq <| LWP.region (by kernel_rfl) <| K.loadAll rfl rfl rfl .plain ?_; refine kca rfl rfl (hG) <| kmv rfl <| gmv rfl rfl rfl <| K.lenStr rfl (.taken rfl rfl) ?_; refine K.gtr rfl rfl (decide_eq_true (by rw [hlen]; omega)) (.taken rfl rfl) ?_; refine kpf rfl rfl <| RunK.nil <| LWP.condT rfl ?_; refine LWP.seq <| LWP.region (by kernel_rfl) <| kas rfl <| RunK.nil <| LWP.ret ?_)
    exact ⟨[_], ⟨rfl, trivial⟩, rfl⟩
  have hn30 := hS.1
  have hb1 : cs.length < 4611686018427387904 := by omega
  have hb2 : ∀ c ∈ cs, c.fs.length < 4611686018427387904 := fun c hc => by have := (hS.2 c hc).1; omega
  have c1 := pCheck X ⟨ver, cs⟩ ad cap hin hS (chkE ⟨ver, cs⟩) rfl
  have c2 := sCheck_spec X ⟨ver, cs⟩ ad cap hin hb1 hb2
  simp only at c1 c2
  generalize chkE ⟨ver, cs⟩ = ce at *
  have n1 := pIsName X nm (nmB nm) rfl
  have n2 := sName_spec X nm
  generalize nmB nm = nb at *
  obtain ⟨c, b, v, hsm, hfb, f1, f2, hfv⟩ := find_both X ver ad cap cs id hin hS
  (refine LWP.seq <| LWP.region (by kernel_rfl) <| K.box rfl rfl rfl .plain <| kas rfl <| RunK.nil <| LWP.seq <| LWP.seq <| LWP.region (by kernel_rfl) <| kca rfl rfl (hW) <| K.not rfl rfl .plain <| RunK.nil <| LWP.condF rfl ?_; refine LWP.skip ?_; refine LWP.seq <| LWP.seq <| LWP.region (by kernel_rfl) <| K.loadAll rfl rfl rfl .plain ?_; refine kca rfl rfl (hG) <| kmv rfl <| gmv rfl rfl rfl <| K.lenStr rfl (.taken rfl rfl) ?_; refine K.gtr rfl rfl (decide_eq_false (by rw [hlen]; omega)) (.taken rfl rfl) ?_; refine kpf rfl rfl <| RunK.nil <| LWP.condF rfl ?_; refine LWP.skip ?_; refine LWP.seq <| LWP.seq <| LWP.draws mixed (by kernel_rfl) <| K.loadAll rfl rfl rfl .plain ?_; refine kca rfl rfl c1 <| K.loadAll rfl rfl rfl .plain ?_; refine kca rfl rfl c2 <| kne rfl rfl (r := false) (by simp) <| kmv rfl <| gmv rfl rfl rfl <| gca rfl rfl n1 rfl rfl <| gmv rfl rfl rfl <| gca rfl rfl n2 rfl rfl <| K.neqB rfl rfl (r := false) (by simp) (.taken rfl rfl) ?_; refine kpf rfl rfl <| RunK.nil <| And.intro (by kernel_rfl) ?_; refine LWP.condF rfl ?_; refine LWP.skip ?_; refine LWP.seq ?_)
  (refine LWP.region (by kernel_rfl) <| K.loadAll rfl rfl rfl .plain ?_; refine kmv rfl <| kca rfl rfl f2 <| kas rfl <| RunK.nil <| LWP.seq ?_)
  refine LWP.meetL (fun σ => ∃ (X1 : Nat → Option Obj) (fad : Option Addr) (fcap : Nat), (∀ b o, X b = some o → X1 b = some o) ∧ FieldsIn X1 fad c.fs ∧ σ = ⟨[(1, Ln .i64 id), (2, Ls nm), (3, Lp 3), (7, Ln .i64 v), (8, Lp 8), (9, Lb b)], [cpB 8 c fad fcap, sxB 3 ver ad cs.length cap], X1⟩) ?_ ?_
  · rcases f1 with ⟨h0, p1⟩ | p1
    · (refine LWP.region (by kernel_rfl) <| K.loadAll rfl rfl rfl .plain ?_; refine kmv rfl <| kca rfl rfl p1 <| kmv rfl <| kex rfl rfl <| kex rfl rfl <| K.alloc rfl .plain ?_; refine K.storeAll rfl rfl rfl rfl rfl rfl .plain ?_; refine kas rfl <| RunK.nil ?_)
      exact Leads.here (Le.of (by exact ⟨rfl, rfl, rfl, rfl, rfl, rfl, trivial⟩) (by exact ⟨rfl, rfl, trivial⟩) (by exact rfl) (by exact rfl) (by repeat' (first | refine all_cons_true ?_ ?_ | rfl | exact bytes_inUse | exact vals_inUse | exact mid_inUse rfl))) ⟨X, none, 0, fun _ _ h => h, fields_none h0, rfl⟩
    · (refine LWP.region (by kernel_rfl) <| K.loadAll rfl rfl rfl .plain ?_; refine kmv rfl <| K.callMp [(1000001, 200)] (.tup [SCs c 200, Sb b]) [fdB 200 c.fs] (p1) rfl rfl (by exact trivial) rfl rfl rfl rfl rfl (by exact (.box rfl (Box.ren_vals _ _ _ _) .nil)) .plain <| kmv rfl <| kex rfl rfl <| kex rfl rfl <| K.alloc rfl .plain ?_; refine K.storeAll rfl rfl rfl rfl rfl rfl .plain ?_; refine kas rfl <| RunK.nil ?_)
      refine Leads.le (σ' := ⟨[(1, Ln .i64 id), (2, Ls nm), (3, Lp 3), (7, Ln .i64 v), (8, Lp 8), (9, Lb b)], [(8, some ⟨34, [.val (.int .i64 c.id), .val (.string ⟨c.nm.toArray⟩)] ++ .slc 200 0 c.fs.length 3 :: [], false⟩), (200, some ⟨41, (flV c.fs).map .val, true⟩), sxB 3 ver ad cs.length cap], X⟩) (Le.of (by exact ⟨rfl, rfl, rfl, rfl, rfl, rfl, trivial⟩) (by exact ⟨rfl, rfl, rfl, trivial⟩) (by exact rfl) (by exact rfl) (by repeat' (first | refine all_cons_true ?_ ?_ | rfl | exact bytes_inUse | exact vals_inUse | exact mid_inUse rfl))) ?_
      refine Leads.freezeCell rfl rfl rfl rfl rfl rfl fun b c1 a f hn _ _ _ hsp => ?_
      exact Leads.done ⟨_, some ⟨b, 0, none⟩, c1, withBlock_old hn, (by obtain ⟨sp, e⟩ := hsp; exact fields_block (withBlock_at _ _ _) e hsm), rfl⟩
  rintro σ ⟨X1, fad, fcap, hX1, hFX1, rfl⟩
  have hF := hFX1
  replace hin := hin.mono hX1
  refine LWP.le (σ' := seSt ver id nm ad cs.length cap [(7, Ln .i64 v), (8, Lp 8), (9, Lb b)] [cpB 8 c fad fcap] X1) (Le.of (by exact ⟨rfl, rfl, rfl, rfl, rfl, rfl, trivial⟩) (by exact ⟨rfl, rfl, trivial⟩) (by exact rfl) (by exact rfl) (by repeat' (first | refine all_cons_true ?_ ?_ | rfl | exact bytes_inUse | exact vals_inUse | exact mid_inUse rfl))) ?_
  refine LWP.seq ?_
  refine LWP.seq ?_
  refine LWP.cut (fun σ => σ = seSt ver id nm ad cs.length cap [(8, Lp 8)] [cpB 8 c fad fcap] X1) ?_ ?_
  · rcases hfv with ⟨rfl, i, rfl, hc⟩ | ⟨rfl, rfl, rfl⟩
    · obtain ⟨blk, off, arr, el, fr, fad', fcap', rfl, hX, hsz, hcs, _, _, _, hF'⟩ := hin.get hc
      have hi := (List.getElem?_eq_some_iff.1 hc).1
      have hio : off + Int.toNat (i : Int) * 3 = off + i * 3 := by simp
      have hC := sComp_spec X1 c c fad fad' fcap fcap' hF hF' (by omega) true (decide_eq_true rfl)
      (refine LWP.draws mixed (by kernel_rfl) <| kmv rfl <| kmv rfl <| K.geq rfl rfl (decide_eq_true (by omega)) .plain <| K.neqB rfl rfl rfl .plain <| kmv rfl <| gmv rfl rfl rfl <| gmv rfl rfl rfl <| K.loadAll rfl rfl rfl (.taken rfl rfl) ?_; refine K.fieldAddr rfl rfl (.taken rfl rfl) ?_; refine K.loadOne rfl rfl rfl (.taken rfl rfl) ?_; refine gmv rfl rfl rfl <| K.indexX rfl rfl SliceT.h (by omega) hio (.taken rfl rfl) ?_; refine K.loadXagg rfl hX (by kernel_rfl) hsz hcs (.taken rfl rfl) ?_; refine gca rfl rfl hC rfl rfl <| K.not rfl rfl (.taken rfl rfl) ?_; refine K.pickT rfl rfl (.taken rfl rfl) ?_; refine kpf rfl rfl <| kmv rfl <| gmv rfl rfl rfl <| K.not rfl rfl (.taken rfl rfl) ?_; refine gmv rfl rfl rfl <| RunK.passed rfl rfl rfl <| RunK.passed rfl rfl rfl <| RunK.passed rfl rfl rfl <| RunK.passed rfl rfl rfl <| K.pickF rfl rfl (.taken rfl rfl) ?_; refine kpf rfl rfl <| RunK.nil <| And.intro (by kernel_rfl) ?_; refine LWP.condF rfl ?_; refine LWP.skip ?_)
      exact ⟨_, Le.of (by exact ⟨rfl, rfl, rfl, rfl, trivial⟩) (by exact ⟨rfl, rfl, trivial⟩) (by exact rfl) (by exact rfl) (by repeat' (first | refine all_cons_true ?_ ?_ | rfl | exact bytes_inUse | exact vals_inUse | exact mid_inUse rfl)), rfl⟩
    · have hC := sComp_spec X1 ⟨0, [], []⟩ ⟨0, [], []⟩ fad none fcap 0 hF (fields_none rfl) (by decide) true (decide_eq_true rfl)
      (refine LWP.draws mixed (by kernel_rfl) <| kmv rfl <| kmv rfl <| K.geq rfl rfl (decide_eq_false (by omega)) .plain <| K.neqB rfl rfl rfl .plain <| kmv rfl <| gmv rfl rfl rfl <| gmv rfl rfl rfl <| RunK.passed rfl rfl rfl <| RunK.passed rfl rfl rfl <| RunK.passed rfl rfl rfl <| RunK.passed rfl rfl rfl <| RunK.passed rfl rfl rfl <| RunK.passed rfl rfl rfl ?_; refine RunK.passed rfl rfl rfl <| RunK.passed rfl rfl rfl <| K.pickF rfl rfl (.taken rfl rfl) ?_; refine kpf rfl rfl <| kmv rfl <| gmv rfl rfl rfl <| K.not rfl rfl (.taken rfl rfl) ?_; refine gmv rfl rfl rfl <| K.loadAll rfl rfl rfl (.taken rfl rfl) ?_; refine K.build rfl rfl (by exact rfl) (by exact nl3 rfl rfl rfl rfl) (.taken rfl rfl) ?_; refine gca rfl rfl hC rfl rfl <| K.not rfl rfl (.taken rfl rfl) ?_; refine K.pickT rfl rfl (.taken rfl rfl) ?_; refine kpf rfl rfl <| RunK.nil <| And.intro (by kernel_rfl) ?_; refine LWP.condF rfl ?_; refine LWP.skip ?_)
      exact ⟨_, Le.of (by exact ⟨rfl, rfl, rfl, rfl, trivial⟩) (by exact ⟨rfl, rfl, trivial⟩) (by exact rfl) (by exact rfl) (by repeat' (first | refine all_cons_true ?_ ?_ | rfl | exact bytes_inUse | exact vals_inUse | exact mid_inUse rfl)), rfl⟩
  rintro σ rfl
  have hsub : IntKind.i64.wrap (((cs.length : Nat) : Int) - 1) = ((cs.length : Nat) : Int) - 1 := wrap_i64 (by omega)
  (refine LWP.seq <| LWP.region (by kernel_rfl) <| kas rfl <| RunK.nil <| LWP.seq <| LWP.seq <| LWP.region (by kernel_rfl) <| kfa rfl rfl ?_; refine kl1 rfl rfl rfl <| K.lenX rfl SliceT.h rfl .plain ?_; refine K.sub rfl rfl hsub .plain <| kas rfl <| RunK.nil <| LWP.block ?_)
  refine LWP.loop (fun m σ => ∃ (k : Nat) (v : Int), k ≤ cs.length ∧ m = k ∧ Scan (fun c : Cp => c.nm == nm) cs k v ∧ σ = seSt ver id nm ad cs.length cap [(8, Lp 8), (10, Ln .i64 v), (11, Ln .i64 ((k : Nat) - 1 : Int))] [cpB 8 c fad fcap] X1) cs.length
    ⟨_, Le.of (by exact ⟨rfl, rfl, rfl, rfl, rfl, rfl, trivial⟩) (by exact ⟨rfl, rfl, trivial⟩) (by exact rfl) (by exact rfl) (by repeat' (first | refine all_cons_true ?_ ?_ | rfl | exact bytes_inUse | exact vals_inUse | exact mid_inUse rfl)), cs.length, -1, Nat.le_refl _, rfl, Scan.start, rfl⟩ ?_
  rintro m σ ⟨k, v2, hk, rfl, hsc, rfl⟩
  by_cases hk0 : m = 0
  · subst hk0
    obtain ⟨d, b2, hsm2, hdb, hN, hdv⟩ := named_both X1 ver ad cap cs nm hin hS hsc
    (refine LWP.seq <| LWP.seq <| LWP.region (by kernel_rfl) <| kmv rfl <| K.geq rfl rfl (decide_eq_false (by omega)) .plain <| RunK.nil <| LWP.condF rfl ?_; refine LWP.exit <| LWP.seq ?_)
    refine LWP.meetL (fun σ => ∃ (X2 : Nat → Option Obj) (fadF : Option Addr) (fcapF : Nat), (∀ b o, X1 b = some o → X2 b = some o) ∧ FieldsIn X2 fadF d.fs ∧ σ = ⟨[(1, Ln .i64 id), (2, Ls nm), (3, Lp 3), (8, Lp 8), (10, Ln .i64 v2), (12, Lp 12), (13, Lb b2)], [cpB 12 d fadF fcapF, cpB 8 c fad fcap, sxB 3 ver ad cs.length cap], X2⟩) ?_ ?_
    · rcases hN with ⟨h0, p1⟩ | p1
      · (refine LWP.region (by kernel_rfl) <| K.loadAll rfl rfl rfl .plain ?_; refine kmv rfl <| kca rfl rfl p1 <| kmv rfl <| kex rfl rfl <| kex rfl rfl <| K.alloc rfl .plain ?_; refine K.storeAll rfl rfl rfl rfl rfl rfl .plain ?_; refine kas rfl <| RunK.nil ?_)
        exact Leads.here (Le.of (by exact ⟨rfl, rfl, rfl, rfl, rfl, rfl, rfl, trivial⟩) (by exact ⟨rfl, rfl, rfl, trivial⟩) (by exact rfl) (by exact rfl) (by repeat' (first | refine all_cons_true ?_ ?_ | rfl | exact bytes_inUse | exact vals_inUse | exact mid_inUse rfl))) ⟨X1, none, 0, fun _ _ h => h, fields_none h0, rfl⟩
      · (refine LWP.region (by kernel_rfl) <| K.loadAll rfl rfl rfl .plain ?_; refine kmv rfl <| K.callMp [(1000001, 200)] (.tup [SCs d 200, Sb b2]) [fdB 200 d.fs] (p1) rfl rfl (by exact trivial) rfl rfl rfl rfl rfl (by exact (.box rfl (Box.ren_vals _ _ _ _) .nil)) .plain <| kmv rfl <| kex rfl rfl <| kex rfl rfl <| K.alloc rfl .plain ?_; refine K.storeAll rfl rfl rfl rfl rfl rfl .plain ?_; refine kas rfl <| RunK.nil ?_)
        refine Leads.le (σ' := ⟨[(1, Ln .i64 id), (2, Ls nm), (3, Lp 3), (8, Lp 8), (10, Ln .i64 v2), (12, Lp 12), (13, Lb b2)], [(12, some ⟨34, [.val (.int .i64 d.id), .val (.string ⟨d.nm.toArray⟩)] ++ .slc 200 0 d.fs.length 3 :: [], false⟩), (200, some ⟨41, (flV d.fs).map .val, true⟩), cpB 8 c fad fcap, sxB 3 ver ad cs.length cap], X1⟩) (Le.of (by exact ⟨rfl, rfl, rfl, rfl, rfl, rfl, rfl, trivial⟩) (by exact ⟨rfl, rfl, rfl, rfl, trivial⟩) (by exact rfl) (by exact rfl) (by repeat' (first | refine all_cons_true ?_ ?_ | rfl | exact bytes_inUse | exact vals_inUse | exact mid_inUse rfl))) ?_
        refine Leads.freezeCell rfl rfl rfl rfl rfl rfl fun b c1 a f hn _ _ _ hsp => ?_
        exact Leads.done ⟨_, some ⟨b, 0, none⟩, c1, withBlock_old hn, (by obtain ⟨sp, e⟩ := hsp; exact fields_block (withBlock_at _ _ _) e hsm2), rfl⟩
    rintro σ ⟨X2, dad, dcap, hX2, hFX2, rfl⟩
    refine LWP.le (σ' := seSt ver id nm ad cs.length cap [(8, Lp 8), (10, Ln .i64 v2), (12, Lp 12), (13, Lb b2)] [cpB 8 c fad fcap, cpB 12 d dad dcap] X2) (Le.of (by exact ⟨rfl, rfl, rfl, rfl, rfl, rfl, rfl, trivial⟩) (by exact ⟨rfl, rfl, rfl, trivial⟩) (by exact rfl) (by exact rfl) (by repeat' (first | refine all_cons_true ?_ ?_ | rfl | exact bytes_inUse | exact vals_inUse | exact mid_inUse rfl))) ?_
    refine LWP.seq ?_
    refine LWP.seq ?_
    refine LWP.cut (fun σ => σ = seSt ver id nm ad cs.length cap [(8, Lp 8)] [cpB 8 c fad fcap] X1) ?_ ?_
    · rcases hdv with ⟨rfl, i, rfl, hc⟩ | ⟨rfl, rfl, rfl⟩
      · obtain ⟨blk, off, arr, el, fr, fad', fcap', rfl, hX, hsz, hcs, _, _, _, hF'⟩ := (hin.mono hX2).get hc
        have hi := (List.getElem?_eq_some_iff.1 hc).1
        have hio : off + Int.toNat (i : Int) * 3 = off + i * 3 := by simp
        have hC := sComp_spec X2 d d dad fad' dcap fcap' hFX2 hF' (by omega) true (decide_eq_true rfl)
        (refine LWP.draws mixed (by kernel_rfl) <| kmv rfl <| kmv rfl <| K.geq rfl rfl (decide_eq_true (by omega)) .plain <| K.neqB rfl rfl rfl .plain <| kmv rfl <| gmv rfl rfl rfl <| gmv rfl rfl rfl <| K.loadAll rfl rfl rfl (.taken rfl rfl) ?_; refine K.fieldAddr rfl rfl (.taken rfl rfl) ?_; refine K.loadOne rfl rfl rfl (.taken rfl rfl) ?_; refine gmv rfl rfl rfl <| K.indexX rfl rfl SliceT.h (by omega) hio (.taken rfl rfl) ?_; refine K.loadXagg rfl hX (by kernel_rfl) hsz hcs (.taken rfl rfl) ?_; refine gca rfl rfl hC rfl rfl <| K.not rfl rfl (.taken rfl rfl) ?_; refine K.pickT rfl rfl (.taken rfl rfl) ?_; refine kpf rfl rfl <| kmv rfl <| gmv rfl rfl rfl <| K.not rfl rfl (.taken rfl rfl) ?_; refine gmv rfl rfl rfl <| RunK.passed rfl rfl rfl <| RunK.passed rfl rfl rfl <| RunK.passed rfl rfl rfl <| RunK.passed rfl rfl rfl <| K.pickF rfl rfl (.taken rfl rfl) ?_; refine kpf rfl rfl <| RunK.nil <| And.intro (by kernel_rfl) ?_; refine LWP.condF rfl ?_; refine LWP.skip ?_)
        exact ⟨_, (by refine Le.trans ?_ (Le.drop hX2); exact Le.of (by exact ⟨rfl, rfl, rfl, rfl, trivial⟩) (by exact ⟨rfl, rfl, trivial⟩) (by exact rfl) (by exact rfl) (by repeat' (first | refine all_cons_true ?_ ?_ | rfl | exact bytes_inUse | exact vals_inUse | exact mid_inUse rfl))), rfl⟩
      · have hC := sComp_spec X2 ⟨0, [], []⟩ ⟨0, [], []⟩ dad none dcap 0 hFX2 (fields_none rfl) (by decide) true (decide_eq_true rfl)
        (refine LWP.draws mixed (by kernel_rfl) <| kmv rfl <| kmv rfl <| K.geq rfl rfl (decide_eq_false (by omega)) .plain <| K.neqB rfl rfl rfl .plain <| kmv rfl <| gmv rfl rfl rfl <| gmv rfl rfl rfl <| RunK.passed rfl rfl rfl <| RunK.passed rfl rfl rfl <| RunK.passed rfl rfl rfl <| RunK.passed rfl rfl rfl <| RunK.passed rfl rfl rfl <| RunK.passed rfl rfl rfl ?_; refine RunK.passed rfl rfl rfl <| RunK.passed rfl rfl rfl <| K.pickF rfl rfl (.taken rfl rfl) ?_; refine kpf rfl rfl <| kmv rfl <| gmv rfl rfl rfl <| K.not rfl rfl (.taken rfl rfl) ?_; refine gmv rfl rfl rfl <| K.loadAll rfl rfl rfl (.taken rfl rfl) ?_; refine K.build rfl rfl (by exact rfl) (by exact nl3 rfl rfl rfl rfl) (.taken rfl rfl) ?_; refine gca rfl rfl hC rfl rfl <| K.not rfl rfl (.taken rfl rfl) ?_; refine K.pickT rfl rfl (.taken rfl rfl) ?_; refine kpf rfl rfl <| RunK.nil <| And.intro (by kernel_rfl) ?_; refine LWP.condF rfl ?_; refine LWP.skip ?_)
        exact ⟨_, (by refine Le.trans ?_ (Le.drop hX2); exact Le.of (by exact ⟨rfl, rfl, rfl, rfl, trivial⟩) (by exact ⟨rfl, rfl, trivial⟩) (by exact rfl) (by exact rfl) (by repeat' (first | refine all_cons_true ?_ ?_ | rfl | exact bytes_inUse | exact vals_inUse | exact mid_inUse rfl))), rfl⟩
    rintro σ rfl
    have hsub2 : IntKind.i64.wrap (((c.fs.length : Nat) : Int) - 1) = ((c.fs.length : Nat) : Int) - 1 := wrap_i64 (by omega)
    (refine LWP.seq <| LWP.region (by kernel_rfl) <| kas rfl <| RunK.nil <| LWP.seq <| LWP.seq <| LWP.region (by kernel_rfl) <| kfa rfl rfl ?_; refine kl1 rfl rfl rfl <| K.lenX rfl SliceT.h rfl .plain ?_; refine K.sub rfl rfl hsub2 .plain <| kas rfl <| RunK.nil <| LWP.block ?_)
    refine LWP.loop (fun m σ => ∃ (k : Nat) (v : Int), k ≤ c.fs.length ∧ m = k ∧ Scan (fun f : Fl => f.nm == nm) c.fs k v ∧ σ = seSt ver id nm ad cs.length cap [(8, Lp 8), (14, Ln .i64 v), (15, Ln .i64 ((k : Nat) - 1 : Int))] [cpB 8 c fad fcap] X1) c.fs.length
      ⟨_, Le.of (by exact ⟨rfl, rfl, rfl, rfl, rfl, rfl, trivial⟩) (by exact ⟨rfl, rfl, trivial⟩) (by exact rfl) (by exact rfl) (by repeat' (first | refine all_cons_true ?_ ?_ | rfl | exact bytes_inUse | exact vals_inUse | exact mid_inUse rfl)), c.fs.length, -1, Nat.le_refl _, rfl, Scan.start, rfl⟩ ?_
    rintro m σ ⟨k, v3, hk2, rfl, hsc2, rfl⟩
    by_cases hk0 : m = 0
    · subst hk0
      obtain ⟨nn, b3, hFN, hfn3⟩ := field_both X1 c fad fcap nm hF hfb hsc2
      have hI := pIds X1 ver ad cap cs hin (by omega)
      have hlow := hsc2.low
      (refine LWP.seq <| LWP.seq <| LWP.region (by kernel_rfl) <| kmv rfl <| K.geq rfl rfl (decide_eq_false (by omega)) .plain <| RunK.nil <| LWP.condF rfl ?_; refine LWP.exit <| LWP.seq <| LWP.region (by kernel_rfl) <| K.loadAll rfl rfl rfl .plain ?_; refine kmv rfl <| kca rfl rfl hFN <| kmv rfl <| kex rfl rfl <| kex rfl rfl <| kas rfl <| kas rfl <| RunK.nil <| LWP.seq <| LWP.region (by kernel_rfl) <| K.loadAll rfl rfl rfl .plain ?_; refine K.callMp [(1000001, 502)] (.sv (.one (.slc 502 0 cs.length))) [(502, some ⟨3, (idsV cs).map .val, false⟩)] (hI) rfl rfl (by exact trivial) rfl rfl rfl rfl rfl (by exact (.box rfl (Box.ren_vals _ _ _ _) .nil)) .plain <| kas rfl <| RunK.nil <| LWP.seq <| LWP.seq ?_)
      refine LWP.le (σ' := seSt ver id nm ad cs.length cap [(14, Ln .i64 v3), (16, Ln .i64 nn), (17, Lb b3), (18, .sv (.one (.slc 502 0 cs.length)))] [(502, some ⟨3, (idsV cs).map .val, false⟩)] X1) (Le.of (by exact ⟨rfl, rfl, rfl, rfl, rfl, rfl, rfl, trivial⟩) (by exact ⟨rfl, rfl, trivial⟩) (by exact rfl) (by exact rfl) (by repeat' (first | refine all_cons_true ?_ ?_ | rfl | exact bytes_inUse | exact vals_inUse | exact mid_inUse rfl))) ?_
      refine LWP.cut (fun σ => σ = seSt ver id nm ad cs.length cap [(18, .sv (.one (.slc 502 0 cs.length)))] [(502, some ⟨3, (idsV cs).map .val, false⟩)] X1) ?_ ?_
      · have hne : (((cs.length : Nat) : Int) != ((cs.length : Nat) : Int)) = false := by simp
        rcases hfn3 with ⟨rfl, rfl, h0⟩ | ⟨rfl, rfl, rfl⟩
        · (refine LWP.region (by kernel_rfl) <| kmv rfl <| kmv rfl <| K.geq rfl rfl (decide_eq_true h0) .plain <| K.neqB rfl rfl rfl .plain <| kmv rfl <| gmv rfl rfl rfl <| gmv rfl rfl rfl <| gmv rfl rfl rfl <| gmv rfl rfl rfl <| K.neq rfl rfl (r := false) (by simp) (.taken rfl rfl) ?_; refine K.pickT rfl rfl (.taken rfl rfl) ?_; refine kpf rfl rfl <| kmv rfl <| gmv rfl rfl rfl <| K.not rfl rfl (.taken rfl rfl) ?_; refine gmv rfl rfl rfl <| RunK.passed rfl rfl rfl <| RunK.passed rfl rfl rfl <| K.pickF rfl rfl (.taken rfl rfl) ?_; refine kpf rfl rfl <| kmv rfl <| gmv rfl rfl rfl <| K.lenSlc rfl SliceT.h rfl (.taken rfl rfl) ?_; refine K.fieldAddr rfl rfl (.taken rfl rfl) ?_; refine K.loadOne rfl rfl rfl (.taken rfl rfl) ?_; refine K.lenX rfl SliceT.h rfl (.taken rfl rfl) ?_; refine K.neq rfl rfl hne (.taken rfl rfl) ?_; refine kpf rfl rfl <| RunK.nil <| LWP.condF rfl ?_; refine LWP.skip ?_)
          exact ⟨_, Le.of (by exact ⟨rfl, rfl, rfl, rfl, trivial⟩) (by exact ⟨rfl, rfl, trivial⟩) (by exact rfl) (by exact rfl) (by repeat' (first | refine all_cons_true ?_ ?_ | rfl | exact bytes_inUse | exact vals_inUse | exact mid_inUse rfl)), rfl⟩
        · (refine LWP.region (by kernel_rfl) <| kmv rfl <| kmv rfl <| K.geq rfl rfl (decide_eq_false (by omega)) .plain <| K.neqB rfl rfl rfl .plain <| kmv rfl <| gmv rfl rfl rfl <| gmv rfl rfl rfl <| RunK.passed rfl rfl rfl <| RunK.passed rfl rfl rfl <| RunK.passed rfl rfl rfl <| K.pickF rfl rfl (.taken rfl rfl) ?_; refine kpf rfl rfl <| kmv rfl <| gmv rfl rfl rfl <| K.not rfl rfl (.taken rfl rfl) ?_; refine gmv rfl rfl rfl <| gmv rfl rfl rfl <| K.neq rfl rfl ((bne_eq_false_iff_eq.2 (by omega))) (.taken rfl rfl) ?_; refine K.pickT rfl rfl (.taken rfl rfl) ?_; refine kpf rfl rfl <| kmv rfl <| gmv rfl rfl rfl <| K.lenSlc rfl SliceT.h rfl (.taken rfl rfl) ?_; refine K.fieldAddr rfl rfl (.taken rfl rfl) ?_; refine K.loadOne rfl rfl rfl (.taken rfl rfl) ?_; refine K.lenX rfl SliceT.h rfl (.taken rfl rfl) ?_; refine K.neq rfl rfl hne (.taken rfl rfl) ?_; refine kpf rfl rfl <| RunK.nil <| LWP.condF rfl ?_; refine LWP.skip ?_)
          exact ⟨_, Le.of (by exact ⟨rfl, rfl, rfl, rfl, trivial⟩) (by exact ⟨rfl, rfl, trivial⟩) (by exact rfl) (by exact rfl) (by repeat' (first | refine all_cons_true ?_ ?_ | rfl | exact bytes_inUse | exact vals_inUse | exact mid_inUse rfl)), rfl⟩
      rintro σ rfl
      (refine LWP.seq <| LWP.seq <| LWP.region (by kernel_rfl) <| kas rfl <| RunK.nil <| LWP.block ?_)
      refine LWP.loop (fun m σ => ∃ i : Nat, i ≤ cs.length ∧ m = cs.length - i ∧ σ = seSt ver id nm ad cs.length cap [(18, .sv (.one (.slc 502 0 cs.length))), (19, Ln .i64 (i : Nat))] [(502, some ⟨3, (idsV cs).map .val, false⟩)] X1) cs.length
        ⟨_, Le.of (by exact ⟨rfl, rfl, rfl, rfl, rfl, trivial⟩) (by exact ⟨rfl, rfl, trivial⟩) (by exact rfl) (by exact rfl) (by repeat' (first | refine all_cons_true ?_ ?_ | rfl | exact bytes_inUse | exact vals_inUse | exact mid_inUse rfl)), 0, by omega, by omega, rfl⟩ ?_
      rintro m σ ⟨i, hi, rfl, rfl⟩
      by_cases hlt : i < cs.length
      · obtain ⟨e, he⟩ : ∃ e, cs[i]? = some e := ⟨_, List.getElem?_eq_getElem hlt⟩
        obtain ⟨blk, off, arr, el, fr, _, _, rfl, hX, hsz, _, g1, _, _, _⟩ := hin.get he
        have hio : off + Int.toNat (i : Int) * 3 = off + i * 3 := by simp
        have hix : 0 + Int.toNat (i : Int) * 1 = i := by rw [Int.toNat_natCast]; omega
        have hcell : ((idsV cs).map CV.val)[i]? = some (.val (.int .i64 e.id)) := by unfold idsV; rw [List.getElem?_map, List.getElem?_map, he]; rfl
        (refine LWP.seq <| LWP.seq <| LWP.region (by kernel_rfl) <| kmv rfl <| kmv rfl <| K.lenSlc rfl SliceT.h rfl .plain ?_; refine klt rfl rfl (decide_eq_true (by omega)) <| RunK.nil <| LWP.condT rfl ?_; refine LWP.skip ?_; refine LWP.seq <| LWP.block <| LWP.seq <| LWP.draws mixed (by kernel_rfl) <| kmv rfl <| kmv rfl <| K.indexSlc rfl rfl (by omega) hix .plain ?_; refine kl1 rfl rfl hcell <| kfa rfl rfl ?_; refine kl1 rfl rfl rfl <| kmv rfl <| K.indexX rfl rfl SliceT.h (by omega) hio .plain <| K.fieldAddrX rfl rfl .plain ?_; refine K.loadX rfl hX rfl g1 .plain <| kne rfl rfl (r := false) (by simp) <| RunK.nil <| And.intro (by kernel_rfl) ?_; refine LWP.condF rfl ?_; refine LWP.skip ?_; refine LWP.region (by kernel_rfl) <| kmv rfl <| kad rfl rfl (wrap_i64 (by omega)) <| kas rfl <| RunK.nil ?_)
        exact ⟨_, _, by omega, Le.of (by exact ⟨rfl, rfl, rfl, rfl, rfl, trivial⟩) (by exact ⟨rfl, rfl, trivial⟩) (by exact rfl) (by exact rfl) (by repeat' (first | refine all_cons_true ?_ ?_ | rfl | exact bytes_inUse | exact vals_inUse | exact mid_inUse rfl)), i + 1, by omega, rfl, rfl⟩
      · have e : i = cs.length := by omega
        subst e
        (refine LWP.seq <| LWP.seq <| LWP.region (by kernel_rfl) <| kmv rfl <| kmv rfl <| K.lenSlc rfl SliceT.h rfl .plain ?_; refine klt rfl rfl (decide_eq_false (by omega)) <| RunK.nil <| LWP.condF rfl ?_; refine LWP.exit <| LWP.seq <| LWP.region (by kernel_rfl) <| kas rfl <| RunK.nil <| LWP.ret ?_)
        exact ⟨[_], ⟨rfl, trivial⟩, rfl⟩
    · obtain ⟨k, rfl⟩ : ∃ k, m = k + 1 := ⟨m - 1, by omega⟩
      have ek : (((k + 1 : Nat) : Int) - 1) = ((k : Nat) : Int) := by omega
      have hw : IntKind.i64.wrap (((k : Nat) : Int) - 1) = ((k : Nat) : Int) - 1 := wrap_i64 (by omega)
      obtain ⟨f, hf⟩ : ∃ f, c.fs[k]? = some f := ⟨_, List.getElem?_eq_getElem (by omega)⟩
      obtain ⟨fb, fo, farr, fel, ffr, rfl, hFX, hFc⟩ := hF.nm hf
      have hio3 : fo + Int.toNat (k : Int) * 3 = fo + k * 3 := by simp
      rw [ek]
      by_cases hq : f.nm = nm
      · have hq2 : (f.nm == nm) = true := by rw [beq_iff_eq]; exact hq
        (refine LWP.seq <| LWP.seq <| LWP.region (by kernel_rfl) <| kmv rfl <| K.geq rfl rfl (decide_eq_true (by omega)) .plain <| RunK.nil <| LWP.condT rfl ?_; refine LWP.skip ?_; refine LWP.seq <| LWP.block <| LWP.seq <| LWP.region (by kernel_rfl) <| kfa rfl rfl ?_; refine kl1 rfl rfl rfl <| kmv rfl <| K.indexX rfl rfl SliceT.h (by omega) hio3 .plain <| K.fieldAddrX rfl rfl .plain ?_; refine K.loadX rfl hFX rfl hFc .plain <| kmv rfl <| kse rfl rfl (strs_eq (r := true) hq2) <| RunK.nil <| LWP.condT rfl ?_; refine LWP.region (by kernel_rfl) <| kmv rfl <| kas rfl <| RunK.nil <| LWP.region (by kernel_rfl) <| kmv rfl <| K.sub rfl rfl hw .plain <| kas rfl <| RunK.nil ?_)
        exact ⟨_, _, by omega, Le.of (by exact ⟨rfl, rfl, rfl, rfl, rfl, rfl, trivial⟩) (by exact ⟨rfl, rfl, trivial⟩) (by exact rfl) (by exact rfl) (by repeat' (first | refine all_cons_true ?_ ?_ | rfl | exact bytes_inUse | exact vals_inUse | exact mid_inUse rfl)), k, (k : Nat), by omega, rfl, Scan.hit hf hq2, rfl⟩
      · have hq2 : (f.nm == nm) = false := beq_eq_false_iff_ne.2 hq
        (refine LWP.seq <| LWP.seq <| LWP.region (by kernel_rfl) <| kmv rfl <| K.geq rfl rfl (decide_eq_true (by omega)) .plain <| RunK.nil <| LWP.condT rfl ?_; refine LWP.skip ?_; refine LWP.seq <| LWP.block <| LWP.seq <| LWP.region (by kernel_rfl) <| kfa rfl rfl ?_; refine kl1 rfl rfl rfl <| kmv rfl <| K.indexX rfl rfl SliceT.h (by omega) hio3 .plain <| K.fieldAddrX rfl rfl .plain ?_; refine K.loadX rfl hFX rfl hFc .plain <| kmv rfl <| kse rfl rfl (strs_eq (r := false) hq2) <| RunK.nil <| LWP.condF rfl ?_; refine LWP.skip ?_; refine LWP.region (by kernel_rfl) <| kmv rfl <| K.sub rfl rfl hw .plain <| kas rfl <| RunK.nil ?_)
        exact ⟨_, _, by omega, Le.of (by exact ⟨rfl, rfl, rfl, rfl, rfl, rfl, trivial⟩) (by exact ⟨rfl, rfl, trivial⟩) (by exact rfl) (by exact rfl) (by repeat' (first | refine all_cons_true ?_ ?_ | rfl | exact bytes_inUse | exact vals_inUse | exact mid_inUse rfl)), k, v3, by omega, rfl, hsc2.miss hf hq2, rfl⟩
  · obtain ⟨k, rfl⟩ : ∃ k, m = k + 1 := ⟨m - 1, by omega⟩
    have ek : (((k + 1 : Nat) : Int) - 1) = ((k : Nat) : Int) := by omega
    have hw : IntKind.i64.wrap (((k : Nat) : Int) - 1) = ((k : Nat) : Int) - 1 := wrap_i64 (by omega)
    obtain ⟨e, he⟩ : ∃ e, cs[k]? = some e := ⟨_, List.getElem?_eq_getElem (by omega)⟩
    obtain ⟨blk, off, arr, el, fr, _, _, rfl, hX, hsz, _, _, g2, _, _⟩ := hin.get he
    have hio : off + Int.toNat (k : Int) * 3 = off + k * 3 := by simp
    rw [ek]
    by_cases hq : e.nm = nm
    · have hq2 : (e.nm == nm) = true := by rw [beq_iff_eq]; exact hq
      (refine LWP.seq <| LWP.seq <| LWP.region (by kernel_rfl) <| kmv rfl <| K.geq rfl rfl (decide_eq_true (by omega)) .plain <| RunK.nil <| LWP.condT rfl ?_; refine LWP.skip ?_; refine LWP.seq <| LWP.block <| LWP.seq <| LWP.region (by kernel_rfl) <| kfa rfl rfl ?_; refine kl1 rfl rfl rfl <| kmv rfl <| K.indexX rfl rfl SliceT.h (by omega) hio .plain <| K.fieldAddrX rfl rfl .plain ?_; refine K.loadX rfl hX rfl g2 .plain <| kmv rfl <| kse rfl rfl (strs_eq (r := true) hq2) <| RunK.nil <| LWP.condT rfl ?_; refine LWP.region (by kernel_rfl) <| kmv rfl <| kas rfl <| RunK.nil <| LWP.region (by kernel_rfl) <| kmv rfl <| K.sub rfl rfl hw .plain <| kas rfl <| RunK.nil ?_)
      exact ⟨_, _, by omega, Le.of (by exact ⟨rfl, rfl, rfl, rfl, rfl, rfl, trivial⟩) (by exact ⟨rfl, rfl, trivial⟩) (by exact rfl) (by exact rfl) (by repeat' (first | refine all_cons_true ?_ ?_ | rfl | exact bytes_inUse | exact vals_inUse | exact mid_inUse rfl)), k, (k : Nat), by omega, rfl, Scan.hit he hq2, rfl⟩
    · have hq2 : (e.nm == nm) = false := beq_eq_false_iff_ne.2 hq
      (refine LWP.seq <| LWP.seq <| LWP.region (by kernel_rfl) <| kmv rfl <| K.geq rfl rfl (decide_eq_true (by omega)) .plain <| RunK.nil <| LWP.condT rfl ?_; refine LWP.skip ?_; refine LWP.seq <| LWP.block <| LWP.seq <| LWP.region (by kernel_rfl) <| kfa rfl rfl ?_; refine kl1 rfl rfl rfl <| kmv rfl <| K.indexX rfl rfl SliceT.h (by omega) hio .plain <| K.fieldAddrX rfl rfl .plain ?_; refine K.loadX rfl hX rfl g2 .plain <| kmv rfl <| kse rfl rfl (strs_eq (r := false) hq2) <| RunK.nil <| LWP.condF rfl ?_; refine LWP.skip ?_; refine LWP.region (by kernel_rfl) <| kmv rfl <| K.sub rfl rfl hw .plain <| kas rfl <| RunK.nil ?_)
      exact ⟨_, _, by omega, Le.of (by exact ⟨rfl, rfl, rfl, rfl, rfl, rfl, trivial⟩) (by exact ⟨rfl, rfl, trivial⟩) (by exact rfl) (by exact rfl) (by repeat' (first | refine all_cons_true ?_ ?_ | rfl | exact bytes_inUse | exact vals_inUse | exact mid_inUse rfl)), k, v2, by omega, rfl, hsc.miss he hq2, rfl⟩
end Go.Proofs.Yteappfihapeakaa
end
section
-- SchemaParts
namespace Go.Proofs.Yteappfihapeakaa
open Go Go.Lg Go.Lg.Fld
set_option maxRecDepth 100000
variable (X : Nat → Option Obj)
abbrev spSt (ps : List (Nat × LV)) (va vb : Int) (ad bd pad : Option Addr) (na nb np ca cb pcap : Nat) (Y : Nat → Option Obj) : St := ⟨(2, Lx pad np pcap) :: (3, Lp 3) :: (4, Lp 4) :: ps, [sxB 3 va ad na ca, sxB 4 vb bd nb cb], Y⟩
set_option maxHeartbeats 12800000 in
theorem SchemaParts_spec (a b : Sc) (ps : List Pt) (ad bd pad : Option Addr) (ca cb pcap : Nat) (ha : CompsIn X ad a.cs) (hb : CompsIn X bd b.cs) (hps : PartsIn X pad ps) :
    PSpec Try.prog X 4 [Sx a.ver ad a.cs.length ca, Sx b.ver bd b.cs.length cb, Lx pad ps.length pcap] (Lb true) := by
  obtain ⟨va, as'⟩ := a
  obtain ⟨vb, bs'⟩ := b
  simp only at ha hb ⊢
  have hW := awake7_spec X
  have hG := great7_spec X va ad ca as' ha (greatB as') rfl
  have hG2 := great7_spec X vb bd cb bs' hb (greatB bs') rfl
  refine PSpec.intro Try.func4 rfl (by kernel_rfl) rfl rfl ?_
  intro C
  cases hg : greatB as' with
  | true =>
    rw [hg] at hG
    (refine LWP.seq <| LWP.region (by kernel_rfl) <| K.box rfl rfl rfl .plain <| K.box rfl rfl rfl .plain <| kas rfl <| RunK.nil <| LWP.seq <| LWP.seq <| LWP.region (by kernel_rfl) <| kca rfl rfl (hW) <| K.not rfl rfl .plain <| RunK.nil <| LWP.condF rfl ?_; refine LWP.skip ?_; refine LWP.seq <| LWP.seq <| LWP.region (by kernel_rfl) <| K.loadAll rfl rfl rfl .plain ?_; refine kca rfl rfl hG <| kmv rfl <| RunK.passed rfl rfl rfl <| RunK.passed rfl rfl rfl <| kpt rfl rfl <| kmv rfl <| RunK.passed rfl rfl rfl <| RunK.passed rfl rfl rfl <| RunK.passed rfl rfl rfl <| kpt rfl rfl <| RunK.nil <| LWP.condT rfl ?_; refine LWP.seq <| LWP.region (by kernel_rfl) <| kas rfl <| RunK.nil <| LWP.ret ?_)
    exact ⟨[_], ⟨rfl, trivial⟩, rfl⟩
  | false =>
  rw [hg] at hG
  cases hg2 : greatB bs' with
  | true =>
    rw [hg2] at hG2
    (refine LWP.seq <| LWP.region (by kernel_rfl) <| K.box rfl rfl rfl .plain <| K.box rfl rfl rfl .plain <| kas rfl <| RunK.nil <| LWP.seq <| LWP.seq <| LWP.region (by kernel_rfl) <| kca rfl rfl (hW) <| K.not rfl rfl .plain <| RunK.nil <| LWP.condF rfl ?_; refine LWP.skip ?_; refine LWP.seq <| LWP.seq <| LWP.region (by kernel_rfl) <| K.loadAll rfl rfl rfl .plain ?_; refine kca rfl rfl hG <| kmv rfl <| K.loadAll rfl rfl rfl (.taken rfl rfl) ?_; refine gca rfl rfl hG2 rfl rfl <| kpf rfl rfl <| kmv rfl <| RunK.passed rfl rfl rfl <| RunK.passed rfl rfl rfl <| RunK.passed rfl rfl rfl <| kpt rfl rfl <| RunK.nil <| LWP.condT rfl ?_; refine LWP.seq <| LWP.region (by kernel_rfl) <| kas rfl <| RunK.nil <| LWP.ret ?_)
    exact ⟨[_], ⟨rfl, trivial⟩, rfl⟩
  | false =>
  rw [hg2] at hG2
  have hS := greatB_small hg
  have hS2 := greatB_small hg2
  by_cases hpl : 12 < ps.length
  · (refine LWP.seq <| LWP.region (by kernel_rfl) <| K.box rfl rfl rfl .plain <| K.box rfl rfl rfl .plain <| kas rfl <| RunK.nil <| LWP.seq <| LWP.seq <| LWP.region (by kernel_rfl) <| kca rfl rfl (hW) <| K.not rfl rfl .plain <| RunK.nil <| LWP.condF rfl ?_; refine LWP.skip ?_; refine LWP.seq <| LWP.seq <| LWP.region (by kernel_rfl) <| K.loadAll rfl rfl rfl .plain ?_; refine kca rfl rfl hG <| kmv rfl <| K.loadAll rfl rfl rfl (.taken rfl rfl) ?_; refine gca rfl rfl hG2 rfl rfl <| kpf rfl rfl <| kmv rfl <| gmv rfl rfl rfl <| K.lenX rfl SliceT.h rfl (.taken rfl rfl) ?_; refine K.gtr rfl rfl (decide_eq_true (by omega)) (.taken rfl rfl) ?_; refine kpf rfl rfl <| RunK.nil <| LWP.condT rfl ?_; refine LWP.seq <| LWP.region (by kernel_rfl) <| kas rfl <| RunK.nil <| LWP.ret ?_)
    exact ⟨[_], ⟨rfl, trivial⟩, rfl⟩
  have hn30 := hS.1
  have hn30' := hS2.1
  have hb1 : as'.length < 4611686018427387904 := by omega
  have hb2 : ∀ c ∈ as', c.fs.length < 4611686018427387904 := fun c hc => by have := (hS.2 c hc).1; omega
  (refine LWP.seq <| LWP.region (by kernel_rfl) <| K.box rfl rfl rfl .plain <| K.box rfl rfl rfl .plain <| kas rfl <| RunK.nil <| LWP.seq <| LWP.seq <| LWP.region (by kernel_rfl) <| kca rfl rfl (hW) <| K.not rfl rfl .plain <| RunK.nil <| LWP.condF rfl ?_; refine LWP.skip ?_; refine LWP.seq <| LWP.seq <| LWP.region (by kernel_rfl) <| K.loadAll rfl rfl rfl .plain ?_; refine kca rfl rfl hG <| kmv rfl <| K.loadAll rfl rfl rfl (.taken rfl rfl) ?_; refine gca rfl rfl hG2 rfl rfl <| kpf rfl rfl <| kmv rfl <| gmv rfl rfl rfl <| K.lenX rfl SliceT.h rfl (.taken rfl rfl) ?_; refine K.gtr rfl rfl (decide_eq_false (by omega)) (.taken rfl rfl) ?_; refine kpf rfl rfl <| RunK.nil <| LWP.condF rfl ?_; refine LWP.skip ?_; refine LWP.seq <| LWP.seq <| LWP.region (by kernel_rfl) <| kas rfl <| RunK.nil <| LWP.block ?_)
  refine LWP.loop (fun m σ => ∃ i : Nat, i ≤ ps.length ∧ m = ps.length - i ∧ (∀ (j : Nat) (y : Pt), j < i → ps[j]? = some y → y.val.length ≤ 100) ∧ σ = spSt [(7, Ln .i64 (i : Nat))] va vb ad bd pad as'.length bs'.length ps.length ca cb pcap X) ps.length
    ⟨_, Le.of (by exact ⟨rfl, rfl, rfl, rfl, trivial⟩) (by exact ⟨rfl, rfl, trivial⟩) (by exact rfl) (by exact rfl) (by repeat' (first | refine all_cons_true ?_ ?_ | rfl | exact bytes_inUse | exact vals_inUse | exact mid_inUse rfl)), 0, by omega, by omega, fun j y hj => absurd hj (by omega), rfl⟩ ?_
  rintro m σ ⟨i, hi, rfl, hpre, rfl⟩
  by_cases hlt : i < ps.length
  · obtain ⟨p, hp⟩ : ∃ p, ps[i]? = some p := ⟨_, List.getElem?_eq_getElem hlt⟩
    obtain ⟨blk, off, arr, el, fr, vad, vcap, rfl, hX, hsz, hcs, g1, g2, hN⟩ := hps.get hp
    have hio : off + Int.toNat (i : Int) * 2 = off + i * 2 := by simp
    by_cases hvb : 100 < p.val.length
    · (refine LWP.seq <| LWP.seq <| LWP.region (by kernel_rfl) <| kmv rfl <| kmv rfl <| K.lenX rfl SliceT.h rfl .plain ?_; refine klt rfl rfl (decide_eq_true (by omega)) <| RunK.nil <| LWP.condT rfl ?_; refine LWP.skip ?_; refine LWP.seq <| LWP.block <| LWP.seq <| LWP.seq <| LWP.region (by kernel_rfl) <| kmv rfl <| kmv rfl <| K.indexX rfl rfl SliceT.h (by omega) hio .plain <| K.fieldAddrX rfl rfl .plain ?_; refine K.loadX rfl hX rfl g2 .plain <| K.lenX rfl SliceT.h rfl .plain ?_; refine K.gtr rfl rfl (decide_eq_true (by omega)) .plain <| RunK.nil <| LWP.condT rfl ?_; refine LWP.seq <| LWP.region (by kernel_rfl) <| kas rfl <| RunK.nil <| LWP.ret ?_)
      exact ⟨[_], ⟨rfl, trivial⟩, rfl⟩
    · have q1 := pPart X va ad vad ca vcap as' p ha hS hN (by omega) (partE as' p) rfl
      have q2 := sPart_spec X va ad vad ca vcap as' p ha hb1 hb2 hN (by omega)
      generalize partE as' p = E at *
      have hne : (E != E) = false := by simp
      (refine LWP.seq <| LWP.seq <| LWP.region (by kernel_rfl) <| kmv rfl <| kmv rfl <| K.lenX rfl SliceT.h rfl .plain ?_; refine klt rfl rfl (decide_eq_true (by omega)) <| RunK.nil <| LWP.condT rfl ?_; refine LWP.skip ?_; refine LWP.seq <| LWP.block <| LWP.seq <| LWP.seq <| LWP.region (by kernel_rfl) <| kmv rfl <| kmv rfl <| K.indexX rfl rfl SliceT.h (by omega) hio .plain <| K.fieldAddrX rfl rfl .plain ?_; refine K.loadX rfl hX rfl g2 .plain <| K.lenX rfl SliceT.h rfl .plain ?_; refine K.gtr rfl rfl (decide_eq_false (by omega)) .plain <| RunK.nil <| LWP.condF rfl ?_; refine LWP.skip ?_; refine LWP.seq <| LWP.draws mixed (by kernel_rfl) <| K.loadAll rfl rfl rfl .plain ?_; refine kmv rfl <| kmv rfl <| K.indexX rfl rfl SliceT.h (by omega) hio .plain <| K.loadXagg rfl hX (by kernel_rfl) hsz hcs .plain <| kca rfl rfl q1 <| K.loadAll rfl rfl rfl .plain ?_; refine kmv rfl <| kmv rfl <| K.indexX rfl rfl SliceT.h (by omega) hio .plain <| K.loadXagg rfl hX (by kernel_rfl) hsz hcs .plain <| kca rfl rfl q2 <| kne rfl rfl hne <| RunK.nil <| And.intro (by kernel_rfl) ?_; refine LWP.condF rfl ?_; refine LWP.skip ?_; refine LWP.region (by kernel_rfl) <| kmv rfl <| kad rfl rfl (wrap_i64 (by omega)) <| kas rfl <| RunK.nil ?_)
      exact ⟨_, _, by omega, Le.of (by exact ⟨rfl, rfl, rfl, rfl, trivial⟩) (by exact ⟨rfl, rfl, trivial⟩) (by exact rfl) (by exact rfl) (by repeat' (first | refine all_cons_true ?_ ?_ | rfl | exact bytes_inUse | exact vals_inUse | exact mid_inUse rfl)), i + 1, by omega, rfl, (fun j y hj hy => by
        by_cases e : j = i
        · subst e; rw [hp] at hy; cases hy; omega
        · exact hpre j y (by omega) hy), rfl⟩
  · have e : i = ps.length := by omega
    have hvals : ∀ p ∈ ps, p.val.length ≤ 100 := fun p hp => by
      obtain ⟨j, hj⟩ := List.mem_iff_getElem?.1 hp
      exact hpre j p (by have := (List.getElem?_eq_some_iff.1 hj).1; omega) hj
    (refine LWP.seq <| LWP.seq <| LWP.region (by kernel_rfl) <| kmv rfl <| kmv rfl <| K.lenX rfl SliceT.h rfl .plain ?_; refine klt rfl rfl (decide_eq_false (by omega)) <| RunK.nil <| LWP.condF rfl ?_; refine LWP.exit <| LWP.seq <| LWP.seq <| LWP.region (by kernel_rfl) <| kas rfl <| RunK.nil <| LWP.block ?_)
    refine LWP.loop (fun m σ => ∃ i : Nat, i ≤ as'.length ∧ m = as'.length - i ∧ σ = spSt [(8, Ln .i64 (i : Nat))] va vb ad bd pad as'.length bs'.length ps.length ca cb pcap X) as'.length
      ⟨_, Le.of (by exact ⟨rfl, rfl, rfl, rfl, trivial⟩) (by exact ⟨rfl, rfl, trivial⟩) (by exact rfl) (by exact rfl) (by repeat' (first | refine all_cons_true ?_ ?_ | rfl | exact bytes_inUse | exact vals_inUse | exact mid_inUse rfl)), 0, by omega, by omega, rfl⟩ ?_
    rintro m σ ⟨i, hi, rfl, rfl⟩
    by_cases hin : i < as'.length ∧ i < bs'.length
    · obtain ⟨f, hf⟩ : ∃ f, as'[i]? = some f := ⟨_, List.getElem?_eq_getElem hin.1⟩
      obtain ⟨g, hg3⟩ : ∃ g, bs'[i]? = some g := ⟨_, List.getElem?_eq_getElem hin.2⟩
      obtain ⟨blk, off, arr, el, fr, fad, fcap, rfl, hX, hsz, hcs, _, _, _, hF⟩ := ha.get hf
      obtain ⟨blk', off', arr', el', fr', fad', fcap', rfl, hX', hsz', hcs', _, _, _, hF'⟩ := hb.get hg3
      have hio : off + Int.toNat (i : Int) * 3 = off + i * 3 := by simp
      have hio' : off' + Int.toNat (i : Int) * 3 = off' + i * 3 := by simp
      have q1 := pSameComp X f g fad fad' fcap fcap' hF hF' (by have := (hS.2 f (List.mem_of_getElem? hf)).1; omega) (decide (f = g)) rfl
      have q2 := sComp_spec X f g fad fad' fcap fcap' hF hF' (hb2 f (List.mem_of_getElem? hf)) (decide (f = g)) rfl
      generalize decide (f = g) = E at *
      have hne : (E != E) = false := by simp
      obtain ⟨hin1, hin2⟩ := hin
      (refine LWP.seq <| LWP.seq <| LWP.region (by kernel_rfl) <| kmv rfl <| kfa rfl rfl ?_; refine kl1 rfl rfl rfl <| K.lenX rfl SliceT.h rfl .plain ?_; refine klt rfl rfl (decide_eq_true (by omega)) <| kmv rfl <| gmv rfl rfl rfl <| K.fieldAddr rfl rfl (.taken rfl rfl) ?_; refine K.loadOne rfl rfl rfl (.taken rfl rfl) ?_; refine K.lenX rfl SliceT.h rfl (.taken rfl rfl) ?_; refine K.lss rfl rfl (decide_eq_true (by omega)) (.taken rfl rfl) ?_; refine kpt rfl rfl <| RunK.nil <| LWP.condT rfl ?_; refine LWP.skip ?_; refine LWP.seq <| LWP.block <| LWP.seq <| LWP.draws mixed (by kernel_rfl) <| kfa rfl rfl ?_; refine kl1 rfl rfl rfl <| kmv rfl <| K.indexX rfl rfl SliceT.h (by omega) hio .plain <| K.loadXagg rfl hX (by kernel_rfl) hsz hcs .plain <| kfa rfl rfl ?_; refine kl1 rfl rfl rfl <| kmv rfl <| K.indexX rfl rfl SliceT.h (by omega) hio' .plain <| K.loadXagg rfl hX' (by kernel_rfl) hsz' hcs' .plain <| kca rfl rfl q1 <| kfa rfl rfl ?_; refine kl1 rfl rfl rfl <| kmv rfl <| K.indexX rfl rfl SliceT.h (by omega) hio .plain <| K.loadXagg rfl hX (by kernel_rfl) hsz hcs .plain <| kfa rfl rfl ?_; refine kl1 rfl rfl rfl <| kmv rfl <| K.indexX rfl rfl SliceT.h (by omega) hio' .plain <| K.loadXagg rfl hX' (by kernel_rfl) hsz' hcs' .plain <| kca rfl rfl q2 <| K.neqB rfl rfl hne .plain <| RunK.nil <| And.intro (by kernel_rfl) ?_; refine LWP.condF rfl ?_; refine LWP.skip ?_; refine LWP.region (by kernel_rfl) <| kmv rfl <| kad rfl rfl (wrap_i64 (by omega)) <| kas rfl <| RunK.nil ?_)
      exact ⟨_, _, by omega, Le.of (by exact ⟨rfl, rfl, rfl, rfl, trivial⟩) (by exact ⟨rfl, rfl, trivial⟩) (by exact rfl) (by exact rfl) (by repeat' (first | refine all_cons_true ?_ ?_ | rfl | exact bytes_inUse | exact vals_inUse | exact mid_inUse rfl)), i + 1, by omega, rfl, rfl⟩
    · refine LWP.seq (LWP.seq ?_)
      refine LWP.meet0 (fun σ => σ = spSt [(59, Lb false)] va vb ad bd pad as'.length bs'.length ps.length ca cb pcap X) ?_ ?_
      · by_cases h1 : i < as'.length
        · (refine LWP.region (by kernel_rfl) <| kmv rfl <| kfa rfl rfl ?_; refine kl1 rfl rfl rfl <| K.lenX rfl SliceT.h rfl .plain ?_; refine klt rfl rfl (decide_eq_true (by omega)) <| kmv rfl <| gmv rfl rfl rfl <| K.fieldAddr rfl rfl (.taken rfl rfl) ?_; refine K.loadOne rfl rfl rfl (.taken rfl rfl) ?_; refine K.lenX rfl SliceT.h rfl (.taken rfl rfl) ?_; refine K.lss rfl rfl (decide_eq_false (by omega)) (.taken rfl rfl) ?_; refine kpt rfl rfl <| RunK.nil ?_)
          exact ⟨_, Le.of (by exact ⟨rfl, rfl, rfl, rfl, trivial⟩) (by exact ⟨rfl, rfl, trivial⟩) (by exact rfl) (by exact rfl) (by repeat' (first | refine all_cons_true ?_ ?_ | rfl | exact bytes_inUse | exact vals_inUse | exact mid_inUse rfl)), rfl⟩
        · (refine LWP.region (by kernel_rfl) <| kmv rfl <| kfa rfl rfl ?_; refine kl1 rfl rfl rfl <| K.lenX rfl SliceT.h rfl .plain ?_; refine klt rfl rfl (decide_eq_false (by omega)) <| kmv rfl <| RunK.passed rfl rfl rfl <| RunK.passed rfl rfl rfl <| RunK.passed rfl rfl rfl <| RunK.passed rfl rfl rfl <| RunK.passed rfl rfl rfl <| kpf rfl rfl <| RunK.nil ?_)
          exact ⟨_, Le.of (by exact ⟨rfl, rfl, rfl, rfl, trivial⟩) (by exact ⟨rfl, rfl, trivial⟩) (by exact rfl) (by exact rfl) (by repeat' (first | refine all_cons_true ?_ ?_ | rfl | exact bytes_inUse | exact vals_inUse | exact mid_inUse rfl)), rfl⟩
      rintro σ rfl
      have q1 := pSame X ⟨va, as'⟩ ⟨vb, bs'⟩ ad bd ca cb ha hb hS (decide ((⟨va, as'⟩ : Sc) = ⟨vb, bs'⟩)) rfl
      have q2 := sSame_spec X ⟨va, as'⟩ ⟨vb, bs'⟩ ad bd ca cb ha hb hb1 hb2 (decide ((⟨va, as'⟩ : Sc) = ⟨vb, bs'⟩)) rfl
      simp only at q1 q2
      generalize decide ((⟨va, as'⟩ : Sc) = ⟨vb, bs'⟩) = E at *
      have q3 := pClone X va ad ca as' ha hS
      have q4 := pParts X va ad pad ca pcap as' ps ha hS hps (by omega) hvals (partsE as' ps) rfl
      have q5 := sParts_spec X va ad pad ca pcap as' ps ha hb1 hb2 hps (by omega) (fun p hp => by have := hvals p hp; omega)
      generalize partsE as' ps = E2 at *
      have heq : (E == E) = true := by simp
      have heq2 : (E2 == E2) = true := by simp
      (refine LWP.condF rfl ?_; refine LWP.exit <| LWP.seq <| LWP.draws mixed (by kernel_rfl) <| K.loadAll rfl rfl rfl .plain ?_; refine K.loadAll rfl rfl rfl .plain ?_; refine kca rfl rfl q1 <| K.loadAll rfl rfl rfl .plain ?_; refine K.loadAll rfl rfl rfl .plain ?_; refine kca rfl rfl q2 <| K.eqlB rfl rfl heq .plain <| kmv rfl <| K.loadAll rfl rfl rfl (.taken rfl rfl) ?_; refine K.callMp [(1000001, 503)] (.sv (.agg [.val (.int .i64 va), .slc 503 0 as'.length 3])) [scB 503 as'] (q3) rfl rfl (by exact trivial) rfl rfl rfl rfl rfl (by exact (.box rfl rfl .nil)) (.taken rfl rfl) ?_; refine K.loadAll rfl rfl rfl (.taken rfl rfl) ?_; refine K.callL [503] rfl rfl rfl (same_lent2_retrofitref07 X ha hS rfl) (.taken rfl rfl) ?_; refine kpt rfl rfl <| kmv rfl <| K.loadAll rfl rfl rfl (.taken rfl rfl) ?_; refine gmv rfl rfl rfl <| gca rfl rfl q4 rfl rfl <| K.loadAll rfl rfl rfl (.taken rfl rfl) ?_; refine gmv rfl rfl rfl <| gca rfl rfl q5 rfl rfl <| K.eql rfl rfl heq2 (.taken rfl rfl) ?_; refine kpt rfl rfl <| kas rfl <| RunK.nil <| And.intro (by kernel_rfl) ?_; refine LWP.ret ?_)
      exact ⟨[_], ⟨rfl, trivial⟩, rfl⟩
end Go.Proofs.Yteappfihapeakaa
end
section
-- SchemaFinds: the mathematics
namespace Go.Lg.Fld
open Go Go.Lg
/-- components that can be -/
structure Good (cs : List Cp) : Prop where
  one : ∀ (i : Nat) (c : Cp), cs[i]? = some c → 1 ≤ c.id ∧ c.id ≤ 24 ∧ nmB c.nm = true ∧ firstE (fldE c.fs) 0 c.fs.length = 0 ∧ layErr c.fs = 0
  two : ∀ (i j : Nat) (c d : Cp), i < j → cs[i]? = some c → cs[j]? = some d → c.id < d.id ∧ c.nm ≠ d.nm
theorem good_of {cs : List Cp} (h : firstE (cmpE cs) 0 cs.length = 0) : Good cs := by
  have h0 : ∀ (i : Nat) (c : Cp), cs[i]? = some c → ¬(c.id < 1 ∨ 24 < c.id ∨ (0 < i ∧ c.id ≤ prevId cs i)) ∧ nmB c.nm = true ∧ (cs.take i).any (fun g => g.nm == c.nm) = false ∧ firstE (fldE c.fs) 0 c.fs.length = 0 ∧ layErr c.fs = 0 := fun i c hc => by
    have hi := (List.getElem?_eq_some_iff.1 hc).1
    have h1 := firstE_zero h i (Nat.zero_le _) (by omega)
    rw [cmpE_at hc] at h1
    by_cases b1 : c.id < 1 ∨ 24 < c.id ∨ (0 < i ∧ c.id ≤ prevId cs i)
    · rw [if_pos b1] at h1; cases h1
    · rw [if_neg b1] at h1
      by_cases b2 : nmB c.nm = true
      · rw [if_pos b2] at h1
        by_cases b3 : (cs.take i).any (fun g => g.nm == c.nm) = true
        · rw [if_pos b3] at h1; cases h1
        · rw [if_neg b3] at h1
          by_cases b4 : firstE (fldE c.fs) 0 c.fs.length = 0
          · rw [if_pos b4] at h1
            exact ⟨b1, b2, by simpa using b3, b4, h1⟩
          · rw [if_neg b4] at h1; cases h1
      · rw [if_neg b2] at h1; cases h1
  refine ⟨fun i c hc => ?_, fun i j c d hij hc hd => ⟨?_, fun e => ?_⟩⟩
  · obtain ⟨h1, h2, _, h4, h5⟩ := h0 i c hc
    exact ⟨by omega, by omega, h2, h4, h5⟩
  · obtain ⟨k, rfl⟩ : ∃ k, j = i + 1 + k := ⟨j - (i + 1), by omega⟩
    induction k generalizing d with
    | zero =>
      obtain ⟨h1, _⟩ := h0 _ d hd
      have hp : cs[i + 1 + 0 - 1]? = some c := hc
      have := prev_at hp
      omega
    | succ k ih =>
      obtain ⟨d', hd'⟩ : ∃ d', cs[i + 1 + k]? = some d' := ⟨_, List.getElem?_eq_getElem (by have := (List.getElem?_eq_some_iff.1 hd).1; omega)⟩
      have h2 := ih d' (by omega) hd'
      obtain ⟨h1, _⟩ := h0 _ d hd
      have hp : cs[i + 1 + (k + 1) - 1]? = some d' := hd'
      have := prev_at hp
      omega
  · obtain ⟨_, _, h3, _⟩ := h0 j d hd
    have := any_true (p := fun g : Cp => g.nm == d.nm) hij hc (by rw [beq_iff_eq]; exact e)
    rw [h3] at this; cases this
theorem good_zero {cs : List Cp} (h : Good cs) : firstE (cmpE cs) 0 cs.length = 0 := firstE_none fun i _ hi => by
  obtain ⟨c, hc⟩ : ∃ c, cs[i]? = some c := ⟨_, List.getElem?_eq_getElem (by omega)⟩
  obtain ⟨h1, h2, h3, h4, h5⟩ := h.one i c hc
  have hb : ¬(c.id < 1 ∨ 24 < c.id ∨ (0 < i ∧ c.id ≤ prevId cs i)) := fun hb => by
    rcases hb with hb | hb | ⟨hb, hc2⟩
    · omega
    · omega
    · obtain ⟨p, hp⟩ : ∃ p, cs[i - 1]? = some p := ⟨_, List.getElem?_eq_getElem (by omega)⟩
      rw [prev_at hp] at hc2
      have := (h.two (i - 1) i p c (by omega) hp hc).1
      omega
  rw [cmpE_at hc, if_neg hb, if_pos h3, any_false fun j y hj hy => beq_eq_false_iff_ne.2 (h.two j i y c hj hy hc).2, if_neg (by decide), if_pos h4, h5]
/-- one less -/
def lessC (cs : List Cp) (k : Nat) : List Cp := cs.take k ++ cs.drop (k + 1)
theorem less_at {cs : List Cp} {k i : Nat} {c : Cp} (hk : k < cs.length) (h : (lessC cs k)[i]? = some c) : cs[if i < k then i else i + 1]? = some c := by
  unfold lessC at h
  by_cases e : i < k
  · rw [if_pos e]
    rw [List.getElem?_append_left (by rw [List.length_take]; omega), List.getElem?_take, if_pos e] at h
    exact h
  · rw [if_neg e]
    rw [List.getElem?_append_right (by rw [List.length_take]; omega), List.length_take, List.getElem?_drop] at h
    rw [← h]; congr 1; omega
theorem less_len {cs : List Cp} {k : Nat} (hk : k < cs.length) : (lessC cs k).length + 1 = cs.length := by
  unfold lessC; rw [List.length_append, List.length_take, List.length_drop]; omega
theorem good_less {cs : List Cp} (h : Good cs) {k : Nat} (hk : k < cs.length) : Good (lessC cs k) :=
  ⟨fun i c hc => h.one _ c (less_at hk hc), fun i j c d hij hc hd => h.two _ _ c d (by split <;> split <;> omega) (less_at hk hc) (less_at hk hd)⟩
theorem small_less {cs : List Cp} (h : SmallC cs) {k : Nat} (hk : k < cs.length) : SmallC (lessC cs k) := by
  refine ⟨by have := less_len hk; have := h.1; omega, fun c hc => ?_⟩
  obtain ⟨i, hi⟩ := List.mem_iff_getElem?.1 hc
  exact h.2 c (List.mem_of_getElem? (less_at hk hi))
/-- fields that can be: their names are apart -/
theorem fields_apart {fs : List Fl} (h : firstE (fldE fs) 0 fs.length = 0) {i j : Nat} {f g : Fl} (hij : i < j) (hf : fs[i]? = some f) (hg : fs[j]? = some g) : f.nm ≠ g.nm := fun e => by
  have h1 := firstE_zero h j (Nat.zero_le _) (by have := (List.getElem?_eq_some_iff.1 hg).1; omega)
  rw [fldE_at hg] at h1
  have := any_true (p := fun x : Fl => x.nm == g.nm) hij hf (by rw [beq_iff_eq]; exact e)
  rw [this] at h1
  split at h1 <;> cases h1
/-- the cells of components that are handed in -/
theorem comps_cells {X : Nat → Option Obj} {blk off : Nat} {cs : List Cp} (h : CompsIn X (some ⟨blk, off, none⟩) cs) : ∃ cells : List Value, cells.length = cs.length ∧
    (∀ (i : Nat) (c : Cp) (v : Value), cs[i]? = some c → cells[i]? = some v → ∃ fad fcap, v = .slice fad c.fs.length fcap ∧ FieldsIn X fad c.fs) ∧
    ∀ (j : Nat) (u : Value), (rowsZ cs cells)[j]? = some u → ∃ (arr : Array Value) (el : TypeId) (fr : Nat × Nat), X blk = some (.cells arr el fr) ∧ arr[off + j]? = some u := by
  have key : ∀ i, i < cs.length → ∃ v, ∀ c, cs[i]? = some c → (∃ fad fcap, v = .slice fad c.fs.length fcap ∧ FieldsIn X fad c.fs) ∧ ∃ (arr : Array Value) (el : TypeId) (fr : Nat × Nat), X blk = some (.cells arr el fr) ∧ arr[off + i * 3]? = some (.int .i64 c.id) ∧ arr[off + i * 3 + 1]? = some (.string ⟨c.nm.toArray⟩) ∧ arr[off + i * 3 + 2]? = some v := fun i hi => by
    obtain ⟨c, hc⟩ : ∃ c, cs[i]? = some c := ⟨_, List.getElem?_eq_getElem hi⟩
    obtain ⟨blk', off', arr, el, fr, fad, fcap, e, hX, _, _, g1, g2, g3, hF⟩ := h.get hc
    simp only [Option.some.injEq, Addr.mk.injEq] at e
    obtain ⟨rfl, rfl, _⟩ := e
    refine ⟨.slice fad c.fs.length fcap, fun c' hc' => ?_⟩
    rw [hc] at hc'
    cases hc'
    exact ⟨⟨fad, fcap, rfl, hF⟩, arr, el, fr, hX, g1, g2, g3⟩
  let f : Nat → Value := fun i => if hi : i < cs.length then (key i hi).choose else .bool false
  have hf : ∀ i (hi : i < cs.length), f i = (key i hi).choose := fun i hi => dif_pos hi
  have hat : ∀ (i : Nat) (c : Cp) (v : Value), cs[i]? = some c → ((List.range cs.length).map f)[i]? = some v → (∃ fad fcap, v = .slice fad c.fs.length fcap ∧ FieldsIn X fad c.fs) ∧ ∃ (arr : Array Value) (el : TypeId) (fr : Nat × Nat), X blk = some (.cells arr el fr) ∧ arr[off + i * 3]? = some (.int .i64 c.id) ∧ arr[off + i * 3 + 1]? = some (.string ⟨c.nm.toArray⟩) ∧ arr[off + i * 3 + 2]? = some v := fun i c v hc hv => by
    have hi := (List.getElem?_eq_some_iff.1 hc).1
    rw [List.getElem?_map, List.getElem?_range hi] at hv
    simp only [Option.map_some, Option.some.injEq] at hv
    rw [← hv, hf i hi]
    exact (key i hi).choose_spec c hc
  have hlen : ((List.range cs.length).map f).length = cs.length := by rw [List.length_map, List.length_range]
  refine ⟨(List.range cs.length).map f, hlen, fun i c v hc hv => (hat i c v hc hv).1, fun j u hj => ?_⟩
  have hjl := (List.getElem?_eq_some_iff.1 hj).1
  rw [rowsZ_len hlen] at hjl
  obtain ⟨c, hc⟩ : ∃ c, cs[j / 3]? = some c := ⟨_, List.getElem?_eq_getElem (by omega)⟩
  obtain ⟨v, hv⟩ : ∃ v, ((List.range cs.length).map f)[j / 3]? = some v := ⟨_, List.getElem?_eq_getElem (by rw [hlen]; omega)⟩
  obtain ⟨_, arr, el, fr, hX, g1, g2, g3⟩ := hat _ c v hc hv
  refine ⟨arr, el, fr, hX, ?_⟩
  have hpre : (rowsZ (cs.take (j / 3)) (((List.range cs.length).map f).take (j / 3))).length = j / 3 * 3 := by rw [rowsZ_len (by rw [List.length_take, List.length_take, hlen]), List.length_take, Nat.min_eq_left (by omega)]
  rw [rowsZ_split hc hv, List.getElem?_append_right (by rw [hpre]; omega), hpre] at hj
  have h3 : j % 3 = 0 ∨ j % 3 = 1 ∨ j % 3 = 2 := by omega
  rcases h3 with h3 | h3 | h3
  · rw [show j - j / 3 * 3 = 0 by omega] at hj
    simp only [List.getElem?_cons_zero, Option.some.injEq] at hj
    rw [← hj, show off + j = off + j / 3 * 3 by omega]; exact g1
  · rw [show j - j / 3 * 3 = 1 by omega] at hj
    simp only [List.getElem?_cons_succ, List.getElem?_cons_zero, Option.some.injEq] at hj
    rw [← hj, show off + j = off + j / 3 * 3 + 1 by omega]; exact g2
  · rw [show j - j / 3 * 3 = 2 by omega] at hj
    simp only [List.getElem?_cons_succ, List.getElem?_cons_zero, Option.some.injEq] at hj
    rw [← hj, show off + j = off + j / 3 * 3 + 2 by omega]; exact g3
theorem rowsZ_one : ∀ {cs : List Cp} {cells : List Value}, (∀ v ∈ cells, v.oneCell' = true) → ∀ u ∈ rowsZ cs cells, u.oneCell' = true
  | [], _, _, u, hu => by simp [rowsZ] at hu
  | _ :: _, [], _, u, hu => by simp [rowsZ] at hu
  | c :: cs, v :: vs, h, u, hu => by
    simp only [rowsZ, List.mem_cons] at hu
    rcases hu with rfl | rfl | rfl | hu
    · rfl
    · rfl
    · exact h _ (by simp)
    · exact rowsZ_one (cs := cs) (cells := vs) (fun v hv => h v (by simp [hv])) u hu
/-- components in a block, their fields anywhere -/
theorem comps_rows {Y : Nat → Option Obj} {blk : Nat} {arr : Array Value} {el : TypeId} {fr : Nat × Nat} {cs : List Cp} {cells sp : List Value} (hY : Y blk = some (.cells arr el fr)) (ha : arr.toList = rowsZ cs cells ++ sp) (hl : cells.length = cs.length) (hb : ∀ c ∈ cs, -9223372036854775808 ≤ c.id ∧ c.id < 9223372036854775808)
    (hf : ∀ (i : Nat) (c : Cp) (v : Value), cs[i]? = some c → cells[i]? = some v → ∃ fad fcap, v = .slice fad c.fs.length fcap ∧ FieldsIn Y fad c.fs) : CompsIn Y (some ⟨blk, 0, none⟩) cs := by
  refine ⟨fun i c hc => ?_, hb⟩
  have hi := (List.getElem?_eq_some_iff.1 hc).1
  obtain ⟨v, hv⟩ : ∃ v, cells[i]? = some v := ⟨_, List.getElem?_eq_getElem (by omega)⟩
  obtain ⟨fad, fcap, rfl, hF⟩ := hf i c v hc hv
  have hpre : (rowsZ (cs.take i) (cells.take i)).length = i * 3 := by rw [rowsZ_len (by rw [List.length_take, List.length_take, hl]), List.length_take, Nat.min_eq_left (by omega)]
  refine ⟨blk, 0, arr, el, fr, fad, fcap, rfl, hY, ?_, ?_, hF⟩
  · rw [← Array.length_toList, ha, List.length_append, rowsZ_len hl]; omega
  · rw [ha, rowsZ_split hc hv, Nat.zero_add, List.append_assoc, ← hpre, List.drop_left]; rfl
end Go.Lg.Fld
end
