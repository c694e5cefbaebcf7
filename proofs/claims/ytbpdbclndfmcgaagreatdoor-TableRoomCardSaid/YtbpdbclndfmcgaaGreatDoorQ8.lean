/- A piece of a proof over this program: contracts of its functions, and a logic to prove them by. -/
import Derived.Test.YtbpdbclndfmcgaaGreatDoorQ7
section
namespace Go.Proofs.YtbpdbclndfmcgaaGreatDoor
open Go Go.Lg Go.Lg.Fld Go.Lg.Sg
set_option maxRecDepth 100000
variable (X : Nat → Option Obj)
set_option maxHeartbeats 25600000 in
theorem awake16_spec : PSpec Tryz.prog X 6 [] (Lb true) := by
  have h1 := one16_spec X
  have h2 := new16_lent X
  refine PSpec.intro Tryz.func6 rfl (by kernel_rfl) rfl rfl ?_
  intro C
  (refine LWP.seq <| rgN <| kas rfl <| RunK.nil <| LWP.seq <| rgN <| K.callMp [(1000001, 701)] (.sv (.agg [.val (.int .i64 1), .slc 701 0 2 3])) [scB 701 sc16.cs] (h1) rfl rfl (by exact trivial) rfl rfl rfl rfl rfl (by exact (.box rfl rfl .nil)) .plain <| K.callMp [(1000000, 701), (1000001, 500)] (Lp 500) [scB 701 sc16.cs, tB 500 t16] (h2) rfl rfl (by exact (And.intro ⟨_, rfl, rfl⟩ trivial)) (by exact (all_cons_true rfl rfl)) rfl rfl rfl rfl (by exact (.box rfl rfl (.box rfl rfl .nil))) .plain <| kas rfl <| RunK.nil <| LWP.seq ?_)
  have o7 := Of_spec X 7 (by decide)
  (refine rgN <| kca rfl rfl o7 <| K.buildSlc (zs := [.bool false, .int .u64 0, .int .u64 0]) (sz := 3) (e := 82) (cs' := (nmsV [(false, 7)]).map .val) (by kernel_rfl) rfl rfl rfl rfl rfl rfl .plain <| K.build rfl rfl (by exact rfl) (by exact nl2 rfl rfl rfl) .plain ?_; refine K.buildSlc (zs := [.int .i64 0, .slice none 0 0]) (sz := 2) (e := 50) (cs' := [.val (.int .i64 1), .slc 18 0 1 3]) (by kernel_rfl) rfl rfl rfl rfl rfl rfl .plain <| kas rfl <| RunK.nil <| LWP.seq ?_)
  refine LWP.le (σ' := ⟨[(2, .sv (.one (.slc 20 0 1 2))), (1, Lp 500)], [(20, some ⟨50, [.val (.int .i64 1)] ++ .slc 18 0 1 3 :: [], false⟩), (18, some ⟨82, (nmsV [(false, 7)]).map .val, false⟩), tB 500 t16], X⟩) (Le.of (by exact ⟨rfl, rfl, trivial⟩) (by exact ⟨rfl, rfl, rfl, trivial⟩) (by exact rfl) (by exact rfl) (by repeat' (first | refine all_cons_true ?_ ?_ | rfl | exact bytes_inUse | exact vals_inUse | exact mid_inUse rfl))) ?_
  refine LWP.freezeCell rfl rfl rfl rfl rfl rfl fun k1 cp1 arr1 fr1 hn1 _ hc1 _ hv1 => ?_
  have hN : NumsIn (withBlock X k1 (.cells arr1 82 fr1)) (some ⟨k1, 0, none⟩) [(false, 7)] := nms_in (withBlock_at _ _ _) (fun u hu => by rw [List.mem_singleton.1 hu]; exact ⟨by decide, by decide⟩) hv1
  clear hv1 hn1 h1 h2 o7
  generalize withBlock X k1 (.cells arr1 82 fr1) = Y at *
  generalize (some ⟨k1, 0, none⟩ : Option Addr) = vad at *
  refine LWP.le (σ' := ⟨[(2, .sv (.one (.slc 20 0 1 2))), (1, Lp 500)], [(20, some ⟨50, [Value.int .i64 1, .slice vad 1 cp1].map .val, false⟩), tB 500 t16], Y⟩) (Le.of (by exact ⟨rfl, rfl, trivial⟩) (by exact ⟨rfl, rfl, trivial⟩) (by exact rfl) (by exact rfl) (by repeat' (first | refine all_cons_true ?_ ?_ | rfl | exact bytes_inUse | exact vals_inUse | exact mid_inUse rfl))) ?_
  refine LWP.freeze rfl (by exact (by repeat' (first | refine all_cons_true ?_ ?_ | rfl | exact bytes_inUse | exact vals_inUse | exact mid_inUse rfl))) rfl fun k2 cp2 arr2 fr2 hn2 _ _ _ hv2 => ?_
  have hP : PartsC (withBlock Y k2 (.cells arr2 50 fr2)) (some ⟨k2, 0, none⟩) p16 := by
    obtain ⟨sp, hv⟩ := hv2
    refine ⟨fun i p hp => ?_, fun p hp => by rw [List.mem_singleton.1 hp]; exact ⟨by decide, by decide⟩⟩
    obtain ⟨rfl, rfl⟩ : i = 0 ∧ p = ⟨1, [(false, 7)]⟩ := by
      cases i with
      | zero => exact ⟨rfl, (Option.some.inj hp).symm⟩
      | succ i => simp [p16] at hp
    refine ⟨k2, 0, arr2, _, fr2, vad, cp1, rfl, withBlock_at _ _ _, ?_, ?_, ⟨hN.rows.mono (withBlock_old hn2), hN.in2⟩, hc1⟩
    · rw [← Array.length_toList, hv]; simp
    · rw [hv]; rfl
  clear hv2 hn2 hN hc1
  generalize withBlock Y k2 (.cells arr2 50 fr2) = Z at *
  generalize (some ⟨k2, 0, none⟩ : Option Addr) = pad at *
  have hl12 : p16.length ≤ 12 ∧ ∀ x ∈ p16, x.val.length < 4611686018427387904 := ⟨by decide, fun x hx => by rw [List.mem_singleton.1 hx]; decide⟩
  have a1 := tAdd Z t16 ok16 9 (by decide) p16 pad cp2 hP hl12 q16a
  have a2 := tAdd Z t16a ok16a 8 (by decide) p16 pad cp2 hP hl12 q16b
  have a3 := tAdd_no Z t16b ok16b 6 (by decide) p16 pad cp2 hP hl12 (by rw [q16c]; decide)
  have a4 := tBytes Z t16b ok16b 0 1 q16d
  have a5 := tDrop Z t16b ok16b 0 (by decide +kernel)
  have a6 := tGet_no Z t16c ok16c 0 2 (by rw [q16g]; decide)
  have a7 := tLen Z t16c ok16c
  have a8 := tRoom Z t16c ok16c
  have a9 := tKeep Z t16c ok16c (by rw [q16h]; decide)
  have a10 := tKept Z t16d ok16d
  have a11 := tRoom Z t16d ok16d
  rw [q16c] at a3
  rw [q16e] at a4
  rw [q16f] at a5
  rw [q16g] at a6
  rw [q16h] at a8
  rw [q16i] at a11
  rw [show t16.l.length = 0 from rfl, show addT t16 9 p16 = t16a from rfl] at a1
  rw [show t16a.l.length = 1 by decide +kernel, show addT t16a 8 p16 = t16b from rfl] at a2
  rw [show dropT t16b 0 = t16c from rfl] at a5
  rw [show t16c.l.length = 1 by decide +kernel] at a7
  rw [show { t16c with kept := t16c.kept + 1 } = t16d from rfl] at a9
  rw [show t16d.kept = 1 by decide +kernel] at a10
  have b1 := one16_spec Z
  have b2 := fun (S : Nat → Option (Option Box)) h => new16_no Z (S := S) (k := 702) (e := 0) (cc := []) h
  have hpl : p16.length = 1 := rfl
  generalize p16 = p at *
  generalize t16 = t at *
  generalize t16a = ta at *
  generalize t16b = tb at *
  generalize t16c = tc at *
  generalize t16d = td at *
  rw [hpl] at a1 a2 a3
  (refine rgN <| kmv rfl <| kmv rfl <| K.callM [(1000000, 500)] [tB 500 ta] (a1) rfl rfl (by exact (And.intro ⟨_, rfl, rfl⟩ trivial)) (by exact (all_cons_true rfl rfl)) rfl rfl rfl rfl (by exact (.box rfl rfl .nil)) .plain <| kmv rfl <| kex rfl rfl <| kex rfl rfl <| kas rfl <| kas rfl <| RunK.nil <| LWP.seq <| rgN <| kmv rfl <| kmv rfl ?_; refine K.callM [(1000000, 500)] [tB 500 tb] (a2) rfl rfl (by exact (And.intro ⟨_, rfl, rfl⟩ trivial)) (by exact (all_cons_true rfl rfl)) rfl rfl rfl rfl (by exact (.box rfl rfl .nil)) .plain <| kmv rfl <| kex rfl rfl <| kex rfl rfl <| kas rfl <| kas rfl <| RunK.nil <| LWP.seq <| rgN <| kmv rfl <| kmv rfl <| K.callM [(1000000, 500)] [tB 500 tb] (a3) rfl rfl (by exact (And.intro ⟨_, rfl, rfl⟩ trivial)) (by exact (all_cons_true rfl rfl)) rfl rfl rfl rfl (by exact (.box rfl rfl .nil)) .plain <| kmv rfl <| kex rfl rfl ?_; refine kex rfl rfl <| kas rfl <| kas rfl <| RunK.nil <| LWP.seq <| rgN <| kmv rfl <| K.callM [(1000000, 500)] [tB 500 tb] (a4) rfl rfl (by exact (And.intro ⟨_, rfl, rfl⟩ trivial)) (by exact (all_cons_true rfl rfl)) rfl rfl rfl rfl (by exact (.box rfl rfl .nil)) .plain <| kmv rfl <| kex rfl rfl <| kex rfl rfl <| kas rfl <| kas rfl <| RunK.nil ?_; refine LWP.seq <| rgN <| kmv rfl <| K.callM [(1000000, 500)] [tB 500 tc] (a5) rfl rfl (by exact (And.intro ⟨_, rfl, rfl⟩ trivial)) (by exact (all_cons_true rfl rfl)) rfl rfl rfl rfl (by exact (.box rfl rfl .nil)) .plain <| kmv rfl <| kex rfl rfl <| kex rfl rfl <| kas rfl <| kas rfl <| RunK.nil <| LWP.seq <| rgN <| kmv rfl <| K.callM [(1000000, 500)] [tB 500 tc] (a6) rfl rfl (by exact (And.intro ⟨_, rfl, rfl⟩ trivial)) (by exact (all_cons_true rfl rfl)) rfl rfl rfl rfl (by exact (.box rfl rfl .nil)) .plain ?_; refine kmv rfl <| kex rfl rfl <| kex rfl rfl <| kas rfl <| kas rfl <| RunK.nil <| LWP.seq ?_)
  ((refine rgN <| kmv rfl <| keq rfl rfl (r := true) rfl <| kmv rfl <| gmv rfl rfl rfl <| K.eql rfl rfl (r := true) rfl (.taken rfl rfl) ?_; refine kpt rfl rfl <| kmv rfl <| gmv rfl rfl rfl <| K.eql rfl rfl (r := true) rfl (.taken rfl rfl) ?_; refine kpt rfl rfl <| kmv rfl <| gmv rfl rfl rfl <| K.eql rfl rfl (r := true) rfl (.taken rfl rfl) ?_; refine kpt rfl rfl <| kmv rfl <| gmv rfl rfl rfl <| K.eql rfl rfl (r := true) rfl (.taken rfl rfl) ?_; refine kpt rfl rfl <| kmv rfl <| gmv rfl rfl rfl <| K.eql rfl rfl (r := true) rfl (.taken rfl rfl) ?_; refine kpt rfl rfl <| kmv rfl <| gmv rfl rfl rfl <| K.strEq rfl rfl (strs_eq (r := true) rfl) (.taken rfl rfl) ?_; refine kpt rfl rfl <| kmv rfl <| gmv rfl rfl rfl <| K.eql rfl rfl (r := true) rfl (.taken rfl rfl) ?_; refine kpt rfl rfl <| kmv rfl <| gmv rfl rfl rfl <| K.eql rfl rfl (r := true) rfl (.taken rfl rfl) ?_; refine kpt rfl rfl <| kmv rfl <| gmv rfl rfl rfl <| K.eql rfl rfl (r := true) rfl (.taken rfl rfl) ?_; refine kpt rfl rfl <| kmv rfl <| gmv rfl rfl rfl <| K.callM [(1000000, 500)] [tB 500 tc] (a7) rfl rfl (by exact (And.intro ⟨_, rfl, rfl⟩ trivial)) (by exact (all_cons_true rfl rfl)) rfl rfl rfl rfl (by exact (.box rfl rfl .nil)) (.taken rfl rfl) ?_; refine K.eql rfl rfl (r := true) rfl (.taken rfl rfl) ?_; refine kpt rfl rfl <| kmv rfl <| gmv rfl rfl rfl <| K.callM [(1000000, 500)] [tB 500 tc] (a8) rfl rfl (by exact (And.intro ⟨_, rfl, rfl⟩ trivial)) (by exact (all_cons_true rfl rfl)) rfl rfl rfl rfl (by exact (.box rfl rfl .nil)) (.taken rfl rfl) ?_); (refine K.eql rfl rfl (r := true) rfl (.taken rfl rfl) ?_; refine kpt rfl rfl <| kmv rfl <| gmv rfl rfl rfl <| K.callM [(1000000, 500)] [tB 500 td] (a9) rfl rfl (by exact (And.intro ⟨_, rfl, rfl⟩ trivial)) (by exact (all_cons_true rfl rfl)) rfl rfl rfl rfl (by exact (.box rfl rfl .nil)) (.taken rfl rfl) ?_; refine K.eql rfl rfl (r := true) rfl (.taken rfl rfl) ?_; refine kpt rfl rfl <| kmv rfl <| gmv rfl rfl rfl <| K.callM [(1000000, 500)] [tB 500 td] (a10) rfl rfl (by exact (And.intro ⟨_, rfl, rfl⟩ trivial)) (by exact (all_cons_true rfl rfl)) rfl rfl rfl rfl (by exact (.box rfl rfl .nil)) (.taken rfl rfl) ?_; refine K.eql rfl rfl (r := true) rfl (.taken rfl rfl) ?_; refine kpt rfl rfl <| kmv rfl <| gmv rfl rfl rfl <| K.callM [(1000000, 500)] [tB 500 td] (a11) rfl rfl (by exact (And.intro ⟨_, rfl, rfl⟩ trivial)) (by exact (all_cons_true rfl rfl)) rfl rfl rfl rfl (by exact (.box rfl rfl .nil)) (.taken rfl rfl) ?_; refine K.eql rfl rfl (r := true) rfl (.taken rfl rfl) ?_; refine kpt rfl rfl <| kmv rfl <| K.callMp [(1000001, 702)] (.sv (.agg [.val (.int .i64 1), .slc 702 0 2 3])) [scB 702 sc16.cs] (b1) rfl rfl (by exact trivial) rfl rfl rfl rfl rfl (by exact (.box rfl rfl .nil)) (.taken rfl rfl) ?_; refine K.callL [702] rfl rfl (by kernel_rfl) (b2 _ rfl) (.taken rfl rfl) ?_; refine K.nilNil rfl (by kernel_rfl) (.inl ⟨rfl, rfl⟩) (.taken rfl rfl) ?_; refine kpt rfl rfl <| kas rfl <| RunK.nil <| LWP.ret ?_))
  exact ⟨[_], ⟨rfl, trivial⟩, rfl⟩
end Go.Proofs.YtbpdbclndfmcgaaGreatDoor
end
section
namespace Go.Proofs.YtbpdbclndfmcgaaGreatDoor
open Go Go.Lg Go.Lg.Fld Go.Lg.Sg
set_option maxRecDepth 100000
variable (X : Nat → Option Obj)
set_option maxHeartbeats 25600000 in
theorem tableRoom_law (s : Sc) (set : Nat) (most : Int) (acs : List Ac) (ad aad : Option Addr) (cap acap : Nat) (hin : CompsIn X ad s.cs) (hnm : NamesIn s.cs) (hset : set < 4294967296) (hA : AcsIn X aad acs) (hb : acs.length < 9223372036854775808) :
    PSpec Tryz.prog X 5 [Sx s.ver ad s.cs.length cap, Ln .u32 (set : Nat), Ln .i64 most, .sv (.one (.val (.slice aad acs.length acap)))] (Lb true) := by
  have hW := awake16_spec X
  have hG := great16_spec X s.ver ad cap s.cs hin (greatB16 s.cs) rfl
  refine PSpec.intro Tryz.func5 rfl (by kernel_rfl) rfl rfl ?_
  intro C
  cases hg : greatB16 s.cs with
  | true =>
    rw [hg] at hG
    (refine LWP.seq <| rgN <| K.box rfl rfl rfl .plain <| kas rfl <| RunK.nil <| LWP.seq <| LWP.seq <| rgN <| kca rfl rfl (hW) <| K.not rfl rfl .plain <| RunK.nil <| LWP.condF rfl ?_; refine LWP.skip ?_; refine LWP.seq <| LWP.seq <| rgN <| K.loadAll rfl rfl rfl .plain ?_; refine kca rfl rfl hG <| kmv rfl <| RunK.passed rfl rfl rfl <| RunK.passed rfl rfl rfl <| RunK.passed rfl rfl rfl <| kpt rfl rfl <| RunK.nil <| LWP.condT rfl ?_; refine LWP.seq <| rgN <| kas rfl <| RunK.nil <| LWP.ret ?_)
    exact ⟨[_], ⟨rfl, trivial⟩, rfl⟩
  | false =>
  rw [hg] at hG
  obtain ⟨s1, s2⟩ := greatB16_no hg
  by_cases h80 : 80 < acs.length
  · (refine LWP.seq <| rgN <| K.box rfl rfl rfl .plain <| kas rfl <| RunK.nil <| LWP.seq <| LWP.seq <| rgN <| kca rfl rfl (hW) <| K.not rfl rfl .plain <| RunK.nil <| LWP.condF rfl ?_; refine LWP.skip ?_; refine LWP.seq <| LWP.seq <| rgN <| K.loadAll rfl rfl rfl .plain ?_; refine kca rfl rfl hG <| kmv rfl <| gmv rfl rfl rfl <| K.lenX rfl SliceT.h rfl (.taken rfl rfl) ?_; refine K.gtr rfl rfl (decide_eq_true (by omega)) (.taken rfl rfl) ?_; refine kpf rfl rfl <| RunK.nil <| LWP.condT rfl ?_; refine LWP.seq <| rgN <| kas rfl <| RunK.nil <| LWP.ret ?_)
    exact ⟨[_], ⟨rfl, trivial⟩, rfl⟩
  obtain ⟨p, hp20, hp⟩ := rest_u16 (v := most) 20 (by decide) (by decide)
  have hpw : IntKind.i64.wrap ((p : Nat) : Int) = ((p : Nat) : Int) := wrap_i64 (by omega)
  have hpa : IntKind.i64.wrap (1 + ((p : Nat) : Int)) = ((p + 1 : Nat) : Int) := by rw [wrap_i64 (by omega)]; omega
  cases hgt : goodT s set ((p + 1 : Nat) : Int) with
  | false =>
    have hN := tNew_no X s set ((p + 1 : Nat) : Int) ad cap hin hnm ⟨s1, s2⟩ hset hgt
    (refine LWP.seq <| rgN <| K.box rfl rfl rfl .plain <| kas rfl <| RunK.nil <| LWP.seq <| LWP.seq <| rgN <| kca rfl rfl (hW) <| K.not rfl rfl .plain <| RunK.nil <| LWP.condF rfl ?_; refine LWP.skip ?_; refine LWP.seq <| LWP.seq <| rgN <| K.loadAll rfl rfl rfl .plain ?_; refine kca rfl rfl hG <| kmv rfl <| gmv rfl rfl rfl <| K.lenX rfl SliceT.h rfl (.taken rfl rfl) ?_; refine K.gtr rfl rfl (decide_eq_false (by omega)) (.taken rfl rfl) ?_; refine kpf rfl rfl <| RunK.nil <| LWP.condF rfl ?_; refine LWP.skip ?_; refine LWP.seq <| rgN <| kmv rfl <| kcv rfl rfl ?_; refine K.rem rfl rfl (by decide) hp .plain <| kcv rfl hpw ?_; refine kad rfl rfl hpa <| kas rfl <| RunK.nil <| LWP.seq <| rgN <| K.loadAll rfl rfl rfl .plain ?_; refine kmv rfl <| kmv rfl <| kca rfl rfl hN <| kas rfl <| RunK.nil <| LWP.seq <| LWP.seq <| rgN <| kmv rfl <| K.nilNil rfl (by kernel_rfl) (.inl ⟨rfl, rfl⟩) .plain <| RunK.nil <| LWP.condT rfl ?_; refine LWP.seq <| rgN <| kas rfl <| RunK.nil <| LWP.ret ?_)
    exact ⟨[_], ⟨rfl, trivial⟩, rfl⟩
  | true =>
  have hN := tNew X s set (p + 1) ad cap hin hnm ⟨s1, s2⟩ hset hgt
  (refine LWP.seq <| rgN <| K.box rfl rfl rfl .plain <| kas rfl <| RunK.nil <| LWP.seq <| LWP.seq <| rgN <| kca rfl rfl (hW) <| K.not rfl rfl .plain <| RunK.nil <| LWP.condF rfl ?_; refine LWP.skip ?_; refine LWP.seq <| LWP.seq <| rgN <| K.loadAll rfl rfl rfl .plain ?_; refine kca rfl rfl hG <| kmv rfl <| gmv rfl rfl rfl <| K.lenX rfl SliceT.h rfl (.taken rfl rfl) ?_; refine K.gtr rfl rfl (decide_eq_false (by omega)) (.taken rfl rfl) ?_; refine kpf rfl rfl <| RunK.nil <| LWP.condF rfl ?_; refine LWP.skip ?_; refine LWP.seq <| rgN <| kmv rfl <| kcv rfl rfl ?_; refine K.rem rfl rfl (by decide) hp .plain <| kcv rfl hpw ?_; refine kad rfl rfl hpa <| kas rfl <| RunK.nil <| LWP.seq <| rgN <| K.loadAll rfl rfl rfl .plain ?_; refine kmv rfl <| kmv rfl <| K.callMp [(1000001, 500)] (Lp 500) [tB 500 ⟨s, set, p + 1, 0, []⟩] (hN) rfl rfl (by exact trivial) rfl rfl rfl rfl rfl (by exact (.box rfl rfl .nil)) .plain <| kas rfl <| RunK.nil <| LWP.seq <| LWP.seq <| rgN <| kmv rfl <| K.ptrNil rfl (by kernel_rfl) (.inl ⟨rfl, rfl⟩) .plain <| RunK.nil <| LWP.condF rfl ?_; refine LWP.skip ?_; refine LWP.seq <| LWP.seq <| rgN <| kas rfl <| RunK.nil <| LWP.block ?_)
  have hOk0 : TbOk ⟨s, set, p + 1, 0, []⟩ := TbOk.new hset hgt
  have hn0 : (⟨s, set, p + 1, 0, []⟩ : Tb).most = p + 1 := rfl
  clear hN hp hpw hpa hW hG hgt
  generalize (⟨s, set, p + 1, 0, []⟩ : Tb) = t0 at *
  generalize p + 1 = n at *
  refine LWP.loop (fun m σ => ∃ (i : Nat) (t : Tb), i ≤ acs.length ∧ m = acs.length - i ∧ TbOk t ∧ t.most = n ∧ σ = ⟨[(3, .sv (.one (.val (.slice aad acs.length acap)))), (9, Ln .i64 (n : Nat)), (10, Lp 500), (11, Ln .i64 (i : Nat))], [tB 500 (t)], X⟩) acs.length
    ⟨_, Le.of (by exact ⟨rfl, rfl, rfl, rfl, trivial⟩) (by exact ⟨rfl, trivial⟩) (by exact rfl) (by exact rfl) (by repeat' (first | refine all_cons_true ?_ ?_ | rfl | exact bytes_inUse | exact vals_inUse | exact mid_inUse rfl)), 0, t0, by omega, by omega, hOk0, hn0, rfl⟩ ?_
  clear hOk0 hn0
  clear t0
  rintro m σ ⟨i, t, hi, rfl, hk, hn, rfl⟩
  by_cases hlt : i < acs.length
  case neg =>
    (refine LWP.seq <| LWP.seq <| rgN <| kmv rfl <| kmv rfl <| K.lenX rfl SliceT.h rfl .plain ?_; refine klt rfl rfl (decide_eq_false (by omega)) <| RunK.nil <| LWP.condF rfl ?_; refine LWP.exit <| LWP.seq <| rgN <| kas rfl <| RunK.nil <| LWP.ret ?_)
    exact ⟨[_], ⟨rfl, trivial⟩, rfl⟩
  obtain ⟨a, ha⟩ : ∃ a, acs[i]? = some a := ⟨_, List.getElem?_eq_getElem hlt⟩
  obtain ⟨ab, ao, arr, el, fr, pad, pcap, rfl, hX, hsz, hc4, hP⟩ := hA.at_ i a ha
  obtain ⟨ak, ai, ae, apl, apv⟩ := hA.small a (List.mem_of_getElem? ha)
  have hcells : ((arr.toList.drop (ao + i * 4)).take 4).map CV.val = [.val (.int .i64 a.kind), .val (.int .i64 a.i), .val (.int .u64 (a.e : Nat)), .val (.slice pad a.p.length pcap)] := by rw [hc4]; rfl
  have hao : ao + Int.toNat (i : Int) * 4 = ao + i * 4 := by simp
  have hadd : IntKind.i64.wrap (((i : Nat) : Int) + 1) = ((i + 1 : Nat) : Int) := by rw [wrap_i64 (by omega)]; omega
  have hrm := tRoom X t hk
  by_cases h12 : 12 < a.p.length
  · (refine LWP.seq <| LWP.seq <| rgN <| kmv rfl <| kmv rfl <| K.lenX rfl SliceT.h rfl .plain ?_; refine klt rfl rfl (decide_eq_true (by omega)) <| RunK.nil <| LWP.condT rfl ?_; refine LWP.skip ?_; refine LWP.seq <| LWP.block <| LWP.seq <| rgN <| kmv rfl <| kmv rfl <| K.indexX rfl rfl SliceT.h (by omega) hao .plain <| K.loadXagg rfl hX (by kernel_rfl) hsz hcells .plain <| K.alloc rfl .plain ?_; refine K.storeAll rfl rfl rfl rfl rfl rfl .plain ?_; refine RunK.nil <| LWP.seq <| LWP.seq <| rgN <| kfa rfl rfl ?_; refine kl1 rfl rfl rfl <| K.lenX rfl SliceT.h rfl .plain ?_; refine K.gtr rfl rfl (decide_eq_true (by omega)) .plain <| RunK.nil <| LWP.condT rfl ?_; refine LWP.seq <| rgN <| kas rfl <| RunK.nil <| LWP.ret ?_)
    exact ⟨[_], ⟨rfl, trivial⟩, rfl⟩
  (refine LWP.seq <| LWP.seq <| rgN <| kmv rfl <| kmv rfl <| K.lenX rfl SliceT.h rfl .plain ?_; refine klt rfl rfl (decide_eq_true (by omega)) <| RunK.nil <| LWP.condT rfl ?_; refine LWP.skip ?_; refine LWP.seq <| LWP.block <| LWP.seq <| rgN <| kmv rfl <| kmv rfl <| K.indexX rfl rfl SliceT.h (by omega) hao .plain <| K.loadXagg rfl hX (by kernel_rfl) hsz hcells .plain <| K.alloc rfl .plain ?_; refine K.storeAll rfl rfl rfl rfl rfl rfl .plain ?_; refine RunK.nil <| LWP.seq <| LWP.seq <| rgN <| kfa rfl rfl ?_; refine kl1 rfl rfl rfl <| K.lenX rfl SliceT.h rfl .plain ?_; refine K.gtr rfl rfl (decide_eq_false (by omega)) .plain <| RunK.nil <| LWP.condF rfl ?_; refine LWP.skip ?_; refine LWP.seq ?_)
  refine LWP.meetL (fun σ => σ = ⟨[(3, .sv (.one (.val (.slice (some ⟨ab, ao, none⟩) acs.length acap)))), (9, Ln .i64 (n : Nat)), (10, Lp 500), (11, Ln .i64 (i : Nat)), (12, Lp 12), (13, Ln .i64 (roomT t : Nat))], [(12, some ⟨64, [.val (.int .i64 a.kind), .val (.int .i64 a.i), .val (.int .u64 (a.e : Nat)), .val (.slice pad a.p.length pcap)], false⟩), tB 500 (t)], X⟩) ?_ ?_
  · (refine rgN <| kmv rfl <| K.callM [(1000000, 500)] [tB 500 (t)] (hrm) rfl rfl (by exact (And.intro ⟨_, rfl, rfl⟩ trivial)) (by exact (all_cons_true rfl rfl)) rfl rfl rfl rfl (by exact (.box rfl rfl .nil)) .plain <| kas rfl <| RunK.nil ?_)
    exact Leads.here (σ' := ⟨[(3, .sv (.one (.val (.slice (some ⟨ab, ao, none⟩) acs.length acap)))), (9, Ln .i64 (n : Nat)), (10, Lp 500), (11, Ln .i64 (i : Nat)), (12, Lp 12), (13, Ln .i64 (roomT t : Nat))], [(12, some ⟨64, [.val (.int .i64 a.kind), .val (.int .i64 a.i), .val (.int .u64 (a.e : Nat)), .val (.slice pad a.p.length pcap)], false⟩), tB 500 (t)], X⟩) (Le.of (by exact ⟨rfl, rfl, rfl, rfl, rfl, rfl, trivial⟩) (by exact ⟨rfl, rfl, trivial⟩) (by exact rfl) (by exact rfl) (by repeat' (first | refine all_cons_true ?_ ?_ | rfl | exact bytes_inUse | exact vals_inUse | exact mid_inUse rfl))) rfl
  rintro σ rfl
  repeat refine LWP.seq ?_
  refine LWP.meetL (fun σ => ∃ u : Tb, TbOk u ∧ u.most = n ∧ σ = ⟨[(3, .sv (.one (.val (.slice (some ⟨ab, ao, none⟩) acs.length acap)))), (9, Ln .i64 (n : Nat)), (10, Lp 500), (11, Ln .i64 (i : Nat))], [tB 500 (u)], X⟩) ?_ ?_
  · have hl12 : a.p.length ≤ 12 ∧ ∀ x ∈ a.p, x.val.length < 4611686018427387904 := ⟨by omega, apv⟩
    by_cases c1 : a.kind ≤ 3
    · obtain ⟨f1, f2⟩ := add_five hk a.e a.p
      by_cases hz : addE t a.e a.p = 0
      · have hAd := tAdd X t hk a.e ae a.p pad pcap hP hl12 hz
        have hr0 := f2 hz
        (refine LWP.block <| LWP.seq <| rgN <| kfa rfl rfl ?_; refine kl1 rfl rfl rfl <| K.leq rfl rfl (decide_eq_true c1) .plain <| kas rfl <| RunK.nil <| LWP.condT rfl ?_; refine LWP.seq <| rgN <| kmv rfl <| kfa rfl rfl ?_; refine kl1 rfl rfl rfl <| kfa rfl rfl ?_; refine kl1 rfl rfl rfl <| K.callM [(1000000, 500)] [tB 500 (addT t a.e a.p)] (hAd) rfl rfl (by exact (And.intro ⟨_, rfl, rfl⟩ trivial)) (by exact (all_cons_true rfl rfl)) rfl rfl rfl rfl (by exact (.box rfl rfl .nil)) .plain <| kmv rfl <| kex rfl rfl <| kex rfl rfl <| kas rfl <| kas rfl <| RunK.nil <| LWP.seq <| rgN <| kmv rfl <| keq rfl rfl (r := true) rfl <| kmv rfl <| gmv rfl rfl rfl ?_; refine K.eql rfl rfl (r := false) (beq_eq_false_iff_ne.2 (by omega)) (.taken rfl rfl) ?_; refine kpt rfl rfl <| kmv rfl <| gmv rfl rfl rfl <| K.eql rfl rfl (r := false) rfl (.taken rfl rfl) ?_; refine gmv rfl rfl rfl <| RunK.passed rfl rfl rfl <| RunK.passed rfl rfl rfl <| K.pickF rfl rfl (.taken rfl rfl) ?_; refine kpf rfl rfl <| RunK.nil <| LWP.condF rfl ?_; refine LWP.skip ?_)
        exact Leads.here (σ' := ⟨[(3, .sv (.one (.val (.slice (some ⟨ab, ao, none⟩) acs.length acap)))), (9, Ln .i64 (n : Nat)), (10, Lp 500), (11, Ln .i64 (i : Nat))], [tB 500 (addT t a.e a.p)], X⟩) (Le.of (by exact ⟨rfl, rfl, rfl, rfl, trivial⟩) (by exact ⟨rfl, trivial⟩) (by exact rfl) (by exact rfl) (by repeat' (first | refine all_cons_true ?_ ?_ | rfl | exact bytes_inUse | exact vals_inUse | exact mid_inUse rfl))) ⟨addT t a.e a.p, (hk.add ae hz).1, hn, rfl⟩
      · have hAd := tAdd_no X t hk a.e ae a.p pad pcap hP hl12 hz
        by_cases h5 : addE t a.e a.p = 5
        · have hr0 := f1 h5
          rw [h5] at hAd
          (refine LWP.block <| LWP.seq <| rgN <| kfa rfl rfl ?_; refine kl1 rfl rfl rfl <| K.leq rfl rfl (decide_eq_true c1) .plain <| kas rfl <| RunK.nil <| LWP.condT rfl ?_; refine LWP.seq <| rgN <| kmv rfl <| kfa rfl rfl ?_; refine kl1 rfl rfl rfl <| kfa rfl rfl ?_; refine kl1 rfl rfl rfl <| K.callM [(1000000, 500)] [tB 500 (t)] (hAd) rfl rfl (by exact (And.intro ⟨_, rfl, rfl⟩ trivial)) (by exact (all_cons_true rfl rfl)) rfl rfl rfl rfl (by exact (.box rfl rfl .nil)) .plain <| kmv rfl <| kex rfl rfl <| kex rfl rfl <| kas rfl <| kas rfl <| RunK.nil <| LWP.seq <| rgN <| kmv rfl <| keq rfl rfl (r := false) rfl <| kmv rfl <| RunK.passed rfl rfl rfl ?_; refine RunK.passed rfl rfl rfl <| kpf rfl rfl <| kmv rfl <| gmv rfl rfl rfl <| K.eql rfl rfl (r := true) rfl (.taken rfl rfl) ?_; refine gmv rfl rfl rfl <| gmv rfl rfl rfl <| K.gtr rfl rfl (decide_eq_false (by omega)) (.taken rfl rfl) ?_; refine K.pickT rfl rfl (.taken rfl rfl) ?_; refine kpf rfl rfl <| RunK.nil <| LWP.condF rfl ?_; refine LWP.skip ?_)
          exact Leads.here (σ' := ⟨[(3, .sv (.one (.val (.slice (some ⟨ab, ao, none⟩) acs.length acap)))), (9, Ln .i64 (n : Nat)), (10, Lp 500), (11, Ln .i64 (i : Nat))], [tB 500 (t)], X⟩) (Le.of (by exact ⟨rfl, rfl, rfl, rfl, trivial⟩) (by exact ⟨rfl, trivial⟩) (by exact rfl) (by exact rfl) (by repeat' (first | refine all_cons_true ?_ ?_ | rfl | exact bytes_inUse | exact vals_inUse | exact mid_inUse rfl))) ⟨t, hk, hn, rfl⟩
        · generalize addE t a.e a.p = e at *
          (refine LWP.block <| LWP.seq <| rgN <| kfa rfl rfl ?_; refine kl1 rfl rfl rfl <| K.leq rfl rfl (decide_eq_true c1) .plain <| kas rfl <| RunK.nil <| LWP.condT rfl ?_; refine LWP.seq <| rgN <| kmv rfl <| kfa rfl rfl ?_; refine kl1 rfl rfl rfl <| kfa rfl rfl ?_; refine kl1 rfl rfl rfl <| K.callM [(1000000, 500)] [tB 500 (t)] (hAd) rfl rfl (by exact (And.intro ⟨_, rfl, rfl⟩ trivial)) (by exact (all_cons_true rfl rfl)) rfl rfl rfl rfl (by exact (.box rfl rfl .nil)) .plain <| kmv rfl <| kex rfl rfl <| kex rfl rfl <| kas rfl <| kas rfl <| RunK.nil <| LWP.seq <| rgN <| kmv rfl <| keq rfl rfl (r := false) (beq_eq_false_iff_ne.2 hz) <| kmv rfl <| RunK.passed rfl rfl rfl ?_; refine RunK.passed rfl rfl rfl <| kpf rfl rfl <| kmv rfl <| gmv rfl rfl rfl <| K.eql rfl rfl (r := false) (beq_eq_false_iff_ne.2 h5) (.taken rfl rfl) ?_; refine gmv rfl rfl rfl <| RunK.passed rfl rfl rfl <| RunK.passed rfl rfl rfl <| K.pickF rfl rfl (.taken rfl rfl) ?_; refine kpf rfl rfl <| RunK.nil <| LWP.condF rfl ?_; refine LWP.skip ?_)
          exact Leads.here (σ' := ⟨[(3, .sv (.one (.val (.slice (some ⟨ab, ao, none⟩) acs.length acap)))), (9, Ln .i64 (n : Nat)), (10, Lp 500), (11, Ln .i64 (i : Nat))], [tB 500 (t)], X⟩) (Le.of (by exact ⟨rfl, rfl, rfl, rfl, trivial⟩) (by exact ⟨rfl, trivial⟩) (by exact rfl) (by exact rfl) (by repeat' (first | refine all_cons_true ?_ ?_ | rfl | exact bytes_inUse | exact vals_inUse | exact mid_inUse rfl))) ⟨t, hk, hn, rfl⟩
    by_cases c2 : a.kind = 4
    · cases hrb : rowB t a.i with
      | false =>
        have hD := tDrop_no X t hk a.i hrb
        (refine LWP.block <| LWP.seq <| rgN <| kfa rfl rfl ?_; refine kl1 rfl rfl rfl <| K.leq rfl rfl (decide_eq_false c1) .plain <| kas rfl <| RunK.nil <| LWP.condF rfl ?_; refine LWP.seq <| rgN <| kfa rfl rfl ?_; refine kl1 rfl rfl rfl <| keq rfl rfl (r := true) (beq_iff_eq.2 c2) <| kas rfl <| RunK.nil <| LWP.condT rfl ?_; refine rgN <| kmv rfl <| kfa rfl rfl ?_; refine kl1 rfl rfl rfl <| K.callM [(1000000, 500)] [tB 500 (t)] (hD) rfl rfl (by exact (And.intro ⟨_, rfl, rfl⟩ trivial)) (by exact (all_cons_true rfl rfl)) rfl rfl rfl rfl (by exact (.box rfl rfl .nil)) .plain <| RunK.nil ?_)
        exact Leads.here (σ' := ⟨[(3, .sv (.one (.val (.slice (some ⟨ab, ao, none⟩) acs.length acap)))), (9, Ln .i64 (n : Nat)), (10, Lp 500), (11, Ln .i64 (i : Nat))], [tB 500 (t)], X⟩) (Le.of (by exact ⟨rfl, rfl, rfl, rfl, trivial⟩) (by exact ⟨rfl, trivial⟩) (by exact rfl) (by exact rfl) (by repeat' (first | refine all_cons_true ?_ ?_ | rfl | exact bytes_inUse | exact vals_inUse | exact mid_inUse rfl))) ⟨t, hk, hn, rfl⟩
      | true =>
        obtain ⟨j, hj, hjl⟩ := rowB_some hrb
        have hD := tDrop X t hk j hjl
        rw [hj]
        (refine LWP.block <| LWP.seq <| rgN <| kfa rfl rfl ?_; refine kl1 rfl rfl rfl <| K.leq rfl rfl (decide_eq_false c1) .plain <| kas rfl <| RunK.nil <| LWP.condF rfl ?_; refine LWP.seq <| rgN <| kfa rfl rfl ?_; refine kl1 rfl rfl rfl <| keq rfl rfl (r := true) (beq_iff_eq.2 c2) <| kas rfl <| RunK.nil <| LWP.condT rfl ?_; refine rgN <| kmv rfl <| kfa rfl rfl ?_; refine kl1 rfl rfl rfl <| K.callM [(1000000, 500)] [tB 500 (dropT t j)] (hD) rfl rfl (by exact (And.intro ⟨_, rfl, rfl⟩ trivial)) (by exact (all_cons_true rfl rfl)) rfl rfl rfl rfl (by exact (.box rfl rfl .nil)) .plain <| RunK.nil ?_)
        exact Leads.here (σ' := ⟨[(3, .sv (.one (.val (.slice (some ⟨ab, ao, none⟩) acs.length acap)))), (9, Ln .i64 (n : Nat)), (10, Lp 500), (11, Ln .i64 (i : Nat))], [tB 500 (dropT t j)], X⟩) (Le.of (by exact ⟨rfl, rfl, rfl, rfl, trivial⟩) (by exact ⟨rfl, trivial⟩) (by exact rfl) (by exact rfl) (by repeat' (first | refine all_cons_true ?_ ?_ | rfl | exact bytes_inUse | exact vals_inUse | exact mid_inUse rfl))) ⟨dropT t j, hk.drop hjl, hn, rfl⟩
    by_cases c3 : a.kind = 6
    · by_cases hr0 : roomT t = 0
      · have hKe := tKeep_no X t hk hr0
        (refine LWP.block <| LWP.seq <| rgN <| kfa rfl rfl ?_; refine kl1 rfl rfl rfl <| K.leq rfl rfl (decide_eq_false c1) .plain <| kas rfl <| RunK.nil <| LWP.condF rfl ?_; refine LWP.seq <| rgN <| kfa rfl rfl ?_; refine kl1 rfl rfl rfl <| keq rfl rfl (r := false) (beq_eq_false_iff_ne.2 c2) <| kas rfl <| RunK.nil <| LWP.condF rfl ?_; refine LWP.seq <| rgN <| kfa rfl rfl ?_; refine kl1 rfl rfl rfl <| keq rfl rfl (r := true) (beq_iff_eq.2 c3) <| kas rfl <| RunK.nil <| LWP.condT rfl ?_; refine LWP.seq <| rgN <| kmv rfl <| K.callM [(1000000, 500)] [tB 500 (t)] (hKe) rfl rfl (by exact (And.intro ⟨_, rfl, rfl⟩ trivial)) (by exact (all_cons_true rfl rfl)) rfl rfl rfl rfl (by exact (.box rfl rfl .nil)) .plain <| keq rfl rfl (r := false) rfl <| kmv rfl <| K.gtr rfl rfl (decide_eq_false (by omega)) .plain <| K.neqB rfl rfl rfl .plain <| RunK.nil <| LWP.condF rfl ?_; refine LWP.skip ?_)
        exact Leads.here (σ' := ⟨[(3, .sv (.one (.val (.slice (some ⟨ab, ao, none⟩) acs.length acap)))), (9, Ln .i64 (n : Nat)), (10, Lp 500), (11, Ln .i64 (i : Nat))], [tB 500 (t)], X⟩) (Le.of (by exact ⟨rfl, rfl, rfl, rfl, trivial⟩) (by exact ⟨rfl, trivial⟩) (by exact rfl) (by exact rfl) (by repeat' (first | refine all_cons_true ?_ ?_ | rfl | exact bytes_inUse | exact vals_inUse | exact mid_inUse rfl))) ⟨t, hk, hn, rfl⟩
      · have hKe := tKeep X t hk hr0
        (refine LWP.block <| LWP.seq <| rgN <| kfa rfl rfl ?_; refine kl1 rfl rfl rfl <| K.leq rfl rfl (decide_eq_false c1) .plain <| kas rfl <| RunK.nil <| LWP.condF rfl ?_; refine LWP.seq <| rgN <| kfa rfl rfl ?_; refine kl1 rfl rfl rfl <| keq rfl rfl (r := false) (beq_eq_false_iff_ne.2 c2) <| kas rfl <| RunK.nil <| LWP.condF rfl ?_; refine LWP.seq <| rgN <| kfa rfl rfl ?_; refine kl1 rfl rfl rfl <| keq rfl rfl (r := true) (beq_iff_eq.2 c3) <| kas rfl <| RunK.nil <| LWP.condT rfl ?_; refine LWP.seq <| rgN <| kmv rfl <| K.callM [(1000000, 500)] [tB 500 ({ t with kept := t.kept + 1 })] (hKe) rfl rfl (by exact (And.intro ⟨_, rfl, rfl⟩ trivial)) (by exact (all_cons_true rfl rfl)) rfl rfl rfl rfl (by exact (.box rfl rfl .nil)) .plain <| keq rfl rfl (r := true) rfl <| kmv rfl <| K.gtr rfl rfl (decide_eq_true (by omega)) .plain <| K.neqB rfl rfl rfl .plain <| RunK.nil <| LWP.condF rfl ?_; refine LWP.skip ?_)
        exact Leads.here (σ' := ⟨[(3, .sv (.one (.val (.slice (some ⟨ab, ao, none⟩) acs.length acap)))), (9, Ln .i64 (n : Nat)), (10, Lp 500), (11, Ln .i64 (i : Nat))], [tB 500 ({ t with kept := t.kept + 1 })], X⟩) (Le.of (by exact ⟨rfl, rfl, rfl, rfl, trivial⟩) (by exact ⟨rfl, trivial⟩) (by exact rfl) (by exact rfl) (by repeat' (first | refine all_cons_true ?_ ?_ | rfl | exact bytes_inUse | exact vals_inUse | exact mid_inUse rfl))) ⟨{ t with kept := t.kept + 1 }, hk.kept hr0, hn, rfl⟩
    by_cases c4 : a.kind = 7
    · by_cases hr0 : t.kept = 0
      · have hKe := tYield_no X t hk hr0
        (refine LWP.block <| LWP.seq <| rgN <| kfa rfl rfl ?_; refine kl1 rfl rfl rfl <| K.leq rfl rfl (decide_eq_false c1) .plain <| kas rfl <| RunK.nil <| LWP.condF rfl ?_; refine LWP.seq <| rgN <| kfa rfl rfl ?_; refine kl1 rfl rfl rfl <| keq rfl rfl (r := false) (beq_eq_false_iff_ne.2 c2) <| kas rfl <| RunK.nil <| LWP.condF rfl ?_; refine LWP.seq <| rgN <| kfa rfl rfl ?_; refine kl1 rfl rfl rfl <| keq rfl rfl (r := false) (beq_eq_false_iff_ne.2 c3) <| kas rfl <| RunK.nil <| LWP.condF rfl ?_; refine LWP.seq <| rgN <| kfa rfl rfl ?_; refine kl1 rfl rfl rfl <| keq rfl rfl (r := true) (beq_iff_eq.2 c4) <| kas rfl <| RunK.nil <| LWP.condT rfl ?_; refine rgN <| kmv rfl <| K.callM [(1000000, 500)] [tB 500 (t)] (hKe) rfl rfl (by exact (And.intro ⟨_, rfl, rfl⟩ trivial)) (by exact (all_cons_true rfl rfl)) rfl rfl rfl rfl (by exact (.box rfl rfl .nil)) .plain <| RunK.nil ?_)
        exact Leads.here (σ' := ⟨[(3, .sv (.one (.val (.slice (some ⟨ab, ao, none⟩) acs.length acap)))), (9, Ln .i64 (n : Nat)), (10, Lp 500), (11, Ln .i64 (i : Nat))], [tB 500 (t)], X⟩) (Le.of (by exact ⟨rfl, rfl, rfl, rfl, trivial⟩) (by exact ⟨rfl, trivial⟩) (by exact rfl) (by exact rfl) (by repeat' (first | refine all_cons_true ?_ ?_ | rfl | exact bytes_inUse | exact vals_inUse | exact mid_inUse rfl))) ⟨t, hk, hn, rfl⟩
      · have hKe := tYield X t hk hr0
        (refine LWP.block <| LWP.seq <| rgN <| kfa rfl rfl ?_; refine kl1 rfl rfl rfl <| K.leq rfl rfl (decide_eq_false c1) .plain <| kas rfl <| RunK.nil <| LWP.condF rfl ?_; refine LWP.seq <| rgN <| kfa rfl rfl ?_; refine kl1 rfl rfl rfl <| keq rfl rfl (r := false) (beq_eq_false_iff_ne.2 c2) <| kas rfl <| RunK.nil <| LWP.condF rfl ?_; refine LWP.seq <| rgN <| kfa rfl rfl ?_; refine kl1 rfl rfl rfl <| keq rfl rfl (r := false) (beq_eq_false_iff_ne.2 c3) <| kas rfl <| RunK.nil <| LWP.condF rfl ?_; refine LWP.seq <| rgN <| kfa rfl rfl ?_; refine kl1 rfl rfl rfl <| keq rfl rfl (r := true) (beq_iff_eq.2 c4) <| kas rfl <| RunK.nil <| LWP.condT rfl ?_; refine rgN <| kmv rfl <| K.callM [(1000000, 500)] [tB 500 ({ t with kept := t.kept - 1 })] (hKe) rfl rfl (by exact (And.intro ⟨_, rfl, rfl⟩ trivial)) (by exact (all_cons_true rfl rfl)) rfl rfl rfl rfl (by exact (.box rfl rfl .nil)) .plain <| RunK.nil ?_)
        exact Leads.here (σ' := ⟨[(3, .sv (.one (.val (.slice (some ⟨ab, ao, none⟩) acs.length acap)))), (9, Ln .i64 (n : Nat)), (10, Lp 500), (11, Ln .i64 (i : Nat))], [tB 500 ({ t with kept := t.kept - 1 })], X⟩) (Le.of (by exact ⟨rfl, rfl, rfl, rfl, trivial⟩) (by exact ⟨rfl, trivial⟩) (by exact rfl) (by exact rfl) (by repeat' (first | refine all_cons_true ?_ ?_ | rfl | exact bytes_inUse | exact vals_inUse | exact mid_inUse rfl))) ⟨{ t with kept := t.kept - 1 }, hk.yield, hn, rfl⟩
    (refine LWP.block <| LWP.seq <| rgN <| kfa rfl rfl ?_; refine kl1 rfl rfl rfl <| K.leq rfl rfl (decide_eq_false c1) .plain <| kas rfl <| RunK.nil <| LWP.condF rfl ?_; refine LWP.seq <| rgN <| kfa rfl rfl ?_; refine kl1 rfl rfl rfl <| keq rfl rfl (r := false) (beq_eq_false_iff_ne.2 c2) <| kas rfl <| RunK.nil <| LWP.condF rfl ?_; refine LWP.seq <| rgN <| kfa rfl rfl ?_; refine kl1 rfl rfl rfl <| keq rfl rfl (r := false) (beq_eq_false_iff_ne.2 c3) <| kas rfl <| RunK.nil <| LWP.condF rfl ?_; refine LWP.seq <| rgN <| kfa rfl rfl ?_; refine kl1 rfl rfl rfl <| keq rfl rfl (r := false) (beq_eq_false_iff_ne.2 c4) <| kas rfl <| RunK.nil <| LWP.condF rfl ?_; refine LWP.skip ?_)
    exact Leads.here (σ' := ⟨[(3, .sv (.one (.val (.slice (some ⟨ab, ao, none⟩) acs.length acap)))), (9, Ln .i64 (n : Nat)), (10, Lp 500), (11, Ln .i64 (i : Nat))], [tB 500 (t)], X⟩) (Le.of (by exact ⟨rfl, rfl, rfl, rfl, trivial⟩) (by exact ⟨rfl, trivial⟩) (by exact rfl) (by exact rfl) (by repeat' (first | refine all_cons_true ?_ ?_ | rfl | exact bytes_inUse | exact vals_inUse | exact mid_inUse rfl))) ⟨t, hk, hn, rfl⟩
  rintro σ ⟨u, hu, hun, rfl⟩
  clear hrm hk hn
  clear t
  have hsum := room_sum hu
  have hmo := hu.most
  have a1 : IntKind.i64.wrap (((roomT u : Nat) : Int) + ((u.l.length : Nat) : Int)) = ((roomT u + u.l.length : Nat) : Int) := by rw [wrap_i64 (by omega)]; omega
  have a2 : IntKind.i64.wrap (((roomT u + u.l.length : Nat) : Int) + ((u.kept : Nat) : Int)) = ((n : Nat) : Int) := by rw [wrap_i64 (by omega)]; omega
  refine tab_made fun mm hmm => ?_
  have rm2 := mRoom X mm u hu
  have ln2 := mLen X mm u hu
  have kp2 := mKept X mm u hu
  cases mm with
  | false =>
    have hE := tEnts_none X u hu
    have hz : u.l.length = 0 := by rw [hmm rfl]; rfl
    rw [hz] at ln2
    rw [hz] at a1 a2
    (refine LWP.seq <| rgN <| kmv rfl <| K.callM [(1000000, 500)] [tM 500 false (u)] (rm2) rfl rfl (by exact (And.intro ⟨_, rfl, rfl⟩ trivial)) (by exact (all_cons_true rfl rfl)) rfl rfl rfl rfl (by exact (.box rfl rfl .nil)) .plain <| kmv rfl <| K.callM [(1000000, 500)] [tM 500 false (u)] (ln2) rfl rfl (by exact (And.intro ⟨_, rfl, rfl⟩ trivial)) (by exact (all_cons_true rfl rfl)) rfl rfl rfl rfl (by exact (.box rfl rfl .nil)) .plain <| kad rfl rfl a1 <| kmv rfl <| K.callM [(1000000, 500)] [tM 500 false (u)] (kp2) rfl rfl (by exact (And.intro ⟨_, rfl, rfl⟩ trivial)) (by exact (all_cons_true rfl rfl)) rfl rfl rfl rfl (by exact (.box rfl rfl .nil)) .plain <| kad rfl rfl a2 <| kmv rfl <| kne rfl rfl (r := false) (bne_eq_false_iff_eq.2 rfl) <| kmv rfl <| gmv rfl rfl rfl ?_; refine K.callM [(1000000, 500)] [tM 500 false (u)] (rm2) rfl rfl (by exact (And.intro ⟨_, rfl, rfl⟩ trivial)) (by exact (all_cons_true rfl rfl)) rfl rfl rfl rfl (by exact (.box rfl rfl .nil)) (.taken rfl rfl) ?_; refine K.lss rfl rfl (decide_eq_false (by omega)) (.taken rfl rfl) ?_; refine kpf rfl rfl <| kmv rfl <| gmv rfl rfl rfl <| K.callM [(1000000, 500)] [tM 500 false (u)] (kp2) rfl rfl (by exact (And.intro ⟨_, rfl, rfl⟩ trivial)) (by exact (all_cons_true rfl rfl)) rfl rfl rfl rfl (by exact (.box rfl rfl .nil)) (.taken rfl rfl) ?_; refine K.lss rfl rfl (decide_eq_false (by omega)) (.taken rfl rfl) ?_; refine kpf rfl rfl <| kmv rfl <| gmv rfl rfl rfl <| K.callM [(1000000, 500)] [tM 500 false (u)] (hE) rfl rfl (by exact (And.intro ⟨_, rfl, rfl⟩ trivial)) (by exact (all_cons_true rfl rfl)) rfl rfl rfl rfl (by exact (.box rfl rfl .nil)) (.taken rfl rfl) ?_; refine K.lenX rfl SliceT.h rfl (.taken rfl rfl) ?_; refine gmv rfl rfl rfl <| K.callM [(1000000, 500)] [tM 500 false (u)] (ln2) rfl rfl (by exact (And.intro ⟨_, rfl, rfl⟩ trivial)) (by exact (all_cons_true rfl rfl)) rfl rfl rfl rfl (by exact (.box rfl rfl .nil)) (.taken rfl rfl) ?_; refine K.neq rfl rfl (r := false) (bne_eq_false_iff_eq.2 rfl) (.taken rfl rfl) ?_; refine kpf rfl rfl <| RunK.nil <| LWP.condF rfl ?_; refine LWP.skip ?_; refine rgN <| kmv rfl <| kad rfl rfl hadd <| kas rfl <| RunK.nil ?_)
    exact ⟨acs.length - (i + 1), _, by omega, Le.trans (σ2 := ⟨[(3, .sv (.one (.val (.slice (some ⟨ab, ao, none⟩) acs.length acap)))), (9, Ln .i64 (n : Nat)), (10, Lp 500), (11, Ln .i64 (i + 1 : Nat))], [tM 500 false (u)], X⟩) (Le.of (by exact ⟨rfl, rfl, rfl, rfl, trivial⟩) (by exact ⟨rfl, trivial⟩) (by exact rfl) (by exact rfl) (by repeat' (first | refine all_cons_true ?_ ?_ | rfl | exact bytes_inUse | exact vals_inUse | exact mid_inUse rfl))) Le.unmade, i + 1, u, by omega, rfl, hu, hun, rfl⟩
  | true =>
    have hE := tEnts X u hu
    (refine LWP.seq <| rgN <| kmv rfl <| K.callM [(1000000, 500)] [tM 500 true (u)] (rm2) rfl rfl (by exact (And.intro ⟨_, rfl, rfl⟩ trivial)) (by exact (all_cons_true rfl rfl)) rfl rfl rfl rfl (by exact (.box rfl rfl .nil)) .plain <| kmv rfl <| K.callM [(1000000, 500)] [tM 500 true (u)] (ln2) rfl rfl (by exact (And.intro ⟨_, rfl, rfl⟩ trivial)) (by exact (all_cons_true rfl rfl)) rfl rfl rfl rfl (by exact (.box rfl rfl .nil)) .plain <| kad rfl rfl a1 <| kmv rfl <| K.callM [(1000000, 500)] [tM 500 true (u)] (kp2) rfl rfl (by exact (And.intro ⟨_, rfl, rfl⟩ trivial)) (by exact (all_cons_true rfl rfl)) rfl rfl rfl rfl (by exact (.box rfl rfl .nil)) .plain <| kad rfl rfl a2 <| kmv rfl <| kne rfl rfl (r := false) (bne_eq_false_iff_eq.2 rfl) <| kmv rfl <| gmv rfl rfl rfl ?_; refine K.callM [(1000000, 500)] [tM 500 true (u)] (rm2) rfl rfl (by exact (And.intro ⟨_, rfl, rfl⟩ trivial)) (by exact (all_cons_true rfl rfl)) rfl rfl rfl rfl (by exact (.box rfl rfl .nil)) (.taken rfl rfl) ?_; refine K.lss rfl rfl (decide_eq_false (by omega)) (.taken rfl rfl) ?_; refine kpf rfl rfl <| kmv rfl <| gmv rfl rfl rfl <| K.callM [(1000000, 500)] [tM 500 true (u)] (kp2) rfl rfl (by exact (And.intro ⟨_, rfl, rfl⟩ trivial)) (by exact (all_cons_true rfl rfl)) rfl rfl rfl rfl (by exact (.box rfl rfl .nil)) (.taken rfl rfl) ?_; refine K.lss rfl rfl (decide_eq_false (by omega)) (.taken rfl rfl) ?_; refine kpf rfl rfl <| kmv rfl <| gmv rfl rfl rfl <| K.callMp [(1000000, 500), (1000001, 601)] (.sv (.one (.slc 601 0 u.l.length 1))) [tM 500 true (u), enB 601 (entsT u)] (hE) rfl rfl (by exact (And.intro ⟨_, rfl, rfl⟩ trivial)) (by exact (all_cons_true rfl rfl)) rfl rfl rfl rfl (by exact (.box rfl rfl (.box rfl (Box.ren_vals _ _ _ _) .nil))) (.taken rfl rfl) ?_; refine K.lenSlc rfl SliceT.h rfl (.taken rfl rfl) ?_; refine gmv rfl rfl rfl <| K.callM [(1000000, 500)] [tM 500 true (u)] (ln2) rfl rfl (by exact (And.intro ⟨_, rfl, rfl⟩ trivial)) (by exact (all_cons_true rfl rfl)) rfl rfl rfl rfl (by exact (.box rfl rfl .nil)) (.taken rfl rfl) ?_; refine K.neq rfl rfl (r := false) (bne_eq_false_iff_eq.2 rfl) (.taken rfl rfl) ?_; refine kpf rfl rfl <| RunK.nil <| LWP.condF rfl ?_; refine LWP.skip ?_; refine rgN <| kmv rfl <| kad rfl rfl hadd <| kas rfl <| RunK.nil ?_)
    exact ⟨acs.length - (i + 1), _, by omega, Le.trans (σ2 := ⟨[(3, .sv (.one (.val (.slice (some ⟨ab, ao, none⟩) acs.length acap)))), (9, Ln .i64 (n : Nat)), (10, Lp 500), (11, Ln .i64 (i + 1 : Nat))], [tM 500 true (u)], X⟩) (Le.of (by exact ⟨rfl, rfl, rfl, rfl, trivial⟩) (by exact ⟨rfl, trivial⟩) (by exact rfl) (by exact rfl) (by repeat' (first | refine all_cons_true ?_ ?_ | rfl | exact bytes_inUse | exact vals_inUse | exact mid_inUse rfl))) Le.unmade, i + 1, u, by omega, rfl, hu, hun, rfl⟩
end Go.Proofs.YtbpdbclndfmcgaaGreatDoor
end
