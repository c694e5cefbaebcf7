/- A piece of a proof over this program: contracts of its functions, and a logic to prove them by. -/
import Derived.Test.YtamplgnbbanamaaGreatDoorK2
import Derived.Test.YtamplgnbbanamaaGreatDoorK6
import Derived.Test.YtamplgnbbanamaaGreatDoorK7
import Derived.Test.YtamplgnbbanamaaGreatDoorRows
import Derived.Test.YtamplgnbbanamaaGreatDoorTie
import Derived.Test.YtamplgnbbanamaaGreatDoorCards
import Derived.ProofKit
import Derived.LaidMore
import Derived.OpenShut
import Derived.Stop.Joined
import Derived.Stop.LaidErr
import Derived.Lib.SmallJoins
import Derived.SevenTiedAt
section
namespace Go.Proofs.YtamplgnbbanamaaGreatDoor
open Go Go.Lg Go.Lg.Fml Go.Lg.Fld Go.Lg.Arith
set_option maxRecDepth 100000
theorem encP_len {p : Pg} (h : chkP p = 0) : 10 ≤ (encP p).length ∧ (encP p).length ≤ 10 + 24 * 10000 := by
  have h24 := (chkP_zero h).2.2.2
  have := kRs_len (l := p.rs) (fun r hr => ⟨(kok_rules h r hr).2.2.2, (kok_rules h r hr).2.2.1⟩)
  unfold encP
  simp only [List.length_cons, List.length_append, leB_length]
  omega
theorem ok_of_chk {p : Pg} (h : chkP p = 0) : pgOk p := by
  have h24 := (chkP_zero h).2.2.2
  refine ⟨by omega, fun r hr => ?_⟩
  obtain ⟨_, _, h8, he⟩ := kok_rules h r hr
  refine ⟨by omega, fun c hc => ?_⟩
  have h0 := he c hc
  by_cases hz : chkX c = 0
  · have := (chkX_zero hz).1; omega
  · exact absurd ((if_neg hz : encErr c = chkX c) ▸ h0) hz
variable (X : Nat → Option Obj)
theorem lent_rl {S : Nat → Option (Option Box)} {Y : Nat → Option Obj} {k n : Nat} {rs : List Rl} {t e : TypeId} {cc : List CV} {u : Value} (hk : S k = some (some ⟨e, cc, .res (rlR t rs)⟩)) (hu : LentC S Y (.slc k 0 n 3) u) : ∃ (blk cap : Nat), u = .slice (some ⟨blk, 0, none⟩) n cap ∧ RulesIn Y (some ⟨blk, 0, none⟩) rs := by
  obtain ⟨b, blk, cap2, m, hk', rfl, hc, hfit, hB⟩ := hu
  rw [hk] at hk'
  simp only [Option.some.injEq] at hk'
  subst hk'
  obtain ⟨H, hR, hHY⟩ := hB
  exact ⟨blk, cap2, rfl, hR.2.mono hHY⟩
theorem hencode_lent {S : Nat → Option (Option Box)} {p : Pg} {k : Nat} {t e : TypeId} {cc : List CV} (hz : chkP p = 0) (hk : S k = some (some ⟨e, cc, .res (rlR t p.rs)⟩)) :
    ∀ (Y : Nat → Option Obj) (us : List Value), (∀ b o, X b = some o → Y b = some o) → LentLs S Y [.sv (.agg [.val (.int .i64 p.va), .val (.int .i64 p.vb), .slc k 0 p.rs.length 3])] us → PSpec Tryz.prog Y 11 (us.map toLV) (.tup [Ss (encP p), Sn .i64 0]) := by
  intro Y us _ hL
  obtain ⟨u1, us1, rfl, ⟨av, rfl, a1, av1, rfl, g1, a2, av2, rfl, g2, a3, av3, rfl, g3, rfl⟩, rfl⟩ := hL
  have g1 : a1 = .int .i64 p.va := g1
  have g2 : a2 = .int .i64 p.vb := g2
  subst g1 g2
  obtain ⟨blk, cap2, rfl, hin⟩ := lent_rl hk g3
  have := hEncode Y p (some ⟨blk, 0, none⟩) cap2 hin (ok_of_chk hz)
  unfold encPT at this
  rw [hz, if_pos rfl] at this
  exact this
theorem hsame_lent1 {S : Nat → Option (Option Box)} {p : Pg} {ad : Option Addr} {cap k : Nat} {t e : TypeId} {cc : List CV} (hin : RulesIn X ad p.rs) (hs : pgOk p) (hk : S k = some (some ⟨e, cc, .res (rlR t p.rs)⟩)) :
    ∀ (Y : Nat → Option Obj) (us : List Value), (∀ b o, X b = some o → Y b = some o) → LentLs S Y [.sv (.agg [.val (.int .i64 p.va), .val (.int .i64 p.vb), .slc k 0 p.rs.length 3]), LPg p.va p.vb ad p.rs.length cap] us → PSpec Tryz.prog Y 19 (us.map toLV) (Lb true) := by
  intro Y us hY hL
  obtain ⟨u2, us2, rfl, ⟨bv, rfl, b1, bv1, rfl, f1, b2, bv2, rfl, f2, b3, bv3, rfl, f3, rfl⟩, u1, us1, rfl, ⟨av, rfl, a1, av1, rfl, g1, a2, av2, rfl, g2, a3, av3, rfl, g3, rfl⟩, rfl⟩ := hL
  have g1 : a1 = .int .i64 p.va := g1
  have g2 : a2 = .int .i64 p.vb := g2
  have g3 : a3 = .slice ad p.rs.length cap := g3
  have f1 : b1 = .int .i64 p.va := f1
  have f2 : b2 = .int .i64 p.vb := f2
  subst g1 g2 g3 f1 f2
  obtain ⟨blk, cap2, rfl, hin2⟩ := lent_rl hk f3
  have := hSame Y p (some ⟨blk, 0, none⟩) cap2 hin2 hs p ad cap (hin.mono hY)
  rw [decide_eq_true rfl] at this
  exact this
abbrev rkSt (a b : Pg) (ad bd : Option Addr) (ca cb : Nat) (more : UInt8) (Y : Nat → Option Obj) : St :=
  ⟨[(3, Ln .u8 (more.toNat : Nat)), (4, Lp 4), (5, Lp 5)], [v3B 24 4 a.va a.vb ad a.rs.length ca, v3B 24 5 b.va b.vb bd b.rs.length cb], Y⟩
set_option maxHeartbeats 12800000 in
theorem RuleBack_spec (hTab : XTab X) (a b : Pg) (ad bd : Option Addr) (ca cb : Nat) (l : List UInt8) (more : UInt8) (ha : RulesIn X ad a.rs) (hb : RulesIn X bd b.rs) (la : a.rs.length < 9223372036854775808) (lb : b.rs.length < 9223372036854775808) (za : sizeB a.rs) (zb : sizeB b.rs) :
    PSpec Tryz.prog X 5 [LPg a.va a.vb ad a.rs.length ca, LPg b.va b.vb bd b.rs.length cb, Ls l, Ln .u8 (more.toNat : Nat)] (Lb true) := by
  have hW := awake12_spec X hTab
  have hG := great12_spec X a ad ca ha la za
  have hG2 := great12_spec X b bd cb hb lb zb
  refine PSpec.intro Tryz.func5 rfl (by kernel_rfl) rfl rfl ?_
  intro C
  have hlen : (⟨l.toArray⟩ : ByteArray).size = l.length := rfl
  cases hg : grtP a.rs with
  | true =>
    rw [hg] at hG
    (refine LWP.seq <| rgN <| K.box rfl rfl rfl .plain <| K.box rfl rfl rfl .plain <| kas rfl <| RunK.nil <| LWP.seq <| LWP.seq <| rgN <| kca rfl rfl (hW) <| K.not rfl rfl .plain <| RunK.nil <| LWP.condF rfl ?_; refine LWP.skip ?_; refine LWP.seq <| LWP.seq <| rgN <| K.loadAll rfl rfl rfl .plain ?_; refine kca rfl rfl hG <| kmv rfl <| RunK.passed rfl rfl rfl <| RunK.passed rfl rfl rfl <| kpt rfl rfl <| kmv rfl <| RunK.passed rfl rfl rfl <| RunK.passed rfl rfl rfl <| RunK.passed rfl rfl rfl <| kpt rfl rfl <| RunK.nil <| LWP.condT rfl ?_; refine LWP.seq <| rgN <| kas rfl <| RunK.nil <| LWP.ret ?_)
    exact ⟨[_], ⟨rfl, trivial⟩, rfl⟩
  | false =>
  rw [hg] at hG
  cases hg2 : grtP b.rs with
  | true =>
    rw [hg2] at hG2
    (refine LWP.seq <| rgN <| K.box rfl rfl rfl .plain <| K.box rfl rfl rfl .plain <| kas rfl <| RunK.nil <| LWP.seq <| LWP.seq <| rgN <| kca rfl rfl (hW) <| K.not rfl rfl .plain <| RunK.nil <| LWP.condF rfl ?_; refine LWP.skip ?_; refine LWP.seq <| LWP.seq <| rgN <| K.loadAll rfl rfl rfl .plain ?_; refine kca rfl rfl hG <| kmv rfl <| K.loadAll rfl rfl rfl (.taken rfl rfl) ?_; refine gca rfl rfl hG2 rfl rfl <| kpf rfl rfl <| kmv rfl <| RunK.passed rfl rfl rfl <| RunK.passed rfl rfl rfl <| RunK.passed rfl rfl rfl <| kpt rfl rfl <| RunK.nil <| LWP.condT rfl ?_; refine LWP.seq <| rgN <| kas rfl <| RunK.nil <| LWP.ret ?_)
    exact ⟨[_], ⟨rfl, trivial⟩, rfl⟩
  | false =>
  rw [hg2] at hG2
  have hS := ok_of_grt hg
  have hS2 := ok_of_grt hg2
  by_cases hlb : 8192 < l.length
  · (refine LWP.seq <| rgN <| K.box rfl rfl rfl .plain <| K.box rfl rfl rfl .plain <| kas rfl <| RunK.nil <| LWP.seq <| LWP.seq <| rgN <| kca rfl rfl (hW) <| K.not rfl rfl .plain <| RunK.nil <| LWP.condF rfl ?_; refine LWP.skip ?_; refine LWP.seq <| LWP.seq <| rgN <| K.loadAll rfl rfl rfl .plain ?_; refine kca rfl rfl hG <| kmv rfl <| K.loadAll rfl rfl rfl (.taken rfl rfl) ?_; refine gca rfl rfl hG2 rfl rfl <| kpf rfl rfl <| kmv rfl <| gmv rfl rfl rfl <| K.lenStr rfl (.taken rfl rfl) ?_; refine K.gtr rfl rfl (decide_eq_true (by rw [hlen]; omega)) (.taken rfl rfl) ?_; refine kpf rfl rfl <| RunK.nil <| LWP.condT rfl ?_; refine LWP.seq <| rgN <| kas rfl <| RunK.nil <| LWP.ret ?_)
    exact ⟨[_], ⟨rfl, trivial⟩, rfl⟩
  (refine LWP.seq <| rgN <| K.box rfl rfl rfl .plain <| K.box rfl rfl rfl .plain <| kas rfl <| RunK.nil <| LWP.seq <| LWP.seq <| rgN <| kca rfl rfl (hW) <| K.not rfl rfl .plain <| RunK.nil <| LWP.condF rfl ?_; refine LWP.skip ?_; refine LWP.seq <| LWP.seq <| rgN <| K.loadAll rfl rfl rfl .plain ?_; refine kca rfl rfl hG <| kmv rfl <| K.loadAll rfl rfl rfl (.taken rfl rfl) ?_; refine gca rfl rfl hG2 rfl rfl <| kpf rfl rfl <| kmv rfl <| gmv rfl rfl rfl <| K.lenStr rfl (.taken rfl rfl) ?_; refine K.gtr rfl rfl (decide_eq_false (by rw [hlen]; omega)) (.taken rfl rfl) ?_; refine kpf rfl rfl <| RunK.nil <| LWP.condF rfl ?_; refine LWP.skip ?_; refine LWP.seq <| LWP.seq ?_)
  refine LWP.cut (fun σ => σ = rkSt a b ad bd ca cb more X) ?_ ?_
  · cases hd : decP l with
    | none =>
      have d1 := hDecode_no X l (by omega) hd
      (refine rgN <| kmv rfl <| kca rfl rfl d1 <| kmv rfl <| kex rfl rfl <| kex rfl rfl <| K.alloc rfl .plain ?_; refine K.storeAll rfl rfl rfl rfl rfl rfl .plain ?_; refine kas rfl <| RunK.nil <| LWP.seq <| rgN <| kmv rfl <| keq rfl rfl (beq_eq_false_iff_ne.2 (by omega)) <| RunK.nil <| LWP.condF rfl ?_; refine LWP.skip ?_)
      exact ⟨_, Le.of (by exact ⟨rfl, rfl, rfl, trivial⟩) (by exact ⟨rfl, rfl, trivial⟩) (by exact rfl) (by exact rfl) (by repeat' (first | refine all_cons_true ?_ ?_ | rfl | exact bytes_inUse | exact vals_inUse | exact mid_inUse rfl)), rfl⟩
    | some t =>
      obtain ⟨he, hck, _⟩ := encP_dec hd
      have d1 := hDecode_ok X l (by omega) hd
      (refine rgN <| kmv rfl <| K.callMp [(1000001, 701)] (.tup [.agg [.val (.int .i64 t.va), .val (.int .i64 t.vb), .slc 701 0 t.rs.length 3], Sn .i64 0]) [rlB 46 701 t.rs] (d1) rfl rfl (by exact trivial) rfl rfl rfl rfl rfl (by exact (.box rfl rfl .nil)) .plain <| kmv rfl <| kex rfl rfl <| kex rfl rfl <| K.alloc rfl .plain ?_; refine K.storeAll rfl rfl rfl rfl rfl rfl .plain ?_; refine kas rfl <| RunK.nil <| LWP.seq <| rgN <| kmv rfl <| keq rfl rfl (r := true) rfl <| RunK.nil <| LWP.condT rfl ?_; refine LWP.seq <| rgN <| K.loadAll rfl rfl rfl .plain ?_; refine K.callL [701] rfl rfl rfl (hencode_lent X hck rfl) .plain ?_; refine kmv rfl <| kex rfl rfl <| kex rfl rfl <| kas rfl <| kas rfl <| RunK.nil <| LWP.seq <| rgN <| kmv rfl <| kne rfl rfl (r := false) rfl <| kmv rfl <| gmv rfl rfl rfl <| gmv rfl rfl rfl <| K.strNe rfl rfl (strs_ne (r := false) (by rw [he]; simp)) (.taken rfl rfl) ?_; refine kpf rfl rfl <| RunK.nil <| LWP.condF rfl ?_; refine LWP.skip ?_)
      exact ⟨_, Le.of (by exact ⟨rfl, rfl, rfl, trivial⟩) (by exact ⟨rfl, rfl, trivial⟩) (by exact rfl) (by exact rfl) (by repeat' (first | refine all_cons_true ?_ ?_ | rfl | exact bytes_inUse | exact vals_inUse | exact mid_inUse rfl)), rfl⟩
  rintro σ rfl
  have ea := hEncode X a ad ca ha hS
  have eb := hEncode X b bd cb hb hS2
  (refine LWP.seq <| rgN <| K.loadAll rfl rfl rfl .plain ?_; refine kca rfl rfl ea <| kmv rfl <| kex rfl rfl <| kex rfl rfl <| kas rfl <| kas rfl <| RunK.nil <| LWP.seq <| rgN <| K.loadAll rfl rfl rfl .plain ?_; refine kca rfl rfl eb <| kmv rfl <| kex rfl rfl <| kex rfl rfl <| kas rfl <| kas rfl <| RunK.nil <| LWP.seq <| LWP.seq ?_)
  have ia : InP a := ha.in2
  have ib : InP b := hb.in2
  by_cases hz : chkP a = 0
  · have hta : encPT a = encP a := if_pos hz
    obtain ⟨hl1, hl2⟩ := encP_len hz
    have m1 := hDecode_no X (encP a ++ [more]) (by rw [List.length_append]; show (encP a).length + 1 ≤ _; omega) (decP_more hz ia more)
    have m2 := hDecode_no X ((encP a).take ((encP a).length - 1)) (by rw [List.length_take]; omega) (decP_less hz ia)
    rw [hta, hz]
    have hd := decP_enc hz ia
    generalize hea : encP a = ea' at *
    have hcat : (⟨ea'.toArray⟩ : ByteArray) ++ ⟨[more].toArray⟩ = ⟨(ea' ++ [more]).toArray⟩ := str_add _ _
    have hlen2 : (⟨ea'.toArray⟩ : ByteArray).size = ea'.length := rfl
    have hlen3 : (⟨[more].toArray⟩ : ByteArray).size = 1 := rfl
    have hlen4 : (⟨#[more]⟩ : ByteArray).size = 1 := rfl
    have hsub : IntKind.i64.wrap (((⟨ea'.toArray⟩ : ByteArray).size : Int) - 1) = ((ea'.length - 1 : Nat) : Int) := by rw [hlen2, wrap_i64 (by omega)]; omega
    have hcut : (⟨ea'.toArray⟩ : ByteArray).extract 0 (ea'.length - 1) = ⟨(ea'.take (ea'.length - 1)).toArray⟩ := by rw [str_cut, List.drop_zero, Nat.sub_zero]
    have d1 := hDecode_ok X ea' (by omega) hd
    by_cases hzb : chkP b = 0
    · have htb : encPT b = encP b := if_pos hzb
      have hab : ((⟨(encP a).toArray⟩ : ByteArray).data.toList == (⟨(encP b).toArray⟩ : ByteArray).data.toList) = decide (a = b) := Bool.eq_iff_iff.2 (by
        simp only [beq_iff_eq, decide_eq_true_eq]
        exact ⟨fun h => encP_inj hz hzb ia ib h, fun h => by rw [h]⟩)
      have q2 := hSame X a ad ca ha hS b bd cb hb
      rw [htb, hzb]
      generalize decide (a = b) = r at *
      rw [hea] at hab
      (refine rgN <| kmv rfl <| kne rfl rfl (r := false) rfl <| RunK.nil <| LWP.condF rfl ?_; refine LWP.skip ?_; refine LWP.seq <| rgN <| kmv rfl <| K.callMp [(1000001, 701)] (.tup [.agg [.val (.int .i64 a.va), .val (.int .i64 a.vb), .slc 701 0 a.rs.length 3], Sn .i64 0]) [rlB 46 701 a.rs] (d1) rfl rfl (by exact trivial) rfl rfl rfl rfl rfl (by exact (.box rfl rfl .nil)) .plain <| kmv rfl <| kex rfl rfl <| kex rfl rfl <| K.alloc rfl .plain ?_; refine K.storeAll rfl rfl rfl rfl rfl rfl .plain ?_; refine kas rfl <| RunK.nil <| LWP.seq <| rgN <| kmv rfl <| kmv rfl <| K.buildSlc (zs := [.int .u8 0]) (sz := 1) (e := 5) (cs' := [more].map bc) (by kernel_rfl) rfl rfl rfl rfl rfl rfl .plain <| K.convStr (l := [more]) rfl rfl (by kernel_rfl) StrT.u (Nat.le_refl _) rfl .plain <| K.strAdd rfl rfl (by omega) hcat .plain <| kca rfl rfl m1 <| kmv rfl <| kex rfl rfl <| kex rfl rfl <| K.alloc rfl .plain ?_; refine K.storeAll rfl rfl rfl rfl rfl rfl .plain ?_; refine kas rfl <| RunK.nil <| LWP.seq <| rgN <| kmv rfl <| kmv rfl <| kln rfl <| K.sub rfl rfl hsub .plain <| K.sliceStr (l := 0) (h := ea'.length - 1) (kl := .i64) (kh := .i64) rfl StrT.u rfl rfl ⟨(by omega), (by omega)⟩ hcut .plain <| kca rfl rfl m2 <| kmv rfl <| kex rfl rfl <| kex rfl rfl <| K.alloc rfl .plain ?_; refine K.storeAll rfl rfl rfl rfl rfl rfl .plain ?_; refine kas rfl <| RunK.nil <| LWP.seq <| rgN <| kmv rfl <| keq rfl rfl (r := true) rfl <| kmv rfl <| K.loadAll rfl rfl rfl (.taken rfl rfl) ?_; refine K.loadAll rfl rfl rfl (.taken rfl rfl) ?_; refine K.callL [701] rfl rfl rfl (hsame_lent1 X ha hS rfl) (.taken rfl rfl) ?_; refine kpt rfl rfl <| kmv rfl <| gmv rfl rfl rfl <| K.neq rfl rfl (r := false) rfl (.taken rfl rfl) ?_; refine gmv rfl rfl rfl <| gmv rfl rfl rfl <| gmv rfl rfl rfl <| K.strEq rfl rfl (strs_eq hab) (.taken rfl rfl) ?_; refine K.loadAll rfl rfl rfl (.taken rfl rfl) ?_; refine K.loadAll rfl rfl rfl (.taken rfl rfl) ?_; refine gca rfl rfl q2 rfl rfl <| K.eqlB rfl rfl (beq_self_eq_true r) (.taken rfl rfl) ?_; refine K.pickF rfl rfl (.taken rfl rfl) ?_; refine kpt rfl rfl <| kmv rfl <| gmv rfl rfl rfl <| K.eql rfl rfl (r := true) rfl (.taken rfl rfl) ?_; refine kpt rfl rfl <| kmv rfl <| gmv rfl rfl rfl <| K.eql rfl rfl (r := true) rfl (.taken rfl rfl) ?_; refine kpt rfl rfl <| kas rfl <| RunK.nil <| LWP.ret ?_)
      exact ⟨[_], ⟨rfl, trivial⟩, rfl⟩
    · have htb : encPT b = [] := if_neg hzb
      have hne : (chkP b != 0) = true := by rw [bne_iff_ne]; exact hzb
      rw [htb]
      generalize chkP b = ce at *
      (refine rgN <| kmv rfl <| kne rfl rfl (r := false) rfl <| RunK.nil <| LWP.condF rfl ?_; refine LWP.skip ?_; refine LWP.seq <| rgN <| kmv rfl <| K.callMp [(1000001, 701)] (.tup [.agg [.val (.int .i64 a.va), .val (.int .i64 a.vb), .slc 701 0 a.rs.length 3], Sn .i64 0]) [rlB 46 701 a.rs] (d1) rfl rfl (by exact trivial) rfl rfl rfl rfl rfl (by exact (.box rfl rfl .nil)) .plain <| kmv rfl <| kex rfl rfl <| kex rfl rfl <| K.alloc rfl .plain ?_; refine K.storeAll rfl rfl rfl rfl rfl rfl .plain ?_; refine kas rfl <| RunK.nil <| LWP.seq <| rgN <| kmv rfl <| kmv rfl <| K.buildSlc (zs := [.int .u8 0]) (sz := 1) (e := 5) (cs' := [more].map bc) (by kernel_rfl) rfl rfl rfl rfl rfl rfl .plain <| K.convStr (l := [more]) rfl rfl (by kernel_rfl) StrT.u (Nat.le_refl _) rfl .plain <| K.strAdd rfl rfl (by omega) hcat .plain <| kca rfl rfl m1 <| kmv rfl <| kex rfl rfl <| kex rfl rfl <| K.alloc rfl .plain ?_; refine K.storeAll rfl rfl rfl rfl rfl rfl .plain ?_; refine kas rfl <| RunK.nil <| LWP.seq <| rgN <| kmv rfl <| kmv rfl <| kln rfl <| K.sub rfl rfl hsub .plain <| K.sliceStr (l := 0) (h := ea'.length - 1) (kl := .i64) (kh := .i64) rfl StrT.u rfl rfl ⟨(by omega), (by omega)⟩ hcut .plain <| kca rfl rfl m2 <| kmv rfl <| kex rfl rfl <| kex rfl rfl <| K.alloc rfl .plain ?_; refine K.storeAll rfl rfl rfl rfl rfl rfl .plain ?_; refine kas rfl <| RunK.nil <| LWP.seq <| rgN <| kmv rfl <| keq rfl rfl (r := true) rfl <| kmv rfl <| K.loadAll rfl rfl rfl (.taken rfl rfl) ?_; refine K.loadAll rfl rfl rfl (.taken rfl rfl) ?_; refine K.callL [701] rfl rfl rfl (hsame_lent1 X ha hS rfl) (.taken rfl rfl) ?_; refine kpt rfl rfl <| kmv rfl <| gmv rfl rfl rfl <| K.neq rfl rfl hne (.taken rfl rfl) ?_; refine gmv rfl rfl rfl <| RunK.passed rfl rfl rfl <| RunK.passed rfl rfl rfl <| RunK.passed rfl rfl rfl <| RunK.passed rfl rfl rfl <| RunK.passed rfl rfl rfl <| RunK.passed rfl rfl rfl <| RunK.passed rfl rfl rfl <| K.pickT rfl rfl (.taken rfl rfl) ?_; refine kpt rfl rfl <| kmv rfl <| gmv rfl rfl rfl <| K.eql rfl rfl (r := true) rfl (.taken rfl rfl) ?_; refine kpt rfl rfl <| kmv rfl <| gmv rfl rfl rfl <| K.eql rfl rfl (r := true) rfl (.taken rfl rfl) ?_; refine kpt rfl rfl <| kas rfl <| RunK.nil <| LWP.ret ?_)
      exact ⟨[_], ⟨rfl, trivial⟩, rfl⟩
  · have hta : encPT a = [] := if_neg hz
    rw [hta]
    have hne : (chkP a != 0) = true := by rw [bne_iff_ne]; exact hz
    generalize chkP a = ce at *
    (refine rgN <| kmv rfl <| kne rfl rfl hne <| RunK.nil <| LWP.condT rfl ?_; refine LWP.seq <| rgN <| kmv rfl <| kse rfl rfl (strs_eq (r := true) (by decide)) <| kas rfl <| RunK.nil <| LWP.ret ?_)
    exact ⟨[_], ⟨rfl, trivial⟩, rfl⟩
end Go.Proofs.YtamplgnbbanamaaGreatDoor
end
section
namespace Go.Proofs.YtamplgnbbanamaaGreatDoor
open Go Go.Lg Go.RowKit Go.ChangeShapes Go.WideShapes Go.Joins
set_option maxRecDepth 100000
theorem tab_of_laid11 {W : World} (h : laidMetH Tryz.prog [("math/bits.deBruijn32tab", Rows.laid_math_bits_deBruijn32tab), ("math/bits.deBruijn64tab", Rows.laid_math_bits_deBruijn64tab), ("internal/strconv.uint64pow10", Rows.laid_internal_strconv_uint64pow10)] W) : Lib.TabIs Tryz.prog W "internal/strconv.uint64pow10" .u64 Lib.pow10Tab := by
  rw [MakeChecks.laidMetH_plain _ _ _ (by kernel_rfl)] at h
  have h3 : laidMet Tryz.prog (("internal/strconv.uint64pow10", Lib.tabData .u64 Lib.pow10Tab) :: []) W := (h.tail).tail
  exact Lib.tabIs_of_head (g := 1) (t := 209) (e := 62) (n := 20) (by kernel_rfl) (by kernel_rfl) (by kernel_rfl) (by kernel_rfl) (by kernel_rfl) (by kernel_rfl) h3
theorem xtab11 {W : World} (h : Lib.TabIs Tryz.prog W "internal/strconv.uint64pow10" .u64 Lib.pow10Tab) : XTab (fun b => W.heap[b]?) := by
  intro w hX
  unfold Lib.TabIs World.var? at h ⊢
  have hg : Tryz.prog.globalNamed "internal/strconv.uint64pow10" = some 1 := by kernel_rfl
  rw [hg] at h ⊢
  simp only [Option.bind_some] at h ⊢
  cases e : W.heap[1]? with
  | none => rw [e] at h; cases h
  | some o => rw [hX _ _ e]; rw [e] at h; exact h
end Go.Proofs.YtamplgnbbanamaaGreatDoor
end
