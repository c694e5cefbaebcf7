/- A piece of a proof over this program: contracts of its functions, and a logic to prove them by. -/
import Derived.Test.YtnomcmklhbjfjaaGreatDoorP8
section
namespace Go.Lg.Fld
open Go Go.Lg
theorem small_of_check {s : Sc} (h : chkE s = 0) : SmallC8 s.cs := by
  obtain ⟨h1, h2, h3⟩ := ok_of_check h
  unfold chkE at h
  by_cases hv : s.ver < 1 ∨ 1073741824 < s.ver
  · rw [if_pos hv] at h; cases h
  rw [if_neg hv] at h
  have g := good_of h
  refine ⟨by omega, fun c hc => ?_⟩
  obtain ⟨i, hi⟩ := List.mem_iff_getElem?.1 hc
  obtain ⟨_, _, _, _, g5⟩ := g.one i c hi
  obtain ⟨h8, _, _⟩ := Go.Proofs.YtnomcmklhbjfjaaGreatDoor.layErr_facts g5
  obtain ⟨_, k2, _, k4⟩ := h3 c hc
  refine ⟨by omega, by unfold okT at k2; omega, fun f hf => ?_⟩
  have := (k4 f hf).1
  unfold okT at this
  omega
theorem encS_len {s : Sc} (h : chkE s = 0) : 6 ≤ (encS s).length ∧ (encS s).length ≤ 6 + 24 * 70000 := by
  obtain ⟨_, h2, h3⟩ := ok_of_check h
  have := encCs_len h3
  unfold encS
  rw [List.length_append]
  simp only [List.length_cons, List.length_nil]
  omega
end Go.Lg.Fld
namespace Go.Proofs.YtnomcmklhbjfjaaGreatDoor
open Go Go.Lg Go.Lg.Fld
set_option maxRecDepth 100000
variable (X : Nat → Option Obj)
theorem lent_sc {S : Nat → Option (Option Box)} {Y : Nat → Option Obj} {k n : Nat} {cs : List Cp} {e : TypeId} {cc : List CV} {u : Value} (hk : S k = some (some ⟨e, cc, .res (scR cs)⟩)) (hu : LentC S Y (.slc k 0 n 3) u) : ∃ (blk cap : Nat), u = .slice (some ⟨blk, 0, none⟩) n cap ∧ CompsIn Y (some ⟨blk, 0, none⟩) cs := by
  obtain ⟨b, blk, cap2, m, hk', rfl, hc, hfit, hB⟩ := hu
  rw [hk] at hk'
  simp only [Option.some.injEq] at hk'
  subst hk'
  obtain ⟨H, hR, hHY⟩ := hB
  exact ⟨blk, cap2, rfl, scR_in hR hHY⟩
theorem enc_lent {S : Nat → Option (Option Box)} {ver : Int} {k : Nat} {cs : List Cp} {e : TypeId} {cc : List CV} (hck : chkE ⟨ver, cs⟩ = 0) (hk : S k = some (some ⟨e, cc, .res (scR cs)⟩)) :
    ∀ (Y : Nat → Option Obj) (us : List Value), (∀ b o, X b = some o → Y b = some o) → LentLs S Y [.sv (.agg [.val (.int .i64 ver), .slc k 0 cs.length 3])] us → PSpec Tryz.prog Y 9 (us.map toLV) (.tup [Ss (encS ⟨ver, cs⟩), Sn .i64 0]) := by
  intro Y us _ hL
  obtain ⟨u2, us2, rfl, ⟨bs, rfl, b1, bs1, rfl, h3, b2, bs2, rfl, h4, rfl⟩, rfl⟩ := hL
  have h3 : b1 = .int .i64 ver := h3
  subst h3
  obtain ⟨blk, cap, rfl, hin⟩ := lent_sc hk h4
  have := cEncode Y ⟨ver, cs⟩ (some ⟨blk, 0, none⟩) cap hin (small_of_check hck)
  unfold encTx at this
  rw [hck, if_pos rfl] at this
  exact this
theorem chk_lent8 {S : Nat → Option (Option Box)} {ver : Int} {k : Nat} {cs : List Cp} {e : TypeId} {cc : List CV} (hck : chkE ⟨ver, cs⟩ = 0) (hk : S k = some (some ⟨e, cc, .res (scR cs)⟩)) :
    ∀ (Y : Nat → Option Obj) (us : List Value), (∀ b o, X b = some o → Y b = some o) → LentLs S Y [.sv (.agg [.val (.int .i64 ver), .slc k 0 cs.length 3])] us → PSpec Tryz.prog Y 20 (us.map toLV) (Ln .i64 0) := by
  intro Y us _ hL
  obtain ⟨u2, us2, rfl, ⟨bs, rfl, b1, bs1, rfl, h3, b2, bs2, rfl, h4, rfl⟩, rfl⟩ := hL
  have h3 : b1 = .int .i64 ver := h3
  subst h3
  obtain ⟨blk, cap, rfl, hin⟩ := lent_sc hk h4
  exact pCheck8 Y ⟨ver, cs⟩ (some ⟨blk, 0, none⟩) cap hin (small_of_check hck) 0 hck
theorem same_lent8 {S : Nat → Option (Option Box)} {ver : Int} {ad : Option Addr} {cap k : Nat} {cs : List Cp} {e : TypeId} {cc : List CV} (hin : CompsIn X ad cs) (hS : SmallC8 cs) (hk : S k = some (some ⟨e, cc, .res (scR cs)⟩)) :
    ∀ (Y : Nat → Option Obj) (us : List Value), (∀ b o, X b = some o → Y b = some o) → LentLs S Y [.sv (.agg [.val (.int .i64 ver), .slc k 0 cs.length 3]), Sx ver ad cs.length cap] us → PSpec Tryz.prog Y 21 (us.map toLV) (Lb true) := by
  intro Y us hY hL
  obtain ⟨u2, us2, rfl, ⟨bs, rfl, b1, bs1, rfl, h3, b2, bs2, rfl, h4, rfl⟩, u1, us1, rfl, ⟨av, rfl, a1, av1, rfl, h1, a2, av2, rfl, h2, rfl⟩, rfl⟩ := hL
  have h1 : a1 = .int .i64 ver := h1
  have h2 : a2 = .slice ad cs.length cap := h2
  have h3 : b1 = .int .i64 ver := h3
  subst h1 h2 h3
  obtain ⟨blk, cap', rfl, hin'⟩ := lent_sc hk h4
  exact pSame8 Y ⟨ver, cs⟩ ⟨ver, cs⟩ (some ⟨blk, 0, none⟩) ad cap' cap hin' (hin.mono hY) hS hS true (decide_eq_true rfl)
abbrev sbSt (va vb : Int) (ad bd : Option Addr) (na nb ca cb : Nat) (more : UInt8) (extra : List (Nat × LV)) (bx : List (Nat × Option Box)) (Y : Nat → Option Obj) : St :=
  ⟨(3, Ln .u8 (more.toNat : Nat)) :: (4, Lp 4) :: (5, Lp 5) :: extra, sxB 4 va ad na ca :: sxB 5 vb bd nb cb :: bx, Y⟩
set_option maxHeartbeats 12800000 in
theorem ScodeBack_spec (a b : Sc) (ad bd : Option Addr) (ca cb : Nat) (l : List UInt8) (more : UInt8) (ha : CompsIn X ad a.cs) (hb : CompsIn X bd b.cs) :
    PSpec Tryz.prog X 5 [Sx a.ver ad a.cs.length ca, Sx b.ver bd b.cs.length cb, Ls l, Ln .u8 (more.toNat : Nat)] (Lb true) := by
  have hW := awake8_spec X
  have hG := great8_spec X a.ver ad ca a.cs ha (greatB8 a.cs) rfl
  have hG2 := great8_spec X b.ver bd cb b.cs hb (greatB8 b.cs) rfl
  refine PSpec.intro Tryz.func5 rfl (by kernel_rfl) rfl rfl ?_
  intro C
  have hlen : (⟨l.toArray⟩ : ByteArray).size = l.length := rfl
  cases hg : greatB8 a.cs with
  | true =>
    rw [hg] at hG
    (refine LWP.seq <| LWP.region (by kernel_rfl) <| K.box rfl rfl rfl .plain <| K.box rfl rfl rfl .plain <| kas rfl <| RunK.nil <| LWP.seq <| LWP.seq <| LWP.region (by kernel_rfl) <| kca rfl rfl (hW) <| K.not rfl rfl .plain <| RunK.nil <| LWP.condF rfl ?_; refine LWP.skip ?_; refine LWP.seq <| LWP.seq <| LWP.region (by kernel_rfl) <| K.loadAll rfl rfl rfl .plain ?_; refine kca rfl rfl hG <| kmv rfl <| RunK.passed rfl rfl rfl <| RunK.passed rfl rfl rfl <| kpt rfl rfl <| kmv rfl <| RunK.passed rfl rfl rfl <| RunK.passed rfl rfl rfl <| RunK.passed rfl rfl rfl <| kpt rfl rfl <| RunK.nil <| LWP.condT rfl ?_; refine LWP.seq <| LWP.region (by kernel_rfl) <| kas rfl <| RunK.nil <| LWP.ret ?_)
    exact ⟨[_], ⟨rfl, trivial⟩, rfl⟩
  | false =>
  rw [hg] at hG
  cases hg2 : greatB8 b.cs with
  | true =>
    rw [hg2] at hG2
    (refine LWP.seq <| LWP.region (by kernel_rfl) <| K.box rfl rfl rfl .plain <| K.box rfl rfl rfl .plain <| kas rfl <| RunK.nil <| LWP.seq <| LWP.seq <| LWP.region (by kernel_rfl) <| kca rfl rfl (hW) <| K.not rfl rfl .plain <| RunK.nil <| LWP.condF rfl ?_; refine LWP.skip ?_; refine LWP.seq <| LWP.seq <| LWP.region (by kernel_rfl) <| K.loadAll rfl rfl rfl .plain ?_; refine kca rfl rfl hG <| kmv rfl <| K.loadAll rfl rfl rfl (.taken rfl rfl) ?_; refine gca rfl rfl hG2 rfl rfl <| kpf rfl rfl <| kmv rfl <| RunK.passed rfl rfl rfl <| RunK.passed rfl rfl rfl <| RunK.passed rfl rfl rfl <| kpt rfl rfl <| RunK.nil <| LWP.condT rfl ?_; refine LWP.seq <| LWP.region (by kernel_rfl) <| kas rfl <| RunK.nil <| LWP.ret ?_)
    exact ⟨[_], ⟨rfl, trivial⟩, rfl⟩
  | false =>
  rw [hg2] at hG2
  have hS := greatB8_small hg
  have hS2 := greatB8_small hg2
  by_cases hlb : 4096 < l.length
  · (refine LWP.seq <| LWP.region (by kernel_rfl) <| K.box rfl rfl rfl .plain <| K.box rfl rfl rfl .plain <| kas rfl <| RunK.nil <| LWP.seq <| LWP.seq <| LWP.region (by kernel_rfl) <| kca rfl rfl (hW) <| K.not rfl rfl .plain <| RunK.nil <| LWP.condF rfl ?_; refine LWP.skip ?_; refine LWP.seq <| LWP.seq <| LWP.region (by kernel_rfl) <| K.loadAll rfl rfl rfl .plain ?_; refine kca rfl rfl hG <| kmv rfl <| K.loadAll rfl rfl rfl (.taken rfl rfl) ?_; refine gca rfl rfl hG2 rfl rfl <| kpf rfl rfl <| kmv rfl <| gmv rfl rfl rfl <| K.lenStr rfl (.taken rfl rfl) ?_; refine K.gtr rfl rfl (decide_eq_true (by rw [hlen]; omega)) (.taken rfl rfl) ?_; refine kpf rfl rfl <| RunK.nil <| LWP.condT rfl ?_; refine LWP.seq <| LWP.region (by kernel_rfl) <| kas rfl <| RunK.nil <| LWP.ret ?_)
    exact ⟨[_], ⟨rfl, trivial⟩, rfl⟩
  (refine LWP.seq <| LWP.region (by kernel_rfl) <| K.box rfl rfl rfl .plain <| K.box rfl rfl rfl .plain <| kas rfl <| RunK.nil <| LWP.seq <| LWP.seq <| LWP.region (by kernel_rfl) <| kca rfl rfl (hW) <| K.not rfl rfl .plain <| RunK.nil <| LWP.condF rfl ?_; refine LWP.skip ?_; refine LWP.seq <| LWP.seq <| LWP.region (by kernel_rfl) <| K.loadAll rfl rfl rfl .plain ?_; refine kca rfl rfl hG <| kmv rfl <| K.loadAll rfl rfl rfl (.taken rfl rfl) ?_; refine gca rfl rfl hG2 rfl rfl <| kpf rfl rfl <| kmv rfl <| gmv rfl rfl rfl <| K.lenStr rfl (.taken rfl rfl) ?_; refine K.gtr rfl rfl (decide_eq_false (by rw [hlen]; omega)) (.taken rfl rfl) ?_; refine kpf rfl rfl <| RunK.nil <| LWP.condF rfl ?_; refine LWP.skip ?_; refine LWP.seq <| LWP.seq ?_)
  refine LWP.cut (fun σ => σ = sbSt a.ver b.ver ad bd a.cs.length b.cs.length ca cb more [] [] X) ?_ ?_
  · cases hd : decS l with
    | none =>
      have d1 := cDecode_no X l (by omega) hd
      (refine LWP.region (by kernel_rfl) <| kmv rfl <| K.callM [] [] (d1) rfl rfl (by exact trivial) rfl rfl rfl rfl rfl (by exact .nil) .plain <| kmv rfl <| kex rfl rfl <| kex rfl rfl <| K.alloc rfl .plain ?_; refine K.storeAll rfl rfl rfl rfl rfl rfl .plain ?_; refine kas rfl <| RunK.nil <| LWP.seq <| LWP.region (by kernel_rfl) <| kmv rfl <| keq rfl rfl (beq_eq_false_iff_ne.2 (by omega)) <| RunK.nil <| LWP.condF rfl ?_; refine LWP.skip ?_)
      exact ⟨_, Le.of (by exact ⟨rfl, rfl, rfl, trivial⟩) (by exact ⟨rfl, rfl, trivial⟩) (by exact rfl) (by exact rfl) (by repeat' (first | refine all_cons_true ?_ ?_ | rfl | exact bytes_inUse | exact vals_inUse | exact mid_inUse rfl)), rfl⟩
    | some t =>
      obtain ⟨he, hck⟩ := enc_dec hd
      obtain ⟨tv, tc⟩ := t
      have d1 := cDecode_ok X l (by omega) hd
      have e1 := @enc_lent X
      (refine LWP.region (by kernel_rfl) <| kmv rfl <| K.callMp [(1000001, 701)] (.tup [.agg [.val (.int .i64 tv), .slc 701 0 tc.length 3], Sn .i64 0]) [scB 701 tc] (d1) rfl rfl (by exact trivial) rfl rfl rfl rfl rfl (by exact (.box rfl rfl .nil)) .plain <| kmv rfl <| kex rfl rfl <| kex rfl rfl <| K.alloc rfl .plain ?_; refine K.storeAll rfl rfl rfl rfl rfl rfl .plain ?_; refine kas rfl <| RunK.nil <| LWP.seq <| LWP.region (by kernel_rfl) <| kmv rfl <| keq rfl rfl (beq_iff_eq.2 (by omega)) <| RunK.nil <| LWP.condT rfl ?_; refine LWP.seq <| LWP.region (by kernel_rfl) <| K.loadAll rfl rfl rfl .plain ?_; refine K.callL [701] rfl rfl rfl (enc_lent X hck rfl) .plain ?_; refine kmv rfl <| kex rfl rfl <| kex rfl rfl <| kas rfl <| kas rfl <| RunK.nil <| LWP.seq <| LWP.region (by kernel_rfl) <| kmv rfl <| kne rfl rfl ((bne_eq_false_iff_eq.2 (by omega))) <| kmv rfl <| gmv rfl rfl rfl <| gmv rfl rfl rfl <| K.strNe rfl rfl (strs_ne (r := false) (by rw [show encS ⟨tv, tc⟩ = l from he]; simp)) (.taken rfl rfl) ?_; refine kpf rfl rfl <| kmv rfl <| K.loadAll rfl rfl rfl (.taken rfl rfl) ?_; refine K.callL [701] rfl rfl rfl (chk_lent8 X hck rfl) (.taken rfl rfl) ?_; refine K.neq rfl rfl ((bne_eq_false_iff_eq.2 (by omega))) (.taken rfl rfl) ?_; refine kpf rfl rfl <| RunK.nil <| LWP.condF rfl ?_; refine LWP.skip ?_)
      exact ⟨_, Le.of (by exact ⟨rfl, rfl, rfl, trivial⟩) (by exact ⟨rfl, rfl, trivial⟩) (by exact rfl) (by exact rfl) (by repeat' (first | refine all_cons_true ?_ ?_ | rfl | exact bytes_inUse | exact vals_inUse | exact mid_inUse rfl)), rfl⟩
  rintro σ rfl
  have ea := cEncode X a ad ca ha hS
  have eb := cEncode X b bd cb hb hS2
  (refine LWP.seq <| LWP.region (by kernel_rfl) <| K.loadAll rfl rfl rfl .plain ?_; refine kca rfl rfl ea <| kmv rfl <| kex rfl rfl <| kex rfl rfl <| kas rfl <| kas rfl <| RunK.nil <| LWP.seq <| LWP.region (by kernel_rfl) <| K.loadAll rfl rfl rfl .plain ?_; refine kca rfl rfl eb <| kmv rfl <| kex rfl rfl <| kex rfl rfl <| kas rfl <| kas rfl <| RunK.nil <| LWP.seq <| LWP.seq ?_)
  by_cases hz : chkE a = 0
  · have hta : encTx a = encS a := if_pos hz
    obtain ⟨hl1, hl2⟩ := encS_len hz
    have m1 := cDecode_no X (encS a ++ [more]) (by rw [List.length_append]; show (encS a).length + 1 < _; omega) (dec_more hz more)
    have m2 := cDecode_no X ((encS a).take ((encS a).length - 1)) (by rw [List.length_take]; omega) (dec_less hz)
    rw [hta, hz]
    have hd := dec_enc hz
    generalize hea : encS a = ea' at *
    have hcat : (⟨ea'.toArray⟩ : ByteArray) ++ ⟨[more].toArray⟩ = ⟨(ea' ++ [more]).toArray⟩ := str_add _ _
    have hlen2 : (⟨ea'.toArray⟩ : ByteArray).size = ea'.length := rfl
    have hlen3 : (⟨[more].toArray⟩ : ByteArray).size = 1 := rfl
    have hlen4 : (⟨#[more]⟩ : ByteArray).size = 1 := rfl
    have hsub : IntKind.i64.wrap (((⟨ea'.toArray⟩ : ByteArray).size : Int) - 1) = ((ea'.length - 1 : Nat) : Int) := by rw [hlen2, wrap_i64 (by omega)]; omega
    have hcut : (⟨ea'.toArray⟩ : ByteArray).extract 0 (ea'.length - 1) = ⟨(ea'.take (ea'.length - 1)).toArray⟩ := by rw [str_cut, List.drop_zero, Nat.sub_zero]
    by_cases hzb : chkE b = 0
    · have htb : encTx b = encS b := if_pos hzb
      have hab : ((⟨(encS a).toArray⟩ : ByteArray).data.toList == (⟨(encS b).toArray⟩ : ByteArray).data.toList) = decide (a = b) := by rw [← enc_inj hz hzb]; exact Bool.eq_iff_iff.2 (by simp)
      have q2 := pSame8 X a b ad bd ca cb ha hb hS hS2 (decide (a = b)) rfl
      rw [htb, hzb]
      generalize decide (a = b) = r at *
      rw [hea] at hab
      have d1 := cDecode_ok X ea' (by omega) hd
      (refine LWP.region (by kernel_rfl) <| kmv rfl <| kne rfl rfl ((bne_eq_false_iff_eq.2 (by omega))) <| RunK.nil <| LWP.condF rfl ?_; refine LWP.skip ?_; refine LWP.seq <| LWP.region (by kernel_rfl) <| kmv rfl <| K.callMp [(1000001, 701)] (.tup [.agg [.val (.int .i64 a.ver), .slc 701 0 a.cs.length 3], Sn .i64 0]) [scB 701 a.cs] (d1) rfl rfl (by exact trivial) rfl rfl rfl rfl rfl (by exact (.box rfl rfl .nil)) .plain <| kmv rfl <| kex rfl rfl <| kex rfl rfl <| K.alloc rfl .plain ?_; refine K.storeAll rfl rfl rfl rfl rfl rfl .plain ?_; refine kas rfl <| RunK.nil <| LWP.seq <| LWP.region (by kernel_rfl) <| kmv rfl <| kmv rfl <| K.buildSlc (zs := [.int .u8 0]) (sz := 1) (e := 5) (cs' := [more].map bc) (by kernel_rfl) rfl rfl rfl rfl rfl rfl .plain <| K.convStr (l := [more]) rfl rfl (by kernel_rfl) StrT.u (Nat.le_refl _) rfl .plain <| K.strAdd rfl rfl (by omega) hcat .plain <| K.callM [] [] (m1) rfl rfl (by exact trivial) rfl rfl rfl rfl rfl (by exact .nil) .plain <| kmv rfl <| kex rfl rfl <| kex rfl rfl <| K.alloc rfl .plain ?_; refine K.storeAll rfl rfl rfl rfl rfl rfl .plain ?_; refine kas rfl <| RunK.nil <| LWP.seq <| LWP.region (by kernel_rfl) <| kmv rfl <| kmv rfl <| kln rfl <| K.sub rfl rfl hsub .plain <| K.sliceStr (l := 0) (h := ea'.length - 1) (kl := .i64) (kh := .i64) rfl StrT.u rfl rfl ⟨(by omega), (by omega)⟩ hcut .plain <| K.callM [] [] (m2) rfl rfl (by exact trivial) rfl rfl rfl rfl rfl (by exact .nil) .plain <| kmv rfl <| kex rfl rfl <| kex rfl rfl <| K.alloc rfl .plain ?_; refine K.storeAll rfl rfl rfl rfl rfl rfl .plain ?_; refine kas rfl <| RunK.nil <| LWP.seq <| LWP.region (by kernel_rfl) <| kmv rfl <| keq rfl rfl (beq_iff_eq.2 (by omega)) <| kmv rfl <| K.loadAll rfl rfl rfl (.taken rfl rfl) ?_; refine K.loadAll rfl rfl rfl (.taken rfl rfl) ?_; refine K.callL [701] rfl rfl rfl (same_lent8 X ha hS rfl) (.taken rfl rfl) ?_; refine kpt rfl rfl <| kmv rfl <| gmv rfl rfl rfl <| K.neq rfl rfl rfl (.taken rfl rfl) ?_; refine gmv rfl rfl rfl <| gmv rfl rfl rfl <| gmv rfl rfl rfl <| K.strEq rfl rfl (strs_eq hab) (.taken rfl rfl) ?_; refine K.loadAll rfl rfl rfl (.taken rfl rfl) ?_; refine K.loadAll rfl rfl rfl (.taken rfl rfl) ?_; refine gca rfl rfl q2 rfl rfl <| K.eqlB rfl rfl (beq_self_eq_true r) (.taken rfl rfl) ?_; refine K.pickF rfl rfl (.taken rfl rfl) ?_; refine kpt rfl rfl <| kmv rfl <| gmv rfl rfl rfl <| K.eql rfl rfl (beq_iff_eq.2 (by omega)) (.taken rfl rfl) ?_; refine kpt rfl rfl <| kmv rfl <| gmv rfl rfl rfl <| K.eql rfl rfl (beq_iff_eq.2 (by omega)) (.taken rfl rfl) ?_; refine kpt rfl rfl <| kas rfl <| RunK.nil <| LWP.ret ?_)
      exact ⟨[_], ⟨rfl, trivial⟩, rfl⟩
    · have htb : encTx b = [] := if_neg hzb
      have hne : (chkE b != 0) = true := by rw [bne_iff_ne]; exact hzb
      rw [htb]
      generalize chkE b = ce at *
      have d1 := cDecode_ok X ea' (by omega) hd
      (refine LWP.region (by kernel_rfl) <| kmv rfl <| kne rfl rfl ((bne_eq_false_iff_eq.2 (by omega))) <| RunK.nil <| LWP.condF rfl ?_; refine LWP.skip ?_; refine LWP.seq <| LWP.region (by kernel_rfl) <| kmv rfl <| K.callMp [(1000001, 701)] (.tup [.agg [.val (.int .i64 a.ver), .slc 701 0 a.cs.length 3], Sn .i64 0]) [scB 701 a.cs] (d1) rfl rfl (by exact trivial) rfl rfl rfl rfl rfl (by exact (.box rfl rfl .nil)) .plain <| kmv rfl <| kex rfl rfl <| kex rfl rfl <| K.alloc rfl .plain ?_; refine K.storeAll rfl rfl rfl rfl rfl rfl .plain ?_; refine kas rfl <| RunK.nil <| LWP.seq <| LWP.region (by kernel_rfl) <| kmv rfl <| kmv rfl <| K.buildSlc (zs := [.int .u8 0]) (sz := 1) (e := 5) (cs' := [more].map bc) (by kernel_rfl) rfl rfl rfl rfl rfl rfl .plain <| K.convStr (l := [more]) rfl rfl (by kernel_rfl) StrT.u (Nat.le_refl _) rfl .plain <| K.strAdd rfl rfl (by omega) hcat .plain <| K.callM [] [] (m1) rfl rfl (by exact trivial) rfl rfl rfl rfl rfl (by exact .nil) .plain <| kmv rfl <| kex rfl rfl <| kex rfl rfl <| K.alloc rfl .plain ?_; refine K.storeAll rfl rfl rfl rfl rfl rfl .plain ?_; refine kas rfl <| RunK.nil <| LWP.seq <| LWP.region (by kernel_rfl) <| kmv rfl <| kmv rfl <| kln rfl <| K.sub rfl rfl hsub .plain <| K.sliceStr (l := 0) (h := ea'.length - 1) (kl := .i64) (kh := .i64) rfl StrT.u rfl rfl ⟨(by omega), (by omega)⟩ hcut .plain <| K.callM [] [] (m2) rfl rfl (by exact trivial) rfl rfl rfl rfl rfl (by exact .nil) .plain <| kmv rfl <| kex rfl rfl <| kex rfl rfl <| K.alloc rfl .plain ?_; refine K.storeAll rfl rfl rfl rfl rfl rfl .plain ?_; refine kas rfl <| RunK.nil <| LWP.seq <| LWP.region (by kernel_rfl) <| kmv rfl <| keq rfl rfl (beq_iff_eq.2 (by omega)) <| kmv rfl <| K.loadAll rfl rfl rfl (.taken rfl rfl) ?_; refine K.loadAll rfl rfl rfl (.taken rfl rfl) ?_; refine K.callL [701] rfl rfl rfl (same_lent8 X ha hS rfl) (.taken rfl rfl) ?_; refine kpt rfl rfl <| kmv rfl <| gmv rfl rfl rfl <| K.neq rfl rfl hne (.taken rfl rfl) ?_; refine gmv rfl rfl rfl <| RunK.passed rfl rfl rfl <| RunK.passed rfl rfl rfl <| RunK.passed rfl rfl rfl <| RunK.passed rfl rfl rfl <| RunK.passed rfl rfl rfl <| RunK.passed rfl rfl rfl <| RunK.passed rfl rfl rfl <| K.pickT rfl rfl (.taken rfl rfl) ?_; refine kpt rfl rfl <| kmv rfl <| gmv rfl rfl rfl <| K.eql rfl rfl (beq_iff_eq.2 (by omega)) (.taken rfl rfl) ?_; refine kpt rfl rfl <| kmv rfl <| gmv rfl rfl rfl <| K.eql rfl rfl (beq_iff_eq.2 (by omega)) (.taken rfl rfl) ?_; refine kpt rfl rfl <| kas rfl <| RunK.nil <| LWP.ret ?_)
      exact ⟨[_], ⟨rfl, trivial⟩, rfl⟩
  · have hta : encTx a = [] := if_neg hz
    have k1 := pCheck8 X a ad ca ha hS (chkE a) rfl
    rw [hta]
    have hne : (chkE a != 0) = true := by rw [bne_iff_ne]; exact hz
    have heq : (chkE a == chkE a) = true := by simp
    generalize chkE a = ce at *
    (refine LWP.region (by kernel_rfl) <| kmv rfl <| kne rfl rfl hne <| RunK.nil <| LWP.condT rfl ?_; refine LWP.seq <| LWP.region (by kernel_rfl) <| kmv rfl <| kse rfl rfl (strs_eq (r := true) (by decide)) <| kmv rfl <| K.loadAll rfl rfl rfl (.taken rfl rfl) ?_; refine gca rfl rfl k1 rfl rfl <| gmv rfl rfl rfl <| K.eql rfl rfl heq (.taken rfl rfl) ?_; refine kpt rfl rfl <| kas rfl <| RunK.nil <| LWP.ret ?_)
    exact ⟨[_], ⟨rfl, trivial⟩, rfl⟩
end Go.Proofs.YtnomcmklhbjfjaaGreatDoor
end
section
namespace Go.Proofs.YtnomcmklhbjfjaaGreatDoor
open Go Go.Lg Go.Lg.Fld
set_option maxRecDepth 100000
variable (X : Nat → Option Obj)
set_option maxHeartbeats 12800000 in
theorem ScodeRows_spec (s : Sc) (ad pad : Option Addr) (cap pcap : Nat) (ps : List Pt) (more : UInt8) (hin : CompsIn X ad s.cs) (hps : PartsIn X pad ps) :
    PSpec Tryz.prog X 6 [Sx s.ver ad s.cs.length cap, Lx pad ps.length pcap, Ln .u8 (more.toNat : Nat)] (Lb true) := by
  have hW := awake8_spec X
  have hG := great8_spec X s.ver ad cap s.cs hin (greatB8 s.cs) rfl
  refine PSpec.intro Tryz.func6 rfl (by kernel_rfl) rfl rfl ?_
  intro C
  cases hg : greatB8 s.cs with
  | true =>
    rw [hg] at hG
    (refine LWP.seq <| LWP.region (by kernel_rfl) <| K.box rfl rfl rfl .plain <| kas rfl <| RunK.nil <| LWP.seq <| LWP.seq <| LWP.region (by kernel_rfl) <| kca rfl rfl (hW) <| K.not rfl rfl .plain <| RunK.nil <| LWP.condF rfl ?_; refine LWP.skip ?_; refine LWP.seq <| LWP.seq <| LWP.region (by kernel_rfl) <| K.loadAll rfl rfl rfl .plain ?_; refine kca rfl rfl hG <| kmv rfl <| RunK.passed rfl rfl rfl <| RunK.passed rfl rfl rfl <| RunK.passed rfl rfl rfl <| kpt rfl rfl <| RunK.nil <| LWP.condT rfl ?_; refine LWP.seq <| LWP.region (by kernel_rfl) <| kas rfl <| RunK.nil <| LWP.ret ?_)
    exact ⟨[_], ⟨rfl, trivial⟩, rfl⟩
  | false =>
  rw [hg] at hG
  have hS := greatB8_small hg
  by_cases hlb : 12 < ps.length
  · (refine LWP.seq <| LWP.region (by kernel_rfl) <| K.box rfl rfl rfl .plain <| kas rfl <| RunK.nil <| LWP.seq <| LWP.seq <| LWP.region (by kernel_rfl) <| kca rfl rfl (hW) <| K.not rfl rfl .plain <| RunK.nil <| LWP.condF rfl ?_; refine LWP.skip ?_; refine LWP.seq <| LWP.seq <| LWP.region (by kernel_rfl) <| K.loadAll rfl rfl rfl .plain ?_; refine kca rfl rfl hG <| kmv rfl <| gmv rfl rfl rfl <| K.lenX rfl SliceT.h rfl (.taken rfl rfl) ?_; refine K.gtr rfl rfl (decide_eq_true (by omega)) (.taken rfl rfl) ?_; refine kpf rfl rfl <| RunK.nil <| LWP.condT rfl ?_; refine LWP.seq <| LWP.region (by kernel_rfl) <| kas rfl <| RunK.nil <| LWP.ret ?_)
    exact ⟨[_], ⟨rfl, trivial⟩, rfl⟩
  have hgt : decide (((ps.length : Nat) : Int) > 12) = false := decide_eq_false (by omega)
  by_cases hcan : chkE s = 0 ∧ canP s.cs ps
  · obtain ⟨h0, hc⟩ := hcan
    have hok := parts_ok h0 hps hc
    have hfew := parts_few hok
    have hel := encPs_len hok
    have e1 := cEncP_ok X s ad pad cap pcap ps hin hS hps (by omega) h0 hc
    have hlen0 : 1 ≤ (encPt s.cs ps).length ∧ (encPt s.cs ps).length ≤ 1 + 12 * 257 := by unfold encPt; rw [List.length_cons]; omega
    have d0 := dec_parts (by omega) hc.2 hok
    have m1 := cDecP_no X s ad cap (encPt s.cs ps ++ [more]) hin hS (by rw [List.length_append]; show (encPt s.cs ps).length + 1 < _; omega) h0 (dec_parts_more (by omega) hc.2 hok more)
    have m2 := cDecP_no X s ad cap ((encPt s.cs ps).take ((encPt s.cs ps).length - 1)) hin hS (by rw [List.length_take]; omega) h0 (dec_parts_less (by omega) hc.2 hok)
    generalize hea : encPt s.cs ps = ea' at *
    have hcat : (⟨ea'.toArray⟩ : ByteArray) ++ ⟨[more].toArray⟩ = ⟨(ea' ++ [more]).toArray⟩ := str_add _ _
    have hlen2 : (⟨ea'.toArray⟩ : ByteArray).size = ea'.length := rfl
    have hlen3 : (⟨[more].toArray⟩ : ByteArray).size = 1 := rfl
    have hlen4 : (⟨#[more]⟩ : ByteArray).size = 1 := rfl
    have hsub : IntKind.i64.wrap (((⟨ea'.toArray⟩ : ByteArray).size : Int) - 1) = ((ea'.length - 1 : Nat) : Int) := by rw [hlen2, wrap_i64 (by omega)]; omega
    have hcut : (⟨ea'.toArray⟩ : ByteArray).extract 0 (ea'.length - 1) = ⟨(ea'.take (ea'.length - 1)).toArray⟩ := by rw [str_cut, List.drop_zero, Nat.sub_zero]
    have d1 := cDecP_ok X s ad cap ea' ps hin hS (by omega) h0 d0
    (refine LWP.seq <| LWP.region (by kernel_rfl) <| K.box rfl rfl rfl .plain <| kas rfl <| RunK.nil <| LWP.seq <| LWP.seq <| LWP.region (by kernel_rfl) <| kca rfl rfl (hW) <| K.not rfl rfl .plain <| RunK.nil <| LWP.condF rfl ?_; refine LWP.skip ?_; refine LWP.seq <| LWP.seq <| LWP.region (by kernel_rfl) <| K.loadAll rfl rfl rfl .plain ?_; refine kca rfl rfl hG <| kmv rfl <| gmv rfl rfl rfl <| K.lenX rfl SliceT.h rfl (.taken rfl rfl) ?_; refine K.gtr rfl rfl hgt (.taken rfl rfl) ?_; refine kpf rfl rfl <| RunK.nil <| LWP.condF rfl ?_; refine LWP.skip ?_; refine LWP.seq <| LWP.region (by kernel_rfl) <| K.loadAll rfl rfl rfl .plain ?_; refine kmv rfl <| kca rfl rfl e1 <| kmv rfl <| kex rfl rfl <| kex rfl rfl <| kas rfl <| kas rfl <| RunK.nil <| LWP.seq <| LWP.seq <| LWP.region (by kernel_rfl) <| kmv rfl <| kne rfl rfl ((bne_eq_false_iff_eq.2 (by omega))) <| RunK.nil ?_; refine LWP.condF rfl ?_; refine LWP.skip ?_; refine LWP.seq <| LWP.region (by kernel_rfl) <| K.loadAll rfl rfl rfl .plain ?_; refine kmv rfl <| K.callMp [(1000001, 701)] (.tup [.one (.slc 701 0 ps.length 2), Sn .i64 0]) [ptB 701 ps] (d1) rfl rfl (by exact trivial) rfl rfl rfl rfl rfl (by exact (.box rfl rfl .nil)) .plain <| kmv rfl <| kex rfl rfl <| kex rfl rfl <| kas rfl <| kas rfl <| RunK.nil <| LWP.seq <| LWP.region (by kernel_rfl) <| K.loadAll rfl rfl rfl .plain ?_; refine kmv rfl <| kmv rfl <| K.buildSlc (zs := [.int .u8 0]) (sz := 1) (e := 5) (cs' := [more].map bc) (by kernel_rfl) rfl rfl rfl rfl rfl rfl .plain <| K.convStr (l := [more]) rfl rfl (by kernel_rfl) StrT.u (Nat.le_refl _) rfl .plain <| K.strAdd rfl rfl (by omega) hcat .plain <| K.callM [] [] (m1) rfl rfl (by exact trivial) rfl rfl rfl rfl rfl (by exact .nil) .plain <| kmv rfl <| kex rfl rfl <| kex rfl rfl <| kas rfl <| kas rfl <| RunK.nil <| LWP.seq <| LWP.draws mixed (by kernel_rfl) ?_; refine K.loadAll rfl rfl rfl .plain ?_; refine kmv rfl <| kmv rfl <| kln rfl <| K.sub rfl rfl hsub .plain <| K.sliceStr (l := 0) (h := ea'.length - 1) (kl := .i64) (kh := .i64) rfl StrT.u rfl rfl ⟨(by omega), (by omega)⟩ hcut .plain <| K.callM [] [] (m2) rfl rfl (by exact trivial) rfl rfl rfl rfl rfl (by exact .nil) .plain <| kmv rfl <| kex rfl rfl <| kex rfl rfl <| kas rfl <| kas rfl <| RunK.nil <| And.intro (by kernel_rfl) ?_; refine LWP.seq <| LWP.region (by kernel_rfl) <| kmv rfl <| keq rfl rfl (beq_iff_eq.2 (by omega)) <| kmv rfl <| gmv rfl rfl rfl <| gmv rfl rfl rfl <| K.callL [701] rfl rfl rfl (psame_lent X hps (by omega) (fun p hp => by have := hfew p hp; omega) rfl) (.taken rfl rfl) ?_; refine kpt rfl rfl <| kmv rfl <| gmv rfl rfl rfl <| K.eql rfl rfl (beq_iff_eq.2 (by omega)) (.taken rfl rfl) ?_; refine kpt rfl rfl <| kmv rfl <| gmv rfl rfl rfl <| K.eql rfl rfl (beq_iff_eq.2 (by omega)) (.taken rfl rfl) ?_; refine kpt rfl rfl <| kas rfl <| RunK.nil <| LWP.ret ?_)
    exact ⟨[_], ⟨rfl, trivial⟩, rfl⟩
  · obtain ⟨e, he, e1⟩ := cEncP_no X s ad pad cap pcap ps hin hS hps (by omega) hcan
    have hne : (e != 0) = true := by rw [bne_iff_ne]; exact he
    (refine LWP.seq <| LWP.region (by kernel_rfl) <| K.box rfl rfl rfl .plain <| kas rfl <| RunK.nil <| LWP.seq <| LWP.seq <| LWP.region (by kernel_rfl) <| kca rfl rfl (hW) <| K.not rfl rfl .plain <| RunK.nil <| LWP.condF rfl ?_; refine LWP.skip ?_; refine LWP.seq <| LWP.seq <| LWP.region (by kernel_rfl) <| K.loadAll rfl rfl rfl .plain ?_; refine kca rfl rfl hG <| kmv rfl <| gmv rfl rfl rfl <| K.lenX rfl SliceT.h rfl (.taken rfl rfl) ?_; refine K.gtr rfl rfl hgt (.taken rfl rfl) ?_; refine kpf rfl rfl <| RunK.nil <| LWP.condF rfl ?_; refine LWP.skip ?_; refine LWP.seq <| LWP.region (by kernel_rfl) <| K.loadAll rfl rfl rfl .plain ?_; refine kmv rfl <| kca rfl rfl e1 <| kmv rfl <| kex rfl rfl <| kex rfl rfl <| kas rfl <| kas rfl <| RunK.nil <| LWP.seq <| LWP.seq <| LWP.region (by kernel_rfl) <| kmv rfl <| kne rfl rfl hne <| RunK.nil ?_; refine LWP.condT rfl ?_; refine LWP.seq <| LWP.region (by kernel_rfl) <| kmv rfl <| kse rfl rfl (strs_eq (r := true) (by decide)) <| kas rfl <| RunK.nil <| LWP.ret ?_)
    exact ⟨[_], ⟨rfl, trivial⟩, rfl⟩
end Go.Proofs.YtnomcmklhbjfjaaGreatDoor
end
