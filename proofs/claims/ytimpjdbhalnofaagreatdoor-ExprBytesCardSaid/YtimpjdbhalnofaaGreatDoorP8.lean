/- A piece of a proof over this program: contracts of its functions, and a logic to prove them by. -/
import Derived.Test.YtimpjdbhalnofaaGreatDoorP2
import Derived.Test.YtimpjdbhalnofaaGreatDoorP7
import Derived.Test.YtimpjdbhalnofaaGreatDoorRows
import Derived.Test.YtimpjdbhalnofaaGreatDoorTie
import Derived.Test.YtimpjdbhalnofaaGreatDoorCards
import Derived.ProofKit
import Derived.LaidMore
import Derived.OpenShut
import Derived.Stop.Joined
import Derived.Stop.LaidErr
import Derived.Lib.SmallJoins
import Derived.SevenTiedAt
section
namespace Go.Proofs.YtimpjdbhalnofaaGreatDoor
open Go Go.Lg Go.Lg.Fml Go.Lg.Fld Go.Lg.Arith
set_option maxRecDepth 100000
variable (X : Nat → Option Obj)
abbrev izs : List Value := [.int .i64 0, .int .i64 0, .int .i64 0, .bool false, .int .u64 0, .int .u64 0]
set_option maxHeartbeats 12800000 in
theorem awake11_spec (hTab : XTab X) : PSpec Tryz.prog X 8 [] (Lb true) := by
  have o2 := Of_spec X 2 (by decide)
  refine PSpec.intro Tryz.func8 rfl (by kernel_rfl) rfl rfl ?_
  intro C
  (refine LWP.seq <| LWP.region (by kernel_rfl) <| kas rfl <| RunK.nil <| LWP.seq <| LWP.region (by kernel_rfl) <| K.build rfl rfl (by exact rfl) (by exact nl6 rfl rfl rfl rfl rfl rfl rfl) .plain ?_; refine kca rfl rfl (o2) <| K.build rfl rfl (by exact rfl) (by exact nl6 rfl rfl rfl rfl rfl rfl rfl) .plain ?_; refine K.build rfl rfl (by exact rfl) (by exact nl6 rfl rfl rfl rfl rfl rfl rfl) .plain ?_; refine K.buildSlc (zs := (List.replicate 3 izs).flatten) (sz := 6) (e := 44) (cs' := (inssV code0).map .val) (by kernel_rfl) rfl rfl rfl rfl rfl rfl .plain <| kas rfl <| RunK.nil <| LWP.seq ?_)
  refine LWP.le (σ' := ⟨[(1, .sv (.one (.slc 16 0 3 6)))], [(16, some ⟨44, (inssV code0).map .val, false⟩)], X⟩) (Le.of (by exact ⟨rfl, trivial⟩) (by exact ⟨rfl, trivial⟩) (by exact rfl) (by exact rfl) (by repeat' (first | refine all_cons_true ?_ ?_ | rfl | exact bytes_inUse | exact vals_inUse | exact mid_inUse rfl))) ?_
  refine LWP.freeze rfl rfl rfl ?_
  intro blk cap arr fr hXn hFz hcp hfit hsp
  have hin : InsIn (withBlock X blk (.cells arr 44 fr)) (some ⟨blk, 0, none⟩) code0 := ins_in (withBlock_at _ _ _) small_0 hsp
  replace hTab : XTab (withBlock X blk (.cells arr 44 fr)) := xtab_mono (withBlock_old hXn) hTab
  generalize withBlock X blk (.cells arr 44 fr) = Y at *
  have o21 := Of_spec Y 21 (by decide)
  have o42 := Of_spec Y 42 (by decide)
  have e0n := gEval Y code0 (some ⟨blk, 0, none⟩) cap hin (by decide) none 0 [] (fss_nil Y) (by decide) (fun r hr => by cases hr) (fun r hr => by cases hr) 0 (by decide)
  rw [ev0n] at e0n
  have e1n := fun S el row hk => eval_lent Y (S := S) (k := 36) (l := code1) (el := el) (row := row) (by decide) small_1 hk
  rw [ev1n] at e1n
  have c2 := fun S el row hk => encode_lent Y (S := S) (k := 43) (l := code2) (el := el) (row := row) (by decide) small_2 hk
  rw [enc2.1, enc2.2] at c2
  have d2 := gDecode_ok Y [1, 3, 3] (by decide) dec2
  have hSh := gShow Y hTab code0 (some ⟨blk, 0, none⟩) cap hin (by decide)
  rw [show0] at hSh
  have hC0 := gCheck Y [] none 0 ⟨fun i r h => by simp at h, fun x hx => by cases hx⟩ (by decide)
  have hU : MSpec Tryz.prog Y 17 [Lx (some ⟨blk, 0, none⟩) 3 cap] [] (.sv (.one (.slc 1000001 0 1 6))) [(1000001, some ⟨44, (inssV [⟨2, 0, 0, (false, 0)⟩]).map .val, true⟩)] := by
    rcases gUses Y code0 (some ⟨blk, 0, none⟩) cap hin (by decide) with ⟨h, _⟩ | h
    · rw [uses0] at h; cases h
    · rw [uses0] at h; exact h
  have q42 := eqQ 42 42 true (decide_eq_true rfl)
  have qI := eqT_expr (o := 3) (o' := 3) (a := 3) (a' := 3) (b := 0) (b' := 0) (s := false) (s' := false) (h := 0) (h' := 0) (l := 0) (l' := 0) true rfl
  (refine LWP.region (by kernel_rfl) <| kmv rfl <| kca rfl rfl o21 <| K.buildSlc (zs := [.bool false, .int .u64 0, .int .u64 0]) (sz := 3) (e := 30) (cs' := (nsV [21]).map .val) (by kernel_rfl) rfl rfl rfl rfl rfl rfl .plain <| K.buildSlc (zs := [.slice none 0 0]) (sz := 1) (e := 58) (cs' := [.slc 20 0 1 3]) (by kernel_rfl) rfl rfl rfl rfl rfl rfl .plain <| K.build rfl rfl (by exact rfl) (by exact nl2 rfl rfl rfl) .plain ?_; refine K.callY [21, 20] rfl rfl (eval_one Y hin rfl rfl) .plain ?_; refine kmv rfl <| kex rfl rfl <| kex rfl rfl <| K.alloc rfl .plain ?_; refine K.storeAll rfl rfl rfl rfl rfl rfl .plain ?_; refine kas rfl <| RunK.nil <| LWP.seq <| LWP.region (by kernel_rfl) <| kmv rfl <| K.build rfl rfl (by exact rfl) (by exact nl2 rfl rfl rfl) .plain ?_; refine kca rfl rfl e0n <| kmv rfl <| kex rfl rfl <| kex rfl rfl <| K.alloc rfl .plain ?_; refine K.storeAll rfl rfl rfl rfl rfl rfl .plain ?_; refine kas rfl <| RunK.nil <| LWP.seq <| LWP.region (by kernel_rfl) <| K.build rfl rfl (by exact rfl) (by exact nl6 rfl rfl rfl rfl rfl rfl rfl) .plain ?_; refine K.build rfl rfl (by exact rfl) (by exact nl6 rfl rfl rfl rfl rfl rfl rfl) .plain ?_; refine K.build rfl rfl (by exact rfl) (by exact nl6 rfl rfl rfl rfl rfl rfl rfl) .plain ?_; refine K.buildSlc (zs := (List.replicate 3 izs).flatten) (sz := 6) (e := 44) (cs' := (inssV code1).map .val) (by kernel_rfl) rfl rfl rfl rfl rfl rfl .plain <| K.build rfl rfl (by exact rfl) (by exact nl2 rfl rfl rfl) .plain ?_; refine K.callX [36] rfl rfl rfl (e1n _ _ _ rfl) .plain ?_; refine kmv rfl <| kex rfl rfl <| kex rfl rfl <| K.alloc rfl .plain ?_; refine K.storeAll rfl rfl rfl rfl rfl rfl .plain ?_; refine kas rfl <| RunK.nil <| LWP.seq <| LWP.region (by kernel_rfl) <| K.build rfl rfl (by exact rfl) (by exact nl6 rfl rfl rfl rfl rfl rfl rfl) .plain ?_; refine K.buildSlc (zs := izs) (sz := 6) (e := 44) (cs' := (inssV code2).map .val) (by kernel_rfl) rfl rfl rfl rfl rfl rfl .plain <| K.callX [43] rfl rfl rfl (c2 _ _ _ rfl) .plain ?_; refine kmv rfl <| kex rfl rfl <| kex rfl rfl <| kas rfl <| kas rfl <| RunK.nil <| LWP.seq <| LWP.region (by kernel_rfl) <| K.callMp [(1000001, 601)] (.tup [.one (.slc 601 0 1 6), Sn .i64 0]) [(601, some ⟨44, (inssV code2).map .val, true⟩)] (d2) rfl rfl (by exact trivial) rfl rfl rfl rfl rfl (by exact (.box rfl rfl .nil)) .plain <| kmv rfl <| kex rfl rfl <| kex rfl rfl <| kas rfl <| kas rfl ?_; refine RunK.nil <| LWP.seq ?_)
  refine LWP.le (σ' := ⟨[(1, Lx (some ⟨blk, 0, none⟩) 3 cap), (2, Lp 2), (3, Ln .i64 0), (5, Ln .i64 3), (7, Ln .i64 9), (8, Ls [1, 3, 3]), (9, Ln .i64 0), (10, .sv (.one (.slc 601 0 1 6))), (11, Ln .i64 0)], [(2, some ⟨30, cQ 42, false⟩), (601, some ⟨44, (inssV code2).map .val, true⟩)], Y⟩) (Le.of (by exact ⟨rfl, rfl, rfl, rfl, rfl, rfl, rfl, rfl, rfl, trivial⟩) (by exact ⟨rfl, rfl, trivial⟩) (by exact rfl) (by exact rfl) (by repeat' (first | refine all_cons_true ?_ ?_ | rfl | exact bytes_inUse | exact vals_inUse | exact mid_inUse rfl))) ?_
  (refine LWP.draws mixed (by kernel_rfl) <| kmv rfl <| keq rfl rfl (r := true) rfl <| kmv rfl <| K.loadAll rfl rfl rfl (.taken rfl rfl) ?_; refine gca rfl rfl o42 rfl rfl <| K.aggEq rfl rfl rfl rfl (by kernel_rfl) q42 (.inl ⟨rfl, rfl⟩) (.taken rfl rfl) ?_; refine kpt rfl rfl <| kmv rfl <| gmv rfl rfl rfl <| K.eql rfl rfl (r := true) rfl (.taken rfl rfl) ?_; refine kpt rfl rfl <| kmv rfl <| gmv rfl rfl rfl <| K.eql rfl rfl (r := true) rfl (.taken rfl rfl) ?_; refine kpt rfl rfl <| kmv rfl <| gmv rfl rfl rfl <| K.eql rfl rfl (r := true) rfl (.taken rfl rfl) ?_; refine kpt rfl rfl <| kmv rfl <| gmv rfl rfl rfl <| K.strEq rfl rfl (strs_eq (r := true) (by decide)) (.taken rfl rfl) ?_; refine kpt rfl rfl <| kmv rfl <| gmv rfl rfl rfl <| K.eql rfl rfl (r := true) rfl (.taken rfl rfl) ?_; refine kpt rfl rfl <| kmv rfl <| gmv rfl rfl rfl <| K.lenSlc rfl SliceT.h rfl (.taken rfl rfl) ?_; refine K.eql rfl rfl (r := true) rfl (.taken rfl rfl) ?_; refine kpt rfl rfl <| kmv rfl <| gmv rfl rfl rfl <| K.indexSlc rfl rfl (by decide) rfl (.taken rfl rfl) ?_; refine K.loadPart rfl rfl rfl rfl (.taken rfl rfl) ?_; refine K.build rfl rfl (by exact rfl) (by exact nl6 rfl rfl rfl rfl rfl rfl rfl) (.taken rfl rfl) ?_; refine K.aggEq rfl rfl rfl rfl (by kernel_rfl) qI (.inl ⟨rfl, rfl⟩) (.taken rfl rfl) ?_; refine kpt rfl rfl <| kmv rfl <| gmv rfl rfl rfl <| gca rfl rfl hSh rfl rfl <| K.strEq rfl rfl (strs_eq (r := true) (by decide)) (.taken rfl rfl) ?_; refine kpt rfl rfl <| kmv rfl <| gca rfl rfl hC0 rfl rfl <| K.eql rfl rfl (r := true) rfl (.taken rfl rfl) ?_; refine kpt rfl rfl <| kmv rfl <| gmv rfl rfl rfl <| K.callMp [(1000001, 602)] (.sv (.one (.slc 602 0 1 6))) [(602, some ⟨44, (inssV [⟨2, 0, 0, (false, 0)⟩]).map .val, true⟩)] (hU) rfl rfl (by exact trivial) rfl rfl rfl rfl rfl (by exact (.box rfl rfl .nil)) (.taken rfl rfl) ?_; refine K.lenSlc rfl SliceT.h rfl (.taken rfl rfl) ?_; refine K.eql rfl rfl (r := true) rfl (.taken rfl rfl) ?_; refine kpt rfl rfl <| kas rfl <| RunK.nil <| And.intro (by kernel_rfl) ?_; refine LWP.ret ?_)
  exact ⟨[_], ⟨rfl, trivial⟩, rfl⟩
end Go.Proofs.YtimpjdbhalnofaaGreatDoor
end
section
namespace Go.Proofs.YtimpjdbhalnofaaGreatDoor
open Go Go.Lg Go.Lg.Fml Go.Lg.Fld Go.Lg.Arith
set_option maxRecDepth 100000
variable (X : Nat → Option Obj)
end Go.Proofs.YtimpjdbhalnofaaGreatDoor
end
section
namespace Go.Proofs.YtimpjdbhalnofaaGreatDoor
open Go Go.Lg Go.Lg.Fml Go.Lg.Fld Go.Lg.Arith
set_option maxRecDepth 100000
variable (X : Nat → Option Obj)
theorem rencode_lent {S : Nat → Option (Option Box)} {k : Nat} {l : List Ins} {el : TypeId} {row : Bool} (hl : l.length ≤ 1000) (hi : ∀ x ∈ l, smallI x) (hk : S k = some (some ⟨el, (inssV l).map .val, row⟩)) :
    ∀ (Y : Nat → Option Obj) (us : List Value), (∀ b o, X b = some o → Y b = some o) → Lent S Y [.sv (.one (.slc k 0 l.length 6))] us → PSpec Tryz.prog Y 19 (us.map toLV) (.tup [Ss (encTX l), Sn .i64 (encErr l)]) := by
  intro Y us hY hL
  obtain ⟨u2, us2, rfl, h2, rfl⟩ := hL
  obtain ⟨el', cells, row', hk', blk, cap2, arr, fr, us', sp, rfl, hYb, hc, hfit, harr, hv⟩ := h2
  rw [hk] at hk'
  simp only [Option.some.injEq, Box.mk.injEq] at hk'
  obtain ⟨rfl, rfl, rfl⟩ := hk'
  have := hv (inssV l) rfl
  subst this
  exact rEncode11 Y l (some ⟨blk, 0, none⟩) cap2 (ins_in hYb hi ⟨sp, harr⟩) (by omega)
def decL (s : List UInt8) : List Ins := match decX s with | some l => l | none => []
theorem decL_len (s : List UInt8) : (decL s).length ≤ 64 := by
  unfold decL
  cases h : decX s with
  | none => simp
  | some l => exact (chkX_zero (encX_dec h).2.2.1).1
theorem decL_small (s : List UInt8) : ∀ x ∈ decL s, smallI x := by
  unfold decL
  cases h : decX s with
  | none => intro x hx; cases hx
  | some l =>
    intro x hx
    obtain ⟨h4, h5, h6, h7, _⟩ := (encX_dec h).2.2.2 x hx
    exact ⟨by omega, by omega, by omega, h7⟩
def decG (s : List UInt8) : Int := match decX s with | some _ => 0 | none => 4
def decI (s : List UInt8) : Bool := (decX s).isSome
theorem gdec_both (s : List UInt8) (hs : s.length ≤ 4096) : (decL s = [] ∧ PSpec Tryz.prog X 20 [Ls s] (.tup [Vnil, Sn .i64 (decG s)])) ∨
    MSpec Tryz.prog X 20 [Ls s] [] (.tup [.one (.slc 1000001 0 (decL s).length 6), Sn .i64 (decG s)]) [(1000001, some ⟨44, (inssV (decL s)).map .val, true⟩)] := by
  unfold decL decG
  cases h : decX s with
  | none => exact .inl ⟨rfl, gDecode_no X s hs h⟩
  | some l => exact .inr (gDecode_ok X s hs h)
theorem rdec_both (s : List UInt8) (hs : s.length ≤ 4096) : (decL s = [] ∧ PSpec Tryz.prog X 21 [Ls s] (.tup [Vnil, Sb (decI s)])) ∨
    MSpec Tryz.prog X 21 [Ls s] [] (.tup [.one (.slc 1000001 0 (decL s).length 6), Sb (decI s)]) [(1000001, some ⟨54, (inssV (decL s)).map .val, true⟩)] := by
  have hR := rDecode11 X s hs
  unfold decL decI
  cases h : decX s with
  | none => rw [(decR_none h).1, (decR_none h).2] at hR; exact .inl ⟨rfl, hR.plain⟩
  | some l => rw [(decR_some h).1, (decR_some h).2] at hR; exact .inr hR
set_option maxHeartbeats 12800000 in
theorem ExprBytes_spec (hTab : XTab X) (l : List Ins) (ad : Option Addr) (cap : Nat) (hin : InsIn X ad l) (hl : l.length < 9223372036854775808) (s : List UInt8) (hs : s.length < 9223372036854775808) :
    PSpec Tryz.prog X 4 [Lx ad l.length cap, Ls s] (Lb true) := by
  have hW := awake11_spec X hTab
  have hG := great11_spec X l ad cap none 0 [] (fss_nil X) hl (by decide) (fun r hr => by cases hr)
  have hlen : (⟨s.toArray⟩ : ByteArray).size = s.length := rfl
  refine PSpec.intro Tryz.func4 rfl (by kernel_rfl) rfl rfl ?_
  intro C
  cases hg : grt l [] with
  | true =>
    rw [hg] at hG
    (refine LWP.seq <| LWP.region (by kernel_rfl) <| kas rfl <| RunK.nil <| LWP.seq <| LWP.seq <| LWP.region (by kernel_rfl) <| kca rfl rfl (hW) <| K.not rfl rfl .plain <| RunK.nil <| LWP.condF rfl ?_; refine LWP.skip ?_; refine LWP.seq <| LWP.seq <| LWP.region (by kernel_rfl) <| kmv rfl <| kca rfl rfl (hG) <| kmv rfl <| RunK.passed rfl rfl rfl <| RunK.passed rfl rfl rfl <| RunK.passed rfl rfl rfl <| kpt rfl rfl <| RunK.nil <| LWP.condT rfl ?_; refine LWP.seq <| LWP.region (by kernel_rfl) <| kas rfl <| RunK.nil <| LWP.ret ?_)
    exact ⟨[_], ⟨rfl, trivial⟩, rfl⟩
  | false =>
  rw [hg] at hG
  by_cases hbig : 2048 < s.length
  · (refine LWP.seq <| LWP.region (by kernel_rfl) <| kas rfl <| RunK.nil <| LWP.seq <| LWP.seq <| LWP.region (by kernel_rfl) <| kca rfl rfl (hW) <| K.not rfl rfl .plain <| RunK.nil <| LWP.condF rfl ?_; refine LWP.skip ?_; refine LWP.seq <| LWP.seq <| LWP.region (by kernel_rfl) <| kmv rfl <| kca rfl rfl (hG) <| kmv rfl <| gmv rfl rfl rfl <| K.lenStr rfl (.taken rfl rfl) ?_; refine K.gtr rfl rfl (decide_eq_true (by rw [hlen]; omega)) (.taken rfl rfl) ?_; refine kpf rfl rfl <| RunK.nil <| LWP.condT rfl ?_; refine LWP.seq <| LWP.region (by kernel_rfl) <| kas rfl <| RunK.nil <| LWP.ret ?_)
    exact ⟨[_], ⟨rfl, trivial⟩, rfl⟩
  obtain ⟨h80, _, _⟩ := grt_false hg
  have hE1 := gEncode X l ad cap hin (by omega)
  have hF := form11_spec X l ad cap hin (by omega)
  have hE2 := fun S el row hk => rencode_lent X (S := S) (k := 500) (l := l) (el := el) (row := row) (by omega) hin.small hk
  have hd1 := gdec_both X s (by omega)
  (refine LWP.seq <| LWP.region (by kernel_rfl) <| kas rfl <| RunK.nil <| LWP.seq <| LWP.seq <| LWP.region (by kernel_rfl) <| kca rfl rfl (hW) <| K.not rfl rfl .plain <| RunK.nil <| LWP.condF rfl ?_; refine LWP.skip ?_; refine LWP.seq <| LWP.seq <| LWP.region (by kernel_rfl) <| kmv rfl <| kca rfl rfl (hG) <| kmv rfl <| gmv rfl rfl rfl <| K.lenStr rfl (.taken rfl rfl) ?_; refine K.gtr rfl rfl (decide_eq_false (by rw [hlen]; omega)) (.taken rfl rfl) ?_; refine kpf rfl rfl <| RunK.nil <| LWP.condF rfl ?_; refine LWP.skip ?_; refine LWP.seq <| LWP.region (by kernel_rfl) <| kmv rfl <| kca rfl rfl (hE1) <| kmv rfl <| kex rfl rfl <| kex rfl rfl <| kas rfl <| kas rfl <| RunK.nil <| LWP.seq <| LWP.region (by kernel_rfl) <| kmv rfl <| K.callMp [(1000001, 500)] (.sv (.one (.slc 500 0 l.length 6))) [(500, some ⟨54, (inssV l).map .val, true⟩)] (hF) rfl rfl (by exact trivial) rfl rfl rfl rfl rfl (by exact (.box rfl (Box.ren_vals _ _ _ _) .nil)) .plain ?_; refine K.callX [500] rfl rfl rfl (hE2 _ _ _ rfl) .plain ?_; refine kmv rfl <| kex rfl rfl <| kex rfl rfl <| kas rfl <| kas rfl <| RunK.nil <| LWP.seq <| LWP.seq <| LWP.region (by kernel_rfl) <| kmv rfl <| kmv rfl <| K.strNe rfl rfl (strs_ne (r := false) (by simp)) .plain <| kmv rfl <| gmv rfl rfl rfl ?_; refine gmv rfl rfl rfl <| K.neq rfl rfl (bne_eq_false_iff_eq.2 rfl) (.taken rfl rfl) ?_; refine kpf rfl rfl <| RunK.nil <| LWP.condF rfl ?_; refine LWP.skip ?_; refine LWP.seq ?_)
  repeat refine LWP.seq ?_
  refine LWP.meetL (fun σ => ∃ (Z : Nat → Option Obj) (ld : Option Addr) (lc : Nat), (∀ b o, X b = some o → Z b = some o) ∧ InsIn Z ld (decL s) ∧ σ = ⟨[(1, Ls s), (9, Lx ld (decL s).length lc), (10, Ln .i64 (decG s))], [], Z⟩) ?_ ?_
  · rcases hd1 with ⟨h0, p⟩ | p
    · (refine LWP.region (by kernel_rfl) <| kmv rfl <| kca rfl rfl p <| kmv rfl <| kex rfl rfl <| kex rfl rfl <| kas rfl <| kas rfl <| RunK.nil ?_)
      exact Leads.here (σ' := ⟨[(1, Ls s), (9, Lx none 0 0), (10, Ln .i64 (decG s))], [], X⟩) (Le.of (by exact ⟨rfl, rfl, rfl, trivial⟩) (by exact trivial) (by exact rfl) (by exact rfl) (by repeat' (first | refine all_cons_true ?_ ?_ | rfl | exact bytes_inUse | exact vals_inUse | exact mid_inUse rfl))) ⟨X, none, 0, fun _ _ h => h, ⟨fun i r hr => by rw [h0] at hr; simp at hr, fun x hx => by rw [h0] at hx; cases hx⟩, by rw [h0]; rfl⟩
    · (refine LWP.region (by kernel_rfl) <| kmv rfl <| K.callMp [(1000001, 600)] (.tup [.one (.slc 600 0 (decL s).length 6), Sn .i64 (decG s)]) [(600, some ⟨44, (inssV (decL s)).map .val, true⟩)] (p) rfl rfl (by exact trivial) rfl rfl rfl rfl rfl (by exact (.box rfl (Box.ren_vals _ _ _ _) .nil)) .plain <| kmv rfl <| kex rfl rfl <| kex rfl rfl <| kas rfl <| kas rfl <| RunK.nil ?_)
      refine Leads.le (σ' := ⟨[(9, .sv (.one (.slc 600 0 (decL s).length 6))), (1, Ls s), (10, Ln .i64 (decG s))], [(600, some ⟨44, (inssV (decL s)).map .val, true⟩)], X⟩) (Le.of (by exact ⟨rfl, rfl, rfl, trivial⟩) (by exact ⟨rfl, trivial⟩) (by exact rfl) (by exact rfl) (by repeat' (first | refine all_cons_true ?_ ?_ | rfl | exact bytes_inUse | exact vals_inUse | exact mid_inUse rfl))) ?_
      refine Leads.freeze rfl rfl rfl fun b2 c2 a2 f2 hn2 _ _ _ hsp2 => ?_
      exact Leads.le (Le.of (by exact ⟨rfl, rfl, rfl, trivial⟩) (by exact trivial) (by exact rfl) (by exact rfl) (by repeat' (first | refine all_cons_true ?_ ?_ | rfl | exact bytes_inUse | exact vals_inUse | exact mid_inUse rfl))) (Leads.done ⟨_, some ⟨b2, 0, none⟩, c2, withBlock_old hn2, ins_in (withBlock_at _ _ _) (decL_small s) hsp2, rfl⟩)
  rintro σ ⟨Y, ld, lc, hY, hL, rfl⟩
  have hd2 := rdec_both Y s (by omega)
  repeat refine LWP.seq ?_
  refine LWP.meetL (fun σ => ∃ (Z : Nat → Option Obj) (ud : Option Addr) (uc : Nat), (∀ b o, Y b = some o → Z b = some o) ∧ InsIn Z ud (decL s) ∧ σ = ⟨[(9, Lx ld (decL s).length lc), (10, Ln .i64 (decG s)), (11, Lx ud (decL s).length uc), (12, Lb (decI s))], [], Z⟩) ?_ ?_
  · rcases hd2 with ⟨h0, p⟩ | p
    · (refine LWP.region (by kernel_rfl) <| kmv rfl <| kca rfl rfl p <| kmv rfl <| kex rfl rfl <| kex rfl rfl <| kas rfl <| kas rfl <| RunK.nil ?_)
      exact Leads.here (σ' := ⟨[(9, Lx ld (decL s).length lc), (10, Ln .i64 (decG s)), (11, Lx none 0 0), (12, Lb (decI s))], [], Y⟩) (Le.of (by exact ⟨rfl, rfl, rfl, rfl, trivial⟩) (by exact trivial) (by exact rfl) (by exact rfl) (by repeat' (first | refine all_cons_true ?_ ?_ | rfl | exact bytes_inUse | exact vals_inUse | exact mid_inUse rfl))) ⟨Y, none, 0, fun _ _ h => h, ⟨fun i r hr => by rw [h0] at hr; simp at hr, fun x hx => by rw [h0] at hx; cases hx⟩, by rw [h0]; rfl⟩
    · (refine LWP.region (by kernel_rfl) <| kmv rfl <| K.callMp [(1000001, 600)] (.tup [.one (.slc 600 0 (decL s).length 6), Sb (decI s)]) [(600, some ⟨54, (inssV (decL s)).map .val, true⟩)] (p) rfl rfl (by exact trivial) rfl rfl rfl rfl rfl (by exact (.box rfl (Box.ren_vals _ _ _ _) .nil)) .plain <| kmv rfl <| kex rfl rfl <| kex rfl rfl <| kas rfl <| kas rfl <| RunK.nil ?_)
      refine Leads.le (σ' := ⟨[(11, .sv (.one (.slc 600 0 (decL s).length 6))), (9, Lx ld (decL s).length lc), (10, Ln .i64 (decG s)), (12, Lb (decI s))], [(600, some ⟨54, (inssV (decL s)).map .val, true⟩)], Y⟩) (Le.of (by exact ⟨rfl, rfl, rfl, rfl, trivial⟩) (by exact ⟨rfl, trivial⟩) (by exact rfl) (by exact rfl) (by repeat' (first | refine all_cons_true ?_ ?_ | rfl | exact bytes_inUse | exact vals_inUse | exact mid_inUse rfl))) ?_
      refine Leads.freeze rfl rfl rfl fun b2 c2 a2 f2 hn2 _ _ _ hsp2 => ?_
      exact Leads.le (Le.of (by exact ⟨rfl, rfl, rfl, rfl, trivial⟩) (by exact trivial) (by exact rfl) (by exact rfl) (by repeat' (first | refine all_cons_true ?_ ?_ | rfl | exact bytes_inUse | exact vals_inUse | exact mid_inUse rfl))) (Leads.done ⟨_, some ⟨b2, 0, none⟩, c2, withBlock_old hn2, ins_in (withBlock_at _ _ _) (decL_small s) hsp2, rfl⟩)
  rintro σ ⟨Z, ud, uc, hZ, hU, rfl⟩
  replace hL := hL.mono hZ
  have hll := decL_len s
  have hF2 := form11_spec Z (decL s) ld lc hL (by omega)
  have hfin : (decG s = 0 ∧ decI s = true) ∨ (decG s = 4 ∧ decI s = false) := by
    unfold decG decI
    cases decX s with
    | none => exact .inr ⟨rfl, rfl⟩
    | some l => exact .inl ⟨rfl, rfl⟩
  clear hW hG hE1 hF hE2 hd1 hd2
  generalize decL s = ls at *
  generalize decG s = dg at *
  generalize decI s = di at *
  repeat refine LWP.seq ?_
  refine LWP.cut (fun σ => σ = ⟨[(9, Lx ld ls.length lc), (11, Lx ud ls.length uc)], [], Z⟩) ?_ ?_
  · rcases hfin with ⟨rfl, rfl⟩ | ⟨rfl, rfl⟩
    · (refine LWP.region (by kernel_rfl) <| kmv rfl <| kmv rfl <| keq rfl rfl (r := true) rfl <| K.neqB rfl rfl (r := false) rfl .plain <| kmv rfl <| gmv rfl rfl rfl <| K.not rfl rfl (.taken rfl rfl) ?_; refine gmv rfl rfl rfl <| RunK.passed rfl rfl rfl <| RunK.passed rfl rfl rfl <| K.pickF rfl rfl (.taken rfl rfl) ?_; refine kpf rfl rfl <| kmv rfl <| gmv rfl rfl rfl <| K.lenX rfl SliceT.h rfl (.taken rfl rfl) ?_; refine gmv rfl rfl rfl <| K.lenX rfl SliceT.h rfl (.taken rfl rfl) ?_; refine K.neq rfl rfl (bne_eq_false_iff_eq.2 rfl) (.taken rfl rfl) ?_; refine kpf rfl rfl <| RunK.nil <| LWP.condF rfl ?_; refine LWP.skip ?_)
      exact ⟨_, Le.of (by exact ⟨rfl, rfl, trivial⟩) (by exact trivial) (by exact rfl) (by exact rfl) (by exact rfl), rfl⟩
    · (refine LWP.region (by kernel_rfl) <| kmv rfl <| kmv rfl <| keq rfl rfl (r := false) rfl <| K.neqB rfl rfl (r := false) rfl .plain <| kmv rfl <| gmv rfl rfl rfl <| K.not rfl rfl (.taken rfl rfl) ?_; refine gmv rfl rfl rfl <| gmv rfl rfl rfl <| K.neq rfl rfl (r := false) rfl (.taken rfl rfl) ?_; refine K.pickT rfl rfl (.taken rfl rfl) ?_; refine kpf rfl rfl <| kmv rfl <| gmv rfl rfl rfl <| K.lenX rfl SliceT.h rfl (.taken rfl rfl) ?_; refine gmv rfl rfl rfl <| K.lenX rfl SliceT.h rfl (.taken rfl rfl) ?_; refine K.neq rfl rfl (bne_eq_false_iff_eq.2 rfl) (.taken rfl rfl) ?_; refine kpf rfl rfl <| RunK.nil <| LWP.condF rfl ?_; refine LWP.skip ?_)
      exact ⟨_, Le.of (by exact ⟨rfl, rfl, trivial⟩) (by exact trivial) (by exact rfl) (by exact rfl) (by exact rfl), rfl⟩
  rintro σ rfl
  (refine LWP.seq <| LWP.region (by kernel_rfl) <| kmv rfl <| K.callMp [(1000001, 500)] (.sv (.one (.slc 500 0 ls.length 6))) [(500, some ⟨54, (inssV ls).map .val, true⟩)] (hF2) rfl rfl (by exact trivial) rfl rfl rfl rfl rfl (by exact (.box rfl (Box.ren_vals _ _ _ _) .nil)) .plain <| kas rfl <| RunK.nil <| LWP.seq <| LWP.seq <| LWP.region (by kernel_rfl) <| kas rfl <| RunK.nil <| LWP.block ?_)
  refine LWP.le (σ' := ⟨[(13, .sv (.one (.slc 500 0 ls.length 6))), (11, Lx ud ls.length uc), (14, Ln .i64 (0 : Nat))], [(500, some ⟨54, (inssV ls).map .val, true⟩)], Z⟩) (Le.of (by exact ⟨rfl, rfl, rfl, trivial⟩) (by exact ⟨rfl, trivial⟩) (by exact rfl) (by exact rfl) (by repeat' (first | refine all_cons_true ?_ ?_ | rfl | exact bytes_inUse | exact vals_inUse | exact mid_inUse rfl))) ?_
  refine LWP.freeze rfl rfl rfl ?_
  intro b1 c1 a1 f1 hn _ _ _ hsp
  have hM : InsIn (withBlock Z b1 (.cells a1 54 f1)) (some ⟨b1, 0, none⟩) ls := ins_in (withBlock_at _ _ _) hL.small hsp
  replace hU := hU.mono (withBlock_old (o := .cells a1 54 f1) hn)
  generalize withBlock Z b1 (.cells a1 54 f1) = V at *
  refine LWP.loop (fun m σ => ∃ i : Nat, i ≤ ls.length ∧ m = ls.length - i ∧ σ = ⟨[(11, Lx ud ls.length uc), (13, Lx (some ⟨b1, 0, none⟩) ls.length c1), (14, Ln .i64 (i : Nat))], [], V⟩) ls.length
    ⟨⟨[(11, Lx ud ls.length uc), (13, Lx (some ⟨b1, 0, none⟩) ls.length c1), (14, Ln .i64 (0 : Nat))], [], V⟩, Le.of (by exact ⟨rfl, rfl, rfl, trivial⟩) (by exact trivial) (by exact rfl) (by exact rfl) (by exact rfl), 0, by omega, rfl, rfl⟩ ?_
  rintro m σ ⟨i, hi, rfl, rfl⟩
  by_cases hlt : i < ls.length
  case neg =>
    (refine LWP.seq <| LWP.seq <| LWP.region (by kernel_rfl) <| kmv rfl <| kmv rfl <| K.lenX rfl SliceT.h rfl .plain ?_; refine klt rfl rfl (decide_eq_false (by omega)) <| RunK.nil <| LWP.condF rfl ?_; refine LWP.exit <| LWP.seq <| LWP.region (by kernel_rfl) <| kas rfl <| RunK.nil <| LWP.ret ?_)
    exact ⟨[_], ⟨rfl, trivial⟩, rfl⟩
  obtain ⟨x, hx⟩ : ∃ x, ls[i]? = some x := ⟨_, List.getElem?_eq_getElem hlt⟩
  obtain ⟨blk, off, arr, el, fr, hb1, hX, hsz, hcs, _⟩ := hM.at hx
  simp only [Option.some.injEq, Addr.mk.injEq] at hb1
  obtain ⟨rfl, rfl, _⟩ := hb1
  obtain ⟨ublk, uoff, uarr, uel, ufr, rfl, huX, husz, hucs, _⟩ := hU.at hx
  have hio : 0 + Int.toNat (i : Int) * 6 = 0 + i * 6 := by simp
  have hiu : uoff + Int.toNat (i : Int) * 6 = uoff + i * 6 := by simp
  have hadd : IntKind.i64.wrap ((i : Int) + 1) = ((i + 1 : Nat) : Int) := by rw [wrap_i64 (by omega)]; omega
  have qx := eqT_retrofitref11 (o := x.op) (o' := x.op) (a := x.a) (a' := x.a) (b := x.b) (b' := x.b) (s := x.k.1) (s' := x.k.1) (h := x.k.2 / 18446744073709551616) (h' := x.k.2 / 18446744073709551616) (l := x.k.2 % 18446744073709551616) (l' := x.k.2 % 18446744073709551616) true (by simp)
  (refine LWP.seq <| LWP.seq <| LWP.region (by kernel_rfl) <| kmv rfl <| kmv rfl <| K.lenX rfl SliceT.h rfl .plain ?_; refine klt rfl rfl (decide_eq_true (by omega)) <| RunK.nil <| LWP.condT rfl ?_; refine LWP.skip ?_; refine LWP.seq <| LWP.block <| LWP.seq <| LWP.draws mixed (by kernel_rfl) <| kmv rfl <| kmv rfl <| K.indexX rfl rfl SliceT.h (by omega) hio .plain <| K.loadXagg rfl hX (by kernel_rfl) hsz hcs .plain <| kmv rfl <| kmv rfl <| K.indexX rfl rfl SliceT.h (by omega) hiu .plain <| K.loadXagg rfl huX (by kernel_rfl) husz hucs .plain <| K.aggEq (c := false) rfl rfl rfl rfl (by kernel_rfl) qx (.inr ⟨rfl, rfl⟩) .plain <| RunK.nil ?_; refine And.intro (by kernel_rfl) ?_; refine LWP.condF rfl ?_; refine LWP.skip ?_; refine LWP.region (by kernel_rfl) <| kmv rfl <| kad rfl rfl hadd <| kas rfl <| RunK.nil ?_)
  exact ⟨_, ⟨[(11, Lx (some ⟨ublk, uoff, none⟩) ls.length uc), (13, Lx (some ⟨b1, 0, none⟩) ls.length c1), (14, Ln .i64 (i + 1 : Nat))], [], V⟩, by omega, Le.of (by exact ⟨rfl, rfl, rfl, trivial⟩) (by exact trivial) (by exact rfl) (by exact rfl) (by exact rfl), i + 1, by omega, rfl, rfl⟩
end Go.Proofs.YtimpjdbhalnofaaGreatDoor
end
section
namespace Go.Proofs.YtimpjdbhalnofaaGreatDoor
open Go Go.Lg Go.RowKit Go.ChangeShapes Go.WideShapes Go.Joins
set_option maxRecDepth 100000
theorem tab_of_laid11 {W : World} (h : laidMetH Tryz.prog [("math/bits.deBruijn32tab", Rows.laid_math_bits_deBruijn32tab), ("math/bits.deBruijn64tab", Rows.laid_math_bits_deBruijn64tab), ("internal/strconv.uint64pow10", Rows.laid_internal_strconv_uint64pow10)] W) : Lib.TabIs Tryz.prog W "internal/strconv.uint64pow10" .u64 Lib.pow10Tab := by
  rw [MakeChecks.laidMetH_plain _ _ _ (by kernel_rfl)] at h
  have h3 : laidMet Tryz.prog (("internal/strconv.uint64pow10", Lib.tabData .u64 Lib.pow10Tab) :: []) W := (h.tail).tail
  exact Lib.tabIs_of_head (g := 2) (t := 195) (e := 28) (n := 20) (by kernel_rfl) (by kernel_rfl) (by kernel_rfl) (by kernel_rfl) (by kernel_rfl) (by kernel_rfl) h3
theorem xtab11 {W : World} (h : Lib.TabIs Tryz.prog W "internal/strconv.uint64pow10" .u64 Lib.pow10Tab) : XTab (fun b => W.heap[b]?) := by
  intro w hX
  unfold Lib.TabIs World.var? at h ⊢
  have hg : Tryz.prog.globalNamed "internal/strconv.uint64pow10" = some 2 := by kernel_rfl
  rw [hg] at h ⊢
  simp only [Option.bind_some] at h ⊢
  cases e : W.heap[2]? with
  | none => rw [e] at h; cases h
  | some o => rw [hX _ _ e]; rw [e] at h; exact h
end Go.Proofs.YtimpjdbhalnofaaGreatDoor
end
