/- A piece of a proof over this program: contracts of its functions, and a logic to prove them by. -/
import Derived.Test.YtopiioklkkiedaaGreatDoorQ3
import Derived.Test.YtopiioklkkiedaaGreatDoorQ4
import Derived.Test.YtopiioklkkiedaaGreatDoorQ5
import Derived.Test.YtopiioklkkiedaaGreatDoorQ6
import Derived.Test.YtopiioklkkiedaaGreatDoorQ7
section
namespace Go.Proofs.YtopiioklkkiedaaGreatDoor
open Go Go.Lg Go.Lg.Fml Go.Lg.Fld Go.Lg.Arith
set_option maxRecDepth 100000
def ckV (a b : List Fl) (r : Rl) (ns : List Nm) : Int := if fitErr a ns = 0 then (if layErr b = 0 then (if r.old = 0 then 7 else ruE a b r) else layErr b) else fitErr a ns
theorem valE_no {a b : List Fl} {r : Rl} {ns : List Nm} (h : ckV a b r ns ≠ 0) : valE a b r ns = ckV a b r ns := by
  unfold valE
  unfold ckV at h ⊢
  by_cases z1 : fitErr a ns = 0
  · rw [if_pos z1] at h ⊢
    rw [if_pos z1]
    by_cases z2 : layErr b = 0
    · rw [if_pos z2] at h ⊢
      rw [if_pos z2]
      by_cases z3 : r.old = 0
      · rw [if_pos z3, if_pos z3]
      · rw [if_neg z3] at h ⊢
        rw [if_neg z3, if_neg h]
    · rw [if_neg z2, if_neg z2]
  · rw [if_neg z1, if_neg z1]
theorem valE_go {a b : List Fl} {r : Rl} {ns : List Nm} (h : ckV a b r ns = 0) : fitErr a ns = 0 ∧ layErr b = 0 ∧ r.old ≠ 0 ∧ ruE a b r = 0 ∧ valE a b r ns = seqE (stepE (cutN a ns)) (stepsN b r.ex) := by
  unfold valE
  unfold ckV at h
  by_cases z1 : fitErr a ns = 0
  · rw [if_pos z1] at h ⊢
    by_cases z2 : layErr b = 0
    · rw [if_pos z2] at h ⊢
      by_cases z3 : r.old = 0
      · rw [if_pos z3] at h; cases h
      · rw [if_neg z3] at h ⊢
        exact ⟨z1, z2, z3, h, if_pos h⟩
    · rw [if_neg z2] at h; exact absurd h z2
  · rw [if_neg z1] at h; exact absurd h z1
def elX (k : Int) (c : List Ins) (G : List (List Nm)) (at_ : Int) : Except Int Nm := match evX c G at_ with | .error e => .error e | .ok v => if fitB k v.1 v.2 = true then .ok v else .error 3
theorem elX_err {f : Fl} {c : List Ins} {G : List (List Nm)} {k : Nat} {e : Int} (h : elX f.kind c G k = .error e) : e ≠ 0 ∧ stepE G (f, c, k) = e := by
  unfold elX at h
  unfold stepE
  show _ ∧ (if erV (evX c G (k : Nat)) = 0 then (if fitB f.kind (okV (evX c G (k : Nat))).1 (okV (evX c G (k : Nat))).2 = true then 0 else 3) else erV (evX c G (k : Nat))) = e
  cases hev : evX c G (k : Nat) with
  | error e' =>
    rw [hev] at h
    cases h
    have hne := evX_err hev
    exact ⟨hne, if_neg hne⟩
  | ok v =>
    rw [hev] at h
    simp only at h
    cases hq : fitB f.kind v.1 v.2 with
    | true => rw [if_pos hq] at h; cases h
    | false =>
      rw [if_neg (by rw [hq]; decide)] at h
      cases h
      refine ⟨by decide, ?_⟩
      rw [show erV (Except.ok v : Except Int Nm) = 0 from rfl, if_pos rfl, show okV (Except.ok v : Except Int Nm) = v from rfl, hq]
      rfl
theorem elX_ok {f : Fl} {c : List Ins} {G : List (List Nm)} {k : Nat} {v : Nm} (h : elX f.kind c G k = .ok v) : stepE G (f, c, k) = 0 ∧ stepV G (f, c, k) = v := by
  unfold elX at h
  unfold stepE stepV
  show (if erV (evX c G (k : Nat)) = 0 then (if fitB f.kind (okV (evX c G (k : Nat))).1 (okV (evX c G (k : Nat))).2 = true then 0 else 3) else erV (evX c G (k : Nat))) = 0 ∧ okV (evX c G (k : Nat)) = v
  cases hev : evX c G (k : Nat) with
  | error e' => rw [hev] at h; cases h
  | ok w =>
    rw [hev] at h
    simp only at h
    cases hq : fitB f.kind w.1 w.2 with
    | false => rw [if_neg (by rw [hq]; decide)] at h; cases h
    | true =>
      rw [if_pos hq] at h
      cases h
      rw [show erV (Except.ok v : Except Int Nm) = 0 from rfl, if_pos rfl, show okV (Except.ok v : Except Int Nm) = v from rfl, hq]
      exact ⟨rfl, rfl⟩
end Go.Proofs.YtopiioklkkiedaaGreatDoor
end
section
namespace Go.Proofs.YtopiioklkkiedaaGreatDoor
open Go Go.Lg Go.Lg.Fml Go.Lg.Fld Go.Lg.Arith
set_option maxRecDepth 100000
variable (X : Nat → Option Obj)
theorem eCheck (a b : Cp) (r : Rl) (ns : List Nm) (aad bad ead vad : Option Addr) (acap bcap ecap vcap : Nat) (hA : FieldsIn X aad a.fs) (hB : FieldsIn X bad b.fs) (hE : CodesIn X ead r.ex) (hN : NumsIn X vad ns) (hal : a.fs.length < 4611686018427387904) (hbl : b.fs.length < 4611686018427387904) (hcl : ∀ c ∈ r.ex, c.length < 1152921504606846976) :
    PSpec Tryz.prog X 32 [Cx a aad acap, Cx b bad bcap, LPg r.nw r.old ead r.ex.length ecap, Lx vad ns.length vcap] (Ln .i64 (ckV a.fs b.fs r ns)) := by
  have hF := lFit_any X aad vad acap vcap a.fs ns hA hal hN
  have hL := Check_spec X bad bcap b.fs hB hbl
  have hR := cRule X a b r aad bad ead acap bcap ecap hA hB hE hal hbl hcl
  refine PSpec.intro Tryz.func32 rfl (by kernel_rfl) rfl rfl ?_
  intro C
  unfold ckV
  by_cases z1 : fitErr a.fs ns = 0
  case neg =>
    rw [if_neg z1]
    generalize fitErr a.fs ns = e at *
    (refine LWP.seq <| rgN <| K.box rfl rfl rfl .plain <| K.box rfl rfl rfl .plain <| K.box rfl rfl rfl .plain <| kas rfl <| RunK.nil <| LWP.seq <| LWP.seq <| rgN <| kfa rfl rfl ?_; refine kl1 rfl rfl rfl <| kmv rfl <| kca rfl rfl hF <| kas rfl <| RunK.nil <| LWP.seq <| rgN <| kmv rfl <| kne rfl rfl (r := true) (bne_iff_ne.2 z1) <| RunK.nil <| LWP.condT rfl ?_; refine LWP.seq <| rgN <| kmv rfl <| kas rfl <| RunK.nil <| LWP.ret ?_)
    exact ⟨[_], ⟨rfl, trivial⟩, rfl⟩
  rw [if_pos z1]
  rw [z1] at hF
  by_cases z2 : layErr b.fs = 0
  case neg =>
    rw [if_neg z2]
    generalize layErr b.fs = e at *
    (refine LWP.seq <| rgN <| K.box rfl rfl rfl .plain <| K.box rfl rfl rfl .plain <| K.box rfl rfl rfl .plain <| kas rfl <| RunK.nil <| LWP.seq <| LWP.seq <| rgN <| kfa rfl rfl ?_; refine kl1 rfl rfl rfl <| kmv rfl <| kca rfl rfl hF <| kas rfl <| RunK.nil <| LWP.seq <| rgN <| kmv rfl <| kne rfl rfl (r := false) rfl <| RunK.nil <| LWP.condF rfl ?_; refine LWP.skip ?_; refine LWP.seq <| LWP.seq <| rgN <| kfa rfl rfl ?_; refine kl1 rfl rfl rfl <| kca rfl rfl hL <| kas rfl <| RunK.nil <| LWP.seq <| rgN <| kmv rfl <| kne rfl rfl (r := true) (bne_iff_ne.2 z2) <| RunK.nil <| LWP.condT rfl ?_; refine LWP.seq <| rgN <| kmv rfl <| kas rfl <| RunK.nil <| LWP.ret ?_)
    exact ⟨[_], ⟨rfl, trivial⟩, rfl⟩
  rw [if_pos z2]
  rw [z2] at hL
  by_cases z3 : r.old = 0
  · rw [if_pos z3]
    (refine LWP.seq <| rgN <| K.box rfl rfl rfl .plain <| K.box rfl rfl rfl .plain <| K.box rfl rfl rfl .plain <| kas rfl <| RunK.nil <| LWP.seq <| LWP.seq <| rgN <| kfa rfl rfl ?_; refine kl1 rfl rfl rfl <| kmv rfl <| kca rfl rfl hF <| kas rfl <| RunK.nil <| LWP.seq <| rgN <| kmv rfl <| kne rfl rfl (r := false) rfl <| RunK.nil <| LWP.condF rfl ?_; refine LWP.skip ?_; refine LWP.seq <| LWP.seq <| rgN <| kfa rfl rfl ?_; refine kl1 rfl rfl rfl <| kca rfl rfl hL <| kas rfl <| RunK.nil <| LWP.seq <| rgN <| kmv rfl <| kne rfl rfl (r := false) rfl <| RunK.nil <| LWP.condF rfl ?_; refine LWP.skip ?_; refine LWP.seq <| LWP.seq <| rgN <| kfa rfl rfl ?_; refine kl1 rfl rfl rfl <| keq rfl rfl (r := true) (beq_iff_eq.2 z3) <| RunK.nil <| LWP.condT rfl ?_; refine LWP.seq <| rgN <| kas rfl <| RunK.nil <| LWP.ret ?_)
    exact ⟨[_], ⟨rfl, trivial⟩, rfl⟩
  rw [if_neg z3]
  generalize ruE a.fs b.fs r = e at *
  (refine LWP.seq <| rgN <| K.box rfl rfl rfl .plain <| K.box rfl rfl rfl .plain <| K.box rfl rfl rfl .plain <| kas rfl <| RunK.nil <| LWP.seq <| LWP.seq <| rgN <| kfa rfl rfl ?_; refine kl1 rfl rfl rfl <| kmv rfl <| kca rfl rfl hF <| kas rfl <| RunK.nil <| LWP.seq <| rgN <| kmv rfl <| kne rfl rfl (r := false) rfl <| RunK.nil <| LWP.condF rfl ?_; refine LWP.skip ?_; refine LWP.seq <| LWP.seq <| rgN <| kfa rfl rfl ?_; refine kl1 rfl rfl rfl <| kca rfl rfl hL <| kas rfl <| RunK.nil <| LWP.seq <| rgN <| kmv rfl <| kne rfl rfl (r := false) rfl <| RunK.nil <| LWP.condF rfl ?_; refine LWP.skip ?_; refine LWP.seq <| LWP.seq <| rgN <| kfa rfl rfl ?_; refine kl1 rfl rfl rfl <| keq rfl rfl (r := false) (beq_eq_false_iff_ne.2 z3) <| RunK.nil <| LWP.condF rfl ?_; refine LWP.skip ?_; refine LWP.seq <| rgN <| K.loadAll rfl rfl rfl .plain ?_; refine K.loadAll rfl rfl rfl .plain ?_; refine K.loadAll rfl rfl rfl .plain ?_; refine kca rfl rfl hR <| kas rfl <| RunK.nil <| LWP.ret ?_)
  exact ⟨[_], ⟨rfl, trivial⟩, rfl⟩
theorem eElem (f : Fl) (c : List Ins) (G : List (List Nm)) (cad fad : Option Addr) (ccap fc : Nat) (at_ : Int) (hI : InsIn X cad c) (hc : c.length < 1152921504606846976) (hG : FssIn X fad G) (hGl : G.length < 4611686018427387904) (hrl : ∀ r ∈ G, r.length < 4611686018427387904) (hf2 : ∀ r ∈ G, ∀ u ∈ r, In2 u.2) (hat : -9223372036854775808 ≤ at_ ∧ at_ < 9223372036854775808) :
    PSpec Tryz.prog X 35 [Fx f, Lx cad c.length ccap, LEnv fad G.length fc at_] (exR (elX f.kind c G at_)) := by
  have hE := gEval X c cad ccap hI hc fad fc G hG hGl hrl hf2 at_ hat
  refine PSpec.intro Tryz.func35 rfl (by kernel_rfl) rfl (exR_closed _) ?_
  intro C
  cases hev : evX c G at_ with
  | error e =>
    have hne := evX_err hev
    rw [show elX f.kind c G at_ = .error e by unfold elX; rw [hev]]
    rw [hev] at hE
    (refine LWP.seq <| rgN <| K.box rfl rfl rfl .plain <| K.box rfl rfl rfl .plain <| K.alloc rfl .plain ?_; refine kas rfl <| RunK.nil <| LWP.seq <| rgN <| kmv rfl <| K.loadAll rfl rfl rfl .plain ?_; refine kca rfl rfl hE <| kmv rfl <| kex rfl rfl <| kex rfl rfl <| K.alloc rfl .plain ?_; refine K.storeAll rfl rfl rfl rfl rfl rfl .plain ?_; refine kas rfl <| RunK.nil <| LWP.seq <| LWP.block <| LWP.seq <| rgN <| kmv rfl <| kne rfl rfl (r := true) (bne_iff_ne.2 hne) <| kas rfl <| RunK.nil <| LWP.condT rfl ?_; refine LWP.seq <| rgN <| K.build rfl rfl (by exact rfl) (by exact nl3 rfl rfl rfl rfl) .plain ?_; refine kmv rfl <| K.storeAll rfl rfl rfl rfl rfl rfl .plain ?_; refine kas rfl <| RunK.nil <| LWP.ret ?_)
    exact ⟨[_, _], ⟨⟨_, _, rfl, rfl, rfl, .inl ⟨AggT.h, rfl⟩⟩, rfl, trivial⟩, rfl⟩
  | ok v =>
  have hv2 : In2 v.2 := evX_two (fun x hx => (hI.small x hx).2.2.2) hf2 hat.2 hev
  rw [hev] at hE
  cases hq : fitB f.kind v.1 v.2 with
  | false =>
    have hFt := Fits_spec X f.kind v.1 v.2 hv2 false hq
    rw [show elX f.kind c G at_ = .error 3 by unfold elX; rw [hev]; exact if_neg (by rw [hq]; decide)]
    (refine LWP.seq <| rgN <| K.box rfl rfl rfl .plain <| K.box rfl rfl rfl .plain <| K.alloc rfl .plain ?_; refine kas rfl <| RunK.nil <| LWP.seq <| rgN <| kmv rfl <| K.loadAll rfl rfl rfl .plain ?_; refine kca rfl rfl hE <| kmv rfl <| kex rfl rfl <| kex rfl rfl <| K.alloc rfl .plain ?_; refine K.storeAll rfl rfl rfl rfl rfl rfl .plain ?_; refine kas rfl <| RunK.nil <| LWP.seq <| LWP.block <| LWP.seq <| rgN <| kmv rfl <| kne rfl rfl (r := false) rfl <| kas rfl <| RunK.nil <| LWP.condF rfl ?_; refine LWP.seq <| rgN <| kfa rfl rfl ?_; refine kl1 rfl rfl rfl <| K.loadAll rfl rfl rfl .plain ?_; refine kca rfl rfl hFt <| K.not rfl rfl .plain <| kas rfl <| RunK.nil <| LWP.condT rfl ?_; refine LWP.seq <| rgN <| K.build rfl rfl (by exact rfl) (by exact nl3 rfl rfl rfl rfl) .plain ?_; refine K.storeAll rfl rfl rfl rfl rfl rfl .plain ?_; refine kas rfl <| RunK.nil <| LWP.ret ?_)
    exact ⟨[_, _], ⟨⟨_, _, rfl, rfl, rfl, .inl ⟨AggT.h, rfl⟩⟩, rfl, trivial⟩, rfl⟩
  | true =>
    have hFt := Fits_spec X f.kind v.1 v.2 hv2 true hq
    rw [show elX f.kind c G at_ = .ok v by unfold elX; rw [hev]; exact if_pos hq]
    (refine LWP.seq <| rgN <| K.box rfl rfl rfl .plain <| K.box rfl rfl rfl .plain <| K.alloc rfl .plain ?_; refine kas rfl <| RunK.nil <| LWP.seq <| rgN <| kmv rfl <| K.loadAll rfl rfl rfl .plain ?_; refine kca rfl rfl hE <| kmv rfl <| kex rfl rfl <| kex rfl rfl <| K.alloc rfl .plain ?_; refine K.storeAll rfl rfl rfl rfl rfl rfl .plain ?_; refine kas rfl <| RunK.nil <| LWP.seq <| LWP.block <| LWP.seq <| rgN <| kmv rfl <| kne rfl rfl (r := false) rfl <| kas rfl <| RunK.nil <| LWP.condF rfl ?_; refine LWP.seq <| rgN <| kfa rfl rfl ?_; refine kl1 rfl rfl rfl <| K.loadAll rfl rfl rfl .plain ?_; refine kca rfl rfl hFt <| K.not rfl rfl .plain <| kas rfl <| RunK.nil <| LWP.condF rfl ?_; refine LWP.skip ?_; refine LWP.seq <| rgN <| K.loadAll rfl rfl rfl .plain ?_; refine K.storeAll rfl rfl rfl rfl rfl rfl .plain ?_; refine kas rfl <| RunK.nil <| LWP.ret ?_)
    exact ⟨[_, _], ⟨⟨_, _, rfl, rfl, rfl, .inl ⟨AggT.h, rfl⟩⟩, rfl, trivial⟩, rfl⟩
theorem sigN_one {rs : List Rl} {i : Nat} {r : Rl} (hr : rs[i]? = some r) (s : Nat) : sigN (rs.take (i + 1)) s = if Sg.hasB s r.old = true then Sg.withN (sigN (rs.take i) s) r.nw else sigN (rs.take i) s := by
  unfold sigN
  rw [take_snoc hr, List.foldl_append]
  rfl
theorem eSig' (va vb : Int) (rs : List Rl) (ad : Option Addr) (cap s : Nat) (hp : RulesIn X ad rs) (hl : rs.length < 4611686018427387904) (hs : s < 4294967296) :
    PSpec Tryz.prog X 20 [LPg va vb ad rs.length cap, Ln .u32 (s : Nat)] (Ln .u32 (sigN rs s : Nat)) := by
  refine PSpec.intro Tryz.func20 rfl (by kernel_rfl) rfl rfl ?_
  intro C
  (refine LWP.seq <| rgN <| K.box rfl rfl rfl .plain <| kas rfl <| RunK.nil <| LWP.seq <| rgN <| kas rfl <| RunK.nil <| LWP.seq <| LWP.seq <| rgN <| kfa rfl rfl ?_; refine kl1 rfl rfl rfl <| K.lenX rfl SliceT.h rfl .plain ?_; refine kmv rfl <| RunK.nil <| LWP.block ?_)
  refine LWP.loop (fun m σ => ∃ i : Nat, i ≤ rs.length ∧ m = rs.length - i ∧ σ = ⟨[(1, Ln .u32 (s : Nat)), (5, Ln .u32 (sigN (rs.take i) s : Nat)), (9, Lx ad rs.length cap), (10, Ln .i64 (rs.length : Nat)), (11, Ln .i64 (i : Nat))], [], X⟩) rs.length
    ⟨⟨[(1, Ln .u32 (s : Nat)), (5, Ln .u32 (0 : Nat)), (9, Lx ad rs.length cap), (10, Ln .i64 (rs.length : Nat)), (11, Ln .i64 (0 : Nat))], [], X⟩, Le.of (by exact ⟨rfl, rfl, rfl, rfl, rfl, trivial⟩) (by exact trivial) (by exact rfl) (by exact rfl) (by repeat' (first | refine all_cons_true ?_ ?_ | rfl | exact bytes_inUse | exact vals_inUse | exact mid_inUse rfl)), 0, by omega, by omega, rfl⟩ ?_
  rintro m σ ⟨i, hi, rfl, rfl⟩
  by_cases hlt : i < rs.length
  case neg =>
    have e : i = rs.length := by omega
    subst e
    rw [List.take_length]
    (refine LWP.seq <| rgN <| klt rfl rfl (decide_eq_false (by omega)) <| RunK.nil <| LWP.seq <| LWP.condF rfl ?_; refine LWP.exit <| LWP.seq <| rgN <| kmv rfl <| kas rfl <| RunK.nil <| LWP.ret ?_)
    exact ⟨[_], ⟨rfl, trivial⟩, rfl⟩
  obtain ⟨r, hr⟩ : ∃ r, rs[i]? = some r := ⟨_, List.getElem?_eq_getElem hlt⟩
  obtain ⟨blk, off, arr, el, fr, ead, ecap, rfl, hX, hsz, hcs, _, _, _, _⟩ := hp.get hr
  have hio : off + Int.toNat (i : Int) * 3 = off + i * 3 := by simp
  have hadd : IntKind.i64.wrap (((i : Nat) : Int) + 1) = ((i + 1 : Nat) : Int) := by rw [wrap_i64 (by omega)]; omega
  have hn := sigN_one hr s
  have hlt0 := sigN_lt (rs.take i) s
  generalize sigN (rs.take i) s = o at *
  have hst2 : ∀ q : Nat, sigN (rs.take (i + 1)) s = q → (⟨[(1, Ln .u32 (s : Nat)), (5, Ln .u32 (q : Nat)), (9, Lx (some ⟨blk, off, none⟩) rs.length cap), (10, Ln .i64 (rs.length : Nat)), (11, Ln .i64 (i + 1 : Nat))], [], X⟩ : St) = ⟨[(1, Ln .u32 (s : Nat)), (5, Ln .u32 (sigN (rs.take (i + 1)) s : Nat)), (9, Lx (some ⟨blk, off, none⟩) rs.length cap), (10, Ln .i64 (rs.length : Nat)), (11, Ln .i64 (i + 1 : Nat))], [], X⟩ := fun q h => by rw [h]
  have hH := gHas X s hs r.old
  cases h1 : Sg.hasB s r.old with
  | false =>
    rw [h1] at hH hn
    rw [if_neg (by decide)] at hn
    (refine LWP.seq <| rgN <| klt rfl rfl (decide_eq_true (by omega)) <| RunK.nil <| LWP.seq <| LWP.condT rfl ?_; refine LWP.skip ?_; refine LWP.seq <| LWP.block <| LWP.seq <| rgN <| K.indexX rfl rfl SliceT.h (by omega) hio .plain <| K.loadXagg rfl hX (by kernel_rfl) hsz hcs .plain <| K.alloc rfl .plain ?_; refine K.storeAll rfl rfl rfl rfl rfl rfl .plain ?_; refine RunK.nil <| LWP.seq <| rgN <| kmv rfl <| kfa rfl rfl ?_; refine kl1 rfl rfl rfl <| kca rfl rfl hH <| RunK.nil <| LWP.condF rfl ?_; refine LWP.skip ?_; refine rgN <| kad rfl rfl hadd <| kmv rfl <| RunK.nil ?_)
    exact ⟨_, _, by omega, Le.of (by exact ⟨rfl, rfl, rfl, rfl, rfl, trivial⟩) (by exact trivial) (by exact rfl) (by exact rfl) (by repeat' (first | refine all_cons_true ?_ ?_ | rfl | exact bytes_inUse | exact vals_inUse | exact mid_inUse rfl)), i + 1, by omega, rfl, hst2 _ hn⟩
  | true =>
    rw [h1] at hH hn
    rw [if_pos rfl] at hn
    have hW := gWith X o (by omega) r.nw
    generalize Sg.withN o r.nw = q at *
    (refine LWP.seq <| rgN <| klt rfl rfl (decide_eq_true (by omega)) <| RunK.nil <| LWP.seq <| LWP.condT rfl ?_; refine LWP.skip ?_; refine LWP.seq <| LWP.block <| LWP.seq <| rgN <| K.indexX rfl rfl SliceT.h (by omega) hio .plain <| K.loadXagg rfl hX (by kernel_rfl) hsz hcs .plain <| K.alloc rfl .plain ?_; refine K.storeAll rfl rfl rfl rfl rfl rfl .plain ?_; refine RunK.nil <| LWP.seq <| rgN <| kmv rfl <| kfa rfl rfl ?_; refine kl1 rfl rfl rfl <| kca rfl rfl hH <| RunK.nil <| LWP.condT rfl ?_; refine rgN <| kmv rfl <| kfa rfl rfl ?_; refine kl1 rfl rfl rfl <| kca rfl rfl hW <| kas rfl <| RunK.nil <| rgN <| kad rfl rfl hadd <| kmv rfl <| RunK.nil ?_)
    exact ⟨_, _, by omega, Le.of (by exact ⟨rfl, rfl, rfl, rfl, rfl, trivial⟩) (by exact trivial) (by exact rfl) (by exact rfl) (by repeat' (first | refine all_cons_true ?_ ?_ | rfl | exact bytes_inUse | exact vals_inUse | exact mid_inUse rfl)), i + 1, by omega, rfl, hst2 _ hn⟩
end Go.Proofs.YtopiioklkkiedaaGreatDoor
end
section
namespace Go.Proofs.YtopiioklkkiedaaGreatDoor
open Go Go.Lg Go.Lg.Fml Go.Lg.Fld Go.Lg.Arith
set_option maxRecDepth 100000
def evR (e : Int) (L : List Nm) : LV := if e = 0 then .tup [.one (.slc 1000001 0 L.length 3), Sn .i64 0] else .tup [Vnil, Sn .i64 e]
def evBx (e : Int) (L : List Nm) : List (Nat × Option Box) := if e = 0 then [nmsB 1000001 L true] else []
theorem startN_nat {fs : List Fl} (h : layErr fs = 0) {i : Nat} (hi : i < fs.length) : startN fs (i : Nat) = sumC (fs.take i) := by
  unfold startN
  rw [if_pos ⟨h, by omega, by omega⟩, Int.toNat_natCast]
variable (X : Nat → Option Obj)
set_option maxHeartbeats 6400000 in
theorem eSplit (a : List Fl) (ns : List Nm) (aad vad : Option Addr) (acap vcap : Nat) (hA : FieldsIn X aad a) (hac : a.length ≤ acap) (hN : NumsIn X vad ns) (hvc : ns.length ≤ vcap) (la : a.length ≤ 12) (ln : ns.length < 4611686018427387904) (z1 : fitErr a ns = 0) :
    MSpec Tryz.prog X 33 [Lx aad a.length acap, Lx vad ns.length vcap] [] (.sv (.one (.slc 1000001 0 a.length 1))) [(1000001, some ⟨28, (subV vad vcap 0 a).map .val, false⟩)] := by
  obtain ⟨z5, hns, _⟩ := fit_all z1
  obtain ⟨_, hoka, _⟩ := layErr_facts z5
  refine MSpec.intro Tryz.func33 rfl (by kernel_rfl) rfl rfl (by exact (by repeat' (first | refine all_cons_true ?_ ?_ | rfl | exact bytes_inUse | exact vals_inUse | exact mid_inUse rfl))) rfl rfl ?_
  intro C
  have hmk : slcBuild Tryz.prog 94 a.length = some (List.replicate a.length (.slice none 0 0), 1, 28) := slcBuild_one (by kernel_rfl) (by kernel_rfl) (by omega)
  (refine LWP.seq <| rgN <| kas rfl <| RunK.nil <| LWP.seq <| rgN <| kmv rfl <| K.lenX rfl SliceT.h rfl .plain ?_; refine K.makeSlc (m := a.length) (bytes := 24) rfl rfl hmk (by kernel_rfl) (by omega) rfl rfl .plain <| kas rfl <| RunK.nil <| LWP.seq <| LWP.seq <| rgN <| kmv rfl <| K.lenX rfl SliceT.h rfl .plain ?_; refine kmv rfl <| RunK.nil <| LWP.block ?_)
  refine LWP.loop (fun m σ => ∃ i : Nat, i ≤ a.length ∧ m = a.length - i ∧ σ = ⟨[(0, Lx aad a.length acap), (1, Lx vad ns.length vcap), (5, .sv (.one (.slc 11 0 a.length 1))), (12, Lx aad a.length acap), (13, Ln .i64 (a.length : Nat)), (14, Ln .i64 (i : Nat))], [(11, some ⟨28, (subV vad vcap 0 (a.take i) ++ List.replicate (a.length - i) (Value.slice none 0 0)).map .val, false⟩)], X⟩) a.length
    ⟨_, Le.of (by exact ⟨rfl, rfl, rfl, rfl, rfl, rfl, trivial⟩) (by exact ⟨rfl, trivial⟩) (by exact rfl) (by exact rfl) (by repeat' (first | refine all_cons_true ?_ ?_ | rfl | exact bytes_inUse | exact vals_inUse | exact mid_inUse rfl)), 0, by omega, by omega, rfl⟩ ?_
  rintro m σ ⟨i, hi, rfl, rfl⟩
  by_cases hlt : i < a.length
  case neg =>
    have e : i = a.length := by omega
    subst e
    rw [List.take_length, Nat.sub_self, show subV vad vcap 0 a ++ List.replicate 0 (Value.slice none 0 0) = subV vad vcap 0 a from List.append_nil _]
    (refine LWP.seq <| rgN <| klt rfl rfl (decide_eq_false (by omega)) <| RunK.nil <| LWP.seq <| LWP.condF rfl ?_; refine LWP.exit <| LWP.seq <| rgN <| kmv rfl <| kas rfl <| RunK.nil <| LWP.ret ?_)
    exact ⟨[(1000001, 11)], ⟨[_], ⟨rfl, trivial⟩, rfl⟩, (by repeat' (first | exact trivial | refine And.intro ⟨_, rfl, ?_⟩ ?_ | refine And.intro ⟨_, rfl⟩ ?_ | rfl | exact Box.ren_bytes _ _ _ _ | exact Box.ren_vals _ _ _ _ | exact Box.ren_mid rfl)), rfl, rfl⟩
  obtain ⟨f, hf⟩ : ∃ f, a[i]? = some f := ⟨_, List.getElem?_eq_getElem hlt⟩
  have hSt := Start_spec X aad acap a hac (i : Nat) (by omega) hA (by omega)
  rw [startN_nat z5 hlt] at hSt
  obtain ⟨fb, fo, farr, fel, ffr, rfl, hFX, hFz, hFc, _, _, g2⟩ := hA.cells hf
  have hio : fo + Int.toNat (i : Int) * 3 = fo + i * 3 := by simp
  obtain ⟨hn1, hn8, hnc⟩ := sum_pos hoka hf
  have hst := sum_take hf
  obtain ⟨u, hu⟩ : ∃ u, ns[0]? = some u := ⟨_, List.getElem?_eq_getElem (by omega)⟩
  obtain ⟨vb, vo, varr, vel, vfr, rfl, _⟩ := hN.rows 0 (nmV u) (by rw [List.getElem?_map, hu]; rfl)
  have hadd1 : IntKind.i64.wrap (((sumC (a.take i) : Nat) : Int) + f.count) = ((sumC (a.take i) + f.n : Nat) : Int) := by rw [wrap_i64 (by omega)]; omega
  have hadd : IntKind.i64.wrap (((i : Nat) : Int) + 1) = ((i + 1 : Nat) : Int) := by rw [wrap_i64 (by omega)]; omega
  have hil : (subV (some ⟨vb, vo, none⟩) vcap 0 (a.take i)).length = i := by rw [subV_len, List.length_take]; omega
  have hix : 0 + Int.toNat (i : Int) * 1 = i := by rw [Int.toNat_natCast]; omega
  have hroom : i + 1 ≤ ((subV (some ⟨vb, vo, none⟩) vcap 0 (a.take i) ++ List.replicate (a.length - i) (Value.slice none 0 0)).map CV.val).length := by rw [List.length_map, List.length_append, hil, List.length_replicate]; omega
  have hspl : splice ((subV (some ⟨vb, vo, none⟩) vcap 0 (a.take i) ++ List.replicate (a.length - i) (Value.slice none 0 0)).map CV.val) i [.val (.slice (some ⟨vb, vo + sumC (a.take i) * 3, none⟩) f.n (vcap - sumC (a.take i)))] = (subV (some ⟨vb, vo, none⟩) vcap 0 (a.take (i + 1)) ++ List.replicate (a.length - (i + 1)) (Value.slice none 0 0)).map CV.val := by
    unfold splice
    rw [show a.length - i = (a.length - (i + 1)) + 1 by omega, List.replicate_succ, take_snoc hf, subV_snoc, Nat.zero_add]
    simp only [List.map_append, List.append_assoc]
    have hml : ((subV (some ⟨vb, vo, none⟩) vcap 0 (a.take i)).map CV.val).length = i := by rw [List.length_map, hil]
    generalize (subV (some ⟨vb, vo, none⟩) vcap 0 (a.take i)).map CV.val = R at *
    rw [← hml, List.take_left, List.drop_length_add_append]
    simp [subA]
  (refine LWP.seq <| rgN <| klt rfl rfl (decide_eq_true (by omega)) <| RunK.nil <| LWP.seq <| LWP.condT rfl ?_; refine LWP.skip ?_; refine LWP.seq <| LWP.block <| LWP.seq <| rgN <| kmv rfl <| K.indexX rfl rfl SliceT.h (by omega) hio .plain <| K.loadXagg rfl hFX (by kernel_rfl) hFz hFc .plain <| K.alloc rfl .plain ?_; refine kas rfl <| K.storeAll rfl rfl rfl rfl rfl rfl .plain ?_; refine RunK.nil <| LWP.seq <| rgN <| kmv rfl <| kmv rfl <| kca rfl rfl hSt <| kas rfl <| RunK.nil <| rgN <| kmv rfl <| kmv rfl <| kmv rfl <| kmv rfl <| kmv rfl ?_; refine kfa rfl rfl ?_; refine kl1 rfl rfl rfl <| kad rfl rfl hadd1 <| K.cut2X (sz := 3) rfl rfl rfl SliceT.h (by omega) (by omega) (.inl (by omega)) hvc rfl (Nat.add_sub_cancel_left ..) rfl .plain ?_; refine K.indexSlc rfl rfl (by omega) hix .plain ?_; refine K.store rfl rfl rfl rfl (by kernel_rfl) hroom hspl .plain <| RunK.nil <| rgN <| kad rfl rfl hadd <| kmv rfl <| RunK.nil ?_)
  exact ⟨_, _, by omega, Le.of (by exact ⟨rfl, rfl, rfl, rfl, rfl, rfl, trivial⟩) (by exact ⟨rfl, trivial⟩) (by exact rfl) (by exact rfl) (by repeat' (first | refine all_cons_true ?_ ?_ | rfl | exact bytes_inUse | exact vals_inUse | exact mid_inUse rfl)), i + 1, by omega, rfl, rfl⟩
end Go.Proofs.YtopiioklkkiedaaGreatDoor
end
section
namespace Go.Proofs.YtopiioklkkiedaaGreatDoor
open Go Go.Lg Go.Lg.Fml Go.Lg.Fld Go.Lg.Arith
set_option maxRecDepth 100000
variable (X : Nat → Option Obj)
set_option maxHeartbeats 25600000 in
theorem eVal' (a b : Cp) (r : Rl) (ns : List Nm) (aad bad ead vad : Option Addr) (acap bcap ecap vcap : Nat) (hA : FieldsIn X aad a.fs) (hac : a.fs.length ≤ acap) (hB : FieldsIn X bad b.fs) (hE : CodesIn X ead r.ex) (hN : NumsIn X vad ns) (hvc : ns.length ≤ vcap) (la : a.fs.length ≤ 12) (lb : b.fs.length ≤ 12) (lr : r.ex.length ≤ 12 ∧ ∀ c ∈ r.ex, c.length ≤ 80) (ln : ns.length < 4611686018427387904) :
    MSpec Tryz.prog X 12 [Cx a aad acap, Cx b bad bcap, LPg r.nw r.old ead r.ex.length ecap, Lx vad ns.length vcap] [] (evR (valE a.fs b.fs r ns) (valN a.fs b.fs r ns)) (evBx (valE a.fs b.fs r ns) (valN a.fs b.fs r ns)) := by
  have hC := eCheck X a b r ns aad bad ead vad acap bcap ecap vcap hA hB hE hN (by omega) (by omega) (fun c hc => by have := lr.2 c hc; omega)
  refine MSpec.intro Tryz.func12 rfl (by kernel_rfl) rfl (by unfold evR evBx; split <;> rfl) (by unfold evBx; split <;> exact (by repeat' (first | refine all_cons_true ?_ ?_ | rfl | exact bytes_inUse | exact vals_inUse | exact mid_inUse rfl))) rfl rfl ?_
  intro C
  by_cases z : ckV a.fs b.fs r ns = 0
  case neg =>
    rw [valE_no z]
    unfold evR evBx
    rw [if_neg z, if_neg z]
    generalize ckV a.fs b.fs r ns = e at *
    (refine LWP.seq <| rgN <| K.box rfl rfl rfl .plain <| K.box rfl rfl rfl .plain <| K.box rfl rfl rfl .plain <| kas rfl <| kas rfl <| RunK.nil <| LWP.seq <| LWP.seq <| rgN <| K.loadAll rfl rfl rfl .plain ?_; refine K.loadAll rfl rfl rfl .plain ?_; refine K.loadAll rfl rfl rfl .plain ?_; refine kmv rfl <| kca rfl rfl hC <| kas rfl <| RunK.nil <| LWP.seq <| rgN <| kmv rfl <| kne rfl rfl (r := true) (bne_iff_ne.2 z) <| RunK.nil <| LWP.condT rfl ?_; refine LWP.seq <| rgN <| kmv rfl <| kas rfl <| kas rfl <| RunK.nil <| LWP.ret ?_)
    exact ⟨[], ⟨[_, _], ⟨rfl, rfl, trivial⟩, rfl⟩, trivial, rfl, rfl⟩
  obtain ⟨z1, z2, z3, z4, z5⟩ := valE_go z
  rw [z] at hC
  rw [z5]
  unfold valN
  have hS := eSplit X a.fs ns aad vad acap vcap hA hac hN hvc la ln z1
  have hEl := Elems_spec X bad bcap b.fs hB (by omega)
  have hel := ruE_len z4 z3
  obtain ⟨z6, hns, _⟩ := fit_all z1
  obtain ⟨_, hoka, _⟩ := layErr_facts z6
  obtain ⟨_, hokb, _⟩ := layErr_facts z2
  have hE96 : elemsN b.fs ≤ 96 := by
    unfold elemsN
    rw [if_pos z2, elems_sum]
    have := sum_le b.fs hokb
    omega
  have hmk : slcBuild Tryz.prog 28 (elemsN b.fs) = some ((List.replicate (elemsN b.fs) [Value.bool false, .int .u64 0, .int .u64 0]).flatten, 3, 86) := slcBuild_many (z := #[.bool false, .int .u64 0, .int .u64 0]) (by kernel_rfl) (by kernel_rfl) rfl (by omega)
  (refine LWP.seq <| rgN <| K.box rfl rfl rfl .plain <| K.box rfl rfl rfl .plain <| K.box rfl rfl rfl .plain <| kas rfl <| kas rfl <| RunK.nil <| LWP.seq <| LWP.seq <| rgN <| K.loadAll rfl rfl rfl .plain ?_; refine K.loadAll rfl rfl rfl .plain ?_; refine K.loadAll rfl rfl rfl .plain ?_; refine kmv rfl <| kca rfl rfl hC <| kas rfl <| RunK.nil <| LWP.seq <| rgN <| kmv rfl <| kne rfl rfl (r := false) rfl <| RunK.nil <| LWP.condF rfl ?_; refine LWP.skip ?_; refine LWP.seq <| rgN <| kfa rfl rfl ?_; refine kl1 rfl rfl rfl <| kmv rfl <| K.callMp [(1000001, 501)] (.sv (.one (.slc 501 0 a.fs.length 1))) [(501, some ⟨28, (subV vad vcap 0 a.fs).map .val, false⟩)] (hS) rfl rfl (by exact trivial) rfl rfl rfl rfl rfl (by exact (.box rfl (Box.ren_vals _ _ _ _) .nil)) .plain <| kas rfl <| RunK.nil <| LWP.seq ?_)
  clear hC hS
  refine LWP.le (σ' := ⟨[(11, .sv (.one (.slc 501 0 a.fs.length 1))), (5, Lp 5), (6, Lp 6)], [(501, some ⟨28, (subV vad vcap 0 a.fs).map .val, false⟩), cpB 5 b bad bcap, v3B 27 6 r.nw r.old ead r.ex.length ecap], X⟩) (Le.of (by exact ⟨rfl, rfl, rfl, trivial⟩) (by exact ⟨rfl, rfl, rfl, trivial⟩) (by exact rfl) (by exact rfl) (by repeat' (first | refine all_cons_true ?_ ?_ | rfl | exact bytes_inUse | exact vals_inUse | exact mid_inUse rfl))) ?_
  refine LWP.freeze rfl rfl rfl fun fb0 fc fa0 ff0 hn0 _ hfc _ hsp => ?_
  have hXY := withBlock_old (o := .cells fa0 28 ff0) hn0
  have hFs := fss_block (withBlock_at X fb0 (.cells fa0 28 ff0)) hsp ⟨hN.rows.mono hXY, hN.in2⟩ hns
  have hf2 : ∀ l ∈ cutN a.fs ns, ∀ u ∈ l, In2 u.2 := fun l hl u hu => hN.in2 u (cut_mem hl u hu)
  have hrl : ∀ l ∈ cutN a.fs ns, l.length < 4611686018427387904 := fun l hl => by
    obtain ⟨i, hi⟩ := List.mem_iff_getElem?.1 hl
    have hil := (List.getElem?_eq_some_iff.1 hi).1
    rw [cutN_len] at hil
    rw [cut_at (List.getElem?_eq_getElem hil)] at hi
    cases hi
    rw [List.length_take, List.length_drop]; omega
  replace hB := hB.mono hXY
  replace hE := hE.mono hXY
  replace hEl := Elems_spec _ bad bcap b.fs hB (by omega)
  have hfl : a.fs.length = (cutN a.fs ns).length := cutN_len.symm
  have hcl12 : (cutN a.fs ns).length ≤ 12 := by rw [cutN_len]; exact la
  clear hA hN hsp hn0 hXY
  generalize withBlock X fb0 (.cells fa0 28 ff0) = Y at *
  generalize (some ⟨fb0, 0, none⟩ : Option Addr) = fad at *
  rw [hfl]
  generalize cutN a.fs ns = G at *
  (refine rgN <| kfa rfl rfl ?_; refine kl1 rfl rfl rfl <| kca rfl rfl hEl <| K.makeSlc0 (m := elemsN b.fs) (bytes := 24) rfl rfl hmk (by kernel_rfl) (by omega) rfl .plain ?_; refine kas rfl <| RunK.nil <| LWP.seq <| LWP.seq <| rgN <| kfa rfl rfl ?_; refine kl1 rfl rfl rfl <| K.lenX rfl SliceT.h rfl .plain ?_; refine kmv rfl <| RunK.nil <| LWP.block ?_)
  clear hEl hmk
  refine LWP.loopL (fun m σ => ∃ (i : Nat) (L : List Nm), i ≤ b.fs.length ∧ m = b.fs.length - i ∧ L = (stepsN (b.fs.take i) (r.ex.take i)).map (stepV G) ∧ seqE (stepE G) (stepsN (b.fs.take i) (r.ex.take i)) = 0 ∧ σ = ⟨[(6, Lp 6), (11, Lx fad G.length fc), (12, .sv (.one (.slc 500 0 L.length 3))), (35, Lx bad b.fs.length bcap), (36, Ln .i64 (b.fs.length : Nat)), (37, Ln .i64 (i : Nat))], [nmsB 500 (L) true, v3B 27 6 r.nw r.old ead r.ex.length ecap], Y⟩) b.fs.length
    (Leads.le (σ' := ⟨[(6, Lp 6), (11, Lx fad G.length fc), (12, .sv (.one (.slc 500 0 0 3))), (35, Lx bad b.fs.length bcap), (36, Ln .i64 (b.fs.length : Nat)), (37, Ln .i64 (0 : Nat))], [nmsB 500 ([]) true, v3B 27 6 r.nw r.old ead r.ex.length ecap], Y⟩) (Le.ofR [(500, 33)] (by exact ⟨rfl, rfl, rfl, rfl, rfl, rfl, trivial⟩) (by repeat' (first | exact trivial | refine And.intro ⟨_, rfl, ?_⟩ ?_ | refine And.intro ⟨_, rfl⟩ ?_ | rfl | exact Box.ren_bytes _ _ _ _ | exact Box.ren_vals _ _ _ _ | exact Box.ren_mid rfl)) (by exact rfl) (by exact rfl) (by repeat' (first | refine all_cons_true ?_ ?_ | rfl | exact bytes_inUse | exact vals_inUse | exact mid_inUse rfl)) (by exact rfl) (by exact rfl)) (Leads.done ⟨0, [], by omega, by omega, rfl, rfl, rfl⟩)) ?_
  rintro m σ ⟨i, L, hi, rfl, hL, hpre, rfl⟩
  by_cases hlt : i < b.fs.length
  case neg =>
    have e : i = b.fs.length := by omega
    subst e
    rw [List.take_length, ← hel, List.take_length] at hL hpre
    rw [hpre]
    unfold evR evBx
    rw [if_pos rfl, if_pos rfl, ← hL]
    (refine LWP.seq <| rgN <| klt rfl rfl (decide_eq_false (by omega)) <| RunK.nil <| LWP.seq <| LWP.condF rfl ?_; refine LWP.exit <| LWP.seq <| rgN <| kmv rfl <| kas rfl <| kas rfl <| RunK.nil <| LWP.ret ?_)
    exact ⟨[(1000001, 500)], ⟨[_, _], ⟨rfl, rfl, trivial⟩, rfl⟩, (by repeat' (first | exact trivial | refine And.intro ⟨_, rfl, ?_⟩ ?_ | refine And.intro ⟨_, rfl⟩ ?_ | rfl | exact Box.ren_bytes _ _ _ _ | exact Box.ren_vals _ _ _ _ | exact Box.ren_mid rfl)), rfl, rfl⟩
  obtain ⟨f, hf⟩ : ∃ f, b.fs[i]? = some f := ⟨_, List.getElem?_eq_getElem hlt⟩
  obtain ⟨c, hc⟩ : ∃ c, r.ex[i]? = some c := ⟨_, List.getElem?_eq_getElem (by omega)⟩
  obtain ⟨fb, fo, farr, fel, ffr, rfl, hFX, hFz, hFc, _, _, _⟩ := hB.cells hf
  obtain ⟨eb, eo, earr, eel, efr, cad, ccap, rfl, hEX, hec, hI⟩ := hE.get hc
  have hio : fo + Int.toNat (i : Int) * 3 = fo + i * 3 := by simp
  have hio1 : eo + Int.toNat (i : Int) * 1 = eo + i * 1 := by simp
  obtain ⟨hn1, hn8, hnc⟩ := sum_pos hokb hf
  have hadd : IntKind.i64.wrap (((i : Nat) : Int) + 1) = ((i + 1 : Nat) : Int) := by rw [wrap_i64 (by omega)]; omega
  have hc80 := lr.2 c (List.mem_of_getElem? hc)
  have hsl : (stepsN (b.fs.take i) (r.ex.take i)).length ≤ 96 := by
    have h1 := steps_len (b := b.fs.take i) (ex := r.ex.take i) (by rw [List.length_take, List.length_take]; omega)
    rw [h1, elems_sum]
    have h2 := sum_le (b.fs.take i) (Fld.take_ok hokb i)
    rw [List.length_take] at h2
    omega
  (refine LWP.seq <| rgN <| klt rfl rfl (decide_eq_true (by omega)) <| RunK.nil <| LWP.seq <| LWP.condT rfl ?_; refine LWP.skip ?_; refine LWP.seq <| LWP.block <| LWP.seq <| rgN <| kmv rfl <| K.indexX rfl rfl SliceT.h (by omega) hio .plain <| K.loadXagg rfl hFX (by kernel_rfl) hFz hFc .plain <| K.alloc rfl .plain ?_; refine kas rfl <| K.storeAll rfl rfl rfl rfl rfl rfl .plain ?_; refine RunK.nil <| LWP.seq <| rgN <| kfa rfl rfl ?_; refine kl1 rfl rfl rfl <| kmv rfl <| RunK.nil <| LWP.block ?_)
  refine LWP.loopL (fun m σ => ∃ (k : Nat) (L : List Nm), k ≤ f.n ∧ m = f.n - k ∧ L = (stepsN (b.fs.take i) (r.ex.take i) ++ fldS f c k).map (stepV G) ∧ seqE (stepE G) (stepsN (b.fs.take i) (r.ex.take i) ++ fldS f c k) = 0 ∧ σ = ⟨[(6, Lp 6), (11, Lx fad G.length fc), (12, .sv (.one (.slc 500 0 L.length 3))), (35, Lx (some ⟨fb, fo, none⟩) b.fs.length bcap), (36, Ln .i64 (b.fs.length : Nat)), (37, Ln .i64 (i : Nat)), (13, Ln .i64 (i : Nat)), (14, Lp 14), (43, Ln .i64 f.count), (44, Ln .i64 (k : Nat))], [nmsB 500 (L) true, v3B 27 6 r.nw r.old (some ⟨eb, eo, none⟩) r.ex.length ecap, flB 14 f], Y⟩) f.n
    (Leads.le (σ' := ⟨[(6, Lp 6), (11, Lx fad G.length fc), (12, .sv (.one (.slc 500 0 L.length 3))), (35, Lx (some ⟨fb, fo, none⟩) b.fs.length bcap), (36, Ln .i64 (b.fs.length : Nat)), (37, Ln .i64 (i : Nat)), (13, Ln .i64 (i : Nat)), (14, Lp 14), (43, Ln .i64 f.count), (44, Ln .i64 (0 : Nat))], [nmsB 500 (L) true, v3B 27 6 r.nw r.old (some ⟨eb, eo, none⟩) r.ex.length ecap, flB 14 f], Y⟩) (Le.ofR [(500, 500)] (by exact ⟨rfl, rfl, rfl, rfl, rfl, rfl, rfl, rfl, rfl, rfl, trivial⟩) (by repeat' (first | exact trivial | refine And.intro ⟨_, rfl, ?_⟩ ?_ | refine And.intro ⟨_, rfl⟩ ?_ | rfl | exact Box.ren_bytes _ _ _ _ | exact Box.ren_vals _ _ _ _ | exact Box.ren_mid rfl)) (by exact rfl) (by exact rfl) (by repeat' (first | refine all_cons_true ?_ ?_ | rfl | exact bytes_inUse | exact vals_inUse | exact mid_inUse rfl)) (by exact rfl) (by exact rfl)) (Leads.done ⟨0, L, by omega, by omega, by rw [fldS_zero, List.append_nil]; exact hL, by rw [fldS_zero, List.append_nil]; exact hpre, rfl⟩)) ?_
  clear hpre hL
  clear L
  rintro m σ ⟨k, L, hk, rfl, hL, hpre, rfl⟩
  have hLl : L.length ≤ 104 := by rw [hL, List.length_map, List.length_append, fldS_len]; omega
  by_cases hkl : k < f.n
  case neg =>
    have e : k = f.n := by omega
    subst e
    (refine LWP.seq <| rgN <| klt rfl rfl (decide_eq_false (by omega)) <| RunK.nil <| LWP.seq <| LWP.condF rfl ?_; refine LWP.exit <| rgN <| kad rfl rfl hadd <| kmv rfl <| RunK.nil ?_)
    exact Leads.le (σ' := ⟨[(6, Lp 6), (11, Lx fad G.length fc), (12, .sv (.one (.slc 500 0 L.length 3))), (35, Lx (some ⟨fb, fo, none⟩) b.fs.length bcap), (36, Ln .i64 (b.fs.length : Nat)), (37, Ln .i64 (i + 1 : Nat))], [nmsB 500 (L) true, v3B 27 6 r.nw r.old (some ⟨eb, eo, none⟩) r.ex.length ecap], Y⟩) (Le.ofR [(500, 500)] (by exact ⟨rfl, rfl, rfl, rfl, rfl, rfl, trivial⟩) (by repeat' (first | exact trivial | refine And.intro ⟨_, rfl, ?_⟩ ?_ | refine And.intro ⟨_, rfl⟩ ?_ | rfl | exact Box.ren_bytes _ _ _ _ | exact Box.ren_vals _ _ _ _ | exact Box.ren_mid rfl)) (by exact rfl) (by exact rfl) (by repeat' (first | refine all_cons_true ?_ ?_ | rfl | exact bytes_inUse | exact vals_inUse | exact mid_inUse rfl)) (by exact rfl) (by exact rfl)) (Leads.done ⟨b.fs.length - (i + 1), by omega, i + 1, L, by omega, rfl, by rw [steps_snoc hf hc]; exact hL, by rw [steps_snoc hf hc]; exact hpre, rfl⟩)
  obtain ⟨post, hpost⟩ := steps_at hf hc hkl
  have hEm := eElem Y f c G cad fad ccap fc (k : Nat) hI (by omega) hFs (by omega) hrl hf2 (by omega)
  have haddk : IntKind.i64.wrap (((k : Nat) : Int) + 1) = ((k + 1 : Nat) : Int) := by rw [wrap_i64 (by omega)]; omega
  cases hev : elX f.kind c G (k : Nat) with
  | error e =>
    obtain ⟨hne, hse⟩ := elX_err hev
    rw [seqE_hit hpost hpre (by rw [hse]; exact hne), hse]
    unfold evR evBx
    rw [if_neg hne, if_neg hne]
    rw [hev] at hEm
    (refine LWP.seq <| rgN <| klt rfl rfl (decide_eq_true (by omega)) <| RunK.nil <| LWP.seq <| LWP.condT rfl ?_; refine LWP.skip ?_; refine LWP.seq <| LWP.block <| LWP.seq <| rgN <| kmv rfl <| kas rfl <| RunK.nil <| LWP.seq <| rgD mixed <| K.loadAll rfl rfl rfl .plain ?_; refine kfa rfl rfl ?_; refine kl1 rfl rfl rfl <| kmv rfl <| K.indexX rfl rfl SliceT.h (by omega) hio1 .plain <| K.loadX rfl hEX rfl hec .plain <| kmv rfl <| kmv rfl <| K.build rfl rfl (by exact rfl) (by exact nl2 rfl rfl rfl) .plain ?_; refine kca rfl rfl hEm <| kmv rfl <| kex rfl rfl <| kex rfl rfl <| K.alloc rfl .plain ?_; refine K.storeAll rfl rfl rfl rfl rfl rfl .plain ?_; refine kas rfl <| RunK.nil <| rgA ?_; refine LWP.seq <| LWP.seq <| rgN <| kmv rfl <| kne rfl rfl (r := true) (bne_iff_ne.2 hne) <| RunK.nil <| LWP.condT rfl ?_; refine LWP.seq <| rgN <| kmv rfl <| kas rfl <| kas rfl <| RunK.nil <| LWP.ret ?_)
    exact ⟨[], ⟨[_, _], ⟨rfl, rfl, trivial⟩, rfl⟩, trivial, rfl, rfl⟩
  | ok v =>
  obtain ⟨hse, hsv⟩ := elX_ok hev
  rw [hev] at hEm
  have hcl := nmsV_len L
  have hnc2 := nmsV_snoc L v
  have hL2 : L ++ [v] = (stepsN (b.fs.take i) (r.ex.take i) ++ fldS f c (k + 1)).map (stepV G) := by
    rw [fldS_succ, ← List.append_assoc, List.map_append, ← hL, List.map_cons, List.map_nil, hsv]
  have hpre2 : seqE (stepE G) (stepsN (b.fs.take i) (r.ex.take i) ++ fldS f c (k + 1)) = 0 := by
    rw [fldS_succ, ← List.append_assoc]; exact seqE_snoc hpre hse
  have hnl : L.length + 1 = (L ++ [v]).length := by rw [List.length_append]; rfl
  (refine LWP.seq <| rgN <| klt rfl rfl (decide_eq_true (by omega)) <| RunK.nil <| LWP.seq <| LWP.condT rfl ?_; refine LWP.skip ?_; refine LWP.seq <| LWP.block <| LWP.seq <| rgN <| kmv rfl <| kas rfl <| RunK.nil <| LWP.seq <| rgD mixed <| K.loadAll rfl rfl rfl .plain ?_; refine kfa rfl rfl ?_; refine kl1 rfl rfl rfl <| kmv rfl <| K.indexX rfl rfl SliceT.h (by omega) hio1 .plain <| K.loadX rfl hEX rfl hec .plain <| kmv rfl <| kmv rfl <| K.build rfl rfl (by exact rfl) (by exact nl2 rfl rfl rfl) .plain ?_; refine kca rfl rfl hEm <| kmv rfl <| kex rfl rfl <| kex rfl rfl <| K.alloc rfl .plain ?_; refine K.storeAll rfl rfl rfl rfl rfl rfl .plain ?_; refine kas rfl <| RunK.nil <| rgA ?_; refine LWP.seq <| LWP.seq <| rgN <| kmv rfl <| kne rfl rfl (r := false) rfl <| RunK.nil <| LWP.condF rfl ?_; refine LWP.skip ?_; refine rgN <| kmv rfl <| K.loadAll rfl rfl rfl .plain ?_; refine K.buildSlc (zs := [.bool false, .int .u64 0, .int .u64 0]) (sz := 3) (e := 86) (cs' := cI v.1 v.2) (by kernel_rfl) rfl rfl rfl rfl rfl rfl .plain <| K.appendSlc (by_ := 24) (e2 := 86) (l2 := cI v.1 v.2) (nl := (L ++ [v]).length) (nc := (nmsV (L ++ [v])).map .val) rfl rfl hcl rfl rfl (Nat.le_refl _) rfl rfl (by kernel_rfl) (by kernel_rfl) (by omega) (by omega) rfl hnl hnc2 .plain <| kas rfl <| RunK.nil <| rgN <| kad rfl rfl haddk <| kmv rfl <| RunK.nil ?_)
  exact Leads.le (σ' := ⟨[(6, Lp 6), (11, Lx fad G.length fc), (12, .sv (.one (.slc 500 0 (L ++ [v]).length 3))), (35, Lx (some ⟨fb, fo, none⟩) b.fs.length bcap), (36, Ln .i64 (b.fs.length : Nat)), (37, Ln .i64 (i : Nat)), (13, Ln .i64 (i : Nat)), (14, Lp 14), (43, Ln .i64 f.count), (44, Ln .i64 (k + 1 : Nat))], [nmsB 500 (L ++ [v]) true, v3B 27 6 r.nw r.old (some ⟨eb, eo, none⟩) r.ex.length ecap, flB 14 f], Y⟩) (Le.ofR [(500, 66)] (by exact ⟨rfl, rfl, rfl, rfl, rfl, rfl, rfl, rfl, rfl, rfl, trivial⟩) (by repeat' (first | exact trivial | refine And.intro ⟨_, rfl, ?_⟩ ?_ | refine And.intro ⟨_, rfl⟩ ?_ | rfl | exact Box.ren_bytes _ _ _ _ | exact Box.ren_vals _ _ _ _ | exact Box.ren_mid rfl)) (by exact rfl) (by exact rfl) (by repeat' (first | refine all_cons_true ?_ ?_ | rfl | exact bytes_inUse | exact vals_inUse | exact mid_inUse rfl)) (by exact rfl) (by exact rfl)) (Leads.done ⟨f.n - (k + 1), by omega, k + 1, L ++ [v], by omega, rfl, hL2, hpre2, rfl⟩)
end Go.Proofs.YtopiioklkkiedaaGreatDoor
end
section
namespace Go.Proofs.YtopiioklkkiedaaGreatDoor
open Go Go.Lg Go.Lg.Fml Go.Lg.Fld Go.Lg.Arith
set_option maxRecDepth 100000
variable (X : Nat → Option Obj)
theorem eVal_nil' (a b : Cp) (r : Rl) (ns : List Nm) (aad bad ead vad : Option Addr) (acap bcap ecap vcap : Nat) (hA : FieldsIn X aad a.fs) (hac : a.fs.length ≤ acap) (hB : FieldsIn X bad b.fs) (hE : CodesIn X ead r.ex) (hN : NumsIn X vad ns) (hvc : ns.length ≤ vcap) (la : a.fs.length ≤ 12) (lb : b.fs.length ≤ 12) (lr : r.ex.length ≤ 12 ∧ ∀ c ∈ r.ex, c.length ≤ 80) (ln : ns.length < 4611686018427387904) (h : valE a.fs b.fs r ns ≠ 0) :
    MSpec Tryz.prog X 12 [Cx a aad acap, Cx b bad bcap, LPg r.nw r.old ead r.ex.length ecap, Lx vad ns.length vcap] [] (.tup [.one (.val (.slice none 0 0)), Sn .i64 (valE a.fs b.fs r ns)]) [] := by
  have := eVal' X a b r ns aad bad ead vad acap bcap ecap vcap hA hac hB hE hN hvc la lb lr ln
  unfold evR evBx at this
  rw [if_neg h, if_neg h] at this
  exact this
theorem eVal_box' (a b : Cp) (r : Rl) (ns : List Nm) (aad bad ead vad : Option Addr) (acap bcap ecap vcap : Nat) (hA : FieldsIn X aad a.fs) (hac : a.fs.length ≤ acap) (hB : FieldsIn X bad b.fs) (hE : CodesIn X ead r.ex) (hN : NumsIn X vad ns) (hvc : ns.length ≤ vcap) (la : a.fs.length ≤ 12) (lb : b.fs.length ≤ 12) (lr : r.ex.length ≤ 12 ∧ ∀ c ∈ r.ex, c.length ≤ 80) (ln : ns.length < 4611686018427387904) (h : valE a.fs b.fs r ns = 0) :
    MSpec Tryz.prog X 12 [Cx a aad acap, Cx b bad bcap, LPg r.nw r.old ead r.ex.length ecap, Lx vad ns.length vcap] [] (.tup [.one (.slc 1000001 0 (valN a.fs b.fs r ns).length 3), Sn .i64 0]) [nmsB 1000001 (valN a.fs b.fs r ns) true] := by
  have := eVal' X a b r ns aad bad ead vad acap bcap ecap vcap hA hac hB hE hN hvc la lb lr ln
  unfold evR evBx at this
  rw [if_pos h, if_pos h] at this
  exact this
set_option maxHeartbeats 6400000 in
theorem eRow' (a b : Cp) (r : Rl) (s : List UInt8) (aad bad ead : Option Addr) (acap bcap ecap : Nat) (hA : FieldsIn X aad a.fs) (hac : a.fs.length ≤ acap) (hB : FieldsIn X bad b.fs) (hE : CodesIn X ead r.ex) (la : a.fs.length ≤ 12) (lb : b.fs.length ≤ 12) (lr : r.ex.length ≤ 12 ∧ ∀ c ∈ r.ex, c.length ≤ 80) :
    PSpec Tryz.prog X 15 [Cx a aad acap, Cx b bad bcap, LPg r.nw r.old ead r.ex.length ecap, Ls s] (.tup [Ss (rowN a.fs b.fs r s), Sn .i64 (rowE a.fs b.fs r s)]) := by
  refine PSpec.intro Tryz.func15 rfl (by kernel_rfl) rfl rfl ?_
  intro C
  by_cases hu : unpErr a.fs s = 0
  case neg =>
    have e1 : rowE a.fs b.fs r s = unpErr a.fs s := if_neg hu
    rw [show rowN a.fs b.fs r s = [] from if_neg (by rw [e1]; exact hu), e1]
    have hU := lUnpack_err X aad acap a.fs s hA (by omega) hu
    generalize unpErr a.fs s = e at *
    (refine LWP.seq <| rgN <| K.box rfl rfl rfl .plain <| K.box rfl rfl rfl .plain <| K.box rfl rfl rfl .plain <| kas rfl <| kas rfl <| RunK.nil <| LWP.seq <| rgN <| kfa rfl rfl ?_; refine kl1 rfl rfl rfl <| kmv rfl <| kca rfl rfl hU <| kmv rfl <| kex rfl rfl <| kex rfl rfl <| kas rfl <| kas rfl <| RunK.nil <| LWP.seq <| LWP.seq <| rgN <| kmv rfl <| kne rfl rfl (r := true) (bne_iff_ne.2 hu) ?_; refine RunK.nil <| LWP.condT rfl ?_; refine LWP.seq <| rgN <| kmv rfl <| kas rfl <| kas rfl <| RunK.nil <| LWP.ret ?_)
    exact ⟨[_, _], ⟨rfl, rfl, trivial⟩, rfl⟩
  have e1 : rowE a.fs b.fs r s = valE a.fs b.fs r ((unpZ a.fs s).map qn) := if_pos hu
  have e2 : rowN a.fs b.fs r s = if rowE a.fs b.fs r s = 0 then packB b.fs (valN a.fs b.fs r ((unpZ a.fs s).map qn)) else [] := rfl
  rw [e1] at e2 ⊢
  have hU := lUnpack_ok X aad acap a.fs s hA (by omega) hu
  have hRz := unp_R hu
  have hl64 := unpZ_len hu
  (refine LWP.seq <| rgN <| K.box rfl rfl rfl .plain <| K.box rfl rfl rfl .plain <| K.box rfl rfl rfl .plain <| kas rfl <| kas rfl <| RunK.nil <| LWP.seq <| rgN <| kfa rfl rfl ?_; refine kl1 rfl rfl rfl <| kmv rfl <| K.callMp [(1000001, 501)] (.tup [.one (.slc 501 0 (unpZ a.fs s).length 3), Sn .i64 0]) [(501, some ⟨86, (nsV (unpZ a.fs s)).map .val, false⟩)] (hU) rfl rfl (by exact trivial) rfl rfl rfl rfl rfl (by exact (.box rfl (Box.ren_vals _ _ _ _) .nil)) .plain <| kmv rfl <| kex rfl rfl <| kex rfl rfl <| kas rfl <| kas rfl <| RunK.nil <| LWP.seq <| LWP.seq <| rgN <| kmv rfl <| kne rfl rfl (r := false) rfl ?_; refine RunK.nil <| LWP.condF rfl ?_; refine LWP.skip ?_; refine LWP.seq ?_)
  refine LWP.le (σ' := ⟨[(10, .sv (.one (.slc 501 0 (unpZ a.fs s).length 3))), (4, Lp 4), (5, Lp 5), (6, Lp 6)], [(501, some ⟨86, (nsV (unpZ a.fs s)).map .val, false⟩), v3B 27 6 r.nw r.old ead r.ex.length ecap, cpB 5 b bad bcap, cpB 4 a aad acap], X⟩) (Le.of (by exact ⟨rfl, rfl, rfl, rfl, trivial⟩) (by exact ⟨rfl, rfl, rfl, rfl, trivial⟩) (by exact rfl) (by exact rfl) (by repeat' (first | refine all_cons_true ?_ ?_ | rfl | exact bytes_inUse | exact vals_inUse | exact mid_inUse rfl))) ?_
  refine LWP.freeze rfl rfl rfl fun blk zc arr fr hn _ hzc _ hsp => ?_
  have hN := nums_in (withBlock_at X blk (.cells arr 86 fr)) hRz hsp
  have hZ := withBlock_old (o := .cells arr 86 fr) hn
  replace hA := hA.mono hZ
  replace hB := hB.mono hZ
  replace hE := hE.mono hZ
  clear hsp hn hZ hU
  generalize withBlock X blk (.cells arr 86 fr) = Z at *
  generalize (some ⟨blk, 0, none⟩ : Option Addr) = zad at *
  have htwo : ∀ u ∈ (valN a.fs b.fs r ((unpZ a.fs s).map qn)), In2 u.2 := valN_two (fun q hq y hy => by
    obtain ⟨w, hw⟩ := List.mem_iff_getElem?.1 hq
    obtain ⟨_, _, _, _, _, _, _, _, _, _, hI⟩ := hE.get hw
    exact (hI.small y hy).2.2.2) hN.in2 (fun f hf => (hB.small f hf).2.2)
  by_cases h0 : valE a.fs b.fs r ((unpZ a.fs s).map qn) = 0
  case neg =>
    have hV := eVal_nil' Z a b r ((unpZ a.fs s).map qn) aad bad ead zad acap bcap ecap zc hA hac hB hE hN (by rw [List.length_map]; exact hzc) la lb lr (by rw [List.length_map]; omega) h0
    rw [List.length_map] at hV
    rw [if_neg h0] at e2
    rw [e2]
    generalize valE a.fs b.fs r ((unpZ a.fs s).map qn) = e at *
    (refine rgN <| K.loadAll rfl rfl rfl .plain ?_; refine K.loadAll rfl rfl rfl .plain ?_; refine K.loadAll rfl rfl rfl .plain ?_; refine kmv rfl <| K.callM [] [] (hV) rfl rfl (by exact trivial) rfl rfl rfl rfl rfl (by exact .nil) .plain <| kmv rfl <| kex rfl rfl <| kex rfl rfl <| kas rfl <| kas rfl <| RunK.nil <| LWP.seq <| LWP.seq <| rgN <| kmv rfl <| kne rfl rfl (r := true) (bne_iff_ne.2 h0) <| RunK.nil ?_; refine LWP.condT rfl ?_; refine LWP.seq <| rgN <| kmv rfl <| kas rfl <| kas rfl <| RunK.nil <| LWP.ret ?_)
    exact ⟨[_, _], ⟨rfl, rfl, trivial⟩, rfl⟩
  have hV := eVal_box' Z a b r ((unpZ a.fs s).map qn) aad bad ead zad acap bcap ecap zc hA hac hB hE hN (by rw [List.length_map]; exact hzc) la lb lr (by rw [List.length_map]; omega) h0
  have hfit := valN_fit h0
  obtain ⟨hfl, hfn, _⟩ := fit_all hfit
  have hLn : (valN a.fs b.fs r ((unpZ a.fs s).map qn)).length < 4611686018427387904 := by
    have := sum_le b.fs (layErr_facts hfl).2.1
    omega
  rw [List.length_map] at hV
  rw [if_pos h0] at e2
  rw [e2, h0]
  clear e1 e2
  generalize valN a.fs b.fs r ((unpZ a.fs s).map qn) = L at *
  (refine rgN <| K.loadAll rfl rfl rfl .plain ?_; refine K.loadAll rfl rfl rfl .plain ?_; refine K.loadAll rfl rfl rfl .plain ?_; refine kmv rfl <| K.callMp [(1000001, 701)] (.tup [.one (.slc 701 0 L.length 3), Sn .i64 0]) [nmsB 701 L true] (hV) rfl rfl (by exact trivial) rfl rfl rfl rfl rfl (by exact (.box rfl (Box.ren_vals _ _ _ _) .nil)) .plain <| kmv rfl <| kex rfl rfl <| kex rfl rfl <| kas rfl <| kas rfl <| RunK.nil <| LWP.seq <| LWP.seq <| rgN <| kmv rfl <| kne rfl rfl (r := false) rfl <| RunK.nil ?_; refine LWP.condF rfl ?_; refine LWP.skip ?_; refine LWP.seq ?_)
  refine LWP.le (σ' := ⟨[(12, .sv (.one (.slc 701 0 L.length 3))), (5, Lp 5)], [nmsB 701 L true, cpB 5 b bad bcap], Z⟩) (Le.of (by exact ⟨rfl, rfl, trivial⟩) (by exact ⟨rfl, rfl, trivial⟩) (by exact rfl) (by exact rfl) (by repeat' (first | refine all_cons_true ?_ ?_ | rfl | exact bytes_inUse | exact vals_inUse | exact mid_inUse rfl))) ?_
  refine LWP.freeze rfl rfl rfl fun b2 c2 arr2 fr2 hn2 _ _ _ hsp2 => ?_
  have hP := lPack_spec (withBlock Z b2 (.cells arr2 86 fr2)) bad (some ⟨b2, 0, none⟩) bcap c2 b.fs L (hB.mono (withBlock_old hn2)) (by omega) (nms_in (withBlock_at _ _ _) htwo hsp2) hLn
  rw [hfit, show packR b.fs L = packB b.fs L from if_pos hfit] at hP
  generalize packB b.fs L = B at *
  (refine rgN <| kfa rfl rfl ?_; refine kl1 rfl rfl rfl <| kmv rfl <| kca rfl rfl hP <| kex rfl rfl <| kex rfl rfl <| kas rfl <| kas rfl <| RunK.nil <| LWP.ret ?_)
  exact ⟨[_, _], ⟨rfl, rfl, trivial⟩, rfl⟩
end Go.Proofs.YtopiioklkkiedaaGreatDoor
end
section
namespace Go.Proofs.YtopiioklkkiedaaGreatDoor
open Go Go.Lg Go.Lg.Fml Go.Lg.Fld Go.Lg.Arith
set_option maxRecDepth 100000
variable (X : Nat → Option Obj)
theorem eVal_nil (a b : Cp) (r : Rl) (ns : List Nm) (aad bad ead vad : Option Addr) (acap bcap ecap vcap : Nat) (hA : FieldsIn X aad a.fs) (hac : a.fs.length ≤ acap) (hB : FieldsIn X bad b.fs) (hE : CodesIn X ead r.ex) (hN : NumsIn X vad ns) (hvc : ns.length ≤ vcap) (la : a.fs.length ≤ 12) (lb : b.fs.length ≤ 12) (lr : r.ex.length ≤ 12 ∧ ∀ c ∈ r.ex, c.length ≤ 80) (ln : ns.length < 4611686018427387904) (h : vShape (valE a.fs b.fs r ns) (valA a.fs b.fs r ns) = false) :
    MSpec Tryz.prog X 12 [Cx a aad acap, Cx b bad bcap, LPg r.nw r.old ead r.ex.length ecap, Lx vad ns.length vcap] [] (.tup [.one (.val (.slice none 0 0)), Sn .i64 (valE a.fs b.fs r ns)]) [] :=
  eVal_nil' X a b r ns aad bad ead vad acap bcap ecap vcap hA hac hB hE hN hvc la lb lr ln fun e => by
    unfold vShape at h
    rw [e] at h
    cases h
theorem eVal_box (a b : Cp) (r : Rl) (ns : List Nm) (aad bad ead vad : Option Addr) (acap bcap ecap vcap : Nat) (hA : FieldsIn X aad a.fs) (hac : a.fs.length ≤ acap) (hB : FieldsIn X bad b.fs) (hE : CodesIn X ead r.ex) (hN : NumsIn X vad ns) (hvc : ns.length ≤ vcap) (la : a.fs.length ≤ 12) (lb : b.fs.length ≤ 12) (lr : r.ex.length ≤ 12 ∧ ∀ c ∈ r.ex, c.length ≤ 80) (ln : ns.length < 4611686018427387904) (h : vShape (valE a.fs b.fs r ns) (valA a.fs b.fs r ns) = true) :
    MSpec Tryz.prog X 12 [Cx a aad acap, Cx b bad bcap, LPg r.nw r.old ead r.ex.length ecap, Lx vad ns.length vcap] [] (.tup [.one (.slc 1000001 0 (valA a.fs b.fs r ns).length 3), Sn .i64 (valE a.fs b.fs r ns)]) [nmsB 1000001 (valA a.fs b.fs r ns) (vRow (valA a.fs b.fs r ns))] := by
  have e : valE a.fs b.fs r ns = 0 := by
    unfold vShape at h
    exact beq_iff_eq.1 h
  rw [show valA a.fs b.fs r ns = valN a.fs b.fs r ns from if_pos e, e]
  exact eVal_box' X a b r ns aad bad ead vad acap bcap ecap vcap hA hac hB hE hN hvc la lb lr ln e
theorem eRow (a b : Cp) (r : Rl) (s : List UInt8) (aad bad ead : Option Addr) (acap bcap ecap : Nat) (hA : FieldsIn X aad a.fs) (hac : a.fs.length ≤ acap) (hB : FieldsIn X bad b.fs) (hE : CodesIn X ead r.ex) (la : a.fs.length ≤ 12) (lb : b.fs.length ≤ 12) (lr : r.ex.length ≤ 12 ∧ ∀ c ∈ r.ex, c.length ≤ 80) (ls : s.length ≤ 1000) :
    PSpec Tryz.prog X 15 [Cx a aad acap, Cx b bad bcap, LPg r.nw r.old ead r.ex.length ecap, Ls s] (.tup [Ss (rowN a.fs b.fs r s), Sn .i64 (rowE a.fs b.fs r s)]) :=
  eRow' X a b r s aad bad ead acap bcap ecap hA hac hB hE la lb lr
theorem eSig (va vb : Int) (rs : List Rl) (ad : Option Addr) (cap s : Nat) (hp : RulesIn X ad rs) (hl : rs.length < 4611686018427387904) (hs : s < 4294967296) :
    PSpec Tryz.prog X 20 [LPg va vb ad rs.length cap, Ln .u32 (s : Nat)] (Ln .u32 (sigN rs s : Nat)) :=
  eSig' X va vb rs ad cap s hp hl hs
end Go.Proofs.YtopiioklkkiedaaGreatDoor
end
section
namespace Go.Proofs.YtopiioklkkiedaaGreatDoor
open Go Go.Lg Go.Lg.Fml Go.Lg.Fld Go.RowKit Go.ChangeShapes Go.WideShapes Go.Joins
set_option maxRecDepth 100000
section
variable {H : Type} {enc : TypeId × Value → H} {w : World}
theorem open_codes_w {fuel : Nat} {lv : List Value} {xx : DataW H × List MemPlace} (h : DataW.trod enc Tryz.prog w 0 (fun _ => true) true fuel 25 lv = some xx) (hw : Light Tryz.prog 25 xx.1) :
    ∃ (ad : Option Addr) (cap : Nat) (cs : List (List Ins)), lv = [.slice ad cs.length cap] ∧ cs.length < 1152921504606846976 ∧ CodesIn (fun b => w.heap[b]?) ad cs ∧ ∀ c ∈ cs, c.length < 1152921504606846976 := by
  obtain ⟨ad, cap, rows, rfl, hb, h1, h2, h3, h4⟩ := open_rows_w (e := 90) (sz := 1) (by kernel_rfl) (by kernel_rfl) (by decide) h hw
  obtain ⟨ts, rfl, h5⟩ := map_of (f := fun t : List Ins × Option Addr × Nat => [Value.slice t.2.1 t.1.length t.2.2]) (q := fun t => InsIn (fun b => w.heap[b]?) t.2.1 t.1 ∧ t.1.length < 1152921504606846976) (vs := rows) (fun u hu => by
    obtain ⟨hlen, n, x, hx, hxw⟩ := h4 u hu
    obtain ⟨vad, vcap, ns, e1, k1, hF⟩ := open_inss_w hx hxw
    exact ⟨(ns, vad, vcap), e1, hF, (show ns.length < 1152921504606846976 by omega)⟩)
  refine ⟨ad, cap, ts.map (·.1), by rw [List.length_map, List.length_map], by rw [List.length_map, show Tryz.prog.bytesOf 90 = 24 by kernel_rfl, show reachBytes = 140737488351232 by decide] at hb; rw [List.length_map]; omega, ⟨fun i r hr => ?_⟩, fun r hr => ?_⟩
  · rw [List.getElem?_map] at hr
    cases ht : ts[i]? with
    | none => rw [ht] at hr; cases hr
    | some t =>
      rw [ht] at hr
      simp only [Option.map_some, Option.some.injEq] at hr
      subst hr
      obtain ⟨blk, off, arr, el, fr, g1, g2, g3, g4⟩ := h3 i _ (by rw [List.getElem?_map, ht]; rfl)
      have g5 : arr[off + i]? = some (.slice t.2.1 t.1.length t.2.2) := by
        have := congrArg (fun l : List Value => l[0]?) g4
        simpa [List.getElem?_take, List.getElem?_drop] using this
      exact ⟨blk, off, arr, el, fr, t.2.1, t.2.2, g1, g2, g3, g5, (h5 t (List.mem_of_getElem? ht)).1⟩
  · obtain ⟨t, ht, rfl⟩ := List.mem_map.1 hr
    exact (h5 t ht).2
theorem open_rules_w {fuel : Nat} {lv : List Value} {xx : DataW H × List MemPlace} (h : DataW.trod enc Tryz.prog w 0 (fun _ => true) true fuel 34 lv = some xx) (hw : Light Tryz.prog 34 xx.1) :
    ∃ (ad : Option Addr) (cap : Nat) (rs : List Rl), lv = [.slice ad rs.length cap] ∧ rs.length < 1152921504606846976 ∧ RulesIn (fun b => w.heap[b]?) ad rs ∧ sizeR rs := by
  obtain ⟨ad, cap, rows, rfl, hb, h1, h2, h3, h4⟩ := open_rows_w (e := 27) (sz := 3) (by kernel_rfl) (by kernel_rfl) (by decide) h hw
  obtain ⟨ts, rfl, h5⟩ := map_of (f := fun t : Rl × Option Addr × Nat => [.int .i64 t.1.nw, .int .i64 t.1.old, .slice t.2.1 t.1.ex.length t.2.2]) (q := fun t => (CodesIn (fun b => w.heap[b]?) t.2.1 t.1.ex ∧ smallR t.1) ∧ t.1.ex.length < 1152921504606846976 ∧ ∀ c ∈ t.1.ex, c.length < 1152921504606846976) (vs := rows) (fun u hu => by
    obtain ⟨hlen, n, x, hx, hxw⟩ := h4 u hu
    obtain ⟨y0, y1, y2, n', ex, _, g0, g1, g2⟩ := Deep.trod_struct3 (t := 27) Tryz.underlying27 hx
    rw [ex] at hxw
    have hF3 := (Light.struct3 Tryz.underlying27 hxw).2.2
    obtain ⟨e0', e1', e2', rfl⟩ : ∃ c0 c1 c2, u = [c0, c1, c2] := by
      match u, hlen with
      | [c0, c1, c2], _ => exact ⟨c0, c1, c2, rfl⟩
    obtain ⟨k, e0, _, wa0⟩ := DataW.trod_int (k := .i64) (by kernel_rfl) g0
    obtain ⟨o, e1, _, wa1⟩ := DataW.trod_int (k := .i64) (by kernel_rfl) g1
    obtain ⟨ead, ecap, cs, e2, hl, hF, hFl⟩ := open_codes_w g2 hF3
    have q0 : e0' = .int .i64 k := by simpa using (show ([e0', e1', e2'].drop 0).take 1 = [.int .i64 k] from e0)
    have q1 : e1' = .int .i64 o := by simpa using (show ([e0', e1', e2'].drop 1).take 1 = [.int .i64 o] from e1)
    have q2 : e2' = .slice ead cs.length ecap := by simpa using (show ([e0', e1', e2'].drop 2).take 1 = [.slice ead cs.length ecap] from e2)
    subst q0 q1 q2
    have b0 := bounds_i64 wa0
    have b1 := bounds_i64 wa1
    exact ⟨(⟨k, o, cs⟩, ead, ecap), rfl, ⟨hF, (show -9223372036854775808 ≤ k ∧ k < 9223372036854775808 by omega), (show -9223372036854775808 ≤ o ∧ o < 9223372036854775808 by omega)⟩, hl, hFl⟩)
  refine ⟨ad, cap, ts.map (·.1), by rw [List.length_map, List.length_map], by rw [List.length_map, show Tryz.prog.bytesOf 27 = 40 by kernel_rfl, show reachBytes = 140737488351232 by decide] at hb; rw [List.length_map]; omega, ⟨fun i c hc => ?_, fun c hc => ?_⟩, fun c hc => ?_⟩
  · rw [List.getElem?_map] at hc
    cases ht : ts[i]? with
    | none => rw [ht] at hc; cases hc
    | some t =>
      rw [ht] at hc
      simp only [Option.map_some, Option.some.injEq] at hc
      subst hc
      obtain ⟨blk, off, arr, el, fr, g1, g2, g3, g4⟩ := h3 i _ (by rw [List.getElem?_map, ht]; rfl)
      exact ⟨blk, off, arr, el, fr, t.2.1, t.2.2, g1, g2, g3, g4, (h5 t (List.mem_of_getElem? ht)).1.1⟩
  · obtain ⟨t, ht, rfl⟩ := List.mem_map.1 hc
    exact (h5 t ht).1.2
  · obtain ⟨t, ht, rfl⟩ := List.mem_map.1 hc
    exact (h5 t ht).2
theorem open_prog_w {r : Reach} {b0 : Nat} {v : Value} {d : DataW H} {p : List MemPlace} (hv : Value.okWide Tryz.prog w r b0 36 v) (h : DataW.Trod enc Tryz.prog w 0 (fun _ => true) true 36 v d p) (hw : Light Tryz.prog 36 d) :
    ∃ (va vb : Int) (ad : Option Addr) (cap : Nat) (rs : List Rl), v = .agg #[.int .i64 va, .int .i64 vb, .slice ad rs.length cap] ∧ ((-9223372036854775808 ≤ va ∧ va < 9223372036854775808) ∧ -9223372036854775808 ≤ vb ∧ vb < 9223372036854775808) ∧ rs.length < 1152921504606846976 ∧ RulesIn (fun b => w.heap[b]?) ad rs ∧ sizeR rs := by
  obtain ⟨v0, v1, v2, y0, y1, y2, m, rfl, rfl, rfl, hy0, hy1, hy2⟩ := open_agg3 Tryz.underlying36 (by kernel_rfl) cellsPg hv h
  have hw2 := (Light.struct3 Tryz.underlying36 hw).2.2
  obtain ⟨x, e0, rfl, wa0⟩ := DataW.trod_int (k := .i64) (by kernel_rfl) hy0
  obtain ⟨y, e1, rfl, wa1⟩ := DataW.trod_int (k := .i64) (by kernel_rfl) hy1
  obtain ⟨ad, cap, rs, e2, h1, h2, h3⟩ := open_rules_w hy2 hw2
  simp at e0 e1 e2
  subst e0 e1 e2
  have b0 := bounds_i64 wa0
  have b1 := bounds_i64 wa1
  exact ⟨x, y, ad, cap, rs, rfl, by omega, h1, h2, h3⟩
end
end Go.Proofs.YtopiioklkkiedaaGreatDoor
end
section
namespace Go.Proofs.YtopiioklkkiedaaGreatDoor
open Go Go.Lg Go.Lg.Fml Go.Lg.Fld Go.Lg.Arith
set_option maxRecDepth 100000
def IntsI (X : Nat → Option Obj) (ad : Option Addr) (l : List Int) : Prop := Go.Lg.RowsIn X ad 1 (l.map fun n => [.int .i64 n])
variable (X : Nat → Option Obj)
end Go.Proofs.YtopiioklkkiedaaGreatDoor
end
section
namespace Go.Proofs.YtopiioklkkiedaaGreatDoor
open Go Go.Lg Go.Lg.Fml Go.Lg.Fld Go.Lg.Arith
set_option maxRecDepth 100000
def fl14a : List Fl := [⟨[120], 2, 1⟩]
def fl14b : List Fl := [⟨[120], 3, 1⟩]
def c14a : Cp := ⟨1, [97], fl14a⟩
def c14b : Cp := ⟨1, [97], fl14b⟩
def code14 : List Ins := [⟨2, 0, 0, (false, 0)⟩, ⟨1, 0, 0, (false, 2)⟩, ⟨7, 0, 0, (false, 0)⟩]
def r14 : Rl := ⟨1, 1, [code14]⟩
theorem va14 : valE fl14a fl14b r14 [(false, 100)] = 0 := by decide +kernel
theorem vn14 : valA fl14a fl14b r14 [(false, 100)] = [(false, 200)] := by decide +kernel
theorem vb14 : valE fl14a fl14a r14 [(false, 100)] = 3 := by decide +kernel
theorem vr14 : rowE fl14a fl14b r14 [100] = 0 := by decide +kernel
theorem vt14 : rowN fl14a fl14b r14 [100] = [200, 0] := by decide +kernel
theorem vs14 : sigN [⟨3, 1, []⟩, ⟨4, 0, []⟩] 2 = 8 := by decide +kernel
theorem sm14a : ∀ f ∈ fl14a, (-9223372036854775808 ≤ f.kind ∧ f.kind < 9223372036854775808) ∧ (-9223372036854775808 ≤ f.count ∧ f.count < 9223372036854775808) := by
  intro f hf
  simp only [fl14a, List.mem_cons, List.not_mem_nil, or_false] at hf
  subst hf; exact ⟨by decide, by decide⟩
theorem sm14b : ∀ f ∈ fl14b, (-9223372036854775808 ≤ f.kind ∧ f.kind < 9223372036854775808) ∧ (-9223372036854775808 ≤ f.count ∧ f.count < 9223372036854775808) := by
  intro f hf
  simp only [fl14b, List.mem_cons, List.not_mem_nil, or_false] at hf
  subst hf; exact ⟨by decide, by decide⟩
theorem sm14c : ∀ x ∈ code14, smallI x := by
  intro x hx
  simp only [code14, List.mem_cons, List.not_mem_nil, or_false] at hx
  rcases hx with rfl | rfl | rfl <;> exact ⟨by decide, by decide, by decide, by show 0 ≤ (_ : Int) ∧ (_ : Int) < _; decide⟩
theorem sz14 : r14.ex.length ≤ 12 ∧ ∀ c ∈ r14.ex, c.length ≤ 80 := ⟨by decide, fun c hc => by
  simp only [r14, List.mem_cons, List.not_mem_nil, or_false] at hc
  subst hc; decide⟩
variable (X : Nat → Option Obj)
theorem val_lent {X : Nat → Option Obj} {a b : Cp} {r : Rl} {ns : List Nm} {aad bad ead : Option Addr} {acap bcap ecap : Nat} {row : Bool} (hN : ∀ u ∈ ns, In2 u.2) : ∀ (Y : Nat → Option Obj) (us : List Value), (∀ b o, X b = some o → Y b = some o) → LentLs (stOf [nmsB 1000000 ns row]) Y [Cx a aad acap, Cx b bad bcap, LPg r.nw r.old ead r.ex.length ecap, .sv (.one (.slc 1000000 0 ns.length 3))] us →
    ∃ (vad : Option Addr) (vcap : Nat), us.map toLV = [Cx a aad acap, Cx b bad bcap, LPg r.nw r.old ead r.ex.length ecap, Lx vad ns.length vcap] ∧ NumsIn Y vad ns ∧ ns.length ≤ vcap := by
  intro Y us hY hL
  obtain ⟨u1, us1, rfl, ⟨av, rfl, a1, av1, rfl, g1, a2, av2, rfl, g2, a3, av3, rfl, g3, rfl⟩, u2, us2, rfl, ⟨bv, rfl, b1, bv1, rfl, f1, b2, bv2, rfl, f2, b3, bv3, rfl, f3, rfl⟩, u3, us3, rfl, ⟨cv, rfl, c1, cv1, rfl, d1, c2, cv2, rfl, d2, c3, cv3, rfl, d3, rfl⟩, u4, us4, rfl, h4, rfl⟩ := hL
  have g1 : a1 = .int .i64 a.id := g1
  have g2 : a2 = .string ⟨a.nm.toArray⟩ := g2
  have g3 : a3 = .slice aad a.fs.length acap := g3
  have f1 : b1 = .int .i64 b.id := f1
  have f2 : b2 = .string ⟨b.nm.toArray⟩ := f2
  have f3 : b3 = .slice bad b.fs.length bcap := f3
  have d1 : c1 = .int .i64 r.nw := d1
  have d2 : c2 = .int .i64 r.old := d2
  have d3 : c3 = .slice ead r.ex.length ecap := d3
  subst g1 g2 g3 f1 f2 f3 d1 d2 d3
  obtain ⟨bb, blk, cap2, m, hk', rfl, hc, hfit, hB'⟩ := h4
  have hk' : some (some (⟨86, (nmsV ns).map .val, row⟩ : Box)) = some (some bb) := hk'
  simp only [Option.some.injEq] at hk'
  subst hk'
  obtain ⟨arr, fr, us', sp, hYb, hsz, harr, hv⟩ := hB'
  have := hv (nmsV ns) rfl
  subst this
  exact ⟨some ⟨blk, 0, none⟩, cap2, rfl, nms_in hYb hN ⟨sp, harr⟩, hc⟩
theorem eVal_nil_lent (a b : Cp) (r : Rl) (ns : List Nm) (aad bad ead : Option Addr) (acap bcap ecap : Nat) (row : Bool) (hA : FieldsIn X aad a.fs) (hac : a.fs.length ≤ acap) (hB : FieldsIn X bad b.fs) (hE : CodesIn X ead r.ex) (hN : ∀ u ∈ ns, In2 u.2) (la : a.fs.length ≤ 12) (lb : b.fs.length ≤ 12) (lr : r.ex.length ≤ 12 ∧ ∀ c ∈ r.ex, c.length ≤ 80) (ln : ns.length < 4611686018427387904) (h : vShape (valE a.fs b.fs r ns) (valA a.fs b.fs r ns) = false) :
    MSpec Tryz.prog X 12 [Cx a aad acap, Cx b bad bcap, LPg r.nw r.old ead r.ex.length ecap, .sv (.one (.slc 1000000 0 ns.length 3))] [nmsB 1000000 ns row] (.tup [.one (.val (.slice none 0 0)), Sn .i64 (valE a.fs b.fs r ns)]) ([nmsB 1000000 ns row] ++ []) :=
  MSpec.lend (by kernel_rfl) rfl (by exact (by repeat' (first | refine all_cons_true ?_ ?_ | rfl | exact bytes_inUse | exact vals_inUse | exact mid_inUse rfl))) rfl rfl rfl fun Y us hY hL => by
    obtain ⟨vad, vcap, e, h1, h2⟩ := val_lent hN Y us hY hL
    rw [e]
    exact eVal_nil Y a b r ns aad bad ead vad acap bcap ecap vcap (hA.mono hY) hac (hB.mono hY) (hE.mono hY) h1 h2 la lb lr ln h
theorem eVal_box_lent (a b : Cp) (r : Rl) (ns : List Nm) (aad bad ead : Option Addr) (acap bcap ecap : Nat) (row : Bool) (hA : FieldsIn X aad a.fs) (hac : a.fs.length ≤ acap) (hB : FieldsIn X bad b.fs) (hE : CodesIn X ead r.ex) (hN : ∀ u ∈ ns, In2 u.2) (la : a.fs.length ≤ 12) (lb : b.fs.length ≤ 12) (lr : r.ex.length ≤ 12 ∧ ∀ c ∈ r.ex, c.length ≤ 80) (ln : ns.length < 4611686018427387904) (h : vShape (valE a.fs b.fs r ns) (valA a.fs b.fs r ns) = true) :
    MSpec Tryz.prog X 12 [Cx a aad acap, Cx b bad bcap, LPg r.nw r.old ead r.ex.length ecap, .sv (.one (.slc 1000000 0 ns.length 3))] [nmsB 1000000 ns row] (.tup [.one (.slc 1000001 0 (valA a.fs b.fs r ns).length 3), Sn .i64 (valE a.fs b.fs r ns)]) ([nmsB 1000000 ns row] ++ [nmsB 1000001 (valA a.fs b.fs r ns) (vRow (valA a.fs b.fs r ns))]) :=
  MSpec.lend (by kernel_rfl) rfl (by exact (by repeat' (first | refine all_cons_true ?_ ?_ | rfl | exact bytes_inUse | exact vals_inUse | exact mid_inUse rfl))) (by exact (by repeat' (first | refine all_cons_true ?_ ?_ | rfl | exact bytes_inUse | exact vals_inUse | exact mid_inUse rfl))) rfl rfl fun Y us hY hL => by
    obtain ⟨vad, vcap, e, h1, h2⟩ := val_lent hN Y us hY hL
    rw [e]
    exact eVal_box Y a b r ns aad bad ead vad acap bcap ecap vcap (hA.mono hY) hac (hB.mono hY) (hE.mono hY) h1 h2 la lb lr ln h
end Go.Proofs.YtopiioklkkiedaaGreatDoor
end
section
namespace Go.Proofs.YtopiioklkkiedaaGreatDoor
open Go Go.Lg Go.Lg.Fml Go.Lg.Fld Go.Lg.Arith
set_option maxRecDepth 100000
abbrev izs14 : List Value := [.int .i64 0, .int .i64 0, .int .i64 0, .bool false, .int .u64 0, .int .u64 0]
abbrev rzs14 : List Value := [.int .i64 0, .int .i64 0, .slice none 0 0]
variable (X : Nat → Option Obj)
theorem eSig_lent {S : Nat → Option (Option Box)} {k s n : Nat} {rs : List Rl} {ws : List Value} {e : TypeId} {row : Bool} {va vb : Int} (G : RulesH X ws rs) (hsm : ∀ r ∈ rs, smallR r) (hl : rs.length < 4611686018427387904) (hs : s < 4294967296) (hk : S k = some (some ⟨e, (rwZ rs ws).map .val, row⟩)) (hn : sigN rs s = n) :
    ∀ (Y : Nat → Option Obj) (us : List Value), (∀ b o, X b = some o → Y b = some o) → LentLs S Y [.sv (.agg [.val (.int .i64 va), .val (.int .i64 vb), .slc k 0 rs.length 3]), Ln .u32 (s : Nat)] us → PSpec Tryz.prog Y 20 (us.map toLV) (Ln .u32 (n : Nat)) := by
  subst hn
  intro Y us hY hL
  obtain ⟨u1, us1, rfl, ⟨av, rfl, a1, av1, rfl, g1, a2, av2, rfl, g2, a3, av3, rfl, g3, rfl⟩, u2, us2, rfl, h2, rfl⟩ := hL
  have g1 : a1 = .int .i64 va := g1
  have g2 : a2 = .int .i64 vb := g2
  have h2 : u2 = .int .u32 (s : Nat) := h2
  subst g1 g2 h2
  obtain ⟨bb, blk, cap2, m, hk', rfl, hc, hfit, hB⟩ := g3
  rw [hk] at hk'
  simp only [Option.some.injEq] at hk'
  subst hk'
  obtain ⟨arr, fr, us', sp, hYb, hsz, harr, hv⟩ := hB
  have := hv (rwZ rs ws) rfl
  subst this
  exact eSig Y va vb rs (some ⟨blk, 0, none⟩) cap2 s (rules_block hYb harr (G.mono hY) hsm) hl hs
set_option maxHeartbeats 25600000 in
theorem awake14_spec : PSpec Tryz.prog X 9 [] (Lb true) := by
  refine PSpec.intro Tryz.func9 rfl (by kernel_rfl) rfl rfl ?_
  intro C
  (refine LWP.seq <| rgN <| kas rfl <| RunK.nil <| LWP.seq <| rgN <| K.build rfl rfl (by exact rfl) (by exact nl3 rfl rfl rfl rfl) .plain ?_; refine K.buildSlc (zs := [Value.string ⟨#[]⟩, .int .i64 0, .int .i64 0]) (sz := 3) (e := 83) (cs' := (flV fl14a).map .val) (by kernel_rfl) rfl rfl rfl rfl rfl rfl .plain <| K.build rfl rfl (by exact rfl) (by exact nl3 rfl rfl rfl rfl) .plain ?_; refine K.alloc rfl .plain ?_; refine K.storeAll rfl rfl rfl rfl rfl rfl .plain ?_; refine RunK.nil <| LWP.seq ?_)
  refine LWP.le (σ' := ⟨[(1, Lp 1)], [(1, some ⟨24, [.val (.int .i64 1), .val (.string ⟨#[97]⟩)] ++ .slc 11 0 1 3 :: [], false⟩), (11, some ⟨83, (flV fl14a).map .val, false⟩)], X⟩) (Le.of (by exact ⟨rfl, trivial⟩) (by exact ⟨rfl, rfl, trivial⟩) (by exact rfl) (by exact rfl) (by repeat' (first | refine all_cons_true ?_ ?_ | rfl | exact bytes_inUse | exact vals_inUse | exact mid_inUse rfl))) ?_
  refine LWP.freezeCell rfl rfl rfl rfl rfl rfl fun k1 cp1 arr1 fr1 hn1 _ hc1 _ hv1 => ?_
  have hFa : FieldsIn (withBlock X k1 (.cells arr1 83 fr1)) (some ⟨k1, 0, none⟩) fl14a := by
    obtain ⟨sp, hv⟩ := hv1
    exact fields_block (withBlock_at _ _ _) hv sm14a
  clear hv1 hn1
  generalize withBlock X k1 (.cells arr1 83 fr1) = Y at *
  generalize (some ⟨k1, 0, none⟩ : Option Addr) = ad1 at *
  (refine rgN <| K.build rfl rfl (by exact rfl) (by exact nl3 rfl rfl rfl rfl) .plain ?_; refine K.buildSlc (zs := [Value.string ⟨#[]⟩, .int .i64 0, .int .i64 0]) (sz := 3) (e := 83) (cs' := (flV fl14b).map .val) (by kernel_rfl) rfl rfl rfl rfl rfl rfl .plain <| K.build rfl rfl (by exact rfl) (by exact nl3 rfl rfl rfl rfl) .plain ?_; refine K.alloc rfl .plain ?_; refine K.storeAll rfl rfl rfl rfl rfl rfl .plain ?_; refine RunK.nil <| LWP.seq ?_)
  refine LWP.le (σ' := ⟨[(1, Lp 1), (2, Lp 2)], [(2, some ⟨24, [.val (.int .i64 1), .val (.string ⟨#[97]⟩)] ++ .slc 14 0 1 3 :: [], false⟩), (14, some ⟨83, (flV fl14b).map .val, false⟩), cpB 1 c14a ad1 cp1], Y⟩) (Le.of (by exact ⟨rfl, rfl, trivial⟩) (by exact ⟨rfl, rfl, rfl, trivial⟩) (by exact rfl) (by exact rfl) (by repeat' (first | refine all_cons_true ?_ ?_ | rfl | exact bytes_inUse | exact vals_inUse | exact mid_inUse rfl))) ?_
  refine LWP.freezeCell rfl rfl rfl rfl rfl rfl fun k2 cp2 arr2 fr2 hn2 _ _ _ hv2 => ?_
  have hFb : FieldsIn (withBlock Y k2 (.cells arr2 83 fr2)) (some ⟨k2, 0, none⟩) fl14b := by
    obtain ⟨sp, hv⟩ := hv2
    exact fields_block (withBlock_at _ _ _) hv sm14b
  replace hFa := hFa.mono (withBlock_old (o := .cells arr2 83 fr2) hn2)
  clear hv2 hn2
  generalize withBlock Y k2 (.cells arr2 83 fr2) = Y2 at *
  generalize (some ⟨k2, 0, none⟩ : Option Addr) = ad2 at *
  have o2 := Of_spec Y2 2 (by decide)
  (refine rgN <| K.build rfl rfl (by exact rfl) (by exact nl6 rfl rfl rfl rfl rfl rfl rfl) .plain ?_; refine kca rfl rfl o2 <| K.build rfl rfl (by exact rfl) (by exact nl6 rfl rfl rfl rfl rfl rfl rfl) .plain ?_; refine K.build rfl rfl (by exact rfl) (by exact nl6 rfl rfl rfl rfl rfl rfl rfl) .plain ?_; refine K.buildSlc (zs := (List.replicate 3 izs14).flatten) (sz := 6) (e := 88) (cs' := (inssV code14).map .val) (by kernel_rfl) rfl rfl rfl rfl rfl rfl .plain <| K.buildSlc (zs := [.slice none 0 0]) (sz := 1) (e := 90) (cs' := [.slc 20 0 3 6]) (by kernel_rfl) rfl rfl rfl rfl rfl rfl .plain <| K.build rfl rfl (by exact rfl) (by exact nl3 rfl rfl rfl rfl) .plain ?_; refine K.alloc rfl .plain ?_; refine K.storeAll rfl rfl rfl rfl rfl rfl .plain ?_; refine RunK.nil <| LWP.seq ?_)
  refine LWP.le (σ' := ⟨[(1, Lp 1), (2, Lp 2), (3, Lp 3)], [(21, some ⟨90, [] ++ .slc 20 0 3 6 :: [], false⟩), (20, some ⟨88, (inssV code14).map .val, false⟩), (3, some ⟨27, [.val (.int .i64 1), .val (.int .i64 1), .slc 21 0 1 1], false⟩), cpB 1 c14a ad1 cp1, cpB 2 c14b ad2 cp2], Y2⟩) (Le.of (by exact ⟨rfl, rfl, rfl, trivial⟩) (by exact ⟨rfl, rfl, rfl, rfl, rfl, trivial⟩) (by exact rfl) (by exact rfl) (by repeat' (first | refine all_cons_true ?_ ?_ | rfl | exact bytes_inUse | exact vals_inUse | exact mid_inUse rfl))) ?_
  refine LWP.freezeCell rfl rfl rfl rfl rfl rfl fun k3 cp3 arr3 fr3 hn3 _ _ _ hv3 => ?_
  have hI : InsIn (withBlock Y2 k3 (.cells arr3 88 fr3)) (some ⟨k3, 0, none⟩) code14 := ins_in (withBlock_at _ _ _) sm14c hv3
  have h3 := withBlock_old (o := .cells arr3 88 fr3) hn3
  replace hFa := hFa.mono h3
  replace hFb := hFb.mono h3
  clear hv3 hn3 o2 h3
  generalize withBlock Y2 k3 (.cells arr3 88 fr3) = Y3 at *
  generalize (some ⟨k3, 0, none⟩ : Option Addr) = ad3 at *
  refine LWP.le (σ' := ⟨[(1, Lp 1), (2, Lp 2), (3, Lp 3)], [(3, some ⟨27, [.val (.int .i64 1), .val (.int .i64 1)] ++ .slc 21 0 1 1 :: [], false⟩), (21, some ⟨90, [Value.slice ad3 3 cp3].map .val, false⟩), cpB 1 c14a ad1 cp1, cpB 2 c14b ad2 cp2], Y3⟩) (Le.of (by exact ⟨rfl, rfl, rfl, trivial⟩) (by exact ⟨rfl, rfl, rfl, rfl, trivial⟩) (by exact rfl) (by exact rfl) (by repeat' (first | refine all_cons_true ?_ ?_ | rfl | exact bytes_inUse | exact vals_inUse | exact mid_inUse rfl))) ?_
  refine LWP.freezeCell rfl rfl rfl rfl rfl rfl fun k4 ec arr4 fr4 hn4 _ _ _ hv4 => ?_
  have hE : CodesIn (withBlock Y3 k4 (.cells arr4 90 fr4)) (some ⟨k4, 0, none⟩) r14.ex := by
    obtain ⟨sp, e⟩ := hv4
    exact forms_block (withBlock_at _ _ _) e (FormsH.nil.push ⟨_, _, rfl, hI.mono (withBlock_old hn4)⟩)
  have h4 := withBlock_old (o := .cells arr4 90 fr4) hn4
  replace hFa := hFa.mono h4
  replace hFb := hFb.mono h4
  clear hv4 hn4 h4 hI
  generalize withBlock Y3 k4 (.cells arr4 90 fr4) = Z at *
  generalize (some ⟨k4, 0, none⟩ : Option Addr) = ead at *
  have hin2 : ∀ u ∈ [((false, 100) : Nm)], In2 u.2 := fun u hu => by rw [List.mem_singleton.1 hu]; show 0 ≤ (100 : Int) ∧ (100 : Int) < _; decide
  have o100 := Of_spec Z 100 (by decide)
  have hs1 : vShape (valE c14a.fs c14b.fs r14 [(false, 100)]) (valA c14a.fs c14b.fs r14 [(false, 100)]) = true := by
    cases h : vShape (valE c14a.fs c14b.fs r14 [(false, 100)]) (valA c14a.fs c14b.fs r14 [(false, 100)]) with
    | true => rfl
    | false => have := vShape_nil h; rw [show valA c14a.fs c14b.fs r14 [(false, 100)] = [(false, 200)] from vn14] at this; cases this
  have hV := eVal_box_lent Z c14a c14b r14 [(false, 100)] ad1 ad2 ead cp1 cp2 ec false hFa hc1 hFb hE hin2 (by decide) (by decide) sz14 (by decide) hs1
  rw [show valA c14a.fs c14b.fs r14 [(false, 100)] = [(false, 200)] from vn14, show valE c14a.fs c14b.fs r14 [(false, 100)] = 0 from va14] at hV
  (refine rgD mixed <| K.loadAll rfl rfl rfl .plain ?_; refine K.loadAll rfl rfl rfl .plain ?_; refine K.loadAll rfl rfl rfl .plain ?_; refine kca rfl rfl o100 <| K.buildSlc (zs := [Value.bool false, .int .u64 0, .int .u64 0]) (sz := 3) (e := 86) (cs' := (nmsV [(false, 100)]).map .val) (by kernel_rfl) rfl rfl rfl rfl rfl rfl .plain <| K.callMp [(1000000, 28), (1000001, 601)] (.tup [.one (.slc 601 0 1 3), Sn .i64 0]) [nmsB 28 [(false, 100)] false, nmsB 601 [(false, 200)] (vRow [(false, 200)])] (hV) rfl rfl (by exact (And.intro ⟨_, rfl, rfl⟩ trivial)) (by exact (all_cons_true (all_cons_true rfl (all_cons_true rfl (all_cons_true rfl rfl))) rfl)) rfl rfl rfl rfl (by exact (.box rfl rfl (.box rfl rfl .nil))) .plain <| kmv rfl <| kex rfl rfl <| kex rfl rfl <| kas rfl <| kas rfl <| RunK.nil <| rgA ?_; refine LWP.seq ?_)
  refine LWP.le (σ' := ⟨[(4, .sv (.one (.slc 601 0 1 3))), (5, Ln .i64 0), (1, Lp 1), (2, Lp 2), (3, Lp 3)], [nmsB 601 [(false, 200)] (vRow [(false, 200)]), cpB 1 c14a ad1 cp1, cpB 2 c14b ad2 cp2, v3B 27 3 1 1 ead 1 ec], Z⟩) (Le.of (by exact ⟨rfl, rfl, rfl, rfl, rfl, trivial⟩) (by exact ⟨rfl, rfl, rfl, rfl, trivial⟩) (by exact rfl) (by exact rfl) (by repeat' (first | refine all_cons_true ?_ ?_ | rfl | exact bytes_inUse | exact vals_inUse | exact mid_inUse rfl))) ?_
  refine LWP.freeze rfl rfl rfl fun k5 vc arr5 fr5 hn5 _ hvc _ hv5 => ?_
  have hN : NumsIn (withBlock Z k5 (.cells arr5 86 fr5)) (some ⟨k5, 0, none⟩) [(false, 200)] := nms_in (withBlock_at _ _ _) (fun u hu => by rw [List.mem_singleton.1 hu]; show 0 ≤ (200 : Int) ∧ (200 : Int) < _; decide) hv5
  have h5 := withBlock_old (o := .cells arr5 86 fr5) hn5
  replace hFa := hFa.mono h5
  replace hFb := hFb.mono h5
  replace hE := hE.mono h5
  clear hv5 hn5 h5 hV o100
  generalize withBlock Z k5 (.cells arr5 86 fr5) = W at *
  generalize (some ⟨k5, 0, none⟩ : Option Addr) = vad at *
  have o100 := Of_spec W 100 (by decide)
  repeat refine LWP.seq ?_
  refine LWP.meetL (fun σ => σ = ⟨[(4, Lx vad 1 vc), (5, Ln .i64 0), (7, Ln .i64 3), (1, Lp 1), (2, Lp 2), (3, Lp 3)], [cpB 1 c14a ad1 cp1, cpB 2 c14b ad2 cp2, v3B 27 3 1 1 ead 1 ec], W⟩) ?_ ?_
  · have hve : valE c14a.fs c14a.fs r14 [(false, 100)] = 3 := vb14
    have hva : valA c14a.fs c14a.fs r14 [(false, 100)] = [] := if_neg (by rw [hve]; decide)
    cases hs2 : vShape (valE c14a.fs c14a.fs r14 [(false, 100)]) (valA c14a.fs c14a.fs r14 [(false, 100)]) with
    | false =>
      have hV := eVal_nil_lent W c14a c14a r14 [(false, 100)] ad1 ad1 ead cp1 cp1 ec false hFa hc1 hFa hE hin2 (by decide) (by decide) sz14 (by decide) hs2
      rw [hve] at hV
      (refine rgD mixed <| K.loadAll rfl rfl rfl .plain ?_; refine K.loadAll rfl rfl rfl .plain ?_; refine K.loadAll rfl rfl rfl .plain ?_; refine kca rfl rfl o100 <| K.buildSlc (zs := [Value.bool false, .int .u64 0, .int .u64 0]) (sz := 3) (e := 86) (cs' := (nmsV [(false, 100)]).map .val) (by kernel_rfl) rfl rfl rfl rfl rfl rfl .plain <| K.callM [(1000000, 37)] [nmsB 37 [(false, 100)] false] (hV) rfl rfl (by exact (And.intro ⟨_, rfl, rfl⟩ trivial)) (by exact (all_cons_true (all_cons_true rfl (all_cons_true rfl (all_cons_true rfl rfl))) rfl)) rfl rfl rfl rfl (by exact (.box rfl rfl .nil)) .plain <| kmv rfl <| kex rfl rfl <| kex rfl rfl <| kas rfl <| kas rfl <| RunK.nil <| rgA ?_)
      exact Leads.here (σ' := ⟨[(4, Lx vad 1 vc), (5, Ln .i64 0), (7, Ln .i64 3), (1, Lp 1), (2, Lp 2), (3, Lp 3)], [cpB 1 c14a ad1 cp1, cpB 2 c14b ad2 cp2, v3B 27 3 1 1 ead 1 ec], W⟩) (Le.of (by exact ⟨rfl, rfl, rfl, rfl, rfl, rfl, trivial⟩) (by exact ⟨rfl, rfl, rfl, trivial⟩) (by exact rfl) (by exact rfl) (by repeat' (first | refine all_cons_true ?_ ?_ | rfl | exact bytes_inUse | exact vals_inUse | exact mid_inUse rfl))) rfl
    | true =>
      have hV := eVal_box_lent W c14a c14a r14 [(false, 100)] ad1 ad1 ead cp1 cp1 ec false hFa hc1 hFa hE hin2 (by decide) (by decide) sz14 (by decide) hs2
      rw [hva, hve] at hV
      (refine rgD mixed <| K.loadAll rfl rfl rfl .plain ?_; refine K.loadAll rfl rfl rfl .plain ?_; refine K.loadAll rfl rfl rfl .plain ?_; refine kca rfl rfl o100 <| K.buildSlc (zs := [Value.bool false, .int .u64 0, .int .u64 0]) (sz := 3) (e := 86) (cs' := (nmsV [(false, 100)]).map .val) (by kernel_rfl) rfl rfl rfl rfl rfl rfl .plain <| K.callMp [(1000000, 37), (1000001, 601)] (.tup [.one (.slc 601 0 0 3), Sn .i64 3]) [nmsB 37 [(false, 100)] false, nmsB 601 [] (vRow [])] (hV) rfl rfl (by exact (And.intro ⟨_, rfl, rfl⟩ trivial)) (by exact (all_cons_true (all_cons_true rfl (all_cons_true rfl (all_cons_true rfl rfl))) rfl)) rfl rfl rfl rfl (by exact (.box rfl rfl (.box rfl rfl .nil))) .plain <| kmv rfl <| kex rfl rfl <| kex rfl rfl <| kas rfl <| kas rfl <| RunK.nil <| rgA ?_)
      exact Leads.here (σ' := ⟨[(4, Lx vad 1 vc), (5, Ln .i64 0), (7, Ln .i64 3), (1, Lp 1), (2, Lp 2), (3, Lp 3)], [cpB 1 c14a ad1 cp1, cpB 2 c14b ad2 cp2, v3B 27 3 1 1 ead 1 ec], W⟩) (Le.of (by exact ⟨rfl, rfl, rfl, rfl, rfl, rfl, trivial⟩) (by exact ⟨rfl, rfl, rfl, trivial⟩) (by exact rfl) (by exact rfl) (by repeat' (first | refine all_cons_true ?_ ?_ | rfl | exact bytes_inUse | exact vals_inUse | exact mid_inUse rfl))) rfl
  rintro σ rfl
  have hR := eRow W c14a c14b r14 [100] ad1 ad2 ead cp1 cp2 ec hFa hc1 hFb hE (by decide) (by decide) sz14 (by decide)
  rw [show rowN c14a.fs c14b.fs r14 [100] = [200, 0] from vt14, show rowE c14a.fs c14b.fs r14 [100] = 0 from vr14] at hR
  (refine LWP.seq <| rgN <| K.loadAll rfl rfl rfl .plain ?_; refine K.loadAll rfl rfl rfl .plain ?_; refine K.loadAll rfl rfl rfl .plain ?_; refine kca rfl rfl hR <| kmv rfl <| kex rfl rfl <| kex rfl rfl <| kas rfl <| kas rfl <| RunK.nil <| LWP.seq ?_)
  have o200 := Of_spec W 200 (by decide)
  obtain ⟨_, blk, off, arr, el, fr, rfl, hX, hsz, hcs⟩ := hN.at (i := 0) (b := false) (N := 200) rfl
  have hio : off + Int.toNat 0 * 3 = off + 0 * 3 := by simp
  have q := eqI (b := false) (b' := false) (h := 200 / 18446744073709551616) (h' := 200 / 18446744073709551616) (l := 200 % 18446744073709551616) (l' := 200 % 18446744073709551616) true (by decide)
  have hS := fun (S : Nat → Option (Option Box)) h => eSig_lent W (S := S) (k := 77) (s := 2) (n := 8) (rs := [⟨3, 1, []⟩, ⟨4, 0, []⟩]) (ws := [.slice none 0 0, .slice none 0 0]) (e := 27) (row := false) (va := 0) (vb := 0) ((RulesH.nil.push CodesIn.nilIn).push CodesIn.nilIn) (fun r hr => by
    simp only [List.mem_cons, List.not_mem_nil, or_false] at hr
    rcases hr with rfl | rfl <;> exact ⟨by decide, by decide⟩) (by decide) (by decide) h vs14
  (refine rgD mixed <| kmv rfl <| keq rfl rfl (r := true) rfl <| kmv rfl <| gmv rfl rfl rfl <| K.lenX rfl SliceT.h rfl (.taken rfl rfl) ?_; refine K.eql rfl rfl (r := true) rfl (.taken rfl rfl) ?_; refine kpt rfl rfl <| kmv rfl <| gmv rfl rfl rfl <| K.indexX rfl rfl SliceT.h (by decide) hio (.taken rfl rfl) ?_; refine K.loadXagg rfl hX (by kernel_rfl) hsz hcs (.taken rfl rfl) ?_; refine gca rfl rfl o200 rfl rfl <| K.aggEq rfl rfl rfl rfl (by kernel_rfl) q (.inl ⟨rfl, rfl⟩) (.taken rfl rfl) ?_; refine kpt rfl rfl <| kmv rfl <| gmv rfl rfl rfl <| K.eql rfl rfl (r := true) rfl (.taken rfl rfl) ?_; refine kpt rfl rfl <| kmv rfl <| gmv rfl rfl rfl <| K.eql rfl rfl (r := true) rfl (.taken rfl rfl) ?_; refine kpt rfl rfl <| kmv rfl <| gmv rfl rfl rfl <| K.strEq rfl rfl (strs_eq (r := true) rfl) (.taken rfl rfl) ?_; refine kpt rfl rfl <| kmv rfl <| K.build rfl rfl (by exact rfl) (by exact nl3 rfl rfl rfl rfl) (.taken rfl rfl) ?_; refine K.build rfl rfl (by exact rfl) (by exact nl3 rfl rfl rfl rfl) (.taken rfl rfl) ?_; refine K.buildSlc (zs := (List.replicate 2 rzs14).flatten) (sz := 3) (e := 27) (cs' := (rwZ [⟨3, 1, []⟩, ⟨4, 0, []⟩] [.slice none 0 0, .slice none 0 0]).map .val) (by kernel_rfl) rfl rfl rfl rfl rfl rfl (.taken rfl rfl) ?_; refine K.build rfl rfl (by exact rfl) (by exact nl3 rfl rfl rfl rfl) (.taken rfl rfl) ?_; refine K.callL [77] rfl rfl rfl (hS _ rfl) (.taken rfl rfl) ?_; refine K.eql rfl rfl (r := true) rfl (.taken rfl rfl) ?_; refine kpt rfl rfl <| kas rfl <| RunK.nil <| rgA ?_; refine LWP.ret ?_)
  exact ⟨[_], ⟨rfl, trivial⟩, rfl⟩
end Go.Proofs.YtopiioklkkiedaaGreatDoor
end
section
namespace Go.Proofs.YtopiioklkkiedaaGreatDoor
open Go Go.Lg Go.Lg.Fml Go.Lg.Fld Go.Lg.Arith
set_option maxRecDepth 100000
variable (X : Nat → Option Obj)
set_option maxHeartbeats 12800000 in
theorem evalFresh_law (p : Pg) (ad : Option Addr) (cap a b : Nat) (hin : RulesIn X ad p.rs) (hbig : p.rs.length < 4611686018427387904) (hsz : sizeR p.rs) (ha : a < 4294967296) (hb : b < 4294967296) :
    PSpec Tryz.prog X 8 [LPg p.va p.vb ad p.rs.length cap, Ln .u32 (a : Nat), Ln .u32 (b : Nat)] (Lb true) := by
  have hW := awake14_spec X
  have hC := kCheck X p ad cap hin hbig hsz
  refine PSpec.intro Tryz.func8 rfl (by kernel_rfl) rfl rfl ?_
  intro C
  by_cases c1 : 30 < p.rs.length
  · (refine LWP.seq <| rgN <| K.box rfl rfl rfl .plain <| kas rfl <| RunK.nil <| LWP.seq <| LWP.seq <| rgN <| kca rfl rfl (hW) <| K.not rfl rfl .plain <| RunK.nil <| LWP.condF rfl ?_; refine LWP.skip ?_; refine LWP.seq <| LWP.seq <| rgN <| kfa rfl rfl ?_; refine kl1 rfl rfl rfl <| K.lenX rfl SliceT.h rfl .plain ?_; refine K.gtr rfl rfl (decide_eq_true (by omega)) .plain <| kmv rfl <| RunK.passed rfl rfl rfl <| RunK.passed rfl rfl rfl <| RunK.passed rfl rfl rfl <| kpt rfl rfl <| RunK.nil <| LWP.condT rfl ?_; refine LWP.seq <| rgN <| kas rfl <| RunK.nil <| LWP.ret ?_)
    exact ⟨[_], ⟨rfl, trivial⟩, rfl⟩
  by_cases c2 : chkP p = 0
  case neg =>
    generalize chkP p = e at *
    (refine LWP.seq <| rgN <| K.box rfl rfl rfl .plain <| kas rfl <| RunK.nil <| LWP.seq <| LWP.seq <| rgN <| kca rfl rfl (hW) <| K.not rfl rfl .plain <| RunK.nil <| LWP.condF rfl ?_; refine LWP.skip ?_; refine LWP.seq <| LWP.seq <| rgN <| kfa rfl rfl ?_; refine kl1 rfl rfl rfl <| K.lenX rfl SliceT.h rfl .plain ?_; refine K.gtr rfl rfl (decide_eq_false (by omega)) .plain <| kmv rfl <| K.loadAll rfl rfl rfl (.taken rfl rfl) ?_; refine gca rfl rfl hC rfl rfl <| K.neq rfl rfl (r := true) (bne_iff_ne.2 c2) (.taken rfl rfl) ?_; refine kpf rfl rfl <| RunK.nil <| LWP.condT rfl ?_; refine LWP.seq <| rgN <| kas rfl <| RunK.nil <| LWP.ret ?_)
    exact ⟨[_], ⟨rfl, trivial⟩, rfl⟩
  rw [c2] at hC
  have hab : a &&& b < 4294967296 := Nat.lt_of_le_of_lt Nat.and_le_left ha
  have h1 := Sg.andN_32 ha hb
  have hS1 := eSig X p.va p.vb p.rs ad cap (a &&& b) hin hbig hab
  have hS2 := eSig X p.va p.vb p.rs ad cap b hin hbig hb
  have hS3 := eSig X p.va p.vb p.rs ad cap 0 hin hbig (by omega)
  rw [sigN_zero] at hS3
  have w1 := sigN_within p.rs a b
  have i1 := sigN_isB p.rs (a &&& b)
  have i2 := sigN_isB p.rs b
  have l1 : sigN p.rs (a &&& b) < 4294967296 := by have := sigN_lt p.rs (a &&& b); omega
  have l2 : sigN p.rs b < 4294967296 := by have := sigN_lt p.rs b; omega
  have f1 : ∀ r ∈ p.rs, r.old = 0 → Sg.hasB (sigN p.rs (a &&& b)) r.nw = false := fun r hr h0 => sigN_fresh c2 hr h0 _
  have f2 : ∀ r ∈ p.rs, r.old = 0 → Sg.hasB (sigN p.rs b) r.nw = false := fun r hr h0 => sigN_fresh c2 hr h0 _
  generalize sigN p.rs (a &&& b) = x at *
  generalize sigN p.rs b = y at *
  generalize a &&& b = ab at *
  have hWi := gWithin X x y l1 l2
  rw [w1] at hWi
  have hI1 := gIs X x l1
  rw [i1] at hI1
  have hI2 := gIs X y l2
  rw [i2] at hI2
  (refine LWP.seq <| rgN <| K.box rfl rfl rfl .plain <| kas rfl <| RunK.nil <| LWP.seq <| LWP.seq <| rgN <| kca rfl rfl (hW) <| K.not rfl rfl .plain <| RunK.nil <| LWP.condF rfl ?_; refine LWP.skip ?_; refine LWP.seq <| LWP.seq <| rgN <| kfa rfl rfl ?_; refine kl1 rfl rfl rfl <| K.lenX rfl SliceT.h rfl .plain ?_; refine K.gtr rfl rfl (decide_eq_false (by omega)) .plain <| kmv rfl <| K.loadAll rfl rfl rfl (.taken rfl rfl) ?_; refine gca rfl rfl hC rfl rfl <| K.neq rfl rfl (r := false) rfl (.taken rfl rfl) ?_; refine kpf rfl rfl <| RunK.nil <| LWP.condF rfl ?_; refine LWP.skip ?_; refine LWP.seq <| rgN <| K.loadAll rfl rfl rfl .plain ?_; refine kmv rfl <| kmv rfl <| K.bitop (by simp) rfl rfl h1 .plain <| kca rfl rfl hS1 <| kas rfl <| RunK.nil <| LWP.seq <| rgN <| K.loadAll rfl rfl rfl .plain ?_; refine kmv rfl <| kca rfl rfl hS2 <| kas rfl <| RunK.nil <| LWP.seq <| LWP.seq <| rgN <| kas rfl <| RunK.nil <| LWP.block ?_)
  clear hS1 hS2 hC hW h1 w1 i1 i2
  refine LWP.loop (fun m σ => ∃ i : Nat, i ≤ p.rs.length ∧ m = p.rs.length - i ∧ σ = ⟨[(3, Lp 3), (7, Ln .u32 (x : Nat)), (8, Ln .u32 (y : Nat)), (9, Ln .i64 (i : Nat))], [v3B 36 3 p.va p.vb ad p.rs.length cap], X⟩) p.rs.length
    ⟨_, Le.of (by exact ⟨rfl, rfl, rfl, rfl, trivial⟩) (by exact ⟨rfl, trivial⟩) (by exact rfl) (by exact rfl) (by repeat' (first | refine all_cons_true ?_ ?_ | rfl | exact bytes_inUse | exact vals_inUse | exact mid_inUse rfl)), 0, by omega, by omega, rfl⟩ ?_
  rintro m σ ⟨i, hi, rfl, rfl⟩
  by_cases hlt : i < p.rs.length
  case neg =>
    (refine LWP.seq <| LWP.seq <| rgN <| kmv rfl <| kfa rfl rfl ?_; refine kl1 rfl rfl rfl <| K.lenX rfl SliceT.h rfl .plain ?_; refine klt rfl rfl (decide_eq_false (by omega)) <| RunK.nil <| LWP.condF rfl ?_; refine LWP.exit <| LWP.seq <| rgN <| kmv rfl <| kmv rfl <| kca rfl rfl hWi <| kmv rfl <| gmv rfl rfl rfl <| gca rfl rfl hI1 rfl rfl <| kpt rfl rfl <| kmv rfl <| gmv rfl rfl rfl <| gca rfl rfl hI2 rfl rfl <| kpt rfl rfl ?_; refine kmv rfl <| K.loadAll rfl rfl rfl (.taken rfl rfl) ?_; refine gca rfl rfl hS3 rfl rfl <| K.eql rfl rfl (r := true) rfl (.taken rfl rfl) ?_; refine kpt rfl rfl <| kas rfl <| RunK.nil <| LWP.ret ?_)
    exact ⟨[_], ⟨rfl, trivial⟩, rfl⟩
  obtain ⟨r, hr⟩ : ∃ r, p.rs[i]? = some r := ⟨_, List.getElem?_eq_getElem hlt⟩
  have hrm := List.mem_of_getElem? hr
  obtain ⟨blk, off, arr, el, fr, ead, ecap, rfl, hX, hsiz, hcs, g1, g2, g3, hE⟩ := hin.get hr
  have hio : off + Int.toNat (i : Int) * 3 = off + i * 3 := by simp
  have hadd : IntKind.i64.wrap ((i : Int) + 1) = ((i + 1 : Nat) : Int) := by rw [wrap_i64 (by omega)]; omega
  by_cases h0 : r.old = 0
  case neg =>
    (refine LWP.seq <| LWP.seq <| rgN <| kmv rfl <| kfa rfl rfl ?_; refine kl1 rfl rfl rfl <| K.lenX rfl SliceT.h rfl .plain ?_; refine klt rfl rfl (decide_eq_true (by omega)) <| RunK.nil <| LWP.condT rfl ?_; refine LWP.skip ?_; refine LWP.seq <| LWP.block <| LWP.seq <| rgN <| kfa rfl rfl ?_; refine kl1 rfl rfl rfl <| kmv rfl <| K.indexX rfl rfl SliceT.h (by omega) hio .plain <| K.fieldAddrX rfl rfl .plain ?_; refine K.loadX rfl hX rfl g2 .plain <| keq rfl rfl (r := false) (beq_eq_false_iff_ne.2 h0) <| kmv rfl <| RunK.passed rfl rfl rfl <| RunK.passed rfl rfl rfl <| RunK.passed rfl rfl rfl <| RunK.passed rfl rfl rfl <| RunK.passed rfl rfl rfl <| RunK.passed rfl rfl rfl <| RunK.passed rfl rfl rfl <| RunK.passed rfl rfl rfl <| RunK.passed rfl rfl rfl <| RunK.passedU rfl rfl <| RunK.passedU rfl rfl ?_; refine RunK.passedU rfl rfl <| RunK.passedU rfl rfl <| RunK.passedU rfl rfl <| RunK.passedU rfl rfl <| RunK.passedU rfl rfl <| RunK.passedU rfl rfl <| RunK.passed rfl rfl rfl <| kpf rfl rfl <| RunK.nil <| LWP.condF rfl ?_; refine LWP.skip ?_; refine rgN <| kmv rfl <| kad rfl rfl hadd <| kas rfl <| RunK.nil ?_)
    exact ⟨_, _, by omega, Le.of (by exact ⟨rfl, rfl, rfl, rfl, trivial⟩) (by exact ⟨rfl, trivial⟩) (by exact rfl) (by exact rfl) (by repeat' (first | refine all_cons_true ?_ ?_ | rfl | exact bytes_inUse | exact vals_inUse | exact mid_inUse rfl)), i + 1, by omega, rfl, rfl⟩
  have hH1 := gHas X x l1 r.nw
  rw [f1 r hrm h0] at hH1
  have hH2 := gHas X y l2 r.nw
  rw [f2 r hrm h0] at hH2
  (refine LWP.seq <| LWP.seq <| rgN <| kmv rfl <| kfa rfl rfl ?_; refine kl1 rfl rfl rfl <| K.lenX rfl SliceT.h rfl .plain ?_; refine klt rfl rfl (decide_eq_true (by omega)) <| RunK.nil <| LWP.condT rfl ?_; refine LWP.skip ?_; refine LWP.seq <| LWP.block <| LWP.seq <| rgN <| kfa rfl rfl ?_; refine kl1 rfl rfl rfl <| kmv rfl <| K.indexX rfl rfl SliceT.h (by omega) hio .plain <| K.fieldAddrX rfl rfl .plain ?_; refine K.loadX rfl hX rfl g2 .plain <| keq rfl rfl (r := true) (beq_iff_eq.2 h0) <| kmv rfl <| gmv rfl rfl rfl <| K.fieldAddr rfl rfl (.taken rfl rfl) ?_; refine K.loadOne rfl rfl rfl (.taken rfl rfl) ?_; refine gmv rfl rfl rfl <| K.indexX rfl rfl SliceT.h (by omega) hio (.taken rfl rfl) ?_; refine K.fieldAddrX rfl rfl (.taken rfl rfl) ?_; refine K.loadX rfl hX rfl g1 (.taken rfl rfl) ?_; refine gca rfl rfl hH1 rfl rfl <| gmv rfl rfl rfl <| gmv rfl rfl rfl <| K.fieldAddr rfl rfl (.taken rfl rfl) ?_; refine K.loadOne rfl rfl rfl (.taken rfl rfl) ?_; refine gmv rfl rfl rfl <| K.indexX rfl rfl SliceT.h (by omega) hio (.taken rfl rfl) ?_; refine K.fieldAddrX rfl rfl (.taken rfl rfl) ?_; refine K.loadX rfl hX rfl g1 (.taken rfl rfl) ?_; refine gca rfl rfl hH2 rfl rfl <| K.pickF rfl rfl (.taken rfl rfl) ?_; refine kpt rfl rfl <| RunK.nil <| LWP.condF rfl ?_; refine LWP.skip ?_; refine rgN <| kmv rfl <| kad rfl rfl hadd <| kas rfl <| RunK.nil ?_)
  exact ⟨_, _, by omega, Le.of (by exact ⟨rfl, rfl, rfl, rfl, trivial⟩) (by exact ⟨rfl, trivial⟩) (by exact rfl) (by exact rfl) (by repeat' (first | refine all_cons_true ?_ ?_ | rfl | exact bytes_inUse | exact vals_inUse | exact mid_inUse rfl)), i + 1, by omega, rfl, rfl⟩
end Go.Proofs.YtopiioklkkiedaaGreatDoor
end
