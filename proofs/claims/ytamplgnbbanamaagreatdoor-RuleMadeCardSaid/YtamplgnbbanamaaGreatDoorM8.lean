/- A piece of a proof over this program: contracts of its functions, and a logic to prove them by. -/
import Derived.Test.YtamplgnbbanamaaGreatDoorM2
import Derived.Test.YtamplgnbbanamaaGreatDoorM6
import Derived.Test.YtamplgnbbanamaaGreatDoorM7
import Derived.Test.YtamplgnbbanamaaGreatDoorRows
import Derived.Test.YtamplgnbbanamaaGreatDoorTie
import Derived.Test.YtamplgnbbanamaaGreatDoorCards
import Derived.ProofKit
import Derived.LaidMore
import Derived.OpenShut
import Derived.Stop.Joined
import Derived.Stop.LaidErr
import Derived.Lib.SmallJoins
import Derived.SevenTiedAt
section
namespace Go.Proofs.YtamplgnbbanamaaGreatDoor
open Go Go.Lg Go.Lg.Fml Go.Lg.Fld Go.Lg.Arith
set_option maxRecDepth 100000
def IntsI (X : Nat → Option Obj) (ad : Option Addr) (l : List Int) : Prop := Go.Lg.RowsIn X ad 1 (l.map fun n => [.int .i64 n])
theorem IntsI.at {X : Nat → Option Obj} {ad : Option Addr} {l : List Int} (h : IntsI X ad l) {i : Nat} {x : Int} (hx : l[i]? = some x) : ∃ (blk off : Nat) (arr : Array Value) (el : TypeId) (fr : Nat × Nat), ad = some ⟨blk, off, none⟩ ∧ X blk = some (.cells arr el fr) ∧ arr[off + i * 1]? = some (.int .i64 x) := by
  obtain ⟨blk, off, arr, el, fr, h1, h2, h3, h4⟩ := h i [.int .i64 x] (by rw [List.getElem?_map, hx]; rfl)
  have := congrArg (fun l : List Value => l[0]?) h4
  exact ⟨blk, off, arr, el, fr, h1, h2, by simpa [List.getElem?_take, List.getElem?_drop] using this⟩
theorem flat_one {α β : Type} (f : α → β) (l : List α) : (l.map fun x => [f x]).flatten = l.map f := by
  induction l with
  | nil => rfl
  | cons x t ih => rw [List.map_cons, List.flatten_cons, ih]; rfl
theorem intsI_frozen {X : Nat → Option Obj} {blk : Nat} {arr : Array Value} {el : TypeId} {fr : Nat × Nat} {l : List Int} (h : ∃ sp, arr.toList = int1 l ++ sp) : IntsI (withBlock X blk (.cells arr el fr)) (some ⟨blk, 0, none⟩) l :=
  rows_frozen (fun r hr => by obtain ⟨x, _, rfl⟩ := List.mem_map.1 hr; rfl) (by rw [flat_one]; exact h)
theorem ok_of_grt {p : Pg} (h : grtP p.rs = false) : pgOk p := grtP_false h
variable (X : Nat → Option Obj)
set_option maxHeartbeats 12800000 in
theorem RuleMade_spec (hTab : XTab X) (p : Pg) (ad : Option Addr) (cap : Nat) (hin : RulesIn X ad p.rs) (hbig : p.rs.length < 9223372036854775808) (hsz : sizeB p.rs) (old : Int) (ho : -9223372036854775808 ≤ old ∧ old < 9223372036854775808) :
    PSpec Tryz.prog X 6 [LPg p.va p.vb ad p.rs.length cap, Ln .i64 old] (Lb true) := by
  have hW := awake12_spec X hTab
  have hG := great12_spec X p ad cap hin hbig hsz
  refine PSpec.intro Tryz.func6 rfl (by kernel_rfl) rfl rfl ?_
  intro C
  cases hg : grtP p.rs with
  | true =>
    rw [hg] at hG
    (refine LWP.seq <| rgN <| K.box rfl rfl rfl .plain <| kas rfl <| RunK.nil <| LWP.seq <| LWP.seq <| rgN <| kca rfl rfl (hW) <| K.not rfl rfl .plain <| RunK.nil <| LWP.condF rfl ?_; refine LWP.skip ?_; refine LWP.seq <| LWP.seq <| rgN <| K.loadAll rfl rfl rfl .plain ?_; refine kca rfl rfl hG <| kmv rfl <| RunK.passed rfl rfl rfl <| RunK.passed rfl rfl rfl <| RunK.passed rfl rfl rfl <| kpt rfl rfl <| RunK.nil <| LWP.condT rfl ?_; refine LWP.seq <| rgN <| kas rfl <| RunK.nil <| LWP.ret ?_)
    exact ⟨[_], ⟨rfl, trivial⟩, rfl⟩
  | false =>
  rw [hg] at hG
  have hok := ok_of_grt hg
  have hC := hCheck X p ad cap hin hok
  by_cases hz : chkP p = 0
  case neg =>
    have hne : (chkP p != 0) = true := by rw [bne_iff_ne]; exact hz
    (refine LWP.seq <| rgN <| K.box rfl rfl rfl .plain <| kas rfl <| RunK.nil <| LWP.seq <| LWP.seq <| rgN <| kca rfl rfl (hW) <| K.not rfl rfl .plain <| RunK.nil <| LWP.condF rfl ?_; refine LWP.skip ?_; refine LWP.seq <| LWP.seq <| rgN <| K.loadAll rfl rfl rfl .plain ?_; refine kca rfl rfl hG <| kmv rfl <| K.loadAll rfl rfl rfl (.taken rfl rfl) ?_; refine gca rfl rfl hC rfl rfl <| K.neq rfl rfl hne (.taken rfl rfl) ?_; refine kpf rfl rfl <| RunK.nil <| LWP.condT rfl ?_; refine LWP.seq <| rgN <| kas rfl <| RunK.nil <| LWP.ret ?_)
    exact ⟨[_], ⟨rfl, trivial⟩, rfl⟩
  have hcr := (chkP_zero hz).2.2.1
  have hzz := fromP_zero p.rs
  rw [hz] at hC
  have hR := hFrom X p ad cap hin hok old
  (refine LWP.seq <| rgN <| K.box rfl rfl rfl .plain <| kas rfl <| RunK.nil <| LWP.seq <| LWP.seq <| rgN <| kca rfl rfl (hW) <| K.not rfl rfl .plain <| RunK.nil <| LWP.condF rfl ?_; refine LWP.skip ?_; refine LWP.seq <| LWP.seq <| rgN <| K.loadAll rfl rfl rfl .plain ?_; refine kca rfl rfl hG <| kmv rfl <| K.loadAll rfl rfl rfl (.taken rfl rfl) ?_; refine gca rfl rfl hC rfl rfl <| K.neq rfl rfl (r := false) rfl (.taken rfl rfl) ?_; refine kpf rfl rfl <| RunK.nil <| LWP.condF rfl ?_; refine LWP.skip ?_; refine LWP.seq ?_)
  repeat refine LWP.seq ?_
  refine LWP.meetL (fun σ => ∃ (Y : Nat → Option Obj) (ld : Option Addr) (lc : Nat), (∀ b o, X b = some o → Y b = some o) ∧ IntsI Y ld (fromP p.rs old) ∧ σ = ⟨[(1, Ln .i64 old), (2, Lp 2), (5, Lx ld (fromP p.rs old).length lc)], [v3B 24 2 p.va p.vb ad p.rs.length cap], Y⟩) ?_ ?_
  · (refine rgN <| K.loadAll rfl rfl rfl .plain ?_; refine kmv rfl <| K.callMp [(1000001, 600)] (.sv (.one (.slc 600 0 (fromP p.rs old).length 1))) [(600, some ⟨3, (int1 (fromP p.rs old)).map .val, true⟩)] (hR) rfl rfl (by exact trivial) rfl rfl rfl rfl rfl (by exact (.box rfl (Box.ren_vals _ _ _ _) .nil)) .plain <| kas rfl <| RunK.nil ?_)
    refine Leads.le (σ' := ⟨[(5, .sv (.one (.slc 600 0 (fromP p.rs old).length 1))), (1, Ln .i64 old), (2, Lp 2)], [(600, some ⟨3, (int1 (fromP p.rs old)).map .val, true⟩), v3B 24 2 p.va p.vb ad p.rs.length cap], X⟩) (Le.of (by exact ⟨rfl, rfl, rfl, trivial⟩) (by exact ⟨rfl, rfl, trivial⟩) (by exact rfl) (by exact rfl) (by repeat' (first | refine all_cons_true ?_ ?_ | rfl | exact bytes_inUse | exact vals_inUse | exact mid_inUse rfl))) ?_
    refine Leads.freeze rfl rfl rfl fun b1 c1 a1 f1 hn _ _ _ hsp => ?_
    exact Leads.le (Le.of (by exact ⟨rfl, rfl, rfl, trivial⟩) (by exact ⟨rfl, trivial⟩) (by exact rfl) (by exact rfl) (by repeat' (first | refine all_cons_true ?_ ?_ | rfl | exact bytes_inUse | exact vals_inUse | exact mid_inUse rfl))) (Leads.done ⟨_, some ⟨b1, 0, none⟩, c1, withBlock_old hn, intsI_frozen hsp, rfl⟩)
  rintro σ ⟨Y, ld, lc, hY, hLin, rfl⟩
  replace hin := hin.mono hY
  replace hTab := xtab_mono hY hTab
  have hok2 := hok
  obtain ⟨va, vb, rs⟩ := p
  simp only at hin hcr hbig hLin hzz hz ⊢
  have h30 : rs.length ≤ 30 := hok.1
  have hfl := fromP_len rs old
  (refine LWP.seq <| rgN <| kas rfl <| RunK.nil <| LWP.seq <| LWP.seq <| rgN <| kas rfl <| RunK.nil <| LWP.block ?_)
  refine LWP.loop (fun m σ => ∃ i : Nat, i ≤ rs.length ∧ m = rs.length - i ∧ σ = ⟨[(1, Ln .i64 old), (2, Lp 2), (5, Lx ld (fromP rs old).length lc), (6, Ln .i64 ((fromP (rs.take i) old).length : Nat)), (7, Ln .i64 (i : Nat))], [v3B 24 2 va vb ad rs.length cap], Y⟩) rs.length
    ⟨⟨[(1, Ln .i64 old), (2, Lp 2), (5, Lx ld (fromP rs old).length lc), (6, Ln .i64 (0 : Nat)), (7, Ln .i64 (0 : Nat))], [v3B 24 2 va vb ad rs.length cap], Y⟩, Le.of (by exact ⟨rfl, rfl, rfl, rfl, rfl, trivial⟩) (by exact ⟨rfl, trivial⟩) (by exact rfl) (by exact rfl) (by repeat' (first | refine all_cons_true ?_ ?_ | rfl | exact bytes_inUse | exact vals_inUse | exact mid_inUse rfl)), 0, by omega, by omega, by rw [show fromP (rs.take 0) old = [] by unfold fromP; split <;> rfl]; rfl⟩ ?_
  rintro m σ ⟨i, hi, rfl, rfl⟩
  by_cases hlt : i < rs.length
  case neg =>
    have e : i = rs.length := by omega
    subst e
    rw [List.take_length]
    have hN := hFind_no Y ⟨va, vb, rs⟩ ad cap hin hok 0 (findP_zero hcr)
    have hR0 := hFrom Y ⟨va, vb, rs⟩ ad cap hin hok 0
    have hL := hLines Y ⟨va, vb, rs⟩ ad cap hin hok hTab hz
    simp only at hN hR0 hL
    rw [hzz] at hR0
    (refine LWP.seq <| LWP.seq <| rgN <| kmv rfl <| kfa rfl rfl ?_; refine kl1 rfl rfl rfl <| K.lenX rfl SliceT.h rfl .plain ?_; refine klt rfl rfl (decide_eq_false (by omega)) <| RunK.nil <| LWP.condF rfl ?_; refine LWP.exit <| LWP.seq <| rgN <| K.loadAll rfl rfl rfl .plain ?_; refine kca rfl rfl hN <| kmv rfl <| kex rfl rfl <| kex rfl rfl <| K.alloc rfl .plain ?_; refine K.storeAll rfl rfl rfl rfl rfl rfl .plain ?_; refine kas rfl <| RunK.nil <| LWP.seq ?_)
    refine LWP.le (σ' := ⟨[(2, Lp 2), (5, Lx ld (fromP rs old).length lc), (6, Ln .i64 ((fromP rs old).length : Nat)), (11, Lb false)], [v3B 24 2 va vb ad rs.length cap], Y⟩) (Le.of (by exact ⟨rfl, rfl, rfl, rfl, trivial⟩) (by exact ⟨rfl, trivial⟩) (by exact rfl) (by exact rfl) (by repeat' (first | refine all_cons_true ?_ ?_ | rfl | exact bytes_inUse | exact vals_inUse | exact mid_inUse rfl))) ?_
    (refine rgD mixed <| kmv rfl <| kmv rfl <| K.lenX rfl SliceT.h rfl .plain ?_; refine keq rfl rfl (beq_iff_eq.2 rfl) <| kmv rfl <| gmv rfl rfl rfl <| K.not rfl rfl (.taken rfl rfl) ?_; refine kpt rfl rfl <| kmv rfl <| K.loadAll rfl rfl rfl (.taken rfl rfl) ?_; refine K.callMp [(1000001, 604)] (.sv (.one (.slc 604 0 0 1))) [(604, some ⟨3, (int1 []).map .val, true⟩)] (hR0) rfl rfl (by exact trivial) rfl rfl rfl rfl rfl (by exact (.box rfl rfl .nil)) (.taken rfl rfl) ?_; refine K.lenSlc rfl SliceT.h rfl (.taken rfl rfl) ?_; refine K.eql rfl rfl (r := true) rfl (.taken rfl rfl) ?_; refine kpt rfl rfl <| kmv rfl <| K.loadAll rfl rfl rfl (.taken rfl rfl) ?_; refine K.callMp [(1000001, 605)] (.sv (.one (.slc 605 0 rs.length 1))) [txB 605 (rs.map lineR) true] (hL) rfl rfl (by exact trivial) rfl rfl rfl rfl rfl (by exact (.box rfl (Box.ren_vals _ _ _ _) .nil)) (.taken rfl rfl) ?_; refine K.lenSlc rfl SliceT.h rfl (.taken rfl rfl) ?_; refine K.fieldAddr rfl rfl (.taken rfl rfl) ?_; refine K.loadOne rfl rfl rfl (.taken rfl rfl) ?_; refine K.lenX rfl SliceT.h rfl (.taken rfl rfl) ?_; refine K.eql rfl rfl (beq_iff_eq.2 rfl) (.taken rfl rfl) ?_; refine kpt rfl rfl <| kas rfl <| RunK.nil <| rgA ?_; refine LWP.ret ?_)
    exact ⟨[_], ⟨rfl, trivial⟩, rfl⟩
  obtain ⟨r, hr⟩ : ∃ r, rs[i]? = some r := ⟨_, List.getElem?_eq_getElem hlt⟩
  have hfd := findP_in hcr r (List.mem_of_getElem? hr)
  have hF := hFind_yes Y ⟨va, vb, rs⟩ ad cap hin hok r.nw hfd
  simp only at hF
  obtain ⟨blk, off, arr, el, fr, ead, ecap, rfl, hX, hsiz, hcs, g1, g2, g3, hE⟩ := hin.get hr
  have hio : off + Int.toNat (i : Int) * 3 = off + i * 3 := by simp
  have hadi : IntKind.i64.wrap ((i : Int) + 1) = ((i + 1 : Nat) : Int) := by rw [wrap_i64 (by omega)]; omega
  have hpre := fromP_len (rs.take i) old
  rw [List.length_take] at hpre
  have hsplit : fromP rs old = fromP (rs.take i) old ++ fromP (r :: rs.drop (i + 1)) old := by rw [← fromP_app, ← drop_at hr, List.take_append_drop]
  have hnext : fromP (rs.take (i + 1)) old = fromP (rs.take i) old ++ fromP [r] old := by rw [take_snoc hr, fromP_app]
  ((refine LWP.seq <| LWP.seq <| rgN <| kmv rfl <| kfa rfl rfl ?_; refine kl1 rfl rfl rfl <| K.lenX rfl SliceT.h rfl .plain ?_; refine klt rfl rfl (decide_eq_true (by omega)) <| RunK.nil <| LWP.condT rfl ?_; refine LWP.skip ?_; refine LWP.seq <| LWP.block <| LWP.seq <| rgD mixed <| K.loadAll rfl rfl rfl .plain ?_; refine kfa rfl rfl ?_; refine kl1 rfl rfl rfl <| kmv rfl <| K.indexX rfl rfl SliceT.h (by omega) hio .plain <| K.fieldAddrX rfl rfl .plain ?_; refine K.loadX rfl hX rfl g1 .plain <| K.callMp [(1000001, 606)] (.tup [SRs r 606, Sb true]) [cdB 606 r.ex] (hF) rfl rfl (by exact trivial) rfl rfl rfl rfl rfl (by exact (.box rfl rfl .nil)) .plain <| kmv rfl <| kex rfl rfl <| kex rfl rfl <| K.alloc rfl .plain ?_; refine K.storeAll rfl rfl rfl rfl rfl rfl .plain ?_; refine kas rfl <| RunK.nil <| rgA ?_; refine LWP.seq <| LWP.seq <| rgD mixed <| kmv rfl <| K.not rfl rfl .plain <| kmv rfl <| K.fieldAddr rfl rfl (.taken rfl rfl) ?_; refine K.loadOne rfl rfl rfl (.taken rfl rfl) ?_); (refine K.fieldAddr rfl rfl (.taken rfl rfl) ?_; refine K.loadOne rfl rfl rfl (.taken rfl rfl) ?_; refine gmv rfl rfl rfl <| K.indexX rfl rfl SliceT.h (by omega) hio (.taken rfl rfl) ?_; refine K.fieldAddrX rfl rfl (.taken rfl rfl) ?_; refine K.loadX rfl hX rfl g1 (.taken rfl rfl) ?_; refine K.neq rfl rfl (bne_eq_false_iff_eq.2 rfl) (.taken rfl rfl) ?_; refine kpf rfl rfl <| kmv rfl <| K.fieldAddr rfl rfl (.taken rfl rfl) ?_; refine K.loadOne rfl rfl rfl (.taken rfl rfl) ?_; refine K.fieldAddr rfl rfl (.taken rfl rfl) ?_; refine K.loadOne rfl rfl rfl (.taken rfl rfl) ?_; refine gmv rfl rfl rfl <| K.indexX rfl rfl SliceT.h (by omega) hio (.taken rfl rfl) ?_; refine K.fieldAddrX rfl rfl (.taken rfl rfl) ?_); (refine K.loadX rfl hX rfl g2 (.taken rfl rfl) ?_; refine K.neq rfl rfl (bne_eq_false_iff_eq.2 rfl) (.taken rfl rfl) ?_; refine kpf rfl rfl <| kmv rfl <| K.fieldAddr rfl rfl (.taken rfl rfl) ?_; refine K.loadOne rfl rfl rfl (.taken rfl rfl) ?_; refine K.lenSlc rfl SliceT.h rfl (.taken rfl rfl) ?_; refine K.fieldAddr rfl rfl (.taken rfl rfl) ?_; refine K.loadOne rfl rfl rfl (.taken rfl rfl) ?_; refine gmv rfl rfl rfl <| K.indexX rfl rfl SliceT.h (by omega) hio (.taken rfl rfl) ?_; refine K.fieldAddrX rfl rfl (.taken rfl rfl) ?_; refine K.loadX rfl hX rfl g3 (.taken rfl rfl) ?_; refine K.lenX rfl SliceT.h rfl (.taken rfl rfl) ?_; refine K.neq rfl rfl (bne_eq_false_iff_eq.2 rfl) (.taken rfl rfl) ?_); (refine kpf rfl rfl <| RunK.nil <| rgA ?_; refine LWP.condF rfl ?_; refine LWP.skip ?_; refine LWP.seq ?_))
  by_cases hm : r.old = old ∧ old ≠ 0
  case neg =>
    rw [fromP_not hm, show fromP [] old = [] by unfold fromP; split <;> rfl, List.append_nil] at hnext
    by_cases hme : r.old = old
    · have h0 : old = 0 := by
        by_cases h : old = 0
        · exact h
        · exact absurd ⟨hme, h⟩ hm
      (refine rgN <| kfa rfl rfl ?_; refine kl1 rfl rfl rfl <| kmv rfl <| keq rfl rfl (beq_iff_eq.2 hme) <| kmv rfl <| gmv rfl rfl rfl <| K.neq rfl rfl (bne_eq_false_iff_eq.2 h0) (.taken rfl rfl) ?_; refine kpt rfl rfl <| RunK.nil <| LWP.condF rfl ?_; refine LWP.skip ?_; refine rgN <| kmv rfl <| kad rfl rfl hadi <| kas rfl <| RunK.nil ?_)
      rw [← hnext]
      exact ⟨_, ⟨[(1, Ln .i64 old), (2, Lp 2), (5, Lx ld (fromP rs old).length lc), (6, Ln .i64 ((fromP (rs.take (i + 1)) old).length : Nat)), (7, Ln .i64 (i + 1 : Nat))], [v3B 24 2 va vb (some ⟨blk, off, none⟩) rs.length cap], Y⟩, by omega, Le.of (by exact ⟨rfl, rfl, rfl, rfl, rfl, trivial⟩) (by exact ⟨rfl, trivial⟩) (by exact rfl) (by exact rfl) (by repeat' (first | refine all_cons_true ?_ ?_ | rfl | exact bytes_inUse | exact vals_inUse | exact mid_inUse rfl)), i + 1, by omega, rfl, rfl⟩
    · (refine rgN <| kfa rfl rfl ?_; refine kl1 rfl rfl rfl <| kmv rfl <| keq rfl rfl (beq_eq_false_iff_ne.2 hme) <| kmv rfl <| RunK.passed rfl rfl rfl <| RunK.passed rfl rfl rfl <| kpf rfl rfl <| RunK.nil <| LWP.condF rfl ?_; refine LWP.skip ?_; refine rgN <| kmv rfl <| kad rfl rfl hadi <| kas rfl <| RunK.nil ?_)
      rw [← hnext]
      exact ⟨_, ⟨[(1, Ln .i64 old), (2, Lp 2), (5, Lx ld (fromP rs old).length lc), (6, Ln .i64 ((fromP (rs.take (i + 1)) old).length : Nat)), (7, Ln .i64 (i + 1 : Nat))], [v3B 24 2 va vb (some ⟨blk, off, none⟩) rs.length cap], Y⟩, by omega, Le.of (by exact ⟨rfl, rfl, rfl, rfl, rfl, trivial⟩) (by exact ⟨rfl, trivial⟩) (by exact rfl) (by exact rfl) (by repeat' (first | refine all_cons_true ?_ ?_ | rfl | exact bytes_inUse | exact vals_inUse | exact mid_inUse rfl)), i + 1, by omega, rfl, rfl⟩
  rw [fromP_yes hm.1 hm.2, show fromP [] old = [] by unfold fromP; split <;> rfl] at hnext
  rw [fromP_yes hm.1 hm.2] at hsplit
  have hat : (fromP rs old)[(fromP (rs.take i) old).length]? = some r.nw := by rw [hsplit, List.getElem?_append_right (Nat.le_refl _), Nat.sub_self]; rfl
  have hlt2 := (List.getElem?_eq_some_iff.1 hat).1
  obtain ⟨lb, lo, larr, lel, lfr, rfl, hlX, hlc⟩ := hLin.at hat
  have hnl : (fromP (rs.take (i + 1)) old).length = (fromP (rs.take i) old).length + 1 := by rw [hnext, List.length_append]; rfl
  clear hsplit hnext hLin hat
  generalize (fromP (rs.take i) old).length = n at *
  have hlo : lo + Int.toNat (n : Int) * 1 = lo + n * 1 := by simp
  have hadn : IntKind.i64.wrap ((n : Int) + 1) = ((n + 1 : Nat) : Int) := by rw [wrap_i64 (by omega)]; omega
  (refine rgN <| kfa rfl rfl ?_; refine kl1 rfl rfl rfl <| kmv rfl <| keq rfl rfl (beq_iff_eq.2 hm.1) <| kmv rfl <| gmv rfl rfl rfl <| K.neq rfl rfl (bne_iff_ne.2 hm.2) (.taken rfl rfl) ?_; refine kpt rfl rfl <| RunK.nil <| LWP.condT rfl ?_; refine LWP.seq <| LWP.seq <| rgD mixed <| kmv rfl <| kmv rfl <| K.lenX rfl SliceT.h rfl .plain ?_; refine K.geq rfl rfl (decide_eq_false (by omega)) .plain <| kmv rfl <| gmv rfl rfl rfl <| gmv rfl rfl rfl <| K.indexX rfl rfl SliceT.h (by omega) hlo (.taken rfl rfl) ?_; refine K.loadX rfl hlX rfl hlc (.taken rfl rfl) ?_; refine K.fieldAddr rfl rfl (.taken rfl rfl) ?_; refine K.loadOne rfl rfl rfl (.taken rfl rfl) ?_; refine K.neq rfl rfl (bne_eq_false_iff_eq.2 rfl) (.taken rfl rfl) ?_; refine kpf rfl rfl <| RunK.nil <| rgA ?_; refine LWP.condF rfl ?_; refine LWP.skip ?_; refine rgN <| kmv rfl <| kad rfl rfl hadn <| kas rfl <| RunK.nil <| rgN <| kmv rfl <| kad rfl rfl hadi <| kas rfl <| RunK.nil ?_)
  exact ⟨_, ⟨[(1, Ln .i64 old), (2, Lp 2), (5, Lx (some ⟨lb, lo, none⟩) (fromP rs old).length lc), (6, Ln .i64 (n + 1 : Nat)), (7, Ln .i64 (i + 1 : Nat))], [v3B 24 2 va vb (some ⟨blk, off, none⟩) rs.length cap], Y⟩, by omega, Le.of (by exact ⟨rfl, rfl, rfl, rfl, rfl, trivial⟩) (by exact ⟨rfl, trivial⟩) (by exact rfl) (by exact rfl) (by repeat' (first | refine all_cons_true ?_ ?_ | rfl | exact bytes_inUse | exact vals_inUse | exact mid_inUse rfl)), i + 1, by omega, rfl, by rw [hnl]⟩
end Go.Proofs.YtamplgnbbanamaaGreatDoor
end
section
namespace Go.Proofs.YtamplgnbbanamaaGreatDoor
open Go Go.Lg Go.RowKit Go.ChangeShapes Go.WideShapes Go.Joins
set_option maxRecDepth 100000
theorem tab_of_laid11 {W : World} (h : laidMetH Tryz.prog [("math/bits.deBruijn32tab", Rows.laid_math_bits_deBruijn32tab), ("math/bits.deBruijn64tab", Rows.laid_math_bits_deBruijn64tab), ("internal/strconv.uint64pow10", Rows.laid_internal_strconv_uint64pow10)] W) : Lib.TabIs Tryz.prog W "internal/strconv.uint64pow10" .u64 Lib.pow10Tab := by
  rw [MakeChecks.laidMetH_plain _ _ _ (by kernel_rfl)] at h
  have h3 : laidMet Tryz.prog (("internal/strconv.uint64pow10", Lib.tabData .u64 Lib.pow10Tab) :: []) W := (h.tail).tail
  exact Lib.tabIs_of_head (g := 1) (t := 209) (e := 62) (n := 20) (by kernel_rfl) (by kernel_rfl) (by kernel_rfl) (by kernel_rfl) (by kernel_rfl) (by kernel_rfl) h3
theorem xtab11 {W : World} (h : Lib.TabIs Tryz.prog W "internal/strconv.uint64pow10" .u64 Lib.pow10Tab) : XTab (fun b => W.heap[b]?) := by
  intro w hX
  unfold Lib.TabIs World.var? at h ⊢
  have hg : Tryz.prog.globalNamed "internal/strconv.uint64pow10" = some 1 := by kernel_rfl
  rw [hg] at h ⊢
  simp only [Option.bind_some] at h ⊢
  cases e : W.heap[1]? with
  | none => rw [e] at h; cases h
  | some o => rw [hX _ _ e]; rw [e] at h; exact h
end Go.Proofs.YtamplgnbbanamaaGreatDoor
end
