/- A piece of a proof over this program: contracts of its functions, and a logic to prove them by. -/
import Derived.Test.YtimpjdbhalnofaaGreatDoorP3
import Derived.Test.YtimpjdbhalnofaaGreatDoorP4
import Derived.Test.YtimpjdbhalnofaaGreatDoorP5
import Derived.Test.YtimpjdbhalnofaaGreatDoorP6
import Derived.Lib.Join
section
namespace Go.Lg.Fml
theorem dep_step {okJ : Ins → Bool} {l : List Ins} {m i d : Nat} {x : Ins} (h : dep okJ 0 l = some m) (hd : dep okJ 0 (l.take i) = some d) (hx : l[i]? = some x) : okJ x = true ∧ takes x.op ≤ d ∧ d - takes x.op + 1 ≤ 16 ∧ dep okJ 0 (l.take (i + 1)) = some (d - takes x.op + 1) := by
  have h1 := dep_snoc hd hx
  by_cases c : okJ x = true ∧ takes x.op ≤ d ∧ d - takes x.op + 1 ≤ 16
  · rw [if_pos c] at h1
    exact ⟨c.1, c.2.1, c.2.2, h1⟩
  · rw [if_neg c] at h1
    have := dep_none h1
    rw [h] at this
    cases this
section
variable {V : Type} {one : Ins → List V → Except Int V}
theorem run_snoc {l : List Ins} {i : Nat} {x : Ins} {st : List V} (h : run one (l.take i) [] = .ok st) (hx : l[i]? = some x) : run one (l.take (i + 1)) [] = match one x (st.take (takes x.op)).reverse with | .error e => .error e | .ok v => .ok (v :: st.drop (takes x.op)) := by
  rw [List.take_add_one, hx, run_app, h]
  simp only [Option.toList_some, run]
  cases one x (st.take (takes x.op)).reverse <;> rfl
theorem run_fail {l : List Ins} {i : Nat} {x : Ins} {st : List V} {e : Int} (h : run one (l.take i) [] = .ok st) (hx : l[i]? = some x) (ho : one x (st.take (takes x.op)).reverse = .error e) : run one l [] = .error e := by
  have h1 := run_snoc h hx
  rw [ho] at h1
  rw [← List.take_append_drop (i + 1) l, run_app, h1]
def headX : Except Int (List V) → Except Int V
  | .error e => .error e
  | .ok (v :: _) => .ok v
  | .ok [] => .error 0
end
end Go.Lg.Fml
namespace Go.Proofs.YtimpjdbhalnofaaGreatDoor
open Go Go.Lg Go.Lg.Fml Go.Lg.Fld Go.Lg.Arith
set_option maxRecDepth 100000
theorem exR_closed (r : Except Int Nm) : (exR r).closed = true := by cases r <;> rfl
def StepN (Y : Nat → Option Obj) (v : Value) (one : Ins → List Nm → Except Int Nm) : Prop := ∃ (f : FuncId) (caps : List Value), v = .func (.func f) #[] caps.toArray ∧ ∀ Z, MoreM Y Z → ∀ x : Ins, smallI x → ∀ dv : Value, DeedV Z dv x.op → ∀ (tad : Option Addr) (tcap : Nat) (ts : List Nm), NumsIn Z tad ts → ts.length = takes x.op →
  PSpec Tryz.prog Z f ([LRow x.op (.val dv), LIn x, Lx tad ts.length tcap] ++ capL caps) (exR (one x ts))
theorem step_eval {Y : Nat → Option Obj} {blk : Nat} {arr : Array Value} {el : TypeId} {fr : Nat × Nat} {fad : Option Addr} {fcap : Nat} {fs : List (List Nm)} {at_ : Int} (hY : Y blk = some (.cells arr el fr)) (hsp : ∃ sp, arr.toList = [.slice fad fs.length fcap, .int .i64 at_] ++ sp) (hE : EnvIn Y fad fs at_) : StepN Y (.func (.func 30) #[] #[pv blk]) (oneX fs at_) := by
  refine ⟨30, [pv blk], rfl, fun Z hZ x hx dv hD tad tcap ts hts hlen => ?_⟩
  obtain ⟨f, caps, rfl, hF⟩ := hD
  have hP := hF Z (MoreM.refl Z) x rfl hx fad fcap fs at_ (hE.mono hZ) tad tcap ts hts hlen
  have hX := hZ _ _ hY
  obtain ⟨sp, hsp⟩ := hsp
  have hs0 : 0 + 2 ≤ arr.size := by rw [← Array.length_toList, hsp]; simp
  have hc0 : ((arr.toList.drop 0).take 2).map CV.val = [.val (.slice fad fs.length fcap), .val (.int .i64 at_)] := by rw [hsp]; rfl
  show PSpec _ Z _ [LRow x.op (.val (.func (.func f) #[] caps.toArray)), LIn x, Lx tad ts.length tcap, .sv (.one (.val (pv blk)))] (exR (oneX fs at_ x ts))
  rw [exR_eq] at hP ⊢
  generalize exE (oneX fs at_ x ts) = e at *
  generalize exV (oneX fs at_ x ts) = v at *
  obtain ⟨vb, vN⟩ := v
  refine PSpec.intro Tryz.func30 rfl (by kernel_rfl) rfl rfl ?_
  intro C
  (refine LWP.seq <| LWP.region (by kernel_rfl) <| K.box rfl rfl rfl .plain <| K.box rfl rfl rfl .plain <| K.alloc rfl .plain ?_; refine kas rfl <| RunK.nil <| LWP.seq <| LWP.region (by kernel_rfl) <| kfa rfl rfl ?_; refine kl1 rfl rfl rfl <| K.loadAll rfl rfl rfl .plain ?_; refine K.loadXagg rfl hX (by kernel_rfl) hs0 hc0 .plain <| kmv rfl <| K.callF rfl rfl rfl hP .plain ?_; refine kex rfl rfl <| kex rfl rfl <| K.storeAll rfl rfl rfl rfl rfl rfl .plain ?_; refine kas rfl <| RunK.nil <| LWP.ret ?_)
  exact ⟨[_, _], ⟨⟨_, _, rfl, rfl, rfl, .inl ⟨AggT.h, rfl⟩⟩, rfl, trivial⟩, rfl⟩
theorem nums_tail {Z : Nat → Option Obj} {sb : Nat} {arr : Array Value} {el : TypeId} {fr : Nat × Nat} {ns : List Nm} {rest cap : Nat} (hZ : Z sb = some (.cells arr el fr)) (h2 : ∀ u ∈ ns, In2 u.2) (hsp : ∃ sp, arr.toList = nmsV ns ++ sp) (hc : cap = rest → ns.drop rest = []) :
    NumsIn Z (some ⟨sb, if cap = rest then 0 else 0 + rest * 3, none⟩) (ns.drop rest) := by
  have hN := nms_in hZ h2 hsp
  refine ⟨fun i r hi => ?_, fun u hu => h2 u (List.mem_of_mem_drop hu)⟩
  by_cases c : cap = rest
  · rw [hc c] at hi; simp at hi
  · rw [if_neg c]
    rw [List.getElem?_map, List.getElem?_drop] at hi
    obtain ⟨blk, off, arr', el', fr', e1, e2, e3, e4⟩ := hN.rows (rest + i) r (by rw [List.getElem?_map]; exact hi)
    simp only [Option.some.injEq, Addr.mk.injEq] at e1
    obtain ⟨rfl, rfl, _⟩ := e1
    refine ⟨sb, 0 + rest * 3, arr', el', fr', rfl, e2, by omega, ?_⟩
    rw [← e4, show 0 + rest * 3 + i * 3 = 0 + (rest + i) * 3 by omega]
theorem nmsV_app (a b : List Nm) : nmsV (a ++ b) = nmsV a ++ nmsV b := by unfold nmsV; rw [List.map_append, List.flatten_append]
theorem more_join {C : Ctx} {X H : Nat → Option Obj} (hO : OwnedM C X H) : MoreM X (joinM X H) ∧ MoreM H (joinM X H) := by
  refine ⟨fun b o hb => ?_, fun b o hb => joinM_in hb⟩
  cases hc : H b with
  | none => rw [joinM_out hc]; exact hb
  | some o' => have := (hO.own b o' hc).2.2; rw [hb] at this; cases this
variable (X : Nat → Option Obj)
abbrev rnSt (rad ad : Option Addr) (n rcap cap i : Nat) (v : Value) (ms : List (Nat × LV)) (mb : List (Nat × Option Box)) (Y : Nat → Option Obj) : St :=
  ⟨ms ++ [(0, Lx rad n rcap), (1, Lx ad n cap), (2, .sv (.one (.val v))), (6, Lp 6), (15, Lx rad n rcap), (16, Ln .i64 (n : Nat)), (17, Ln .i64 (i : Nat))], mb ++ [(6, some ⟨30, [.val (.bool false), .val (.int .u64 0), .val (.int .u64 0)], false⟩)], Y⟩
set_option maxHeartbeats 12800000 in
theorem tRunN (l : List Ins) (hchk : chkX l = 0) (ad : Option Addr) (cap : Nat) (hin : InsIn X ad l) (rad : Option Addr) (rcap : Nat) (hrows : RowsOK X rad l) (v : Value) (one : Ins → List Nm → Except Int Nm) (hv : StepN X v one)
    (h2 : ∀ x ∈ l, ∀ a u, (∀ w ∈ a, In2 w.2) → one x a = .ok u → In2 u.2) (he : ∀ x a e, a.length = takes x.op → one x a = .error e → e ≠ 0) :
    PSpec Tryz.prog X 29 [Lx rad l.length rcap, Lx ad l.length cap, .sv (.one (.val v))] (exR (headX (run one l []))) := by
  obtain ⟨h64, hdep1⟩ := chkX_zero hchk
  obtain ⟨f, caps, rfl, hF⟩ := hv
  refine PSpec.intro Tryz.func29 rfl (by kernel_rfl) rfl (exR_closed _) ?_
  intro C
  have hmk : slcBuild Tryz.prog 58 16 = some ((List.replicate 16 [Value.bool false, .int .u64 0, .int .u64 0]).flatten, 3, 30) := slcBuild_many (z := #[.bool false, .int .u64 0, .int .u64 0]) (by kernel_rfl) (by kernel_rfl) rfl (by omega)
  (refine LWP.seq <| LWP.region (by kernel_rfl) <| K.alloc rfl .plain ?_; refine kas rfl <| RunK.nil <| LWP.seq <| LWP.region (by kernel_rfl) <| K.makeSlc0 (m := 16) (bytes := 24) rfl rfl hmk (by kernel_rfl) (by omega) rfl .plain ?_; refine kas rfl <| RunK.nil <| LWP.seq <| LWP.seq <| LWP.region (by kernel_rfl) <| kmv rfl <| K.lenX rfl SliceT.h rfl .plain ?_; refine kmv rfl <| RunK.nil <| LWP.block ?_)
  refine LWP.loop (fun k σ => ∃ (i : Nat) (st : List Nm), i ≤ l.length ∧ k = l.length - i ∧ run one (l.take i) [] = .ok st ∧ (∀ w ∈ st, In2 w.2) ∧ dep okI 0 (l.take i) = some st.length ∧ σ = rnSt rad ad l.length rcap cap i (.func (.func f) #[] caps.toArray) [(8, .sv (.one (.slc 500 0 st.length 3)))] [(500, some ⟨30, (nmsV st.reverse).map .val, true⟩)] X) l.length
    ⟨rnSt rad ad l.length rcap cap 0 (.func (.func f) #[] caps.toArray) [(8, .sv (.one (.slc 500 0 0 3)))] [(500, some ⟨30, [], true⟩)] X, Le.ofR [(500, 14), (6, 6)] (by exact ⟨rfl, rfl, rfl, rfl, rfl, rfl, rfl, rfl, trivial⟩) (by repeat' (first | exact trivial | refine And.intro ⟨_, rfl, ?_⟩ ?_ | refine And.intro ⟨_, rfl⟩ ?_ | rfl | exact Box.ren_bytes _ _ _ _ | exact Box.ren_vals _ _ _ _ | exact Box.ren_mid rfl)) (by exact rfl) (by exact rfl) (by repeat' (first | refine all_cons_true ?_ ?_ | rfl | exact bytes_inUse | exact vals_inUse | exact mid_inUse rfl)) (by exact rfl) (by exact rfl), 0, [], by omega, by omega, rfl, fun w hw => absurd hw (by simp), rfl, rfl⟩ ?_
  rintro k σ ⟨i, st, hi, rfl, hst, hst2, hdep, rfl⟩
  by_cases hlt : i < l.length
  · obtain ⟨x, hx⟩ : ∃ x, l[i]? = some x := ⟨_, List.getElem?_eq_getElem hlt⟩
    have hmem := List.mem_of_getElem? hx
    have hsx := hin.small x hmem
    obtain ⟨hok, htk, h16, hdn⟩ := dep_step hdep1 hdep hx
    have hd16 := dep_le (by omega) hdep
    obtain ⟨rblk, roff, rarr, rel, rfr, dv, rfl, hXr, hszr, hcsr, hDv⟩ := hrows.at hx
    obtain ⟨g, gcaps, egv, _⟩ := id hDv
    subst egv
    obtain ⟨blk, off, arr, el, fr, rfl, hX, hsz, hcs, hop⟩ := hin.at hx
    have hio : off + Int.toNat (i : Int) * 6 = off + i * 6 := by simp
    have hior : roff + Int.toNat (i : Int) * 6 = roff + i * 6 := by simp
    have hin0 : 0 ≤ (i : Int) ∧ (i : Int) < (l.length : Nat) := by omega
    obtain ⟨rest, hrest⟩ : ∃ rest, st.length - takes x.op = rest := ⟨_, rfl⟩
    have hsub : IntKind.i64.wrap (((st.length : Nat) : Int) - ((takes x.op : Nat) : Int)) = ((rest : Nat) : Int) := by rw [wrap_i64 (by omega)]; omega
    (refine LWP.seq <| LWP.region (by kernel_rfl) <| klt rfl rfl (decide_eq_true (by omega)) <| RunK.nil <| LWP.seq <| LWP.condT rfl ?_; refine LWP.skip ?_; refine LWP.seq <| LWP.block <| LWP.seq <| LWP.region (by kernel_rfl) <| kmv rfl <| K.indexX rfl rfl SliceT.h hin0 hior .plain <| K.loadXagg rfl hXr (by kernel_rfl) hszr hcsr .plain <| K.alloc rfl .plain ?_; refine kas rfl <| K.storeAll rfl rfl rfl rfl rfl rfl .plain ?_; refine RunK.nil <| LWP.seq <| LWP.region (by kernel_rfl) <| kmv rfl <| K.lenSlc rfl SliceT.h rfl .plain ?_; refine kfa rfl rfl ?_; refine kl1 rfl rfl rfl <| K.sub rfl rfl hsub .plain <| kas rfl <| RunK.nil <| LWP.seq ?_)
    refine LWP.le (σ' := ⟨[(8, .sv (.one (.slc 500 0 st.length 3))), (0, Lx (some ⟨rblk, roff, none⟩) l.length rcap), (1, Lx (some ⟨blk, off, none⟩) l.length cap), (2, .sv (.one (.val (.func (.func f) #[] caps.toArray)))), (6, Lp 6), (9, Ln .i64 (i : Nat)), (10, Lp 10), (11, Ln .i64 (rest : Nat)), (15, Lx (some ⟨rblk, roff, none⟩) l.length rcap), (16, Ln .i64 (l.length : Nat)), (17, Ln .i64 (i : Nat))], [(500, some ⟨30, (nmsV st.reverse).map .val, true⟩), (6, some ⟨30, [.val (.bool false), .val (.int .u64 0), .val (.int .u64 0)], false⟩), (10, some ⟨73, (rowVs (x.op, .func (.func g) #[] gcaps.toArray)).map .val, false⟩)], X⟩) (Le.of (by exact ⟨rfl, rfl, rfl, rfl, rfl, rfl, rfl, rfl, rfl, rfl, rfl, trivial⟩) (by exact ⟨rfl, rfl, rfl, trivial⟩) (by exact rfl) (by exact rfl) (by repeat' (first | refine all_cons_true ?_ ?_ | rfl | exact bytes_inUse | exact vals_inUse | exact mid_inUse rfl))) ?_
    refine LWP.freeze rfl (by exact (by repeat' (first | refine all_cons_true ?_ ?_ | rfl | exact bytes_inUse | exact vals_inUse | exact mid_inUse rfl))) rfl fun sb scap sarr sfr hn hFz hcp hfit hsp => ?_
    have hXZ : MoreM X (withBlock X sb (.cells sarr 30 sfr)) := withBlock_old hn
    have hts : st.reverse.drop rest = (st.take (takes x.op)).reverse := by rw [List.drop_reverse, ← hrest, show st.length - (st.length - takes x.op) = takes x.op by omega]
    have hln : ((st.take (takes x.op)).reverse).length = takes x.op := by rw [List.length_reverse, List.length_take]; omega
    have hN := nums_tail (cap := scap) (rest := rest) (withBlock_at X sb (.cells sarr 30 sfr)) (fun u hu => hst2 u (List.mem_reverse.1 hu)) hsp (fun e => List.drop_eq_nil_of_le (by rw [List.length_reverse]; omega))
    rw [hts] at hN
    have hP := hF _ hXZ x hsx _ (hDv.mono hXZ) _ (scap - rest) _ hN hln
    have hln2 : st.length - rest = ((st.take (takes x.op)).reverse).length := by rw [hln]; omega
    have hXc := hXZ _ _ hX
    have hsn := run_snoc hst hx
    cases hone : one x (st.take (takes x.op)).reverse with
    | error e =>
      have hne := he x _ e hln hone
      rw [run_fail hst hx hone]
      rw [hone] at hP
      show LWP _ _ _ _ _ _
      (refine LWP.draws mixed (by kernel_rfl) <| kmv rfl <| K.loadAll rfl rfl rfl .plain ?_; refine kmv rfl <| kmv rfl <| K.indexX rfl rfl SliceT.h hin0 hio .plain <| K.loadXagg rfl hXc (by kernel_rfl) hsz hcs .plain <| kmv rfl <| kmv rfl <| K.cutLoX rfl rfl SliceT.h (by omega) rfl hln2 rfl .plain ?_; refine K.callF rfl rfl rfl hP .plain ?_; refine kmv rfl <| kex rfl rfl <| kex rfl rfl <| K.alloc rfl .plain ?_; refine K.storeAll rfl rfl rfl rfl rfl rfl .plain ?_; refine kas rfl <| RunK.nil <| And.intro (by kernel_rfl) ?_; refine LWP.seq <| LWP.seq <| LWP.region (by kernel_rfl) <| kmv rfl <| kne rfl rfl (r := true) (bne_iff_ne.2 hne) <| RunK.nil <| LWP.condT rfl ?_; refine LWP.seq <| LWP.region (by kernel_rfl) <| K.loadAll rfl rfl rfl .plain ?_; refine kmv rfl <| K.storeAll rfl rfl rfl rfl rfl rfl .plain ?_; refine kas rfl <| RunK.nil <| LWP.ret ?_)
      exact ⟨[_, _], ⟨⟨_, _, rfl, rfl, rfl, .inl ⟨AggT.h, rfl⟩⟩, rfl, trivial⟩, rfl⟩
    | ok u =>
      rw [hone] at hP hsn
      simp only at hsn
      have hu2 := h2 x hmem _ u (fun w hw => hst2 w (List.mem_of_mem_take (List.mem_reverse.1 hw))) hone
      obtain ⟨ub, uN⟩ := u
      have hP : PSpec Tryz.prog (withBlock X sb (.cells sarr 30 sfr)) f ([LRow x.op (.val (.func (.func g) #[] gcaps.toArray)), LIn x, Lx (some ⟨sb, if scap = rest then 0 else 0 + rest * 3, none⟩) ((st.take (takes x.op)).reverse).length (scap - rest)] ++ capL caps) (.tup [SI ub uN, Sn .i64 0]) := hP
      (refine LWP.draws mixed (by kernel_rfl) <| kmv rfl <| K.loadAll rfl rfl rfl .plain ?_; refine kmv rfl <| kmv rfl <| K.indexX rfl rfl SliceT.h hin0 hio .plain <| K.loadXagg rfl hXc (by kernel_rfl) hsz hcs .plain <| kmv rfl <| kmv rfl <| K.cutLoX rfl rfl SliceT.h (by omega) rfl hln2 rfl .plain ?_; refine K.callF rfl rfl rfl hP .plain ?_; refine kmv rfl <| kex rfl rfl <| kex rfl rfl <| K.alloc rfl .plain ?_; refine K.storeAll rfl rfl rfl rfl rfl rfl .plain ?_; refine kas rfl <| RunK.nil <| And.intro (by kernel_rfl) ?_; refine LWP.seq <| LWP.seq <| LWP.region (by kernel_rfl) <| kmv rfl <| kne rfl rfl (r := false) rfl <| RunK.nil <| LWP.condF rfl ?_; refine LWP.skip ?_)
      have hspl : nmsV st.reverse = nmsV (st.reverse.take rest) ++ nmsV (st.reverse.drop rest) := by rw [← nmsV_app, List.take_append_drop]
      have hsp2 : ∃ sp, sarr.toList = nmsV (st.reverse.take rest) ++ sp := by
        obtain ⟨sp, hsp⟩ := hsp
        exact ⟨_, by rw [hsp, hspl, List.append_assoc]⟩
      have hrl : (st.reverse.take rest).length = rest := by rw [List.length_take, List.length_reverse]; omega
      refine LWP.le (σ' := ⟨[(8, .sv (.one (.val (.slice (some ⟨sb, 0, none⟩) st.length scap)))), (0, Lx (some ⟨rblk, roff, none⟩) l.length rcap), (1, Lx (some ⟨blk, off, none⟩) l.length cap), (2, .sv (.one (.val (.func (.func f) #[] caps.toArray)))), (6, Lp 6), (11, Ln .i64 (rest : Nat)), (12, Lp 12), (15, Lx (some ⟨rblk, roff, none⟩) l.length rcap), (16, Ln .i64 (l.length : Nat)), (17, Ln .i64 (i : Nat))], [(6, some ⟨30, [.val (.bool false), .val (.int .u64 0), .val (.int .u64 0)], false⟩), (12, some ⟨30, cI ub uN, false⟩)], withBlock X sb (.cells sarr 30 sfr)⟩) (Le.of (by exact ⟨rfl, rfl, rfl, rfl, rfl, rfl, rfl, rfl, rfl, rfl, trivial⟩) (by exact ⟨rfl, rfl, trivial⟩) (by exact rfl) (by exact rfl) (by repeat' (first | refine all_cons_true ?_ ?_ | rfl | exact bytes_inUse | exact vals_inUse | exact mid_inUse rfl))) ?_
      refine LWP.thaw (k := 500) (sz := 3) (vals := nmsV (st.reverse.take rest)) hn hFz hcp hfit hsp2 rfl rfl rfl (by decide) ?_
      have hl3 : ((nmsV (st.reverse.take rest)).map CV.val).length = rest * 3 := by rw [nmsV_len, hrl]
      have hnc := nmsV_snoc (st.reverse.take rest) (ub, uN)
      have hinc : IntKind.i64.wrap (((i : Nat) : Int) + 1) = ((i + 1 : Nat) : Int) := by rw [wrap_i64 (by omega)]; omega
      have hst' : st.reverse.take rest = (st.drop (takes x.op)).reverse := by rw [List.take_reverse, ← hrest, show st.length - (st.length - takes x.op) = takes x.op by omega]
      have hlen2 : (((ub, uN) : Nm) :: st.drop (takes x.op)).length = rest + 1 := by rw [List.length_cons, List.length_drop]; omega
      (refine LWP.draws mixed (by kernel_rfl) <| kmv rfl <| kmv rfl <| K.cutSlc rfl rfl SliceT.h (by omega) .plain <| K.loadAll rfl rfl rfl .plain ?_; refine K.buildSlc (zs := [Value.bool false, .int .u64 0, .int .u64 0]) (sz := 3) (e := 30) (cs' := [.val (.bool ub), .val (.int .u64 (uN / 18446744073709551616)), .val (.int .u64 (uN % 18446744073709551616))]) (by kernel_rfl) rfl rfl rfl rfl rfl rfl .plain <| K.appendSlc (by_ := 24) (e2 := 30) (l2 := [.val (.bool ub), .val (.int .u64 (uN / 18446744073709551616)), .val (.int .u64 (uN % 18446744073709551616))]) (nl := rest + 1) (nc := (nmsV (st.reverse.take rest ++ [(ub, uN)])).map .val) rfl rfl hl3 rfl rfl (Nat.le_refl _) rfl rfl (by kernel_rfl) (by kernel_rfl) (by omega) (by omega) rfl rfl hnc .plain <| kas rfl <| RunK.nil <| And.intro (by kernel_rfl) ?_; refine LWP.region (by kernel_rfl) <| kad rfl rfl hinc <| kmv rfl <| RunK.nil ?_)
      exact ⟨l.length - (i + 1), rnSt (some ⟨rblk, roff, none⟩) (some ⟨blk, off, none⟩) l.length rcap cap (i + 1) (.func (.func f) #[] caps.toArray) [(8, .sv (.one (.slc 500 0 (rest + 1) 3)))] [(500, some ⟨30, (nmsV (st.reverse.take rest ++ [(ub, uN)])).map .val, true⟩)] X, by omega, Le.ofR [(500, 49), (6, 6)] (by exact ⟨rfl, rfl, rfl, rfl, rfl, rfl, rfl, rfl, trivial⟩) (by repeat' (first | exact trivial | refine And.intro ⟨_, rfl, ?_⟩ ?_ | refine And.intro ⟨_, rfl⟩ ?_ | rfl | exact Box.ren_bytes _ _ _ _ | exact Box.ren_vals _ _ _ _ | exact Box.ren_mid rfl)) (by exact rfl) (by exact rfl) (by repeat' (first | refine all_cons_true ?_ ?_ | rfl | exact bytes_inUse | exact vals_inUse | exact mid_inUse rfl)) (by exact rfl) (by exact rfl), i + 1, (ub, uN) :: st.drop (takes x.op), by omega, rfl, hsn, (fun w hw => by
        rcases List.mem_cons.1 hw with rfl | hw
        · exact hu2
        · exact hst2 w (List.mem_of_mem_drop hw)), by rw [hdn, hlen2]; congr 1; omega, by rw [hlen2, List.reverse_cons, ← hst']⟩
  · have e : i = l.length := by omega
    subst e
    rw [List.take_length] at hst hdep
    have hl1 : st.length = 1 := by rw [hdep1] at hdep; exact (Option.some.inj hdep).symm
    match st, hl1, hst, hst2 with
    | [(ub, uN)], _, hst, hst2 =>
    rw [hst]
    show LWP _ _ _ _ _ _
    refine LWP.le (σ' := rnSt rad ad l.length rcap cap l.length (.func (.func f) #[] caps.toArray) [(8, .sv (.one (.slc 500 0 1 3)))] [(500, some ⟨30, cI ub uN, true⟩)] X) (Le.of (by exact ⟨rfl, rfl, rfl, rfl, rfl, rfl, rfl, rfl, trivial⟩) (by exact ⟨rfl, rfl, trivial⟩) (by exact rfl) (by exact rfl) (by repeat' (first | refine all_cons_true ?_ ?_ | rfl | exact bytes_inUse | exact vals_inUse | exact mid_inUse rfl))) ?_
    (refine LWP.seq <| LWP.region (by kernel_rfl) <| klt rfl rfl (decide_eq_false (by omega)) <| RunK.nil <| LWP.seq <| LWP.condF rfl ?_; refine LWP.exit <| LWP.seq <| LWP.region (by kernel_rfl) <| kmv rfl <| K.indexSlc (off' := 0) rfl rfl (by omega) rfl .plain ?_; refine K.loadPart rfl rfl rfl rfl .plain ?_; refine K.storeAll rfl rfl rfl rfl rfl rfl .plain ?_; refine kas rfl <| RunK.nil <| LWP.ret ?_)
    exact ⟨[_, _], ⟨⟨_, _, rfl, rfl, rfl, .inl ⟨AggT.h, rfl⟩⟩, rfl, trivial⟩, rfl⟩
theorem run_len {V : Type} {one : Ins → List V → Except Int V} {okJ : Ins → Bool} : ∀ {l : List Ins} {st st' : List V} {n m : Nat}, st.length = n → dep okJ n l = some m → run one l st = .ok st' → st'.length = m
  | [], st, st', n, m, h, hd, hr => by
    simp only [dep, Option.some.injEq] at hd
    simp only [run, Except.ok.injEq] at hr
    rw [← hr, h, hd]
  | x :: l, st, st', n, m, h, hd, hr => by
    simp only [dep] at hd
    split at hd
    · rename_i c
      simp only [run] at hr
      cases ho : one x (st.take (takes x.op)).reverse with
      | error e => rw [ho] at hr; cases hr
      | ok v =>
        rw [ho] at hr
        exact run_len (n := n - takes x.op + 1) (by rw [List.length_cons, List.length_drop, h]) hd hr
    · cases hd
set_option maxHeartbeats 6400000 in
theorem gEval' (l : List Ins) (ad : Option Addr) (cap : Nat) (hin : InsIn X ad l) (hbig : l.length < 1152921504606846976) (fad : Option Addr) (fcap : Nat) (fs : List (List Nm)) (at_ : Int) (hE : EnvIn X fad fs at_) (hf2 : ∀ r ∈ fs, ∀ u ∈ r, In2 u.2) :
    PSpec Tryz.prog X 11 [Lx ad l.length cap, LEnv fad fs.length fcap at_] (exR (evX l fs at_)) := by
  have hR := tRowsOf X l ad cap hin hbig
  by_cases h : chkX l = 0
  · rw [(rs_ok h).1, (rs_ok h).2] at hR
    refine PSpec.intro Tryz.func11 rfl (by kernel_rfl) rfl (exR_closed _) ?_
    intro C
    (refine LWP.seq <| LWP.region (by kernel_rfl) <| K.box rfl rfl rfl .plain <| K.alloc rfl .plain ?_; refine kas rfl <| RunK.nil <| LWP.seq <| LWP.region (by kernel_rfl) <| kmv rfl <| K.callMp [(1000001, 500)] (.tup [.one (.slc 500 0 l.length 6), Sn .i64 0]) [(500, some ⟨0, [], .res (rowsR l)⟩)] (hR) rfl rfl (by exact trivial) rfl rfl rfl rfl rfl (by exact (.box rfl rfl .nil)) .plain <| kmv rfl <| kex rfl rfl <| kex rfl rfl <| kas rfl <| kas rfl <| RunK.nil <| LWP.seq <| LWP.seq ?_; refine LWP.region (by kernel_rfl) <| kmv rfl <| kne rfl rfl ((bne_eq_false_iff_eq.2 (by omega))) <| RunK.nil <| LWP.condF rfl ?_; refine LWP.skip ?_; refine LWP.seq ?_)
    refine LWP.le (σ' := ⟨[(6, .sv (.one (.slc 500 0 l.length 6))), (3, Lp 3), (0, Lx ad l.length cap), (4, Lp 4), (5, Ln .i64 0), (7, Ln .i64 0)], [(500, some ⟨0, [], .res (rowsR l)⟩), (3, some ⟨35, [.val (.slice fad fs.length fcap), .val (.int .i64 at_)], false⟩), (4, some ⟨30, [.val (.bool false), .val (.int .u64 0), .val (.int .u64 0)], false⟩)], X⟩) (Le.of (by exact ⟨rfl, rfl, rfl, rfl, rfl, rfl, trivial⟩) (by exact ⟨rfl, rfl, rfl, trivial⟩) (by exact rfl) (by exact rfl) (by repeat' (first | refine all_cons_true ?_ ?_ | rfl | exact bytes_inUse | exact vals_inUse | exact mid_inUse rfl))) ?_
    refine LWP.fixRes rfl rfl rfl fun ρ H rcap hRr hO _ _ => ?_
    obtain ⟨m1, m2⟩ := more_join hO
    have hrows := rows_fix hRr m2
    refine LWP.le (σ' := ⟨[(3, Lp 3), (6, Lx (some ⟨ρ.1, 0, none⟩) l.length rcap), (0, Lx ad l.length cap), (4, Lp 4), (5, Ln .i64 0), (7, Ln .i64 0)], [(3, some ⟨35, ([.slice fad fs.length fcap, .int .i64 at_] : List Value).map .val, false⟩), (4, some ⟨30, [.val (.bool false), .val (.int .u64 0), .val (.int .u64 0)], false⟩)], joinM X H⟩) (Le.of (by exact ⟨rfl, rfl, rfl, rfl, rfl, rfl, trivial⟩) (by exact ⟨rfl, rfl, trivial⟩) (by exact rfl) (by exact rfl) (by repeat' (first | refine all_cons_true ?_ ?_ | rfl | exact bytes_inUse | exact vals_inUse | exact mid_inUse rfl))) ?_
    refine LWP.freezePtr rfl rfl rfl fun eb earr efr hn hF hsp => ?_
    have m3 : MoreM (joinM X H) (withBlock (joinM X H) eb (.cells earr 35 efr)) := withBlock_old hn
    have hS := step_eval (withBlock_at (joinM X H) eb (.cells earr 35 efr)) hsp (hE.mono (m1.trans m3))
    have hP := tRunN _ l h ad cap (hin.mono (m1.trans m3)) (some ⟨ρ.1, 0, none⟩) rcap (hrows.mono m3) _ (oneX fs at_) hS (fun x hx a u ha ho => one_in2 hf2 (hin.small x hx).2.2.2 hE.place.2 ha ho) (fun x a e hl ho => one_err hl ho)
    have hev : evX l fs at_ = lastX (run (oneX fs at_) l []) := if_pos h
    rw [hev]
    cases hr : run (oneX fs at_) l [] with
    | error e =>
      have hne : e ≠ 0 := by
        have := evX_err (l := l) (fs := fs) (at_ := at_) (e := e) (by rw [hev, hr]; rfl)
        exact this
      rw [hr] at hP
      show LWP _ _ _ _ _ _
      (refine LWP.region (by kernel_rfl) <| kmv rfl <| kmv rfl <| K.makeFunc rfl rfl .plain ?_; refine kca rfl rfl hP <| kmv rfl <| kex rfl rfl <| kex rfl rfl <| K.alloc rfl .plain ?_; refine K.storeAll rfl rfl rfl rfl rfl rfl .plain ?_; refine kas rfl <| RunK.nil <| LWP.seq <| LWP.block <| LWP.seq <| LWP.region (by kernel_rfl) <| kmv rfl <| kne rfl rfl (r := true) (bne_iff_ne.2 hne) <| kas rfl <| RunK.nil <| LWP.condT rfl ?_; refine LWP.seq <| LWP.region (by kernel_rfl) <| K.build rfl rfl (by exact rfl) (by exact nl3 rfl rfl rfl rfl) .plain ?_; refine kmv rfl <| K.storeAll rfl rfl rfl rfl rfl rfl .plain ?_; refine kas rfl <| RunK.nil <| LWP.ret ?_)
      exact ⟨[_, _], ⟨⟨_, _, rfl, rfl, rfl, .inl ⟨AggT.h, rfl⟩⟩, rfl, trivial⟩, rfl⟩
    | ok st =>
      have hl1 := run_len rfl (chkX_zero h).2 hr
      match st, hl1, hr with
      | [(ub, uN)], _, hr =>
      rw [hr] at hP
      have hP : PSpec Tryz.prog (withBlock (joinM X H) eb (.cells earr 35 efr)) 29 [Lx (some ⟨ρ.1, 0, none⟩) l.length rcap, Lx ad l.length cap, .sv (.one (.val (.func (.func 30) #[] #[pv eb])))] (.tup [SI ub uN, Sn .i64 0]) := hP
      have hu2 : In2 uN := by
        obtain ⟨t, ht, hfl⟩ := parse (chkX_zero h).2
        have h5 : t.ev (oneX fs at_) = .ok (ub, uN) := by
          have h6 := run_flat (one := oneX fs at_) (t := t) (rest := []) (st := []) ht
          rw [List.append_nil, hfl, hr] at h6
          cases hv : t.ev (oneX fs at_) with
          | error e => rw [hv] at h6; cases h6
          | ok v => rw [hv] at h6; simp only [run, Except.ok.injEq, List.cons.injEq, and_true] at h6; rw [h6]
        exact tree_in2 hf2 hE.place.2 (fun x hx => (hin.small x (by rw [← hfl]; exact hx)).2.2.2) h5
      have hG := tForm (withBlock (joinM X H) eb (.cells earr 35 efr)) (ub, uN) hu2 _ rfl
      show LWP _ _ _ _ _ _
      cases hg : gd (ub, uN) with
      | false =>
        rw [hg] at hG
        rw [show lastX (.ok [(ub, uN)]) = .error 4 by unfold lastX; simp only; rw [hg]; rfl]
        (refine LWP.region (by kernel_rfl) <| kmv rfl <| kmv rfl <| K.makeFunc rfl rfl .plain ?_; refine kca rfl rfl hP <| kmv rfl <| kex rfl rfl <| kex rfl rfl <| K.alloc rfl .plain ?_; refine K.storeAll rfl rfl rfl rfl rfl rfl .plain ?_; refine kas rfl <| RunK.nil <| LWP.seq <| LWP.block <| LWP.seq <| LWP.region (by kernel_rfl) <| kmv rfl <| kne rfl rfl (r := false) rfl <| kas rfl <| RunK.nil <| LWP.condF rfl ?_; refine LWP.seq <| LWP.region (by kernel_rfl) <| K.loadAll rfl rfl rfl .plain ?_; refine kca rfl rfl (hG) <| K.not rfl rfl .plain <| kas rfl <| RunK.nil <| LWP.condT rfl ?_; refine LWP.seq <| LWP.region (by kernel_rfl) <| K.build rfl rfl (by exact rfl) (by exact nl3 rfl rfl rfl rfl) .plain ?_; refine K.storeAll rfl rfl rfl rfl rfl rfl .plain ?_; refine kas rfl <| RunK.nil <| LWP.ret ?_)
        exact ⟨[_, _], ⟨⟨_, _, rfl, rfl, rfl, .inl ⟨AggT.h, rfl⟩⟩, rfl, trivial⟩, rfl⟩
      | true =>
        rw [hg] at hG
        rw [show lastX (.ok [(ub, uN)]) = .ok (ub, uN) by unfold lastX; simp only; rw [hg]; rfl]
        (refine LWP.region (by kernel_rfl) <| kmv rfl <| kmv rfl <| K.makeFunc rfl rfl .plain ?_; refine kca rfl rfl hP <| kmv rfl <| kex rfl rfl <| kex rfl rfl <| K.alloc rfl .plain ?_; refine K.storeAll rfl rfl rfl rfl rfl rfl .plain ?_; refine kas rfl <| RunK.nil <| LWP.seq <| LWP.block <| LWP.seq <| LWP.region (by kernel_rfl) <| kmv rfl <| kne rfl rfl (r := false) rfl <| kas rfl <| RunK.nil <| LWP.condF rfl ?_; refine LWP.seq <| LWP.region (by kernel_rfl) <| K.loadAll rfl rfl rfl .plain ?_; refine kca rfl rfl (hG) <| K.not rfl rfl .plain <| kas rfl <| RunK.nil <| LWP.condF rfl ?_; refine LWP.skip ?_; refine LWP.seq <| LWP.region (by kernel_rfl) <| K.loadAll rfl rfl rfl .plain ?_; refine K.storeAll rfl rfl rfl rfl rfl rfl .plain ?_; refine kas rfl <| RunK.nil <| LWP.ret ?_)
        exact ⟨[_, _], ⟨⟨_, _, rfl, rfl, rfl, .inl ⟨AggT.h, rfl⟩⟩, rfl, trivial⟩, rfl⟩
  · rw [(rs_no h).1, (rs_no h).2] at hR
    rw [show evX l fs at_ = .error (chkX l) from if_neg h]
    refine PSpec.intro Tryz.func11 rfl (by kernel_rfl) rfl rfl ?_
    intro C
    (refine LWP.seq <| LWP.region (by kernel_rfl) <| K.box rfl rfl rfl .plain <| K.alloc rfl .plain ?_; refine kas rfl <| RunK.nil <| LWP.seq <| LWP.region (by kernel_rfl) <| kmv rfl <| K.callM [] [] (hR) rfl rfl (by exact trivial) rfl rfl rfl rfl rfl (by exact .nil) .plain <| kmv rfl <| kex rfl rfl <| kex rfl rfl <| kas rfl <| kas rfl <| RunK.nil <| LWP.seq <| LWP.seq ?_; refine LWP.region (by kernel_rfl) <| kmv rfl <| kne rfl rfl (r := true) (bne_iff_ne.2 h) <| RunK.nil <| LWP.condT rfl ?_; refine LWP.seq <| LWP.region (by kernel_rfl) <| K.build rfl rfl (by exact rfl) (by exact nl3 rfl rfl rfl rfl) .plain ?_; refine kmv rfl <| K.storeAll rfl rfl rfl rfl rfl rfl .plain ?_; refine kas rfl <| RunK.nil <| LWP.ret ?_)
    exact ⟨[_, _], ⟨⟨_, _, rfl, rfl, rfl, .inl ⟨AggT.h, rfl⟩⟩, rfl, trivial⟩, rfl⟩
end Go.Proofs.YtimpjdbhalnofaaGreatDoor
end
section
namespace Go.Proofs.YtimpjdbhalnofaaGreatDoor
open Go Go.Lg Go.Lg.Fml Go.Lg.Fld Go.Lg.Arith
set_option maxRecDepth 100000
theorem joinS_lib : ∀ l : List (List UInt8), joinS l = Lib.join l [44]
  | [] => rfl
  | [a] => (Lib.join_one a [44]).symm
  | a :: b :: t => by
    rw [Lib.join_cons]
    unfold joinS Lib.joinTail
    rw [joinS_lib (b :: t), Lib.join_cons, List.map_cons, List.flatten_cons]
    simp [Lib.joinTail]
def txV (l : List (List UInt8)) : List Value := l.map fun t => .string ⟨t.toArray⟩
def TsIn (Z : Nat → Option Obj) (ad : Option Addr) (l : List (List UInt8)) : Prop := Go.Lg.RowsIn Z ad 1 (l.map fun t => [Value.string ⟨t.toArray⟩])
theorem txV_rows (l : List (List UInt8)) : (l.map fun t => [Value.string ⟨t.toArray⟩]).flatten = txV l := by
  unfold txV
  induction l with
  | nil => rfl
  | cons a t ih => rw [List.map_cons, List.flatten_cons, ih]; rfl
theorem txV_len (l : List (List UInt8)) : ((txV l).map CV.val).length = l.length * 1 := by unfold txV; rw [List.length_map, List.length_map, Nat.mul_one]
theorem txV_app (a b : List (List UInt8)) : txV (a ++ b) = txV a ++ txV b := by unfold txV; rw [List.map_append]
theorem texts_tail {Z : Nat → Option Obj} {sb : Nat} {arr : Array Value} {el : TypeId} {fr : Nat × Nat} {ns : List (List UInt8)} {rest cap : Nat} (hZ : Z sb = some (.cells arr el fr)) (hsp : ∃ sp, arr.toList = txV ns ++ sp) (hc : cap = rest → ns.drop rest = []) :
    TsIn Z (some ⟨sb, if cap = rest then 0 else 0 + rest * 1, none⟩) (ns.drop rest) := by
  have hN : TsIn Z (some ⟨sb, 0, none⟩) ns := rows_in hZ (fun r hr => by obtain ⟨x, _, rfl⟩ := List.mem_map.1 hr; rfl) (by rw [txV_rows]; exact hsp)
  intro i r hi
  by_cases c : cap = rest
  · rw [hc c] at hi; simp at hi
  · rw [if_neg c]
    rw [List.getElem?_map, List.getElem?_drop] at hi
    obtain ⟨blk, off, arr', el', fr', e1, e2, e3, e4⟩ := hN (rest + i) r (by rw [List.getElem?_map]; exact hi)
    simp only [Option.some.injEq, Addr.mk.injEq] at e1
    obtain ⟨rfl, rfl, _⟩ := e1
    refine ⟨sb, 0 + rest * 1, arr', el', fr', rfl, e2, by omega, ?_⟩
    rw [← e4, show 0 + rest * 1 + i * 1 = 0 + (rest + i) * 1 by omega]
def shownX (x : Ins) (a : List (List UInt8)) : List UInt8 := if takes x.op = 0 then leafS x else ((wordX x.op ++ [40]) ++ joinS a) ++ [41]
theorem shownX_len {x : Ins} {a : List (List UInt8)} (hx : okI x = true) (h2 : In2 x.k.2) (ha : a.length = takes x.op) : (shownX x a).length ≤ (a.map List.length).sum + 50 := by
  unfold shownX
  split
  · have := leafS_len hx h2; omega
  · have h1 := word_len x.op
    have h2 := joinS_len (l := a) (n := (a.map List.length).sum) (by have := takes_le x.op; omega) (Nat.le_refl _)
    simp only [List.length_append, List.length_singleton]
    omega
variable (X : Nat → Option Obj)
theorem join_x (ad : Option Addr) (cap : Nat) (l : List (List UInt8)) (hin : TsIn X ad l) (hpos : 0 < l.length) (hl : l.length ≤ cap) (hl3 : l.length ≤ 3) (hs : (l.map List.length).sum ≤ 3200) : PSpec Tryz.prog X 70 [Lx ad l.length cap, Ls [44]] (Ls (joinS l)) := by
  have hjl := joinS_len hl3 hs
  rw [joinS_lib] at hjl ⊢
  obtain ⟨blk, off, arr0, el0, fr0, rfl, hX0, _, _⟩ := hin 0 _ (by rw [List.getElem?_map, List.getElem?_eq_getElem hpos]; rfl)
  refine PSpec.ofBelow (vals := [.slice (some ⟨blk, off, none⟩) l.length cap, .string ⟨([44] : List UInt8).toArray⟩]) (v := .string ⟨(Lib.join l [44]).toArray⟩) (by kernel_rfl) rfl rfl fun w hX => ?_
  have hb := hX _ _ hX0
  have hbk : blk < w.heap.size := (Array.getElem?_eq_some_iff.1 hb).1
  have hcells : ∀ (j : Nat) (x : ByteArray), (l.map fun t => (⟨t.toArray⟩ : ByteArray))[j]? = some x → w.cell? ⟨blk, off + j, none⟩ = some (.string x) := fun j x hx => by
    rw [List.getElem?_map] at hx
    cases ht : l[j]? with
    | none => rw [ht] at hx; cases hx
    | some t =>
      rw [ht] at hx
      simp only [Option.map_some, Option.some.injEq] at hx
      subst hx
      obtain ⟨blk', off', arr, el, fr, e1, e2, e3, e4⟩ := hin j _ (by rw [List.getElem?_map, ht]; rfl)
      simp only [Option.some.injEq, Addr.mk.injEq] at e1
      obtain ⟨rfl, rfl, _⟩ := e1
      have hb2 := hX _ _ e2
      have h5 : ((arr.toList.drop (off + j * 1)).take 1)[0]? = some (.string ⟨t.toArray⟩) := by rw [e4]; rfl
      rw [List.getElem?_take, if_pos (by decide), List.getElem?_drop, Nat.add_zero, Array.getElem?_toList, Nat.mul_one] at h5
      simpa [World.cell?, hb2] using h5
  have hmap : ((l.map fun t => (⟨t.toArray⟩ : ByteArray)).map fun x => x.data.toList) = l := by rw [List.map_map]; exact List.map_id _
  have h := Tryz.strings_Join blk off cap (l.map fun t => (⟨t.toArray⟩ : ByteArray)) ⟨([44] : List UInt8).toArray⟩ w hcells hbk (by rw [List.length_map]; omega) (by rw [List.length_map]; exact hl) (by rw [hmap]; show (Lib.join l [44]).length ≤ _; omega)
  rw [hmap, List.length_map] at h
  exact h
theorem tItoa (n : Int) (h : 0 ≤ n ∧ n ≤ 7) : PSpec Tryz.prog X 69 [Ln .i64 n] (Ls (Lib.itoa n)) := by
  obtain ⟨m, rfl⟩ : ∃ m : Nat, n = (m : Nat) := ⟨n.toNat, by omega⟩
  exact PSpec.ofBelow (vals := [.int .i64 (m : Nat)]) (v := .string ⟨(Lib.itoa (m : Nat)).toArray⟩) (by kernel_rfl) rfl rfl (fun w _ => (Tryz.strconv_Itoa_small m (by omega) w).mono fun _ _ ⟨he, hw⟩ => ⟨by rw [Lib.itoa_nonneg]; exact he, by rw [hw]; exact Go.RowKit.Below.refl _ _⟩)
theorem xtab_mono {X Y : Nat → Option Obj} (h : MoreM X Y) (hT : XTab X) : XTab Y := fun w hw => hT w fun b o hb => hw b o (h b o hb)
set_option maxHeartbeats 6400000 in
theorem tShown (hT : XTab X) (x : Ins) (hx : smallI x) (hok : okI x = true) (f : FuncId) (caps : List Value) (tad : Option Addr) (tcap : Nat) (ts : List (List UInt8)) (hts : TsIn X tad ts) (hlen : ts.length = takes x.op) (hcap : ts.length ≤ tcap) (hs : (ts.map List.length).sum ≤ 3200) :
    PSpec Tryz.prog X 37 [LRow x.op (.val (.func (.func f) #[] caps.toArray)), LIn x, Lx tad ts.length tcap] (Ls (shownX x ts)) := by
  obtain ⟨h17, hgk, ha7, hb7⟩ := okI_facts hok
  have h2 := hx.2.2.2
  have htk := takes_le x.op
  by_cases h0 : takes x.op = 0
  · have hdA := tItoa X x.a ha7
    have hdB := tItoa X x.b hb7
    have lA := Lib.itoa_length_le x.a (by omega) (by omega)
    have lB := Lib.itoa_length_le x.b (by omega) (by omega)
    have hlf : ∀ a b : List UInt8, ([102] ++ a) ++ ([46] ++ b) = (([102] ++ a) ++ [46]) ++ b := fun a b => by simp only [List.append_assoc]
    have c : x.op = 1 ∨ x.op = 2 ∨ x.op = 3 ∨ x.op = 4 := by
      unfold takes at h0
      split at h0
      · omega
      · split at h0
        · omega
        · split at h0 <;> omega
    rw [show shownX x ts = leafS x from if_pos h0]
    rcases c with c | c | c | c
    · obtain ⟨e1, r1⟩ : LI x.k.1 x.k.2 = LQ (zz x.k) ∧ R127 (zz x.k) := ⟨LI_q h2 hgk, (zv_in h2 hgk).1⟩
      have hTx := Text_spec X hT (zz x.k) r1
      rw [← e1] at hTx
      rw [show leafS x = textQ (zz x.k) from if_pos c]
      generalize textQ (zz x.k) = s at *
      clear e1 r1
      refine PSpec.intro Tryz.func37 rfl (by kernel_rfl) rfl rfl ?_
      intro C
      (refine LWP.seq <| LWP.region (by kernel_rfl) <| K.box rfl rfl rfl .plain <| K.box rfl rfl rfl .plain <| kas rfl <| RunK.nil <| LWP.seq <| LWP.seq <| LWP.region (by kernel_rfl) <| kfa rfl rfl ?_; refine kl1 rfl rfl rfl <| RunK.nil <| LWP.block <| LWP.seq <| LWP.region (by kernel_rfl) <| keq rfl rfl (r := true) (beq_iff_eq.2 c) <| kas rfl <| RunK.nil <| LWP.condT rfl ?_; refine LWP.seq <| LWP.region (by kernel_rfl) <| kfa rfl rfl ?_; refine K.loadPart rfl rfl rfl (by exact nl3 rfl rfl rfl rfl) .plain ?_; refine kca rfl rfl (hTx) <| kas rfl <| RunK.nil <| LWP.ret ?_)
      exact ⟨[_], ⟨rfl, trivial⟩, rfl⟩
    · rw [show leafS x = ([102] ++ dg1 x.a) ++ ([46] ++ dg1 x.b) by unfold leafS; rw [if_neg (by omega), if_pos c], hlf]
      unfold dg1
      generalize Lib.itoa x.a = sa at *
      generalize Lib.itoa x.b = sb at *
      have g1 : (⟨([102] : List UInt8).toArray⟩ : ByteArray).size + (⟨sa.toArray⟩ : ByteArray).size ≤ 9223372036854775807 := by show 1 + sa.length ≤ _; omega
      have g2 : (⟨(([102] : List UInt8) ++ sa).toArray⟩ : ByteArray).size + (⟨([46] : List UInt8).toArray⟩ : ByteArray).size ≤ 9223372036854775807 := by show (([102] : List UInt8) ++ sa).length + 1 ≤ _; rw [List.length_append]; simp only [List.length_singleton]; omega
      have g3 : (⟨((([102] : List UInt8) ++ sa) ++ [46]).toArray⟩ : ByteArray).size + (⟨sb.toArray⟩ : ByteArray).size ≤ 9223372036854775807 := by show ((([102] : List UInt8) ++ sa) ++ [46]).length + sb.length ≤ _; rw [List.length_append, List.length_append]; simp only [List.length_singleton]; omega
      refine PSpec.intro Tryz.func37 rfl (by kernel_rfl) rfl rfl ?_
      intro C
      (refine LWP.seq <| LWP.region (by kernel_rfl) <| K.box rfl rfl rfl .plain <| K.box rfl rfl rfl .plain <| kas rfl <| RunK.nil <| LWP.seq <| LWP.seq <| LWP.region (by kernel_rfl) <| kfa rfl rfl ?_; refine kl1 rfl rfl rfl <| RunK.nil <| LWP.block <| LWP.seq <| LWP.region (by kernel_rfl) <| keq rfl rfl (r := false) (beq_eq_false_iff_ne.2 (by omega)) <| kas rfl <| RunK.nil <| LWP.condF rfl ?_; refine LWP.seq <| LWP.region (by kernel_rfl) <| keq rfl rfl (r := true) (beq_iff_eq.2 c) <| kas rfl <| RunK.nil <| LWP.condT rfl ?_; refine LWP.seq <| LWP.draws mixed (by kernel_rfl) <| kfa rfl rfl ?_; refine kl1 rfl rfl rfl <| kca rfl rfl hdA <| K.strAdd rfl rfl g1 (str_add [102] sa) .plain <| K.strAdd rfl rfl g2 (str_add ([102] ++ sa) [46]) .plain <| kfa rfl rfl ?_; refine kl1 rfl rfl rfl <| kca rfl rfl hdB <| K.strAdd rfl rfl g3 (str_add (([102] ++ sa) ++ [46]) sb) .plain <| kas rfl <| RunK.nil <| And.intro (by kernel_rfl) ?_; refine LWP.ret ?_)
      exact ⟨[_], ⟨rfl, trivial⟩, rfl⟩
    · rw [show leafS x = ([102] ++ dg1 x.a) ++ [64] by unfold leafS; rw [if_neg (by omega), if_neg (by omega), if_pos c]]
      unfold dg1
      generalize Lib.itoa x.a = sa at *
      have g1 : (⟨([102] : List UInt8).toArray⟩ : ByteArray).size + (⟨sa.toArray⟩ : ByteArray).size ≤ 9223372036854775807 := by show 1 + sa.length ≤ _; omega
      have g2 : (⟨(([102] : List UInt8) ++ sa).toArray⟩ : ByteArray).size + (⟨([64] : List UInt8).toArray⟩ : ByteArray).size ≤ 9223372036854775807 := by show (([102] : List UInt8) ++ sa).length + 1 ≤ _; rw [List.length_append]; simp only [List.length_singleton]; omega
      refine PSpec.intro Tryz.func37 rfl (by kernel_rfl) rfl rfl ?_
      intro C
      (refine LWP.seq <| LWP.region (by kernel_rfl) <| K.box rfl rfl rfl .plain <| K.box rfl rfl rfl .plain <| kas rfl <| RunK.nil <| LWP.seq <| LWP.seq <| LWP.region (by kernel_rfl) <| kfa rfl rfl ?_; refine kl1 rfl rfl rfl <| RunK.nil <| LWP.block <| LWP.seq <| LWP.region (by kernel_rfl) <| keq rfl rfl (r := false) (beq_eq_false_iff_ne.2 (by omega)) <| kas rfl <| RunK.nil <| LWP.condF rfl ?_; refine LWP.seq <| LWP.region (by kernel_rfl) <| keq rfl rfl (r := false) (beq_eq_false_iff_ne.2 (by omega)) <| kas rfl <| RunK.nil <| LWP.condF rfl ?_; refine LWP.seq <| LWP.region (by kernel_rfl) <| keq rfl rfl (r := true) (beq_iff_eq.2 c) <| kas rfl <| RunK.nil <| LWP.condT rfl ?_; refine LWP.seq <| LWP.region (by kernel_rfl) <| kfa rfl rfl ?_; refine kl1 rfl rfl rfl <| kca rfl rfl hdA <| K.strAdd rfl rfl g1 (str_add [102] sa) .plain <| K.strAdd rfl rfl g2 (str_add ([102] ++ sa) [64]) .plain <| kas rfl <| RunK.nil <| LWP.ret ?_)
      exact ⟨[_], ⟨rfl, trivial⟩, rfl⟩
    · rw [show leafS x = [64] by unfold leafS; rw [if_neg (by omega), if_neg (by omega), if_neg (by omega)]]
      refine PSpec.intro Tryz.func37 rfl (by kernel_rfl) rfl rfl ?_
      intro C
      (refine LWP.seq <| LWP.region (by kernel_rfl) <| K.box rfl rfl rfl .plain <| K.box rfl rfl rfl .plain <| kas rfl <| RunK.nil <| LWP.seq <| LWP.seq <| LWP.region (by kernel_rfl) <| kfa rfl rfl ?_; refine kl1 rfl rfl rfl <| RunK.nil <| LWP.block <| LWP.seq <| LWP.region (by kernel_rfl) <| keq rfl rfl (r := false) (beq_eq_false_iff_ne.2 (by omega)) <| kas rfl <| RunK.nil <| LWP.condF rfl ?_; refine LWP.seq <| LWP.region (by kernel_rfl) <| keq rfl rfl (r := false) (beq_eq_false_iff_ne.2 (by omega)) <| kas rfl <| RunK.nil <| LWP.condF rfl ?_; refine LWP.seq <| LWP.region (by kernel_rfl) <| keq rfl rfl (r := false) (beq_eq_false_iff_ne.2 (by omega)) <| kas rfl <| RunK.nil <| LWP.condF rfl ?_; refine LWP.seq <| LWP.region (by kernel_rfl) <| keq rfl rfl (r := true) (beq_iff_eq.2 c) <| kas rfl <| RunK.nil <| LWP.condT rfl ?_; refine LWP.seq <| LWP.region (by kernel_rfl) <| kas rfl <| RunK.nil <| LWP.ret ?_)
      exact ⟨[_], ⟨rfl, trivial⟩, rfl⟩
  · have h5 : 5 ≤ x.op ∧ x.op ≤ 17 := by
      refine ⟨?_, h17.2⟩
      unfold takes at h0
      split at h0
      · omega
      · split at h0
        · omega
        · split at h0 <;> omega
    have hw : wordS x.op = wordX x.op := if_pos h5
    have hwl := word_len x.op
    rw [show shownX x ts = ((wordX x.op ++ [40]) ++ joinS ts) ++ [41] from if_neg h0, ← hw]
    rw [← hw] at hwl
    have hjl := joinS_len (l := ts) (by omega) hs
    have hJ := join_x X tad tcap ts hts (by omega) hcap (by omega) hs
    generalize joinS ts = js at *
    have g1 : (⟨(wordS x.op).toArray⟩ : ByteArray).size + (⟨([40] : List UInt8).toArray⟩ : ByteArray).size ≤ 9223372036854775807 := by show (wordS x.op).length + 1 ≤ _; omega
    have g2 : (⟨(wordS x.op ++ [40]).toArray⟩ : ByteArray).size + (⟨js.toArray⟩ : ByteArray).size ≤ 9223372036854775807 := by show (wordS x.op ++ [40]).length + js.length ≤ _; rw [List.length_append]; simp only [List.length_singleton]; omega
    have g3 : (⟨((wordS x.op ++ [40]) ++ js).toArray⟩ : ByteArray).size + (⟨([41] : List UInt8).toArray⟩ : ByteArray).size ≤ 9223372036854775807 := by show ((wordS x.op ++ [40]) ++ js).length + 1 ≤ _; rw [List.length_append, List.length_append]; simp only [List.length_singleton]; omega
    refine PSpec.intro Tryz.func37 rfl (by kernel_rfl) rfl rfl ?_
    intro C
    (refine LWP.seq <| LWP.region (by kernel_rfl) <| K.box rfl rfl rfl .plain <| K.box rfl rfl rfl .plain <| kas rfl <| RunK.nil <| LWP.seq <| LWP.seq <| LWP.region (by kernel_rfl) <| kfa rfl rfl ?_; refine kl1 rfl rfl rfl <| RunK.nil <| LWP.block <| LWP.seq <| LWP.region (by kernel_rfl) <| keq rfl rfl (r := false) (beq_eq_false_iff_ne.2 (by omega)) <| kas rfl <| RunK.nil <| LWP.condF rfl ?_; refine LWP.seq <| LWP.region (by kernel_rfl) <| keq rfl rfl (r := false) (beq_eq_false_iff_ne.2 (by omega)) <| kas rfl <| RunK.nil <| LWP.condF rfl ?_; refine LWP.seq <| LWP.region (by kernel_rfl) <| keq rfl rfl (r := false) (beq_eq_false_iff_ne.2 (by omega)) <| kas rfl <| RunK.nil <| LWP.condF rfl ?_; refine LWP.seq <| LWP.region (by kernel_rfl) <| keq rfl rfl (r := false) (beq_eq_false_iff_ne.2 (by omega)) <| kas rfl <| RunK.nil <| LWP.condF rfl ?_; refine LWP.skip ?_; refine LWP.seq <| LWP.draws mixed (by kernel_rfl) <| kfa rfl rfl ?_; refine kl1 rfl rfl rfl <| K.strAdd rfl rfl g1 (str_add (wordS x.op) [40]) .plain <| kmv rfl <| kca rfl rfl hJ <| K.strAdd rfl rfl g2 (str_add (wordS x.op ++ [40]) js) .plain <| K.strAdd rfl rfl g3 (str_add ((wordS x.op ++ [40]) ++ js) [41]) .plain <| kas rfl <| RunK.nil <| And.intro (by kernel_rfl) ?_; refine LWP.ret ?_)
    exact ⟨[_], ⟨rfl, trivial⟩, rfl⟩
theorem tShow1 (hT : XTab X) (x : Ins) (hx : smallI x) (hok : okI x = true) (f : FuncId) (caps : List Value) (tad : Option Addr) (tcap : Nat) (ts : List (List UInt8)) (hts : TsIn X tad ts) (hlen : ts.length = takes x.op) (hcap : ts.length ≤ tcap) (hs : (ts.map List.length).sum ≤ 3200) :
    PSpec Tryz.prog X 36 [LRow x.op (.val (.func (.func f) #[] caps.toArray)), LIn x, Lx tad ts.length tcap] (.tup [Ss (shownX x ts), Sn .i64 0]) := by
  have hP := tShown X hT x hx hok f caps tad tcap ts hts hlen hcap hs
  generalize shownX x ts = r at *
  refine PSpec.intro Tryz.func36 rfl (by kernel_rfl) rfl rfl ?_
  intro C
  (refine LWP.seq <| LWP.region (by kernel_rfl) <| K.box rfl rfl rfl .plain <| K.box rfl rfl rfl .plain <| kas rfl <| kas rfl <| RunK.nil <| LWP.seq <| LWP.region (by kernel_rfl) <| K.loadAll rfl rfl rfl .plain ?_; refine K.loadAll rfl rfl rfl .plain ?_; refine kmv rfl <| kca rfl rfl (hP) <| kas rfl <| kas rfl <| RunK.nil <| LWP.ret ?_)
  exact ⟨[_, _], ⟨rfl, rfl, trivial⟩, rfl⟩
abbrev rsSt (rad ad : Option Addr) (n rcap cap i : Nat) (ms : List (Nat × LV)) (mb : List (Nat × Option Box)) (Y : Nat → Option Obj) : St :=
  ⟨ms ++ [(0, Lx rad n rcap), (1, Lx ad n cap), (2, .sv (.one (.val (fnV 36)))), (15, Lx rad n rcap), (16, Ln .i64 (n : Nat)), (17, Ln .i64 (i : Nat))], mb, Y⟩
set_option maxHeartbeats 12800000 in
theorem tRunS (hT : XTab X) (l : List Ins) (hchk : chkX l = 0) (ad : Option Addr) (cap : Nat) (hin : InsIn X ad l) (rad : Option Addr) (rcap : Nat) (hrows : RowsOK X rad l) :
    PSpec Tryz.prog X 35 [Lx rad l.length rcap, Lx ad l.length cap, .sv (.one (.val (fnV 36)))] (.tup [Ss (showX l), Sn .i64 0]) := by
  obtain ⟨h64, hdep1⟩ := chkX_zero hchk
  refine PSpec.intro Tryz.func35 rfl (by kernel_rfl) rfl rfl ?_
  intro C
  have hmk : slcBuild Tryz.prog 79 16 = some ((List.replicate 16 [Value.string ⟨#[]⟩]).flatten, 1, 9) := slcBuild_many (z := #[.string ⟨#[]⟩]) (by kernel_rfl) (by kernel_rfl) rfl (by omega)
  (refine LWP.seq <| LWP.region (by kernel_rfl) <| kas rfl <| kas rfl <| RunK.nil <| LWP.seq <| LWP.region (by kernel_rfl) <| K.makeSlc0 (m := 16) (bytes := 16) rfl rfl hmk (by kernel_rfl) (by omega) rfl .plain ?_; refine kas rfl <| RunK.nil <| LWP.seq <| LWP.seq <| LWP.region (by kernel_rfl) <| kmv rfl <| K.lenX rfl SliceT.h rfl .plain ?_; refine kmv rfl <| RunK.nil <| LWP.block ?_)
  refine LWP.loop (fun k σ => ∃ (i : Nat) (st : List (List UInt8)), i ≤ l.length ∧ k = l.length - i ∧ run oneS (l.take i) [] = .ok st ∧ (st.map List.length).sum ≤ 50 * i ∧ dep okI 0 (l.take i) = some st.length ∧ σ = rsSt rad ad l.length rcap cap i [(8, .sv (.one (.slc 500 0 st.length 1)))] [(500, some ⟨9, (txV st.reverse).map .val, true⟩)] X) l.length
    ⟨rsSt rad ad l.length rcap cap 0 [(8, .sv (.one (.slc 500 0 0 1)))] [(500, some ⟨9, [], true⟩)] X, Le.ofR [(500, 14)] (by exact ⟨rfl, rfl, rfl, rfl, rfl, rfl, rfl, trivial⟩) (by repeat' (first | exact trivial | refine And.intro ⟨_, rfl, ?_⟩ ?_ | refine And.intro ⟨_, rfl⟩ ?_ | rfl | exact Box.ren_bytes _ _ _ _ | exact Box.ren_vals _ _ _ _ | exact Box.ren_mid rfl)) (by exact rfl) (by exact rfl) (by repeat' (first | refine all_cons_true ?_ ?_ | rfl | exact bytes_inUse | exact vals_inUse | exact mid_inUse rfl)) (by exact rfl) (by exact rfl), 0, [], by omega, by omega, rfl, Nat.le_refl _, rfl, rfl⟩ ?_
  rintro k σ ⟨i, st, hi, rfl, hst, hst2, hdep, rfl⟩
  by_cases hlt : i < l.length
  · obtain ⟨x, hx⟩ : ∃ x, l[i]? = some x := ⟨_, List.getElem?_eq_getElem hlt⟩
    have hmem := List.mem_of_getElem? hx
    have hsx := hin.small x hmem
    obtain ⟨hok, htk, h16, hdn⟩ := dep_step hdep1 hdep hx
    have hd16 := dep_le (by omega) hdep
    obtain ⟨rblk, roff, rarr, rel, rfr, dv, rfl, hXr, hszr, hcsr, hDv⟩ := hrows.at hx
    obtain ⟨g, gcaps, egv, _⟩ := id hDv
    subst egv
    obtain ⟨blk, off, arr, el, fr, rfl, hX, hsz, hcs, hop⟩ := hin.at hx
    have hio : off + Int.toNat (i : Int) * 6 = off + i * 6 := by simp
    have hior : roff + Int.toNat (i : Int) * 6 = roff + i * 6 := by simp
    have hin0 : 0 ≤ (i : Int) ∧ (i : Int) < (l.length : Nat) := by omega
    obtain ⟨rest, hrest⟩ : ∃ rest, st.length - takes x.op = rest := ⟨_, rfl⟩
    have hsub : IntKind.i64.wrap (((st.length : Nat) : Int) - ((takes x.op : Nat) : Int)) = ((rest : Nat) : Int) := by rw [wrap_i64 (by omega)]; omega
    (refine LWP.seq <| LWP.region (by kernel_rfl) <| klt rfl rfl (decide_eq_true (by omega)) <| RunK.nil <| LWP.seq <| LWP.condT rfl ?_; refine LWP.skip ?_; refine LWP.seq <| LWP.block <| LWP.seq <| LWP.region (by kernel_rfl) <| kmv rfl <| K.indexX rfl rfl SliceT.h hin0 hior .plain <| K.loadXagg rfl hXr (by kernel_rfl) hszr hcsr .plain <| K.alloc rfl .plain ?_; refine kas rfl <| K.storeAll rfl rfl rfl rfl rfl rfl .plain ?_; refine RunK.nil <| LWP.seq <| LWP.region (by kernel_rfl) <| kmv rfl <| K.lenSlc rfl SliceT.h rfl .plain ?_; refine kfa rfl rfl ?_; refine kl1 rfl rfl rfl <| K.sub rfl rfl hsub .plain <| kas rfl <| RunK.nil <| LWP.seq ?_)
    refine LWP.le (σ' := ⟨[(8, .sv (.one (.slc 500 0 st.length 1))), (0, Lx (some ⟨rblk, roff, none⟩) l.length rcap), (1, Lx (some ⟨blk, off, none⟩) l.length cap), (2, .sv (.one (.val (fnV 36)))), (9, Ln .i64 (i : Nat)), (10, Lp 10), (11, Ln .i64 (rest : Nat)), (15, Lx (some ⟨rblk, roff, none⟩) l.length rcap), (16, Ln .i64 (l.length : Nat)), (17, Ln .i64 (i : Nat))], [(500, some ⟨9, (txV st.reverse).map .val, true⟩), (10, some ⟨73, (rowVs (x.op, .func (.func g) #[] gcaps.toArray)).map .val, false⟩)], X⟩) (Le.of (by exact ⟨rfl, rfl, rfl, rfl, rfl, rfl, rfl, rfl, rfl, rfl, trivial⟩) (by exact ⟨rfl, rfl, trivial⟩) (by exact rfl) (by exact rfl) (by repeat' (first | refine all_cons_true ?_ ?_ | rfl | exact bytes_inUse | exact vals_inUse | exact mid_inUse rfl))) ?_
    refine LWP.freeze rfl (by exact (by repeat' (first | refine all_cons_true ?_ ?_ | rfl | exact bytes_inUse | exact vals_inUse | exact mid_inUse rfl))) rfl fun sb scap sarr sfr hn hFz hcp hfit hsp => ?_
    have hXZ : MoreM X (withBlock X sb (.cells sarr 9 sfr)) := withBlock_old hn
    have hts : st.reverse.drop rest = (st.take (takes x.op)).reverse := by rw [List.drop_reverse, ← hrest, show st.length - (st.length - takes x.op) = takes x.op by omega]
    have hln : ((st.take (takes x.op)).reverse).length = takes x.op := by rw [List.length_reverse, List.length_take]; omega
    have hN := texts_tail (cap := scap) (rest := rest) (withBlock_at X sb (.cells sarr 9 sfr)) hsp (fun e => List.drop_eq_nil_of_le (by rw [List.length_reverse]; omega))
    rw [hts] at hN
    have hsum : (st.map List.length).sum = (((st.take (takes x.op)).reverse).map List.length).sum + ((st.drop (takes x.op)).map List.length).sum := by
      rw [List.map_reverse, List.sum_reverse, ← List.sum_append, ← List.map_append, List.take_append_drop]
    have hP := tShow1 _ (xtab_mono hXZ hT) x hsx hok g gcaps _ (scap - rest) _ hN hln (by omega) (by omega)
    have hln2 : st.length - rest = ((st.take (takes x.op)).reverse).length := by rw [hln]; omega
    have hXc := hXZ _ _ hX
    have hsn := run_snoc hst hx
    have hnl2 := shownX_len hok hsx.2.2.2 hln
    rw [show oneS x (st.take (takes x.op)).reverse = .ok (shownX x (st.take (takes x.op)).reverse) from rfl] at hsn
    simp only at hsn
    generalize shownX x (st.take (takes x.op)).reverse = u at *
    (refine LWP.draws mixed (by kernel_rfl) <| kmv rfl <| K.loadAll rfl rfl rfl .plain ?_; refine kmv rfl <| kmv rfl <| K.indexX rfl rfl SliceT.h hin0 hio .plain <| K.loadXagg rfl hXc (by kernel_rfl) hsz hcs .plain <| kmv rfl <| kmv rfl <| K.cutLoX rfl rfl SliceT.h (by omega) rfl hln2 rfl .plain ?_; refine K.callF (caps := []) rfl rfl rfl hP .plain ?_; refine kmv rfl <| kex rfl rfl <| kex rfl rfl <| kas rfl <| kas rfl <| RunK.nil <| And.intro (by kernel_rfl) ?_; refine LWP.seq <| LWP.seq <| LWP.region (by kernel_rfl) <| kmv rfl <| kne rfl rfl (r := false) rfl <| RunK.nil <| LWP.condF rfl ?_; refine LWP.skip ?_)
    have hspl : txV st.reverse = txV (st.reverse.take rest) ++ txV (st.reverse.drop rest) := by rw [← txV_app, List.take_append_drop]
    have hsp2 : ∃ sp, sarr.toList = txV (st.reverse.take rest) ++ sp := by
      obtain ⟨sp, hsp⟩ := hsp
      exact ⟨_, by rw [hsp, hspl, List.append_assoc]⟩
    have hrl : (st.reverse.take rest).length = rest := by rw [List.length_take, List.length_reverse]; omega
    refine LWP.le (σ' := ⟨[(8, .sv (.one (.val (.slice (some ⟨sb, 0, none⟩) st.length scap)))), (0, Lx (some ⟨rblk, roff, none⟩) l.length rcap), (1, Lx (some ⟨blk, off, none⟩) l.length cap), (2, .sv (.one (.val (fnV 36)))), (11, Ln .i64 (rest : Nat)), (12, Ls u), (15, Lx (some ⟨rblk, roff, none⟩) l.length rcap), (16, Ln .i64 (l.length : Nat)), (17, Ln .i64 (i : Nat))], [], withBlock X sb (.cells sarr 9 sfr)⟩) (Le.of (by exact ⟨rfl, rfl, rfl, rfl, rfl, rfl, rfl, rfl, rfl, trivial⟩) (by exact trivial) (by exact rfl) (by exact rfl) (by repeat' (first | refine all_cons_true ?_ ?_ | rfl | exact bytes_inUse | exact vals_inUse | exact mid_inUse rfl))) ?_
    refine LWP.thaw (k := 500) (sz := 1) (vals := txV (st.reverse.take rest)) hn hFz hcp hfit hsp2 rfl rfl rfl (by decide) ?_
    have hl3 : ((txV (st.reverse.take rest)).map CV.val).length = rest * 1 := by rw [txV_len, hrl]
    have hnc : (txV (st.reverse.take rest)).map CV.val ++ [CV.val (.string ⟨u.toArray⟩)] = (txV (st.reverse.take rest ++ [u])).map CV.val := by rw [txV_app, List.map_append]; rfl
    have hinc : IntKind.i64.wrap (((i : Nat) : Int) + 1) = ((i + 1 : Nat) : Int) := by rw [wrap_i64 (by omega)]; omega
    have hst' : st.reverse.take rest = (st.drop (takes x.op)).reverse := by rw [List.take_reverse, ← hrest, show st.length - (st.length - takes x.op) = takes x.op by omega]
    have hlen2 : (u :: st.drop (takes x.op)).length = rest + 1 := by rw [List.length_cons, List.length_drop]; omega
    (refine LWP.region (by kernel_rfl) <| kmv rfl <| kmv rfl <| K.cutSlc rfl rfl SliceT.h (by omega) .plain <| kmv rfl <| K.buildSlc (zs := [Value.string ⟨#[]⟩]) (sz := 1) (e := 9) (cs' := [.val (.string ⟨u.toArray⟩)]) (by kernel_rfl) rfl rfl rfl rfl rfl rfl .plain <| K.appendSlc (by_ := 16) (e2 := 9) (l2 := [.val (.string ⟨u.toArray⟩)]) (nl := rest + 1) (nc := (txV (st.reverse.take rest ++ [u])).map .val) rfl rfl hl3 rfl rfl (Nat.le_refl _) rfl rfl (by kernel_rfl) (by kernel_rfl) (by omega) (by omega) rfl rfl hnc .plain <| kas rfl <| RunK.nil <| LWP.region (by kernel_rfl) <| kad rfl rfl hinc <| kmv rfl <| RunK.nil ?_)
    exact ⟨l.length - (i + 1), rsSt (some ⟨rblk, roff, none⟩) (some ⟨blk, off, none⟩) l.length rcap cap (i + 1) [(8, .sv (.one (.slc 500 0 (rest + 1) 1)))] [(500, some ⟨9, (txV (st.reverse.take rest ++ [u])).map .val, true⟩)] X, by omega, Le.ofR [(500, 49)] (by exact ⟨rfl, rfl, rfl, rfl, rfl, rfl, rfl, trivial⟩) (by repeat' (first | exact trivial | refine And.intro ⟨_, rfl, ?_⟩ ?_ | refine And.intro ⟨_, rfl⟩ ?_ | rfl | exact Box.ren_bytes _ _ _ _ | exact Box.ren_vals _ _ _ _ | exact Box.ren_mid rfl)) (by exact rfl) (by exact rfl) (by repeat' (first | refine all_cons_true ?_ ?_ | rfl | exact bytes_inUse | exact vals_inUse | exact mid_inUse rfl)) (by exact rfl) (by exact rfl), i + 1, u :: st.drop (takes x.op), by omega, rfl, hsn, by rw [List.map_cons, List.sum_cons]; omega, by rw [hdn, hlen2]; congr 1; omega, by rw [hlen2, List.reverse_cons, ← hst']⟩
  · have e : i = l.length := by omega
    subst e
    rw [List.take_length] at hst hdep
    have hl1 : st.length = 1 := by rw [hdep1] at hdep; exact (Option.some.inj hdep).symm
    match st, hl1, hst with
    | [u], _, hst =>
    rw [show showX l = u by unfold showX; rw [if_pos hchk, hst]]
    show LWP _ _ _ _ _ _
    refine LWP.le (σ' := rsSt rad ad l.length rcap cap l.length [(8, .sv (.one (.slc 500 0 1 1)))] [(500, some ⟨9, [.val (.string ⟨u.toArray⟩)], true⟩)] X) (Le.of (by exact ⟨rfl, rfl, rfl, rfl, rfl, rfl, rfl, trivial⟩) (by exact ⟨rfl, trivial⟩) (by exact rfl) (by exact rfl) (by repeat' (first | refine all_cons_true ?_ ?_ | rfl | exact bytes_inUse | exact vals_inUse | exact mid_inUse rfl))) ?_
    (refine LWP.seq <| LWP.region (by kernel_rfl) <| klt rfl rfl (decide_eq_false (by omega)) <| RunK.nil <| LWP.seq <| LWP.condF rfl ?_; refine LWP.exit <| LWP.seq <| LWP.region (by kernel_rfl) <| kmv rfl <| K.indexSlc (off' := 0) rfl rfl (by omega) rfl .plain ?_; refine kl1 rfl rfl rfl <| kas rfl <| kas rfl <| RunK.nil <| LWP.ret ?_)
    exact ⟨[_, _], ⟨rfl, rfl, trivial⟩, rfl⟩
set_option maxHeartbeats 3200000 in
theorem gShow' (hT : XTab X) (l : List Ins) (ad : Option Addr) (cap : Nat) (hin : InsIn X ad l) (hbig : l.length < 1152921504606846976) : PSpec Tryz.prog X 15 [Lx ad l.length cap] (Ls (showX l)) := by
  have hR := tRowsOf X l ad cap hin hbig
  refine PSpec.intro Tryz.func15 rfl (by kernel_rfl) rfl rfl ?_
  intro C
  by_cases h : chkX l = 0
  · rw [(rs_ok h).1, (rs_ok h).2] at hR
    (refine LWP.seq <| LWP.region (by kernel_rfl) <| kas rfl <| RunK.nil <| LWP.seq <| LWP.region (by kernel_rfl) <| kmv rfl <| K.callMp [(1000001, 500)] (.tup [.one (.slc 500 0 l.length 6), Sn .i64 0]) [(500, some ⟨0, [], .res (rowsR l)⟩)] (hR) rfl rfl (by exact trivial) rfl rfl rfl rfl rfl (by exact (.box rfl rfl .nil)) .plain <| kmv rfl <| kex rfl rfl <| kex rfl rfl <| kas rfl <| kas rfl <| RunK.nil ?_; refine LWP.seq <| LWP.seq <| LWP.region (by kernel_rfl) <| kmv rfl <| kne rfl rfl ((bne_eq_false_iff_eq.2 (by omega))) <| RunK.nil <| LWP.condF rfl ?_; refine LWP.skip ?_; refine LWP.seq ?_)
    refine LWP.le (σ' := ⟨[(3, .sv (.one (.slc 500 0 l.length 6))), (0, Lx ad l.length cap), (4, Ln .i64 0)], [(500, some ⟨0, [], .res (rowsR l)⟩)], X⟩) (Le.of (by exact ⟨rfl, rfl, rfl, trivial⟩) (by exact ⟨rfl, trivial⟩) (by exact rfl) (by exact rfl) (by repeat' (first | refine all_cons_true ?_ ?_ | rfl | exact bytes_inUse | exact vals_inUse | exact mid_inUse rfl))) ?_
    refine LWP.fixRes rfl rfl rfl fun ρ H rcap hRr hO _ _ => ?_
    obtain ⟨m1, m2⟩ := more_join hO
    have hP := tRunS _ (xtab_mono m1 hT) l h ad cap (hin.mono m1) (some ⟨ρ.1, 0, none⟩) rcap (rows_fix hRr m2)
    generalize showX l = s at *
    (refine LWP.region (by kernel_rfl) <| kmv rfl <| kmv rfl <| kca rfl rfl hP <| kmv rfl <| kex rfl rfl <| kex rfl rfl <| kas rfl <| kas rfl <| RunK.nil <| LWP.seq <| LWP.region (by kernel_rfl) <| kmv rfl <| kas rfl ?_; refine RunK.nil <| LWP.ret ?_)
    exact ⟨[_], ⟨rfl, trivial⟩, rfl⟩
  · rw [(rs_no h).1, (rs_no h).2] at hR
    rw [show showX l = [] from if_neg h]
    (refine LWP.seq <| LWP.region (by kernel_rfl) <| kas rfl <| RunK.nil <| LWP.seq <| LWP.region (by kernel_rfl) <| kmv rfl <| K.callM [] [] (hR) rfl rfl (by exact trivial) rfl rfl rfl rfl rfl (by exact .nil) .plain <| kmv rfl <| kex rfl rfl <| kex rfl rfl <| kas rfl <| kas rfl <| RunK.nil ?_; refine LWP.seq <| LWP.seq <| LWP.region (by kernel_rfl) <| kmv rfl <| kne rfl rfl (r := true) (bne_iff_ne.2 h) <| RunK.nil <| LWP.condT rfl ?_; refine LWP.seq <| LWP.region (by kernel_rfl) <| kas rfl <| RunK.nil <| LWP.ret ?_)
    exact ⟨[_], ⟨rfl, trivial⟩, rfl⟩
end Go.Proofs.YtimpjdbhalnofaaGreatDoor
end
section
namespace Go.Proofs.YtimpjdbhalnofaaGreatDoor
open Go Go.Lg
variable (X : Nat → Option Obj)
end Go.Proofs.YtimpjdbhalnofaaGreatDoor
end
section
namespace Go.Proofs.YtimpjdbhalnofaaGreatDoor
open Go Go.Lg Go.Lg.Fml Go.Lg.Fld Go.Lg.Arith
set_option maxRecDepth 100000
theorem leB1o (n : Nat) : leB 1 n = [o8 (n : Nat)] := by
  simp only [leB]
  congr 1
abbrev LOp (op : Int) : LV := .sv (.agg [.val (.bool (op == 2 || op == 3)), .val (.bool (op == 2)), .val (.bool (op == 1))])
theorem op_1 : LOp 1 = .sv (.agg [.val (.bool false), .val (.bool false), .val (.bool true)]) := rfl
theorem op_2 : LOp 2 = .sv (.agg [.val (.bool true), .val (.bool true), .val (.bool false)]) := rfl
theorem op_3 : LOp 3 = .sv (.agg [.val (.bool true), .val (.bool false), .val (.bool false)]) := rfl
theorem op_no {op : Int} (h1 : op ≠ 1) (h2 : op ≠ 2) (h3 : op ≠ 3) : LOp op = .sv (.agg [.val (.bool false), .val (.bool false), .val (.bool false)]) := by
  unfold LOp
  rw [beq_eq_false_iff_ne.2 h1, beq_eq_false_iff_ne.2 h2, beq_eq_false_iff_ne.2 h3]
  rfl
variable (X : Nat → Option Obj)
set_option maxHeartbeats 6400000 in
theorem tOnly3 (A B K : Bool) (x : Ins) (hx : smallI x) : PSpec Tryz.prog X 40 [.sv (.agg [.val (.bool A), .val (.bool B), .val (.bool K)]), LIn x] (Lb ((A || (x.a == 0)) && (B || (x.b == 0)) && (K || decide (x.k = (false, 0))))) := by
  have q := eqI (b := x.k.1) (b' := false) (h := x.k.2 / 18446744073709551616) (h' := 0) (l := x.k.2 % 18446744073709551616) (l' := 0) _ (eqZ hx.2.2.2)
  rw [show decide (((x.k.1, x.k.2) : Nm) = (false, 0)) = decide (x.k = (false, 0)) from rfl] at q
  generalize hr : decide (x.k = (false, 0)) = r at *
  generalize hp : (x.a == 0) = p
  generalize hq : (x.b == 0) = s
  cases A <;> cases p <;> cases B <;> cases s <;> cases K
  all_goals
    refine PSpec.intro Tryz.func40 rfl (by kernel_rfl) rfl rfl ?_
    intro C
    (first | (refine LWP.seq <| LWP.region (by kernel_rfl) <| K.box rfl rfl rfl .plain <| K.box rfl rfl rfl .plain <| kas rfl <| RunK.nil <| LWP.seq <| LWP.region (by kernel_rfl) <| kfa rfl rfl ?_; refine kl1 rfl rfl rfl <| kmv rfl <| K.fieldAddr rfl rfl (.taken rfl rfl) ?_; refine K.loadOne rfl rfl rfl (.taken rfl rfl) ?_; refine K.eql rfl rfl hp (.taken rfl rfl) ?_; refine kpf rfl rfl <| kmv rfl <| K.fieldAddr rfl rfl (.taken rfl rfl) ?_; refine K.loadOne rfl rfl rfl (.taken rfl rfl) ?_; refine gmv rfl rfl rfl <| K.fieldAddr rfl rfl (.taken rfl rfl) ?_; refine K.loadOne rfl rfl rfl (.taken rfl rfl) ?_; refine K.eql rfl rfl hq (.taken rfl rfl) ?_; refine K.pickF rfl rfl (.taken rfl rfl) ?_; refine kpt rfl rfl <| kmv rfl <| K.fieldAddr rfl rfl (.taken rfl rfl) ?_; refine K.loadOne rfl rfl rfl (.taken rfl rfl) ?_; refine gmv rfl rfl rfl <| K.fieldAddr rfl rfl (.taken rfl rfl) ?_; refine K.loadPart rfl rfl rfl (by exact nl3 rfl rfl rfl rfl) (.taken rfl rfl) ?_; refine K.build rfl rfl (by exact rfl) (by exact nl3 rfl rfl rfl rfl) (.taken rfl rfl) ?_; refine K.aggEq rfl rfl rfl rfl (by kernel_rfl) q (.inl ⟨rfl, rfl⟩) (.taken rfl rfl) ?_; refine K.pickF rfl rfl (.taken rfl rfl) ?_; refine kpt rfl rfl <| kas rfl <| RunK.nil <| LWP.ret ?_) | (refine LWP.seq <| LWP.region (by kernel_rfl) <| K.box rfl rfl rfl .plain <| K.box rfl rfl rfl .plain <| kas rfl <| RunK.nil <| LWP.seq <| LWP.region (by kernel_rfl) <| kfa rfl rfl ?_; refine kl1 rfl rfl rfl <| kmv rfl <| K.fieldAddr rfl rfl (.taken rfl rfl) ?_; refine K.loadOne rfl rfl rfl (.taken rfl rfl) ?_; refine K.eql rfl rfl hp (.taken rfl rfl) ?_; refine kpf rfl rfl <| kmv rfl <| K.fieldAddr rfl rfl (.taken rfl rfl) ?_; refine K.loadOne rfl rfl rfl (.taken rfl rfl) ?_; refine gmv rfl rfl rfl <| RunK.passed rfl rfl rfl <| RunK.passed rfl rfl rfl <| RunK.passed rfl rfl rfl <| K.pickT rfl rfl (.taken rfl rfl) ?_; refine kpt rfl rfl <| kmv rfl <| K.fieldAddr rfl rfl (.taken rfl rfl) ?_; refine K.loadOne rfl rfl rfl (.taken rfl rfl) ?_; refine gmv rfl rfl rfl <| K.fieldAddr rfl rfl (.taken rfl rfl) ?_; refine K.loadPart rfl rfl rfl (by exact nl3 rfl rfl rfl rfl) (.taken rfl rfl) ?_; refine K.build rfl rfl (by exact rfl) (by exact nl3 rfl rfl rfl rfl) (.taken rfl rfl) ?_; refine K.aggEq rfl rfl rfl rfl (by kernel_rfl) q (.inl ⟨rfl, rfl⟩) (.taken rfl rfl) ?_; refine K.pickF rfl rfl (.taken rfl rfl) ?_; refine kpt rfl rfl <| kas rfl <| RunK.nil <| LWP.ret ?_) | (refine LWP.seq <| LWP.region (by kernel_rfl) <| K.box rfl rfl rfl .plain <| K.box rfl rfl rfl .plain <| kas rfl <| RunK.nil <| LWP.seq <| LWP.region (by kernel_rfl) <| kfa rfl rfl ?_; refine kl1 rfl rfl rfl <| kmv rfl <| RunK.passed rfl rfl rfl <| RunK.passed rfl rfl rfl <| RunK.passed rfl rfl rfl <| kpt rfl rfl <| kmv rfl <| K.fieldAddr rfl rfl (.taken rfl rfl) ?_; refine K.loadOne rfl rfl rfl (.taken rfl rfl) ?_; refine gmv rfl rfl rfl <| K.fieldAddr rfl rfl (.taken rfl rfl) ?_; refine K.loadOne rfl rfl rfl (.taken rfl rfl) ?_; refine K.eql rfl rfl hq (.taken rfl rfl) ?_; refine K.pickF rfl rfl (.taken rfl rfl) ?_; refine kpt rfl rfl <| kmv rfl <| K.fieldAddr rfl rfl (.taken rfl rfl) ?_; refine K.loadOne rfl rfl rfl (.taken rfl rfl) ?_; refine gmv rfl rfl rfl <| K.fieldAddr rfl rfl (.taken rfl rfl) ?_; refine K.loadPart rfl rfl rfl (by exact nl3 rfl rfl rfl rfl) (.taken rfl rfl) ?_; refine K.build rfl rfl (by exact rfl) (by exact nl3 rfl rfl rfl rfl) (.taken rfl rfl) ?_; refine K.aggEq rfl rfl rfl rfl (by kernel_rfl) q (.inl ⟨rfl, rfl⟩) (.taken rfl rfl) ?_; refine K.pickF rfl rfl (.taken rfl rfl) ?_; refine kpt rfl rfl <| kas rfl <| RunK.nil <| LWP.ret ?_) | (refine LWP.seq <| LWP.region (by kernel_rfl) <| K.box rfl rfl rfl .plain <| K.box rfl rfl rfl .plain <| kas rfl <| RunK.nil <| LWP.seq <| LWP.region (by kernel_rfl) <| kfa rfl rfl ?_; refine kl1 rfl rfl rfl <| kmv rfl <| RunK.passed rfl rfl rfl <| RunK.passed rfl rfl rfl <| RunK.passed rfl rfl rfl <| kpt rfl rfl <| kmv rfl <| K.fieldAddr rfl rfl (.taken rfl rfl) ?_; refine K.loadOne rfl rfl rfl (.taken rfl rfl) ?_; refine gmv rfl rfl rfl <| RunK.passed rfl rfl rfl <| RunK.passed rfl rfl rfl <| RunK.passed rfl rfl rfl <| K.pickT rfl rfl (.taken rfl rfl) ?_; refine kpt rfl rfl <| kmv rfl <| K.fieldAddr rfl rfl (.taken rfl rfl) ?_; refine K.loadOne rfl rfl rfl (.taken rfl rfl) ?_; refine gmv rfl rfl rfl <| K.fieldAddr rfl rfl (.taken rfl rfl) ?_; refine K.loadPart rfl rfl rfl (by exact nl3 rfl rfl rfl rfl) (.taken rfl rfl) ?_; refine K.build rfl rfl (by exact rfl) (by exact nl3 rfl rfl rfl rfl) (.taken rfl rfl) ?_; refine K.aggEq rfl rfl rfl rfl (by kernel_rfl) q (.inl ⟨rfl, rfl⟩) (.taken rfl rfl) ?_; refine K.pickF rfl rfl (.taken rfl rfl) ?_; refine kpt rfl rfl <| kas rfl <| RunK.nil <| LWP.ret ?_) | (refine LWP.seq <| LWP.region (by kernel_rfl) <| K.box rfl rfl rfl .plain <| K.box rfl rfl rfl .plain <| kas rfl <| RunK.nil <| LWP.seq <| LWP.region (by kernel_rfl) <| kfa rfl rfl ?_; refine kl1 rfl rfl rfl <| kmv rfl <| K.fieldAddr rfl rfl (.taken rfl rfl) ?_; refine K.loadOne rfl rfl rfl (.taken rfl rfl) ?_; refine K.eql rfl rfl hp (.taken rfl rfl) ?_; refine kpf rfl rfl <| kmv rfl <| K.fieldAddr rfl rfl (.taken rfl rfl) ?_; refine K.loadOne rfl rfl rfl (.taken rfl rfl) ?_; refine gmv rfl rfl rfl <| K.fieldAddr rfl rfl (.taken rfl rfl) ?_; refine K.loadOne rfl rfl rfl (.taken rfl rfl) ?_; refine K.eql rfl rfl hq (.taken rfl rfl) ?_; refine K.pickF rfl rfl (.taken rfl rfl) ?_; refine kpt rfl rfl <| kmv rfl <| K.fieldAddr rfl rfl (.taken rfl rfl) ?_; refine K.loadOne rfl rfl rfl (.taken rfl rfl) ?_; refine gmv rfl rfl rfl <| RunK.passed rfl rfl rfl <| RunK.passed rfl rfl rfl <| RunK.passed rfl rfl rfl <| RunK.passed rfl rfl rfl <| K.pickT rfl rfl (.taken rfl rfl) ?_; refine kpt rfl rfl <| kas rfl <| RunK.nil <| LWP.ret ?_) | (refine LWP.seq <| LWP.region (by kernel_rfl) <| K.box rfl rfl rfl .plain <| K.box rfl rfl rfl .plain <| kas rfl <| RunK.nil <| LWP.seq <| LWP.region (by kernel_rfl) <| kfa rfl rfl ?_; refine kl1 rfl rfl rfl <| kmv rfl <| K.fieldAddr rfl rfl (.taken rfl rfl) ?_; refine K.loadOne rfl rfl rfl (.taken rfl rfl) ?_; refine K.eql rfl rfl hp (.taken rfl rfl) ?_; refine kpf rfl rfl <| kmv rfl <| K.fieldAddr rfl rfl (.taken rfl rfl) ?_; refine K.loadOne rfl rfl rfl (.taken rfl rfl) ?_; refine gmv rfl rfl rfl <| RunK.passed rfl rfl rfl <| RunK.passed rfl rfl rfl <| RunK.passed rfl rfl rfl <| K.pickT rfl rfl (.taken rfl rfl) ?_; refine kpt rfl rfl <| kmv rfl <| K.fieldAddr rfl rfl (.taken rfl rfl) ?_; refine K.loadOne rfl rfl rfl (.taken rfl rfl) ?_; refine gmv rfl rfl rfl <| RunK.passed rfl rfl rfl <| RunK.passed rfl rfl rfl <| RunK.passed rfl rfl rfl <| RunK.passed rfl rfl rfl <| K.pickT rfl rfl (.taken rfl rfl) ?_; refine kpt rfl rfl <| kas rfl <| RunK.nil <| LWP.ret ?_) | (refine LWP.seq <| LWP.region (by kernel_rfl) <| K.box rfl rfl rfl .plain <| K.box rfl rfl rfl .plain <| kas rfl <| RunK.nil <| LWP.seq <| LWP.region (by kernel_rfl) <| kfa rfl rfl ?_; refine kl1 rfl rfl rfl <| kmv rfl <| RunK.passed rfl rfl rfl <| RunK.passed rfl rfl rfl <| RunK.passed rfl rfl rfl <| kpt rfl rfl <| kmv rfl <| K.fieldAddr rfl rfl (.taken rfl rfl) ?_; refine K.loadOne rfl rfl rfl (.taken rfl rfl) ?_; refine gmv rfl rfl rfl <| K.fieldAddr rfl rfl (.taken rfl rfl) ?_; refine K.loadOne rfl rfl rfl (.taken rfl rfl) ?_; refine K.eql rfl rfl hq (.taken rfl rfl) ?_; refine K.pickF rfl rfl (.taken rfl rfl) ?_; refine kpt rfl rfl <| kmv rfl <| K.fieldAddr rfl rfl (.taken rfl rfl) ?_; refine K.loadOne rfl rfl rfl (.taken rfl rfl) ?_; refine gmv rfl rfl rfl <| RunK.passed rfl rfl rfl <| RunK.passed rfl rfl rfl <| RunK.passed rfl rfl rfl <| RunK.passed rfl rfl rfl <| K.pickT rfl rfl (.taken rfl rfl) ?_; refine kpt rfl rfl <| kas rfl <| RunK.nil <| LWP.ret ?_) | (refine LWP.seq <| LWP.region (by kernel_rfl) <| K.box rfl rfl rfl .plain <| K.box rfl rfl rfl .plain <| kas rfl <| RunK.nil <| LWP.seq <| LWP.region (by kernel_rfl) <| kfa rfl rfl ?_; refine kl1 rfl rfl rfl <| kmv rfl <| K.fieldAddr rfl rfl (.taken rfl rfl) ?_; refine K.loadOne rfl rfl rfl (.taken rfl rfl) ?_; refine K.eql rfl rfl hp (.taken rfl rfl) ?_; refine kpf rfl rfl <| kmv rfl <| K.fieldAddr rfl rfl (.taken rfl rfl) ?_; refine K.loadOne rfl rfl rfl (.taken rfl rfl) ?_; refine gmv rfl rfl rfl <| K.fieldAddr rfl rfl (.taken rfl rfl) ?_; refine K.loadOne rfl rfl rfl (.taken rfl rfl) ?_; refine K.eql rfl rfl hq (.taken rfl rfl) ?_; refine K.pickF rfl rfl (.taken rfl rfl) ?_; refine kpt rfl rfl <| kmv rfl <| RunK.passed rfl rfl rfl <| RunK.passed rfl rfl rfl <| RunK.passed rfl rfl rfl <| RunK.passedU rfl rfl <| RunK.passedU rfl rfl <| RunK.passedU rfl rfl <| RunK.passedU rfl rfl <| RunK.passed rfl rfl rfl <| kpf rfl rfl <| kas rfl <| RunK.nil <| LWP.ret ?_) | (refine LWP.seq <| LWP.region (by kernel_rfl) <| K.box rfl rfl rfl .plain <| K.box rfl rfl rfl .plain <| kas rfl <| RunK.nil <| LWP.seq <| LWP.region (by kernel_rfl) <| kfa rfl rfl ?_; refine kl1 rfl rfl rfl <| kmv rfl <| RunK.passed rfl rfl rfl <| RunK.passed rfl rfl rfl <| RunK.passed rfl rfl rfl <| kpt rfl rfl <| kmv rfl <| K.fieldAddr rfl rfl (.taken rfl rfl) ?_; refine K.loadOne rfl rfl rfl (.taken rfl rfl) ?_; refine gmv rfl rfl rfl <| RunK.passed rfl rfl rfl <| RunK.passed rfl rfl rfl <| RunK.passed rfl rfl rfl <| K.pickT rfl rfl (.taken rfl rfl) ?_; refine kpt rfl rfl <| kmv rfl <| K.fieldAddr rfl rfl (.taken rfl rfl) ?_; refine K.loadOne rfl rfl rfl (.taken rfl rfl) ?_; refine gmv rfl rfl rfl <| RunK.passed rfl rfl rfl <| RunK.passed rfl rfl rfl <| RunK.passed rfl rfl rfl <| RunK.passed rfl rfl rfl <| K.pickT rfl rfl (.taken rfl rfl) ?_; refine kpt rfl rfl <| kas rfl <| RunK.nil <| LWP.ret ?_) | (refine LWP.seq <| LWP.region (by kernel_rfl) <| K.box rfl rfl rfl .plain <| K.box rfl rfl rfl .plain <| kas rfl <| RunK.nil <| LWP.seq <| LWP.region (by kernel_rfl) <| kfa rfl rfl ?_; refine kl1 rfl rfl rfl <| kmv rfl <| RunK.passed rfl rfl rfl <| RunK.passed rfl rfl rfl <| RunK.passed rfl rfl rfl <| kpt rfl rfl <| kmv rfl <| K.fieldAddr rfl rfl (.taken rfl rfl) ?_; refine K.loadOne rfl rfl rfl (.taken rfl rfl) ?_; refine gmv rfl rfl rfl <| K.fieldAddr rfl rfl (.taken rfl rfl) ?_; refine K.loadOne rfl rfl rfl (.taken rfl rfl) ?_; refine K.eql rfl rfl hq (.taken rfl rfl) ?_; refine K.pickF rfl rfl (.taken rfl rfl) ?_; refine kpt rfl rfl <| kmv rfl <| RunK.passed rfl rfl rfl <| RunK.passed rfl rfl rfl <| RunK.passed rfl rfl rfl <| RunK.passedU rfl rfl <| RunK.passedU rfl rfl <| RunK.passedU rfl rfl <| RunK.passedU rfl rfl <| RunK.passed rfl rfl rfl <| kpf rfl rfl <| kas rfl <| RunK.nil <| LWP.ret ?_) | (refine LWP.seq <| LWP.region (by kernel_rfl) <| K.box rfl rfl rfl .plain <| K.box rfl rfl rfl .plain <| kas rfl <| RunK.nil <| LWP.seq <| LWP.region (by kernel_rfl) <| kfa rfl rfl ?_; refine kl1 rfl rfl rfl <| kmv rfl <| K.fieldAddr rfl rfl (.taken rfl rfl) ?_; refine K.loadOne rfl rfl rfl (.taken rfl rfl) ?_; refine K.eql rfl rfl hp (.taken rfl rfl) ?_; refine kpf rfl rfl <| kmv rfl <| RunK.passed rfl rfl rfl <| RunK.passed rfl rfl rfl <| RunK.passed rfl rfl rfl <| RunK.passedU rfl rfl <| RunK.passedU rfl rfl <| RunK.passedU rfl rfl <| RunK.passed rfl rfl rfl <| kpf rfl rfl <| kmv rfl <| RunK.passed rfl rfl rfl <| RunK.passed rfl rfl rfl <| RunK.passed rfl rfl rfl ?_; refine RunK.passedU rfl rfl <| RunK.passedU rfl rfl <| RunK.passedU rfl rfl <| RunK.passedU rfl rfl <| RunK.passed rfl rfl rfl <| kpf rfl rfl <| kas rfl <| RunK.nil <| LWP.ret ?_))
    exact ⟨[_], ⟨rfl, trivial⟩, rfl⟩
theorem tOnly (x : Ins) (hx : smallI x) : PSpec Tryz.prog X 40 [LOp x.op, LIn x] (Lb (plainI x)) := by
  have h := tOnly3 X (x.op == 2 || x.op == 3) (x.op == 2) (x.op == 1) x hx
  have e : (((x.op == 2 || x.op == 3) || (x.a == 0)) && ((x.op == 2) || (x.b == 0)) && ((x.op == 1) || decide (x.k = (false, 0)))) = plainI x := by
    unfold plainI
    have hb : ∀ a b : Int, (a == b) = decide (a = b) := fun a b => rfl
    rw [hb, hb, hb, hb, hb]
    generalize decide (x.op = 1) = a1
    generalize decide (x.op = 2) = a2
    generalize decide (x.op = 3) = a3
    generalize decide (x.a = 0) = b1
    generalize decide (x.b = 0) = b2
    generalize decide (x.k = (false, 0)) = b3
    cases a1 <;> cases a2 <;> cases a3 <;> cases b1 <;> cases b2 <;> cases b3 <;> rfl
  rw [e] at h
  exact h
theorem ePut_0 (n : Nat) (h : n < 256) : MSpec Tryz.prog X 39 [Lp 1000000, Ln .i64 (n : Nat)] (w0 1000000) (.tup []) (w1 1000000 1000001 1000002 [o8 (n : Nat)]) := by
  have hN := WNum_0_1 X n (by omega) (by omega)
  rw [leB1o n] at hN
  refine MSpec.intro Tryz.func39 rfl (by kernel_rfl) rfl rfl (by repeat' (first | refine all_cons_true ?_ ?_ | rfl | exact bytes_inUse | exact vals_inUse | exact mid_inUse rfl)) rfl rfl ?_
  intro C
  have hw : IntKind.u64.wrap ((n : Nat) : Int) = ((n : Nat) : Int) := wrap_u64 (by omega)
  (refine LWP.region (by kernel_rfl) <| kmv rfl <| kmv rfl <| kcv rfl hw ?_; refine K.callM [(1000001, 501), (1000002, 502)] (w1 1000000 501 502 [o8 (n : Nat)]) (hN) rfl rfl (by exact (And.intro ⟨_, rfl, rfl⟩ trivial)) (by exact (all_cons_true (all_cons_true rfl (all_cons_true rfl rfl)) rfl)) rfl rfl rfl rfl (by exact (.box rfl rfl (.box rfl rfl (.box rfl rfl .nil)))) .plain <| RunK.nil ?_)
  exact ⟨[(1000001, 501), (1000002, 502)], ⟨[], trivial, rfl⟩, (by repeat' (first | exact trivial | refine And.intro ⟨_, rfl, ?_⟩ ?_ | refine And.intro ⟨_, rfl⟩ ?_ | rfl | exact Box.ren_bytes _ _ _ _ | exact Box.ren_vals _ _ _ _ | exact Box.ren_mid rfl)), rfl, rfl⟩
theorem ePut_1 (l : List UInt8) (n : Int) (h : 0 ≤ n ∧ n < 256) (hl : l.length < 900000000) : MSpec Tryz.prog X 39 [Lp 1000000, Ln .i64 n] (w1 1000000 1000001 1000002 l) (.tup []) (w1 1000000 1000001 1000003 (l ++ [o8 n]) ++ [(1000002, none)]) := by
  obtain ⟨k, rfl⟩ := Int.eq_ofNat_of_zero_le h.1
  have hk : k < 256 := by omega
  have hN := WNum_1_1 X l k (by omega) (by omega) hl
  rw [leB1o k] at hN
  refine MSpec.intro Tryz.func39 rfl (by kernel_rfl) rfl rfl (by repeat' (first | refine all_cons_true ?_ ?_ | rfl | exact bytes_inUse | exact vals_inUse | exact mid_inUse rfl)) rfl rfl ?_
  intro C
  have hw : IntKind.u64.wrap ((k : Nat) : Int) = ((k : Nat) : Int) := wrap_u64 (by omega)
  (refine LWP.region (by kernel_rfl) <| kmv rfl <| kmv rfl <| kcv rfl hw ?_; refine K.callM [(1000003, 501)] (w1 1000000 1000001 501 (l ++ [o8 (k : Nat)]) ++ [(1000002, none)]) (hN) rfl rfl (by exact (And.intro ⟨_, rfl, rfl⟩ (And.intro ⟨_, rfl, rfl⟩ (And.intro ⟨_, rfl, (Box.ren_bytes _ _ _ _)⟩ trivial)))) (by exact (all_cons_true (all_cons_true rfl (all_cons_true rfl rfl)) (all_cons_true (all_cons_true rfl rfl) (all_cons_true bytes_inUse rfl)))) rfl rfl rfl rfl (by exact (.box rfl rfl (.box rfl rfl (.box rfl (Box.ren_bytes _ _ _ _) (.dead rfl .nil))))) .plain <| RunK.nil ?_)
  exact ⟨[(1000003, 501)], ⟨[], trivial, rfl⟩, (by repeat' (first | exact trivial | refine And.intro ⟨_, rfl, ?_⟩ ?_ | refine And.intro ⟨_, rfl⟩ ?_ | rfl | exact Box.ren_bytes _ _ _ _ | exact Box.ren_vals _ _ _ _ | exact Box.ren_mid rfl)), rfl, rfl⟩
def numX (k : Nm) : List UInt8 := sgB k.1 :: (leB 8 (loW k.2) ++ leB 8 (hiW k.2))
theorem LI_words {N : Int} (h : In2 N) (b : Bool) : LI b N = Li b ((hiW N : Nat) : Int) ((loW N : Nat) : Int) := by
  obtain ⟨h1, h2, h3⟩ := words h
  unfold LI
  have e1 : N / 18446744073709551616 = ((hiW N : Nat) : Int) := by unfold In2 at h; unfold hiW; omega
  have e2 : N % 18446744073709551616 = ((loW N : Nat) : Int) := by unfold loW; omega
  rw [e1, e2]
set_option maxHeartbeats 3200000 in
theorem ePutNum (l : List UInt8) (k : Nm) (hk : In2 k.2) (hl : l.length < 800000000) : MSpec Tryz.prog X 74 [Lp 1000000, LI k.1 k.2] (w1 1000000 1000001 1000002 l) (.tup []) (w1 1000000 1000001 1000003 (l ++ numX k) ++ [(1000002, none)]) := by
  rw [LI_words hk]
  obtain ⟨_, h2, h3⟩ := words hk
  have hp : (256 : Nat) ^ 8 = 18446744073709551616 := by decide
  obtain ⟨b, N⟩ := k
  unfold numX
  simp only at hk h2 h3 ⊢
  generalize loW N = lo at *
  generalize hiW N = hi at *
  have p1 := fun n h => ePut_1 X l n h (by omega)
  have p2 := WNum_1_8 X (l ++ [sgB b]) lo (by omega) (by omega) (by rw [List.length_append, List.length_singleton]; omega)
  have p3 := WNum_1_8 X ((l ++ [sgB b]) ++ leB 8 lo) hi (by omega) (by omega) (by rw [List.length_append, List.length_append, List.length_singleton, leB_length]; omega)
  have hfin : l ++ sgB b :: (leB 8 lo ++ leB 8 hi) = ((l ++ [sgB b]) ++ leB 8 lo) ++ leB 8 hi := by simp
  rw [hfin]
  refine MSpec.intro Tryz.func74 rfl (by kernel_rfl) rfl rfl (by repeat' (first | refine all_cons_true ?_ ?_ | rfl | exact bytes_inUse | exact vals_inUse | exact mid_inUse rfl)) rfl rfl ?_
  intro C
  cases b with
  | false =>
    have p1 : MSpec Tryz.prog X 39 [Lp 1000000, Ln .i64 0] (w1 1000000 1000001 1000002 l) (.tup []) (w1 1000000 1000001 1000003 (l ++ [sgB false]) ++ [(1000002, none)]) := p1 0 ⟨by decide, by decide⟩
    (refine LWP.seq <| LWP.region (by kernel_rfl) <| K.box rfl rfl rfl .plain <| RunK.nil <| LWP.seq <| LWP.region (by kernel_rfl) <| kas rfl <| RunK.nil <| LWP.seq <| LWP.seq <| LWP.region (by kernel_rfl) <| kfa rfl rfl ?_; refine kl1 rfl rfl rfl <| RunK.nil <| LWP.condF rfl ?_; refine LWP.skip ?_; refine LWP.seq <| LWP.region (by kernel_rfl) <| kmv rfl <| kmv rfl <| K.callM [(1000003, 501)] (w1 1000000 1000001 501 (l ++ [sgB false]) ++ [(1000002, none)]) (p1) rfl rfl (by exact (And.intro ⟨_, rfl, rfl⟩ (And.intro ⟨_, rfl, rfl⟩ (And.intro ⟨_, rfl, (Box.ren_bytes _ _ _ _)⟩ trivial)))) (by exact (all_cons_true (all_cons_true rfl (all_cons_true rfl rfl)) (all_cons_true (all_cons_true rfl rfl) (all_cons_true bytes_inUse rfl)))) rfl rfl rfl rfl (by exact (.box rfl rfl (.box rfl rfl (.box rfl (Box.ren_bytes _ _ _ _) (.dead rfl .nil))))) .plain <| RunK.nil <| LWP.seq <| LWP.region (by kernel_rfl) <| kmv rfl <| kfa rfl rfl ?_; refine kl1 rfl rfl rfl <| K.callM [(1000002, 501), (1000003, 502)] (w1 1000000 1000001 502 ((l ++ [sgB false]) ++ leB 8 lo) ++ [(501, none)]) (p2) rfl rfl (by exact (And.intro ⟨_, rfl, rfl⟩ (And.intro ⟨_, rfl, rfl⟩ (And.intro ⟨_, rfl, (Box.ren_bytes _ _ _ _)⟩ trivial)))) (by exact (all_cons_true (all_cons_true rfl (all_cons_true rfl rfl)) (all_cons_true (all_cons_true rfl rfl) (all_cons_true bytes_inUse rfl)))) rfl rfl rfl rfl (by exact (.box rfl rfl (.box rfl rfl (.box rfl (Box.ren_bytes _ _ _ _) (.dead rfl .nil))))) .plain <| RunK.nil <| LWP.region (by kernel_rfl) <| kmv rfl <| kfa rfl rfl ?_; refine kl1 rfl rfl rfl <| K.callM [(1000002, 502), (1000003, 503)] (w1 1000000 1000001 503 (((l ++ [sgB false]) ++ leB 8 lo) ++ leB 8 hi) ++ [(502, none)]) (p3) rfl rfl (by exact (And.intro ⟨_, rfl, rfl⟩ (And.intro ⟨_, rfl, rfl⟩ (And.intro ⟨_, rfl, (Box.ren_bytes _ _ _ _)⟩ trivial)))) (by exact (all_cons_true (all_cons_true rfl (all_cons_true rfl rfl)) (all_cons_true (all_cons_true rfl rfl) (all_cons_true bytes_inUse rfl)))) rfl rfl rfl rfl (by exact (.box rfl rfl (.box rfl rfl (.box rfl (Box.ren_bytes _ _ _ _) (.dead rfl .nil))))) .plain <| RunK.nil ?_)
    exact ⟨[(1000003, 503)], ⟨[], trivial, rfl⟩, (by repeat' (first | exact trivial | refine And.intro ⟨_, rfl, ?_⟩ ?_ | refine And.intro ⟨_, rfl⟩ ?_ | rfl | exact Box.ren_bytes _ _ _ _ | exact Box.ren_vals _ _ _ _ | exact Box.ren_mid rfl)), rfl, rfl⟩
  | true =>
    have p1 : MSpec Tryz.prog X 39 [Lp 1000000, Ln .i64 1] (w1 1000000 1000001 1000002 l) (.tup []) (w1 1000000 1000001 1000003 (l ++ [sgB true]) ++ [(1000002, none)]) := p1 1 ⟨by decide, by decide⟩
    (refine LWP.seq <| LWP.region (by kernel_rfl) <| K.box rfl rfl rfl .plain <| RunK.nil <| LWP.seq <| LWP.region (by kernel_rfl) <| kas rfl <| RunK.nil <| LWP.seq <| LWP.seq <| LWP.region (by kernel_rfl) <| kfa rfl rfl ?_; refine kl1 rfl rfl rfl <| RunK.nil <| LWP.condT rfl ?_; refine LWP.region (by kernel_rfl) <| kas rfl <| RunK.nil <| LWP.seq <| LWP.region (by kernel_rfl) <| kmv rfl <| kmv rfl <| K.callM [(1000003, 501)] (w1 1000000 1000001 501 (l ++ [sgB true]) ++ [(1000002, none)]) (p1) rfl rfl (by exact (And.intro ⟨_, rfl, rfl⟩ (And.intro ⟨_, rfl, rfl⟩ (And.intro ⟨_, rfl, (Box.ren_bytes _ _ _ _)⟩ trivial)))) (by exact (all_cons_true (all_cons_true rfl (all_cons_true rfl rfl)) (all_cons_true (all_cons_true rfl rfl) (all_cons_true bytes_inUse rfl)))) rfl rfl rfl rfl (by exact (.box rfl rfl (.box rfl rfl (.box rfl (Box.ren_bytes _ _ _ _) (.dead rfl .nil))))) .plain <| RunK.nil <| LWP.seq <| LWP.region (by kernel_rfl) <| kmv rfl <| kfa rfl rfl ?_; refine kl1 rfl rfl rfl <| K.callM [(1000002, 501), (1000003, 502)] (w1 1000000 1000001 502 ((l ++ [sgB true]) ++ leB 8 lo) ++ [(501, none)]) (p2) rfl rfl (by exact (And.intro ⟨_, rfl, rfl⟩ (And.intro ⟨_, rfl, rfl⟩ (And.intro ⟨_, rfl, (Box.ren_bytes _ _ _ _)⟩ trivial)))) (by exact (all_cons_true (all_cons_true rfl (all_cons_true rfl rfl)) (all_cons_true (all_cons_true rfl rfl) (all_cons_true bytes_inUse rfl)))) rfl rfl rfl rfl (by exact (.box rfl rfl (.box rfl rfl (.box rfl (Box.ren_bytes _ _ _ _) (.dead rfl .nil))))) .plain <| RunK.nil <| LWP.region (by kernel_rfl) <| kmv rfl <| kfa rfl rfl ?_; refine kl1 rfl rfl rfl <| K.callM [(1000002, 502), (1000003, 503)] (w1 1000000 1000001 503 (((l ++ [sgB true]) ++ leB 8 lo) ++ leB 8 hi) ++ [(502, none)]) (p3) rfl rfl (by exact (And.intro ⟨_, rfl, rfl⟩ (And.intro ⟨_, rfl, rfl⟩ (And.intro ⟨_, rfl, (Box.ren_bytes _ _ _ _)⟩ trivial)))) (by exact (all_cons_true (all_cons_true rfl (all_cons_true rfl rfl)) (all_cons_true (all_cons_true rfl rfl) (all_cons_true bytes_inUse rfl)))) rfl rfl rfl rfl (by exact (.box rfl rfl (.box rfl rfl (.box rfl (Box.ren_bytes _ _ _ _) (.dead rfl .nil))))) .plain <| RunK.nil ?_)
    exact ⟨[(1000003, 503)], ⟨[], trivial, rfl⟩, (by repeat' (first | exact trivial | refine And.intro ⟨_, rfl, ?_⟩ ?_ | refine And.intro ⟨_, rfl⟩ ?_ | rfl | exact Box.ren_bytes _ _ _ _ | exact Box.ren_vals _ _ _ _ | exact Box.ren_mid rfl)), rfl, rfl⟩
set_option maxHeartbeats 3200000 in
theorem ePutIns (l : List UInt8) (x : Ins) (hx : smallI x) (hok : okI x = true) (hl : l.length < 700000000) : MSpec Tryz.prog X 41 [Lp 1000000, LOp x.op, LIn x] (w1 1000000 1000001 1000002 l) (.tup []) (w1 1000000 1000001 1000003 (l ++ encI x) ++ [(1000002, none)]) := by
  obtain ⟨h17, hgk, ha7, hb7⟩ := okI_facts hok
  have hk2 := hx.2.2.2
  obtain ⟨op, a, b, k⟩ := x
  simp only at h17 hgk ha7 hb7 hk2 ⊢
  have p1 := ePut_1 X l op (by omega) (by omega)
  have pa := ePut_1 X (l ++ [o8 op]) a (by omega) (by rw [List.length_append, List.length_singleton]; omega)
  have pb := ePut_1 X ((l ++ [o8 op]) ++ [o8 a]) b (by omega) (by rw [List.length_append, List.length_append, List.length_singleton, List.length_singleton]; omega)
  have pk := ePutNum X (l ++ [o8 op]) k hk2 (by rw [List.length_append, List.length_singleton]; omega)
  by_cases c1 : op = 1
  · subst c1
    rw [show encI ⟨1, a, b, k⟩ = o8 1 :: numX k from rfl, show l ++ o8 1 :: numX k = (l ++ [o8 1]) ++ numX k by simp, op_1]
    refine MSpec.intro Tryz.func41 rfl (by kernel_rfl) rfl rfl (by repeat' (first | refine all_cons_true ?_ ?_ | rfl | exact bytes_inUse | exact vals_inUse | exact mid_inUse rfl)) rfl rfl ?_
    intro C
    (refine LWP.seq <| LWP.region (by kernel_rfl) <| K.box rfl rfl rfl .plain <| K.box rfl rfl rfl .plain <| RunK.nil <| LWP.seq <| LWP.region (by kernel_rfl) <| kmv rfl <| kfa rfl rfl ?_; refine kl1 rfl rfl rfl <| K.callM [(1000003, 501)] (w1 1000000 1000001 501 (l ++ [o8 1]) ++ [(1000002, none)]) (p1) rfl rfl (by exact (And.intro ⟨_, rfl, rfl⟩ (And.intro ⟨_, rfl, rfl⟩ (And.intro ⟨_, rfl, (Box.ren_bytes _ _ _ _)⟩ trivial)))) (by exact (all_cons_true (all_cons_true rfl (all_cons_true rfl rfl)) (all_cons_true (all_cons_true rfl rfl) (all_cons_true bytes_inUse rfl)))) rfl rfl rfl rfl (by exact (.box rfl rfl (.box rfl rfl (.box rfl (Box.ren_bytes _ _ _ _) (.dead rfl .nil))))) .plain <| RunK.nil <| LWP.seq <| LWP.seq <| LWP.region (by kernel_rfl) <| kfa rfl rfl ?_; refine kl1 rfl rfl rfl <| RunK.nil <| LWP.condF rfl ?_; refine LWP.skip ?_; refine LWP.seq <| LWP.seq <| LWP.region (by kernel_rfl) <| kfa rfl rfl ?_; refine kl1 rfl rfl rfl <| RunK.nil <| LWP.condF rfl ?_; refine LWP.skip ?_; refine LWP.seq <| LWP.region (by kernel_rfl) <| kfa rfl rfl ?_; refine kl1 rfl rfl rfl <| RunK.nil <| LWP.condT rfl ?_; refine LWP.region (by kernel_rfl) <| kmv rfl <| kfa rfl rfl ?_; refine K.loadPart rfl rfl rfl (by exact nl3 rfl rfl rfl rfl) .plain ?_; refine K.callM [(1000002, 501), (1000003, 502)] (w1 1000000 1000001 502 ((l ++ [o8 1]) ++ numX k) ++ [(501, none)]) (pk) rfl rfl (by exact (And.intro ⟨_, rfl, rfl⟩ (And.intro ⟨_, rfl, rfl⟩ (And.intro ⟨_, rfl, (Box.ren_bytes _ _ _ _)⟩ trivial)))) (by exact (all_cons_true (all_cons_true rfl (all_cons_true rfl rfl)) (all_cons_true (all_cons_true rfl rfl) (all_cons_true bytes_inUse rfl)))) rfl rfl rfl rfl (by exact (.box rfl rfl (.box rfl rfl (.box rfl (Box.ren_bytes _ _ _ _) (.dead rfl .nil))))) .plain <| RunK.nil ?_)
    exact ⟨[(1000003, 502)], ⟨[], trivial, rfl⟩, (by repeat' (first | exact trivial | refine And.intro ⟨_, rfl, ?_⟩ ?_ | refine And.intro ⟨_, rfl⟩ ?_ | rfl | exact Box.ren_bytes _ _ _ _ | exact Box.ren_vals _ _ _ _ | exact Box.ren_mid rfl)), rfl, rfl⟩
  by_cases c2 : op = 2
  · subst c2
    rw [show encI ⟨2, a, b, k⟩ = [o8 2, o8 a, o8 b] from rfl, show l ++ [o8 2, o8 a, o8 b] = ((l ++ [o8 2]) ++ [o8 a]) ++ [o8 b] by simp, op_2]
    refine MSpec.intro Tryz.func41 rfl (by kernel_rfl) rfl rfl (by repeat' (first | refine all_cons_true ?_ ?_ | rfl | exact bytes_inUse | exact vals_inUse | exact mid_inUse rfl)) rfl rfl ?_
    intro C
    (refine LWP.seq <| LWP.region (by kernel_rfl) <| K.box rfl rfl rfl .plain <| K.box rfl rfl rfl .plain <| RunK.nil <| LWP.seq <| LWP.region (by kernel_rfl) <| kmv rfl <| kfa rfl rfl ?_; refine kl1 rfl rfl rfl <| K.callM [(1000003, 501)] (w1 1000000 1000001 501 (l ++ [o8 2]) ++ [(1000002, none)]) (p1) rfl rfl (by exact (And.intro ⟨_, rfl, rfl⟩ (And.intro ⟨_, rfl, rfl⟩ (And.intro ⟨_, rfl, (Box.ren_bytes _ _ _ _)⟩ trivial)))) (by exact (all_cons_true (all_cons_true rfl (all_cons_true rfl rfl)) (all_cons_true (all_cons_true rfl rfl) (all_cons_true bytes_inUse rfl)))) rfl rfl rfl rfl (by exact (.box rfl rfl (.box rfl rfl (.box rfl (Box.ren_bytes _ _ _ _) (.dead rfl .nil))))) .plain <| RunK.nil <| LWP.seq <| LWP.seq <| LWP.region (by kernel_rfl) <| kfa rfl rfl ?_; refine kl1 rfl rfl rfl <| RunK.nil <| LWP.condT rfl ?_; refine LWP.region (by kernel_rfl) <| kmv rfl <| kfa rfl rfl ?_; refine kl1 rfl rfl rfl <| K.callM [(1000002, 501), (1000003, 502)] (w1 1000000 1000001 502 ((l ++ [o8 2]) ++ [o8 a]) ++ [(501, none)]) (pa) rfl rfl (by exact (And.intro ⟨_, rfl, rfl⟩ (And.intro ⟨_, rfl, rfl⟩ (And.intro ⟨_, rfl, (Box.ren_bytes _ _ _ _)⟩ trivial)))) (by exact (all_cons_true (all_cons_true rfl (all_cons_true rfl rfl)) (all_cons_true (all_cons_true rfl rfl) (all_cons_true bytes_inUse rfl)))) rfl rfl rfl rfl (by exact (.box rfl rfl (.box rfl rfl (.box rfl (Box.ren_bytes _ _ _ _) (.dead rfl .nil))))) .plain <| RunK.nil <| LWP.seq <| LWP.seq <| LWP.region (by kernel_rfl) <| kfa rfl rfl ?_; refine kl1 rfl rfl rfl <| RunK.nil <| LWP.condT rfl ?_; refine LWP.region (by kernel_rfl) <| kmv rfl <| kfa rfl rfl ?_; refine kl1 rfl rfl rfl <| K.callM [(1000002, 502), (1000003, 503)] (w1 1000000 1000001 503 (((l ++ [o8 2]) ++ [o8 a]) ++ [o8 b]) ++ [(502, none)]) (pb) rfl rfl (by exact (And.intro ⟨_, rfl, rfl⟩ (And.intro ⟨_, rfl, rfl⟩ (And.intro ⟨_, rfl, (Box.ren_bytes _ _ _ _)⟩ trivial)))) (by exact (all_cons_true (all_cons_true rfl (all_cons_true rfl rfl)) (all_cons_true (all_cons_true rfl rfl) (all_cons_true bytes_inUse rfl)))) rfl rfl rfl rfl (by exact (.box rfl rfl (.box rfl rfl (.box rfl (Box.ren_bytes _ _ _ _) (.dead rfl .nil))))) .plain <| RunK.nil <| LWP.seq <| LWP.region (by kernel_rfl) <| kfa rfl rfl ?_; refine kl1 rfl rfl rfl <| RunK.nil <| LWP.condF rfl ?_; refine LWP.skip ?_)
    exact ⟨[(1000003, 503)], ⟨[], trivial, rfl⟩, (by repeat' (first | exact trivial | refine And.intro ⟨_, rfl, ?_⟩ ?_ | refine And.intro ⟨_, rfl⟩ ?_ | rfl | exact Box.ren_bytes _ _ _ _ | exact Box.ren_vals _ _ _ _ | exact Box.ren_mid rfl)), rfl, rfl⟩
  by_cases c3 : op = 3
  · subst c3
    rw [show encI ⟨3, a, b, k⟩ = [o8 3, o8 a] from rfl, show l ++ [o8 3, o8 a] = (l ++ [o8 3]) ++ [o8 a] by simp, op_3]
    refine MSpec.intro Tryz.func41 rfl (by kernel_rfl) rfl rfl (by repeat' (first | refine all_cons_true ?_ ?_ | rfl | exact bytes_inUse | exact vals_inUse | exact mid_inUse rfl)) rfl rfl ?_
    intro C
    (refine LWP.seq <| LWP.region (by kernel_rfl) <| K.box rfl rfl rfl .plain <| K.box rfl rfl rfl .plain <| RunK.nil <| LWP.seq <| LWP.region (by kernel_rfl) <| kmv rfl <| kfa rfl rfl ?_; refine kl1 rfl rfl rfl <| K.callM [(1000003, 501)] (w1 1000000 1000001 501 (l ++ [o8 3]) ++ [(1000002, none)]) (p1) rfl rfl (by exact (And.intro ⟨_, rfl, rfl⟩ (And.intro ⟨_, rfl, rfl⟩ (And.intro ⟨_, rfl, (Box.ren_bytes _ _ _ _)⟩ trivial)))) (by exact (all_cons_true (all_cons_true rfl (all_cons_true rfl rfl)) (all_cons_true (all_cons_true rfl rfl) (all_cons_true bytes_inUse rfl)))) rfl rfl rfl rfl (by exact (.box rfl rfl (.box rfl rfl (.box rfl (Box.ren_bytes _ _ _ _) (.dead rfl .nil))))) .plain <| RunK.nil <| LWP.seq <| LWP.seq <| LWP.region (by kernel_rfl) <| kfa rfl rfl ?_; refine kl1 rfl rfl rfl <| RunK.nil <| LWP.condT rfl ?_; refine LWP.region (by kernel_rfl) <| kmv rfl <| kfa rfl rfl ?_; refine kl1 rfl rfl rfl <| K.callM [(1000002, 501), (1000003, 502)] (w1 1000000 1000001 502 ((l ++ [o8 3]) ++ [o8 a]) ++ [(501, none)]) (pa) rfl rfl (by exact (And.intro ⟨_, rfl, rfl⟩ (And.intro ⟨_, rfl, rfl⟩ (And.intro ⟨_, rfl, (Box.ren_bytes _ _ _ _)⟩ trivial)))) (by exact (all_cons_true (all_cons_true rfl (all_cons_true rfl rfl)) (all_cons_true (all_cons_true rfl rfl) (all_cons_true bytes_inUse rfl)))) rfl rfl rfl rfl (by exact (.box rfl rfl (.box rfl rfl (.box rfl (Box.ren_bytes _ _ _ _) (.dead rfl .nil))))) .plain <| RunK.nil <| LWP.seq <| LWP.seq <| LWP.region (by kernel_rfl) <| kfa rfl rfl ?_; refine kl1 rfl rfl rfl <| RunK.nil <| LWP.condF rfl ?_; refine LWP.skip ?_; refine LWP.seq <| LWP.region (by kernel_rfl) <| kfa rfl rfl ?_; refine kl1 rfl rfl rfl <| RunK.nil <| LWP.condF rfl ?_; refine LWP.skip ?_)
    exact ⟨[(1000003, 502)], ⟨[], trivial, rfl⟩, (by repeat' (first | exact trivial | refine And.intro ⟨_, rfl, ?_⟩ ?_ | refine And.intro ⟨_, rfl⟩ ?_ | rfl | exact Box.ren_bytes _ _ _ _ | exact Box.ren_vals _ _ _ _ | exact Box.ren_mid rfl)), rfl, rfl⟩
  rw [show encI ⟨op, a, b, k⟩ = [o8 op] by unfold encI; simp only; rw [if_neg c1, if_neg c2, if_neg c3], op_no c1 c2 c3]
  refine MSpec.intro Tryz.func41 rfl (by kernel_rfl) rfl rfl (by repeat' (first | refine all_cons_true ?_ ?_ | rfl | exact bytes_inUse | exact vals_inUse | exact mid_inUse rfl)) rfl rfl ?_
  intro C
  (refine LWP.seq <| LWP.region (by kernel_rfl) <| K.box rfl rfl rfl .plain <| K.box rfl rfl rfl .plain <| RunK.nil <| LWP.seq <| LWP.region (by kernel_rfl) <| kmv rfl <| kfa rfl rfl ?_; refine kl1 rfl rfl rfl <| K.callM [(1000003, 501)] (w1 1000000 1000001 501 (l ++ [o8 op]) ++ [(1000002, none)]) (p1) rfl rfl (by exact (And.intro ⟨_, rfl, rfl⟩ (And.intro ⟨_, rfl, rfl⟩ (And.intro ⟨_, rfl, (Box.ren_bytes _ _ _ _)⟩ trivial)))) (by exact (all_cons_true (all_cons_true rfl (all_cons_true rfl rfl)) (all_cons_true (all_cons_true rfl rfl) (all_cons_true bytes_inUse rfl)))) rfl rfl rfl rfl (by exact (.box rfl rfl (.box rfl rfl (.box rfl (Box.ren_bytes _ _ _ _) (.dead rfl .nil))))) .plain <| RunK.nil <| LWP.seq <| LWP.seq <| LWP.region (by kernel_rfl) <| kfa rfl rfl ?_; refine kl1 rfl rfl rfl <| RunK.nil <| LWP.condF rfl ?_; refine LWP.skip ?_; refine LWP.seq <| LWP.seq <| LWP.region (by kernel_rfl) <| kfa rfl rfl ?_; refine kl1 rfl rfl rfl <| RunK.nil <| LWP.condF rfl ?_; refine LWP.skip ?_; refine LWP.seq <| LWP.region (by kernel_rfl) <| kfa rfl rfl ?_; refine kl1 rfl rfl rfl <| RunK.nil <| LWP.condF rfl ?_; refine LWP.skip ?_)
  exact ⟨[(1000003, 501)], ⟨[], trivial, rfl⟩, (by repeat' (first | exact trivial | refine And.intro ⟨_, rfl, ?_⟩ ?_ | refine And.intro ⟨_, rfl⟩ ?_ | rfl | exact Box.ren_bytes _ _ _ _ | exact Box.ren_vals _ _ _ _ | exact Box.ren_mid rfl)), rfl, rfl⟩
abbrev enSt (rad ad : Option Addr) (n rcap cap i : Nat) (B : List UInt8) (Y : Nat → Option Obj) : St :=
  ⟨[(0, Lx ad n cap), (6, Lp 18), (23, Lx rad n rcap), (24, Ln .i64 (n : Nat)), (25, Ln .i64 (i : Nat))], w1 18 601 500 B, Y⟩
set_option maxHeartbeats 6400000 in
theorem gEncode' (l : List Ins) (ad : Option Addr) (cap : Nat) (hin : InsIn X ad l) (hbig : l.length < 1152921504606846976) : PSpec Tryz.prog X 18 [Lx ad l.length cap] (.tup [Ss (encTX l), Sn .i64 (encErr l)]) := by
  have hR := tRowsOf X l ad cap hin hbig
  refine PSpec.intro Tryz.func18 rfl (by kernel_rfl) rfl rfl ?_
  intro C
  by_cases h : chkX l = 0
  · rw [(rs_ok h).1, (rs_ok h).2] at hR
    have h64 := (chkX_zero h).1
    have hall := chkX_ok h
    (refine LWP.seq <| LWP.region (by kernel_rfl) <| kas rfl <| kas rfl <| RunK.nil <| LWP.seq <| LWP.region (by kernel_rfl) <| kmv rfl <| K.callMp [(1000001, 500)] (.tup [.one (.slc 500 0 l.length 6), Sn .i64 0]) [(500, some ⟨0, [], .res (rowsR l)⟩)] (hR) rfl rfl (by exact trivial) rfl rfl rfl rfl rfl (by exact (.box rfl rfl .nil)) .plain <| kmv rfl <| kex rfl rfl <| kex rfl rfl <| kas rfl <| kas rfl ?_; refine RunK.nil <| LWP.seq <| LWP.seq <| LWP.region (by kernel_rfl) <| kmv rfl <| kne rfl rfl ((bne_eq_false_iff_eq.2 (by omega))) <| RunK.nil <| LWP.condF rfl ?_; refine LWP.skip ?_; refine LWP.seq ?_)
    refine LWP.le (σ' := ⟨[(4, .sv (.one (.slc 500 0 l.length 6))), (0, Lx ad l.length cap)], [(500, some ⟨0, [], .res (rowsR l)⟩)], X⟩) (Le.of (by exact ⟨rfl, rfl, trivial⟩) (by exact ⟨rfl, trivial⟩) (by exact rfl) (by exact rfl) (by repeat' (first | refine all_cons_true ?_ ?_ | rfl | exact bytes_inUse | exact vals_inUse | exact mid_inUse rfl))) ?_
    refine LWP.fixRes rfl rfl rfl fun ρ H rcap hRr hO _ _ => ?_
    obtain ⟨m1, m2⟩ := more_join hO
    have hrows := rows_fix hRr m2
    replace hin := hin.mono m1
    generalize joinM X H = Y at *
    have p1 := ePut_0 Y l.length (by omega)
    (refine LWP.region (by kernel_rfl) <| K.build rfl rfl (by exact rfl) (by exact nl2 rfl rfl rfl) .plain ?_; refine K.box rfl rfl rfl .plain <| kas rfl <| RunK.nil <| LWP.seq <| LWP.region (by kernel_rfl) <| kmv rfl <| kmv rfl <| K.lenX rfl SliceT.h rfl .plain ?_; refine K.callM [(1000000, 18), (1000001, 601), (1000002, 602)] (w1 18 601 602 [o8 (l.length : Nat)]) (p1) rfl rfl (by exact (And.intro ⟨_, rfl, rfl⟩ trivial)) (by exact (all_cons_true (all_cons_true rfl (all_cons_true rfl rfl)) rfl)) rfl rfl rfl rfl (by exact (.box rfl rfl (.box rfl rfl (.box rfl rfl .nil)))) .plain <| RunK.nil <| LWP.seq <| LWP.seq <| LWP.region (by kernel_rfl) <| kmv rfl <| K.lenX rfl SliceT.h rfl .plain ?_; refine kmv rfl <| RunK.nil <| LWP.block ?_)
    refine LWP.loop (fun m σ => ∃ i : Nat, i ≤ l.length ∧ m = l.length - i ∧ (∀ x ∈ l.take i, plainI x = true) ∧ σ = enSt (some ⟨ρ.1, 0, none⟩) ad l.length rcap cap i (o8 (l.length : Nat) :: encIs (l.take i)) Y) l.length
      ⟨enSt (some ⟨ρ.1, 0, none⟩) ad l.length rcap cap 0 (o8 (l.length : Nat) :: encIs (l.take 0)) Y, Le.ofR [(500, 602)] (by exact ⟨rfl, rfl, rfl, rfl, rfl, trivial⟩) (by repeat' (first | exact trivial | refine And.intro ⟨_, rfl, ?_⟩ ?_ | refine And.intro ⟨_, rfl⟩ ?_ | rfl | exact Box.ren_bytes _ _ _ _ | exact Box.ren_vals _ _ _ _ | exact Box.ren_mid rfl)) (by exact rfl) (by exact rfl) (by repeat' (first | refine all_cons_true ?_ ?_ | rfl | exact bytes_inUse | exact vals_inUse | exact mid_inUse rfl)) (by exact rfl) (by exact rfl), 0, Nat.zero_le _, rfl, fun x hx => absurd hx (by simp), rfl⟩ ?_
    rintro m σ ⟨i, hi, rfl, hpl, rfl⟩
    have hBl := encIs_len (l.take i)
    rw [List.length_take] at hBl
    by_cases hlt : i < l.length
    · obtain ⟨x, hx⟩ : ∃ x, l[i]? = some x := ⟨_, List.getElem?_eq_getElem hlt⟩
      have hmem := List.mem_of_getElem? hx
      have hsx := hin.small x hmem
      have hok := hall x hmem
      obtain ⟨rblk, roff, rarr, rel, rfr, dv, hrad, hXr, hszr, hcsr, hDv⟩ := hrows.at hx
      simp only [Option.some.injEq, Addr.mk.injEq] at hrad
      obtain ⟨rfl, rfl, _⟩ := hrad
      obtain ⟨g, gcaps, egv, _⟩ := id hDv
      subst egv
      obtain ⟨blk, off, arr, el, fr, rfl, hX, hsz, hcs, hop⟩ := hin.at hx
      have hio : off + Int.toNat (i : Int) * 6 = off + i * 6 := by simp
      have hior : 0 + Int.toNat (i : Int) * 6 = 0 + i * 6 := by simp
      have hin0 : 0 ≤ (i : Int) ∧ (i : Int) < (l.length : Nat) := by omega
      have hO := tOnly Y x hsx
      cases hp : plainI x with
      | false =>
        have he : encErr l = 1 := by
          unfold encErr
          rw [if_pos h, if_neg]
          intro ha
          have := List.all_eq_true.1 ha x hmem
          rw [hp] at this
          cases this
        rw [show encTX l = [] by unfold encTX; rw [he]; rfl, he]
        rw [hp] at hO
        (refine LWP.seq <| LWP.region (by kernel_rfl) <| klt rfl rfl (decide_eq_true (by omega)) <| RunK.nil <| LWP.seq <| LWP.condT rfl ?_; refine LWP.skip ?_; refine LWP.seq <| LWP.block <| LWP.seq <| LWP.region (by kernel_rfl) <| kmv rfl <| K.indexX rfl rfl SliceT.h hin0 hior .plain <| K.loadXagg rfl hXr (by kernel_rfl) hszr hcsr .plain <| K.alloc rfl .plain ?_; refine kas rfl <| K.storeAll rfl rfl rfl rfl rfl rfl .plain ?_; refine RunK.nil <| LWP.seq <| LWP.seq <| LWP.draws mixed (by kernel_rfl) <| kfa rfl rfl ?_; refine K.loadPart rfl rfl rfl rfl .plain ?_; refine kmv rfl <| kmv rfl <| K.indexX rfl rfl SliceT.h hin0 hio .plain <| K.loadXagg rfl hX (by kernel_rfl) hsz hcs .plain <| kca rfl rfl hO <| K.not rfl rfl .plain <| RunK.nil <| And.intro (by kernel_rfl) ?_; refine LWP.condT rfl ?_; refine LWP.seq <| LWP.region (by kernel_rfl) <| kas rfl <| kas rfl <| RunK.nil <| LWP.ret ?_)
        exact ⟨[_, _], ⟨rfl, rfl, trivial⟩, rfl⟩
      | true =>
        rw [hp] at hO
        have hnext : o8 (l.length : Nat) :: encIs (l.take (i + 1)) = (o8 (l.length : Nat) :: encIs (l.take i)) ++ encI x := by
          rw [List.take_add_one, hx, encIs_app]
          simp [encIs]
        have q := ePutIns Y (o8 (l.length : Nat) :: encIs (l.take i)) x hsx hok (by rw [List.length_cons]; omega)
        rw [← hnext] at q
        have hinc : IntKind.i64.wrap (((i : Nat) : Int) + 1) = ((i + 1 : Nat) : Int) := by rw [wrap_i64 (by omega)]; omega
        (refine LWP.seq <| LWP.region (by kernel_rfl) <| klt rfl rfl (decide_eq_true (by omega)) <| RunK.nil <| LWP.seq <| LWP.condT rfl ?_; refine LWP.skip ?_; refine LWP.seq <| LWP.block <| LWP.seq <| LWP.region (by kernel_rfl) <| kmv rfl <| K.indexX rfl rfl SliceT.h hin0 hior .plain <| K.loadXagg rfl hXr (by kernel_rfl) hszr hcsr .plain <| K.alloc rfl .plain ?_; refine kas rfl <| K.storeAll rfl rfl rfl rfl rfl rfl .plain ?_; refine RunK.nil <| LWP.seq <| LWP.seq <| LWP.draws mixed (by kernel_rfl) <| kfa rfl rfl ?_; refine K.loadPart rfl rfl rfl rfl .plain ?_; refine kmv rfl <| kmv rfl <| K.indexX rfl rfl SliceT.h hin0 hio .plain <| K.loadXagg rfl hX (by kernel_rfl) hsz hcs .plain <| kca rfl rfl hO <| K.not rfl rfl .plain <| RunK.nil <| And.intro (by kernel_rfl) ?_; refine LWP.condF rfl ?_; refine LWP.skip ?_; refine LWP.draws mixed (by kernel_rfl) <| kmv rfl <| kfa rfl rfl ?_; refine K.loadPart rfl rfl rfl rfl .plain ?_; refine kmv rfl <| kmv rfl <| K.indexX rfl rfl SliceT.h hin0 hio .plain <| K.loadXagg rfl hX (by kernel_rfl) hsz hcs .plain <| K.callM [(1000000, 18), (1000001, 601), (1000002, 500), (1000003, 605)] (w1 18 601 605 (o8 (l.length : Nat) :: encIs (l.take (i + 1))) ++ [(500, none)]) (q) rfl rfl (by exact (And.intro ⟨_, rfl, rfl⟩ (And.intro ⟨_, rfl, rfl⟩ (And.intro ⟨_, rfl, (Box.ren_bytes _ _ _ _)⟩ trivial)))) (by exact (all_cons_true (all_cons_true rfl (all_cons_true rfl rfl)) (all_cons_true (all_cons_true rfl rfl) (all_cons_true (all_cons_true rfl bytes_inUse) rfl)))) rfl rfl rfl rfl (by exact (.box rfl rfl (.box rfl rfl (.box rfl (Box.ren_bytes _ _ _ _) (.dead rfl .nil))))) .plain <| RunK.nil <| And.intro (by kernel_rfl) ?_; refine LWP.region (by kernel_rfl) <| kad rfl rfl hinc <| kmv rfl <| RunK.nil ?_)
        exact ⟨_, enSt (some ⟨ρ.1, 0, none⟩) (some ⟨blk, off, none⟩) l.length rcap cap (i + 1) (o8 (l.length : Nat) :: encIs (l.take (i + 1))) Y, by omega, Le.ofR [(500, 605)] (by exact ⟨rfl, rfl, rfl, rfl, rfl, trivial⟩) (by repeat' (first | exact trivial | refine And.intro ⟨_, rfl, ?_⟩ ?_ | refine And.intro ⟨_, rfl⟩ ?_ | rfl | exact Box.ren_bytes _ _ _ _ | exact Box.ren_vals _ _ _ _ | exact Box.ren_mid rfl)) (by exact rfl) (by exact rfl) (by repeat' (first | refine all_cons_true ?_ ?_ | rfl | exact bytes_inUse | exact vals_inUse | exact mid_inUse rfl)) (by exact rfl) (by exact rfl), i + 1, by omega, rfl, (fun y hy => by
          rw [List.take_add_one, hx] at hy
          rcases List.mem_append.1 hy with hy | hy
          · exact hpl y hy
          · simp only [Option.toList_some, List.mem_singleton] at hy; rw [hy]; exact hp), rfl⟩
    · have e : i = l.length := by omega
      subst e
      rw [List.take_length] at hpl
      have he : encErr l = 0 := by
        unfold encErr
        rw [if_pos h, if_pos (List.all_eq_true.2 hpl)]
      rw [show encTX l = o8 (l.length : Nat) :: encIs l by unfold encTX; rw [if_pos he]; rfl, he, List.take_length]
      have q := String_1 Y (o8 (l.length : Nat) :: encIs l)
      (refine LWP.seq <| LWP.region (by kernel_rfl) <| klt rfl rfl (decide_eq_false (by omega)) <| RunK.nil <| LWP.seq <| LWP.condF rfl ?_; refine LWP.exit <| LWP.seq <| LWP.region (by kernel_rfl) <| kmv rfl <| K.callM [(1000000, 18), (1000001, 601), (1000002, 500)] (w1 18 601 500 (o8 (l.length : Nat) :: encIs l)) (q) rfl rfl (by exact (And.intro ⟨_, rfl, rfl⟩ (And.intro ⟨_, rfl, rfl⟩ (And.intro ⟨_, rfl, (Box.ren_bytes _ _ _ _)⟩ trivial)))) (by exact (all_cons_true (all_cons_true rfl (all_cons_true rfl rfl)) (all_cons_true (all_cons_true rfl rfl) (all_cons_true (all_cons_true rfl bytes_inUse) rfl)))) rfl rfl rfl rfl (by exact (.box rfl rfl (.box rfl rfl (.box rfl (Box.ren_bytes _ _ _ _) .nil)))) .plain <| kas rfl <| kas rfl <| RunK.nil <| LWP.ret ?_)
      exact ⟨[_, _], ⟨rfl, rfl, trivial⟩, rfl⟩
  · rw [(rs_no h).1, (rs_no h).2] at hR
    have he : encErr l = chkX l := if_neg h
    rw [show encTX l = [] by unfold encTX; rw [he, if_neg h], he]
    (refine LWP.seq <| LWP.region (by kernel_rfl) <| kas rfl <| kas rfl <| RunK.nil <| LWP.seq <| LWP.region (by kernel_rfl) <| kmv rfl <| K.callM [] [] (hR) rfl rfl (by exact trivial) rfl rfl rfl rfl rfl (by exact .nil) .plain <| kmv rfl <| kex rfl rfl <| kex rfl rfl <| kas rfl <| kas rfl ?_; refine RunK.nil <| LWP.seq <| LWP.seq <| LWP.region (by kernel_rfl) <| kmv rfl <| kne rfl rfl (r := true) (bne_iff_ne.2 h) <| RunK.nil <| LWP.condT rfl ?_; refine LWP.seq <| LWP.region (by kernel_rfl) <| kmv rfl <| kas rfl <| kas rfl <| RunK.nil <| LWP.ret ?_)
    exact ⟨[_, _], ⟨rfl, rfl, trivial⟩, rfl⟩
end Go.Proofs.YtimpjdbhalnofaaGreatDoor
end
section
namespace Go.Lg
open Go Go.RowKit
section
variable {P : Program} {n : Nat} {ops os : List Oper} {acc : List Eff} {K : List Eff → St → Prop} {s : List (Nat × LV)} {bx : List (Nat × Option Box)} {X : Nat → Option Obj} {σ : St}
theorem LOK.fieldAgg {d s i m : Nat} {x : Operand} {ty : TypeId} {pos : String} {after : Array Edge} {g : Option (Nat × Bool)} {l l' : List CV} {fs : Array Field} {f : Field} (hx : σ.ev x = some (.sv (.agg l)))
    (hu : P.underlying s = some (.struct fs)) (hf : fs[i]? = some f) (hag : aggSize P f.type = some m) (hc : (l.drop f.offset).take m = l') :
    LOK P n ops ⟨some d, .field s x i, ty, pos, after, g⟩ σ ⟨[(d, .sv (.agg l'))], [], []⟩ :=
  LOK.value fun σ' ha C ι a w hr => by
    subst hc
    obtain ⟨arr, h1, hrel⟩ := hr.ev ((ha.ev (x := x) (by simp [Op.operands])).trans hx)
    obtain ⟨h2, h3⟩ := isAgg_of hag w
    have e : (arr.extract f.offset (f.offset + m)).toList = (arr.toList.drop f.offset).take m := by simp [List.extract]
    refine ⟨.agg (arr.extract f.offset (f.offset + m)), by simp [execOp, h1, Instr.field, run_underlying hu, hf, asAgg, part, h2, h3], _, rfl, ?_⟩
    rw [e]
    exact CVs.rel_take (CVs.rel_drop hrel _) _
theorem K.fieldAgg {s0 : List (Nat × LV)} {d s i m : Nat} {x : Operand} {ty : TypeId} {pos : String} {after : Array Edge} {g : Option (Nat × Bool)} {l l' : List CV} {fs : Array Field} {f : Field} (hx : (⟨s0, bx, X⟩ : St).ev x = some (.sv (.agg l)))
    (hu : P.underlying s = some (.struct fs)) (hf : fs[i]? = some f) (hag : aggSize P f.type = some m) (hc : (l.drop f.offset).take m = l') (hw : Want ops s0 g) (kont : RunK P n ops os ⟨(d, .sv (.agg l')) :: s0, bx, X⟩ (⟨[(d, .sv (.agg l'))], [], []⟩ :: acc) K) :
    RunK P n ops (⟨some d, .field s x i, ty, pos, after, g⟩ :: os) ⟨s0, bx, X⟩ acc K := RunK.g1 (LOK.fieldAgg hx hu hf hag hc) hw kont
end
end Go.Lg
end
section
namespace Go.Proofs.YtimpjdbhalnofaaGreatDoor
open Go Go.Lg Go.Lg.Fml Go.Lg.Fld Go.Lg.Arith
set_option maxRecDepth 100000
def eS : List UInt8 × Bool → UInt8 × List UInt8 × Bool
  | (c :: t, false) => (c, t, false)
  | (l, _) => (0, l, true)
def eW : List UInt8 × Bool → Nat × List UInt8 × Bool
  | (l, b) => if b = false ∧ 8 ≤ l.length then (le (l.take 8), l.drop 8, false) else (0, l, true)
def eN (x : List UInt8 × Bool) : (Nm × Bool) × List UInt8 × Bool :=
  if 1 < (eS x).1.toNat then (((false, 0), false), (eS x).2)
  else (((decide ((eS x).1.toNat = 1), (((eW (eS x).2).1 + 18446744073709551616 * (eW (eW (eS x).2).2).1 : Nat) : Int)), true), (eW (eW (eS x).2).2).2)
def eI (x : List UInt8 × Bool) : (Ins × Bool) × List UInt8 × Bool :=
  if (eS x).1.toNat = 1 then ((⟨1, 0, 0, (eN (eS x).2).1.1⟩, (eN (eS x).2).1.2), (eN (eS x).2).2)
  else if (eS x).1.toNat = 2 then ((⟨2, ((eS (eS x).2).1.toNat : Nat), ((eS (eS (eS x).2).2).1.toNat : Nat), (false, 0)⟩, true), (eS (eS (eS x).2).2).2)
  else if (eS x).1.toNat = 3 then ((⟨3, ((eS (eS x).2).1.toNat : Nat), 0, (false, 0)⟩, true), (eS (eS x).2).2)
  else ((⟨((eS x).1.toNat : Nat), 0, 0, (false, 0)⟩, true), (eS x).2)
def eIs (x : List UInt8 × Bool) : Nat → Option (List Ins × List UInt8 × Bool)
  | 0 => some ([], x)
  | n + 1 => match eIs x n with
    | none => none
    | some (q, y) => if (eI y).1.2 = true then some (q ++ [(eI y).1.1], (eI y).2) else none
def Lss (x y : List UInt8 × Bool) : Prop := y.1.length ≤ x.1.length ∧ (x.2 = true → y.2 = true)
theorem Lss.trans {x y z : List UInt8 × Bool} (h : Lss x y) (h' : Lss y z) : Lss x z := ⟨Nat.le_trans h'.1 h.1, fun e => h'.2 (h.2 e)⟩
theorem eS_less (x : List UInt8 × Bool) : Lss x (eS x).2 := by
  obtain ⟨l, b⟩ := x
  cases b <;> cases l <;> simp [eS, Lss]
theorem eW_less (x : List UInt8 × Bool) : Lss x (eW x).2 := by
  obtain ⟨l, b⟩ := x
  unfold eW
  simp only
  by_cases h : b = false ∧ 8 ≤ l.length
  · rw [if_pos h]; exact ⟨by simp only [List.length_drop]; omega, fun e => (by rw [h.1] at e; cases e)⟩
  · rw [if_neg h]; exact ⟨Nat.le_refl _, fun _ => rfl⟩
theorem eW_lt (x : List UInt8 × Bool) : (eW x).1 < 18446744073709551616 := by
  obtain ⟨l, b⟩ := x
  unfold eW
  simp only
  split
  · have := le_lt (l.take 8)
    have hp : (256 : Nat) ^ 8 = 18446744073709551616 := by decide
    have h8 : (l.take 8).length = 8 := by rw [List.length_take]; omega
    rw [h8] at this
    simp only
    omega
  · show 0 < 18446744073709551616
    omega
theorem eN_less (x : List UInt8 × Bool) : Lss x (eN x).2 := by
  unfold eN
  split
  · exact eS_less x
  · exact ((eS_less x).trans (eW_less _)).trans (eW_less _)
theorem eN_in2 (x : List UInt8 × Bool) : In2 (eN x).1.1.2 := by
  unfold eN In2
  split
  · show 0 ≤ (0 : Int) ∧ (0 : Int) < 340282366920938463463374607431768211456
    omega
  · have := eW_lt (eS x).2
    have := eW_lt (eW (eS x).2).2
    simp only
    omega
theorem eI_less (x : List UInt8 × Bool) : Lss x (eI x).2 := by
  unfold eI
  split
  · exact (eS_less x).trans (eN_less _)
  · split
    · exact ((eS_less x).trans (eS_less _)).trans (eS_less _)
    · split
      · exact (eS_less x).trans (eS_less _)
      · exact eS_less x
theorem eI_small (x : List UInt8 × Bool) : smallI (eI x).1.1 := by
  have h1 := (eS x).1.toNat_lt
  have h2 := (eS (eS x).2).1.toNat_lt
  have h3 := (eS (eS (eS x).2).2).1.toNat_lt
  have h4 := eN_in2 (eS x).2
  have h5 : In2 (0 : Int) := ⟨by decide, by decide⟩
  unfold eI smallI
  split
  · exact ⟨by simp only; omega, by simp only; omega, by simp only; omega, h4⟩
  · split
    · exact ⟨by simp only; omega, by simp only; omega, by simp only; omega, h5⟩
    · split
      · exact ⟨by simp only; omega, by simp only; omega, by simp only; omega, h5⟩
      · exact ⟨by simp only; omega, by simp only; omega, by simp only; omega, h5⟩
theorem eIs_len {x : List UInt8 × Bool} : ∀ {n : Nat} {q : List Ins} {y : List UInt8 × Bool}, eIs x n = some (q, y) → q.length = n ∧ Lss x y ∧ ∀ z ∈ q, smallI z
  | 0, q, y, h => by
    simp only [eIs, Option.some.injEq, Prod.mk.injEq] at h
    obtain ⟨rfl, rfl⟩ := h
    exact ⟨rfl, ⟨Nat.le_refl _, id⟩, fun z hz => absurd hz (by simp)⟩
  | n + 1, q, y, h => by
    simp only [eIs] at h
    cases hp : eIs x n with
    | none => rw [hp] at h; cases h
    | some p =>
      obtain ⟨q0, y0⟩ := p
      rw [hp] at h
      simp only at h
      split at h
      · simp only [Option.some.injEq, Prod.mk.injEq] at h
        obtain ⟨rfl, rfl⟩ := h
        obtain ⟨h1, h2, h3⟩ := eIs_len hp
        refine ⟨by rw [List.length_append, h1]; rfl, h2.trans (eI_less y0), fun z hz => ?_⟩
        rcases List.mem_append.1 hz with hz | hz
        · exact h3 z hz
        · rw [List.mem_singleton] at hz; subst hz; exact eI_small y0
      · cases h
theorem eIs_none {x : List UInt8 × Bool} {i : Nat} (h : eIs x i = none) : ∀ k, eIs x (i + k) = none
  | 0 => h
  | k + 1 => by rw [← Nat.add_assoc]; simp only [eIs]; rw [eIs_none h k]
theorem eIs_front (x : List UInt8 × Bool) : ∀ n, eIs x (n + 1) = if (eI x).1.2 = true then (eIs (eI x).2 n).map (fun p => ((eI x).1.1 :: p.1, p.2)) else none
  | 0 => by simp only [eIs]; split <;> rfl
  | n + 1 => by
    show (match eIs x (n + 1) with | none => none | some (q, y) => if (eI y).1.2 = true then some (q ++ [(eI y).1.1], (eI y).2) else none) = _
    rw [eIs_front x n]
    by_cases c : (eI x).1.2 = true
    · rw [if_pos c, if_pos c]
      simp only [eIs]
      cases eIs (eI x).2 n with
      | none => rfl
      | some p =>
        obtain ⟨q, y⟩ := p
        simp only [Option.map_some]
        by_cases d : (eI y).1.2 = true
        · rw [if_pos d, if_pos d]; rfl
        · rw [if_neg d, if_neg d]; rfl
    · rw [if_neg c, if_neg c]
theorem eW_get (r : List UInt8) : (8 ≤ r.length → eW (r, false) = (le (r.take 8), r.drop 8, false)) ∧ (¬ 8 ≤ r.length → (eW (r, false)).2.2 = true) := ⟨fun h => if_pos ⟨rfl, h⟩, fun h => by unfold eW; simp only; rw [if_neg (fun c => h c.2)]⟩
theorem eI_get (l : List UInt8) : (∃ x r, getI l = some (x, r) ∧ eI (l, false) = ((x, true), r, false)) ∨ (getI l = none ∧ ((eI (l, false)).1.2 = false ∨ (eI (l, false)).2.2 = true)) := by
  cases l with
  | nil => exact .inr ⟨rfl, .inr rfl⟩
  | cons o r =>
    unfold getI eI
    rw [show eS (o :: r, false) = (o, r, false) from rfl]
    simp only
    by_cases e1 : o.toNat = 1
    · rw [if_pos e1, if_pos e1]
      cases r with
      | nil => exact .inr ⟨rfl, .inr (by unfold eN; rw [show eS ([], false) = (0, [], true) from rfl]; rfl)⟩
      | cons s r =>
        unfold eN
        rw [show eS (s :: r, false) = (s, r, false) from rfl]
        simp only
        by_cases hs : 1 < s.toNat
        · rw [if_pos hs, if_neg (by omega)]
          exact .inr ⟨rfl, .inl rfl⟩
        · rw [if_neg hs]
          by_cases h16 : 16 ≤ r.length
          · rw [if_pos ⟨by omega, h16⟩]
            rw [(eW_get r).1 (by omega)]
            simp only
            rw [(eW_get (r.drop 8)).1 (by rw [List.length_drop]; omega)]
            refine .inl ⟨_, _, rfl, ?_⟩
            rw [List.drop_drop]
          · rw [if_neg (fun h => h16 h.2)]
            refine .inr ⟨rfl, .inr ?_⟩
            simp only
            by_cases h8 : 8 ≤ r.length
            · rw [(eW_get r).1 h8]
              exact (eW_get (r.drop 8)).2 (by rw [List.length_drop]; omega)
            · exact (eW_less _).2 ((eW_get r).2 h8)
    · rw [if_neg e1, if_neg e1]
      by_cases e2 : o.toNat = 2
      · rw [if_pos e2, if_pos e2]
        match r with
        | [] => exact .inr ⟨rfl, .inr rfl⟩
        | [a] => exact .inr ⟨rfl, .inr rfl⟩
        | a :: b :: r => exact .inl ⟨_, _, rfl, rfl⟩
      · rw [if_neg e2, if_neg e2]
        by_cases e3 : o.toNat = 3
        · rw [if_pos e3, if_pos e3]
          match r with
          | [] => exact .inr ⟨rfl, .inr rfl⟩
          | a :: r => exact .inl ⟨_, _, rfl, rfl⟩
        · rw [if_neg e3, if_neg e3]
          exact .inl ⟨_, _, rfl, rfl⟩
theorem eIs_bad {x : List UInt8 × Bool} (hb : x.2 = true) {n : Nat} {q : List Ins} {y : List UInt8 × Bool} (h : eIs x n = some (q, y)) : y.2 = true := (eIs_len h).2.1.2 hb
theorem eIs_get : ∀ (n : Nat) (l : List UInt8), (∃ q r, getIs n l = some (q, r) ∧ eIs (l, false) n = some (q, r, false)) ∨ (getIs n l = none ∧ (eIs (l, false) n = none ∨ ∃ q y, eIs (l, false) n = some (q, y) ∧ y.2 = true))
  | 0, l => .inl ⟨[], l, rfl, rfl⟩
  | n + 1, l => by
    rw [eIs_front]
    simp only [getIs]
    rcases eI_get l with ⟨x, r, h1, h2⟩ | ⟨h1, h2⟩
    · rw [h1, h2, if_pos rfl]
      simp only
      rcases eIs_get n r with ⟨q, r2, h3, h4⟩ | ⟨h3, h4⟩
      · rw [h3, h4]
        exact .inl ⟨_, _, rfl, rfl⟩
      · rw [h3]
        rcases h4 with h4 | ⟨q, y, h4, h5⟩
        · rw [h4]; exact .inr ⟨rfl, .inl rfl⟩
        · rw [h4]; exact .inr ⟨rfl, .inr ⟨_, _, rfl, h5⟩⟩
    · rw [h1]
      refine .inr ⟨rfl, ?_⟩
      rcases h2 with h2 | h2
      · rw [if_neg (by rw [h2]; decide)]; exact .inl rfl
      · by_cases c : (eI (l, false)).1.2 = true
        · rw [if_pos c]
          cases hp : eIs (eI (l, false)).2 n with
          | none => exact .inl rfl
          | some p =>
            obtain ⟨q, y⟩ := p
            exact .inr ⟨_, _, rfl, eIs_bad h2 hp⟩
        · rw [if_neg c]; exact .inl rfl
theorem decX_e (s : List UInt8) : decX s = match eIs (eS (s, false)).2 (eS (s, false)).1.toNat with
    | none => none
    | some (q, y) => if (!y.2 && (y.1 == [])) = true ∧ chkX q = 0 then some q else none := by
  cases s with
  | nil => rfl
  | cons n r =>
    rw [show eS (n :: r, false) = (n, r, false) from rfl]
    simp only [decX]
    rcases eIs_get n.toNat r with ⟨q, r2, h3, h4⟩ | ⟨h3, h4⟩
    · rw [h3, h4]
      cases r2 with
      | nil =>
        simp only
        by_cases c : chkX q = 0
        · rw [if_pos c, if_pos ⟨rfl, c⟩]
        · rw [if_neg c, if_neg (fun h => c h.2)]
      | cons a r2 =>
        simp only
        rw [if_neg (fun h => by simp at h)]
    · rw [h3]
      rcases h4 with h4 | ⟨q, y, h4, h5⟩
      · rw [h4]
      · rw [h4]
        simp only
        rw [if_neg (fun h => by rw [h5] at h; simp at h)]
variable (X : Nat → Option Obj)
theorem eNum1 (l : List UInt8) (b : Bool) (hl : l.length < 4611686018427387904) : MSpec Tryz.prog X 75 [Lp 1000000, Ln .i64 1] (rd 1000000 l b) (Ln .u64 ((eS (l, b)).1.toNat : Nat)) (rd 1000000 (eS (l, b)).2.1 (eS (l, b)).2.2) := by
  cases b with
  | true => have h := Num_no X l true 1 rfl; cases l <;> exact h
  | false => cases l with
    | nil => exact Num_no X [] false 1 rfl
    | cons c t =>
      have h1 := Num_ok X (c :: t) 1 rfl (by simp) hl
      rw [show ((c :: t).take 1) = [c] from rfl, show ((c :: t).drop 1) = t from rfl, show le [c] = c.toNat by simp [le]] at h1
      exact h1
theorem eNum8 (l : List UInt8) (b : Bool) (hl : l.length < 4611686018427387904) : MSpec Tryz.prog X 75 [Lp 1000000, Ln .i64 8] (rd 1000000 l b) (Ln .u64 ((eW (l, b)).1 : Nat)) (rd 1000000 (eW (l, b)).2.1 (eW (l, b)).2.2) := by
  by_cases h : b = false ∧ 8 ≤ l.length
  · rw [show eW (l, b) = (le (l.take 8), l.drop 8, false) from if_pos h]
    obtain ⟨rfl, h4⟩ := h
    exact Num_ok X l 8 rfl h4 hl
  · rw [show eW (l, b) = (0, l, true) from if_neg h]
    refine Num_no X l b 8 ?_
    unfold rawOk
    cases b with
    | true => rfl
    | false => rw [decide_eq_false (by simp only [true_and] at h; omega)]; rfl
theorem eTake (l : List UInt8) (b : Bool) (hl : l.length < 4611686018427387904) : MSpec Tryz.prog X 45 [Lp 1000000] (rd 1000000 l b) (Ln .i64 ((eS (l, b)).1.toNat : Nat)) (rd 1000000 (eS (l, b)).2.1 (eS (l, b)).2.2) := by
  have h := eNum1 X l b hl
  have hk := (eS (l, b)).1.toNat_lt
  generalize (eS (l, b)).1.toNat = k at *
  generalize (eS (l, b)).2.1 = l2 at *
  generalize (eS (l, b)).2.2 = b2 at *
  refine MSpec.intro Tryz.func45 rfl (by kernel_rfl) rfl rfl rfl rfl rfl ?_
  intro C
  have hw : IntKind.i64.wrap ((k : Nat) : Int) = ((k : Nat) : Int) := wrap_i64 (by omega)
  (refine LWP.seq <| LWP.region (by kernel_rfl) <| kas rfl <| RunK.nil <| LWP.seq <| LWP.region (by kernel_rfl) <| kmv rfl <| K.callM [] (rd 1000000 l2 b2) (h) rfl rfl (by exact (And.intro ⟨_, rfl, rfl⟩ trivial)) (by exact (all_cons_true (all_cons_true rfl (all_cons_true rfl rfl)) rfl)) rfl rfl rfl rfl (by exact (.box rfl rfl .nil)) .plain <| kcv rfl hw ?_; refine kas rfl <| RunK.nil <| LWP.ret ?_)
  exact ⟨[], ⟨[_], ⟨rfl, trivial⟩, rfl⟩, ⟨⟨_, rfl, rfl⟩, trivial⟩, rfl, rfl⟩
set_option maxHeartbeats 1600000 in
theorem eTakeNum (l : List UInt8) (b : Bool) (hl : l.length < 4611686018427387904) : MSpec Tryz.prog X 76 [Lp 1000000] (rd 1000000 l b) (.tup [SI (eN (l, b)).1.1.1 (eN (l, b)).1.1.2, Sb (eN (l, b)).1.2]) (rd 1000000 (eN (l, b)).2.1 (eN (l, b)).2.2) := by
  have h1 := eTake X l b hl
  have g1 := (eS_less (l, b)).1
  unfold eN
  rcases hy1 : eS (l, b) with ⟨c, l1, b1⟩
  rw [hy1] at h1 g1
  simp only at h1 g1 ⊢
  have hc := c.toNat_lt
  by_cases c1 : 1 < c.toNat
  · rw [if_pos c1]
    refine MSpec.intro Tryz.func76 rfl (by kernel_rfl) rfl rfl rfl rfl rfl ?_
    intro C
    (refine LWP.seq <| LWP.region (by kernel_rfl) <| K.alloc rfl .plain ?_; refine kas rfl <| RunK.nil <| LWP.seq <| LWP.region (by kernel_rfl) <| kmv rfl <| K.callM [] (rd 1000000 l1 b1) (h1) rfl rfl (by exact (And.intro ⟨_, rfl, rfl⟩ trivial)) (by exact (all_cons_true (all_cons_true rfl (all_cons_true rfl rfl)) rfl)) rfl rfl rfl rfl (by exact (.box rfl rfl .nil)) .plain <| kas rfl <| RunK.nil <| LWP.seq <| LWP.seq <| LWP.region (by kernel_rfl) <| kmv rfl <| K.gtr rfl rfl (r := true) (decide_eq_true (by omega)) .plain <| RunK.nil ?_; refine LWP.condT rfl ?_; refine LWP.seq <| LWP.region (by kernel_rfl) <| K.build rfl rfl (by exact rfl) (by exact nl3 rfl rfl rfl rfl) .plain ?_; refine K.storeAll rfl rfl rfl rfl rfl rfl .plain ?_; refine kas rfl <| RunK.nil <| LWP.ret ?_)
    exact ⟨[], ⟨[_, _], ⟨⟨_, _, rfl, rfl, rfl, .inl ⟨AggT.h, rfl⟩⟩, rfl, trivial⟩, rfl⟩, ⟨⟨_, rfl, rfl⟩, trivial⟩, rfl, rfl⟩
  · rw [if_neg c1]
    have h2 := eNum8 X l1 b1 (by omega)
    have g2 := (eW_less (l1, b1)).1
    have k2 := eW_lt (l1, b1)
    rcases hy2 : eW (l1, b1) with ⟨lo, l2, b2⟩
    rw [hy2] at h2 g2 k2
    simp only at h2 g2 k2 ⊢
    have h3 := eNum8 X l2 b2 (by omega)
    have k3 := eW_lt (l2, b2)
    rcases hy3 : eW (l2, b2) with ⟨hi, l3, b3⟩
    rw [hy3] at h3 k3
    simp only at h3 k3 ⊢
    have e1 : ((lo + 18446744073709551616 * hi : Nat) : Int) / 18446744073709551616 = ((hi : Nat) : Int) := by omega
    have e2 : ((lo + 18446744073709551616 * hi : Nat) : Int) % 18446744073709551616 = ((lo : Nat) : Int) := by omega
    unfold SI
    rw [e1, e2]
    have hsg : (((c.toNat : Nat) : Int) == 1) = decide (c.toNat = 1) := by
      by_cases h : c.toNat = 1
      · rw [h]; rfl
      · rw [decide_eq_false h]; exact beq_eq_false_iff_ne.2 (by omega)
    generalize decide (c.toNat = 1) = sg at *
    refine MSpec.intro Tryz.func76 rfl (by kernel_rfl) rfl rfl rfl rfl rfl ?_
    intro C
    (refine LWP.seq <| LWP.region (by kernel_rfl) <| K.alloc rfl .plain ?_; refine kas rfl <| RunK.nil <| LWP.seq <| LWP.region (by kernel_rfl) <| kmv rfl <| K.callM [] (rd 1000000 l1 b1) (h1) rfl rfl (by exact (And.intro ⟨_, rfl, rfl⟩ trivial)) (by exact (all_cons_true (all_cons_true rfl (all_cons_true rfl rfl)) rfl)) rfl rfl rfl rfl (by exact (.box rfl rfl .nil)) .plain <| kas rfl <| RunK.nil <| LWP.seq <| LWP.seq <| LWP.region (by kernel_rfl) <| kmv rfl <| K.gtr rfl rfl (r := false) (decide_eq_false (by omega)) .plain <| RunK.nil ?_; refine LWP.condF rfl ?_; refine LWP.skip ?_; refine LWP.seq <| LWP.region (by kernel_rfl) <| kmv rfl <| keq rfl rfl hsg <| K.build rfl rfl (by exact rfl) (by exact nl3 rfl rfl rfl rfl) .plain ?_; refine K.alloc rfl .plain ?_; refine K.storeAll rfl rfl rfl rfl rfl rfl .plain ?_; refine RunK.nil <| LWP.seq <| LWP.region (by kernel_rfl) <| kmv rfl <| K.callM [] (rd 1000000 l2 b2) (h2) rfl rfl (by exact (And.intro ⟨_, rfl, rfl⟩ trivial)) (by exact (all_cons_true (all_cons_true rfl (all_cons_true rfl rfl)) rfl)) rfl rfl rfl rfl (by exact (.box rfl rfl .nil)) .plain <| kfa rfl rfl ?_; refine K.storeOne rfl rfl rfl rfl rfl (nl3 rfl rfl rfl rfl) .plain <| RunK.nil <| LWP.seq <| LWP.region (by kernel_rfl) <| kmv rfl <| K.callM [] (rd 1000000 l3 b3) (h3) rfl rfl (by exact (And.intro ⟨_, rfl, rfl⟩ trivial)) (by exact (all_cons_true (all_cons_true rfl (all_cons_true rfl rfl)) rfl)) rfl rfl rfl rfl (by exact (.box rfl rfl .nil)) .plain <| kfa rfl rfl ?_; refine K.storeOne rfl rfl rfl rfl rfl (nl3 rfl rfl rfl rfl) .plain <| RunK.nil <| LWP.seq <| LWP.region (by kernel_rfl) <| K.loadAll rfl rfl rfl .plain ?_; refine K.storeAll rfl rfl rfl rfl rfl rfl .plain ?_; refine kas rfl <| RunK.nil <| LWP.ret ?_)
    exact ⟨[], ⟨[_, _], ⟨⟨_, _, rfl, rfl, rfl, .inl ⟨AggT.h, rfl⟩⟩, rfl, trivial⟩, rfl⟩, ⟨⟨_, rfl, rfl⟩, trivial⟩, rfl, rfl⟩
theorem rowL_no {op : Int} (h1 : op ≠ 1) (h2 : op ≠ 2) (h3 : op ≠ 3) : rowL op = [.string ⟨(wordS op).toArray⟩, .int .i64 (takes op : Nat), .bool false, .bool false, .bool false] := by
  unfold rowL
  rw [beq_eq_false_iff_ne.2 h1, beq_eq_false_iff_ne.2 h2, beq_eq_false_iff_ne.2 h3]
  rfl
set_option maxHeartbeats 3200000 in
theorem eTakeIns (l : List UInt8) (b : Bool) (hl : l.length < 4611686018427387904) : MSpec Tryz.prog X 46 [Lp 1000000] (rd 1000000 l b) (.tup [.agg ((insV (eI (l, b)).1.1).map .val), Sb (eI (l, b)).1.2]) (rd 1000000 (eI (l, b)).2.1 (eI (l, b)).2.2) := by
  have h1 := eTake X l b hl
  have g1 := (eS_less (l, b)).1
  unfold eI
  rcases hy1 : eS (l, b) with ⟨c, l1, b1⟩
  rw [hy1] at h1 g1
  simp only at h1 g1 ⊢
  have hc := c.toNat_lt
  by_cases c1 : c.toNat = 1
  · rw [if_pos c1]
    rw [c1] at h1
    have h1 : MSpec Tryz.prog X 45 [Lp 1000000] (rd 1000000 l b) (Ln .i64 1) (rd 1000000 l1 b1) := h1
    have h2 := eTakeNum X l1 b1 (by omega)
    rcases hy2 : eN (l1, b1) with ⟨⟨⟨kb, kN⟩, is⟩, l2, b2⟩
    rw [hy2] at h2
    simp only at h2 ⊢
    refine MSpec.intro Tryz.func46 rfl (by kernel_rfl) rfl rfl rfl rfl rfl ?_
    intro C
    (refine LWP.seq <| LWP.region (by kernel_rfl) <| K.alloc rfl .plain ?_; refine kas rfl <| RunK.nil <| LWP.seq <| LWP.region (by kernel_rfl) <| kmv rfl <| K.callM [] (rd 1000000 l1 b1) (h1) rfl rfl (by exact (And.intro ⟨_, rfl, rfl⟩ trivial)) (by exact (all_cons_true (all_cons_true rfl (all_cons_true rfl rfl)) rfl)) rfl rfl rfl rfl (by exact (.box rfl rfl .nil)) .plain <| K.build rfl rfl (by exact rfl) (by exact nl6 rfl rfl rfl rfl rfl rfl rfl) .plain ?_; refine K.alloc rfl .plain ?_; refine K.storeAll rfl rfl rfl rfl rfl rfl .plain ?_; refine kas rfl <| RunK.nil <| LWP.seq <| LWP.region (by kernel_rfl) <| kfa rfl rfl ?_; refine kl1 rfl rfl rfl <| kca rfl rfl (rowOf_1 X) <| K.fieldAgg (m := 3) (l' := [.val (.bool false), .val (.bool false), .val (.bool true)]) rfl Tryz.underlying73 rfl (by kernel_rfl) rfl .plain ?_; refine K.alloc rfl .plain ?_; refine K.storeAll rfl rfl rfl rfl rfl rfl .plain ?_; refine RunK.nil <| LWP.seq <| LWP.seq <| LWP.region (by kernel_rfl) <| kfa rfl rfl ?_; refine kl1 rfl rfl rfl <| RunK.nil <| LWP.condF rfl ?_; refine LWP.skip ?_; refine LWP.seq <| LWP.seq <| LWP.region (by kernel_rfl) <| kfa rfl rfl ?_; refine kl1 rfl rfl rfl <| RunK.nil <| LWP.condF rfl ?_; refine LWP.skip ?_; refine LWP.seq <| LWP.seq <| LWP.region (by kernel_rfl) <| kfa rfl rfl ?_; refine kl1 rfl rfl rfl <| RunK.nil <| LWP.condT rfl ?_; refine LWP.region (by kernel_rfl) <| kmv rfl <| K.callM [] (rd 1000000 l2 b2) (h2) rfl rfl (by exact (And.intro ⟨_, rfl, rfl⟩ trivial)) (by exact (all_cons_true (all_cons_true rfl (all_cons_true rfl rfl)) rfl)) rfl rfl rfl rfl (by exact (.box rfl rfl .nil)) .plain <| kmv rfl <| kex rfl rfl <| kex rfl rfl <| kfa rfl rfl ?_; refine K.store rfl rfl rfl rfl (by kernel_rfl) (Nat.le_refl 6) rfl .plain <| kas rfl <| RunK.nil <| LWP.seq <| LWP.region (by kernel_rfl) <| K.loadAll rfl rfl rfl .plain ?_; refine kmv rfl <| K.storeAll rfl rfl rfl rfl rfl rfl .plain ?_; refine kas rfl <| RunK.nil <| LWP.ret ?_)
    exact ⟨[], ⟨[_, _], ⟨⟨_, _, rfl, rfl, rfl, .inl ⟨AggT.h, rfl⟩⟩, rfl, trivial⟩, rfl⟩, ⟨⟨_, rfl, rfl⟩, trivial⟩, rfl, rfl⟩
  rw [if_neg c1]
  by_cases c2 : c.toNat = 2
  · rw [if_pos c2]
    rw [c2] at h1
    have h1 : MSpec Tryz.prog X 45 [Lp 1000000] (rd 1000000 l b) (Ln .i64 2) (rd 1000000 l1 b1) := h1
    have h2 := eTake X l1 b1 (by omega)
    have g2 := (eS_less (l1, b1)).1
    rcases hy2 : eS (l1, b1) with ⟨ca, l2, b2⟩
    rw [hy2] at h2 g2
    simp only at h2 g2 ⊢
    have h3 := eTake X l2 b2 (by omega)
    rcases hy3 : eS (l2, b2) with ⟨cb, l3, b3⟩
    rw [hy3] at h3
    simp only at h3 ⊢
    refine MSpec.intro Tryz.func46 rfl (by kernel_rfl) rfl rfl rfl rfl rfl ?_
    intro C
    (refine LWP.seq <| LWP.region (by kernel_rfl) <| K.alloc rfl .plain ?_; refine kas rfl <| RunK.nil <| LWP.seq <| LWP.region (by kernel_rfl) <| kmv rfl <| K.callM [] (rd 1000000 l1 b1) (h1) rfl rfl (by exact (And.intro ⟨_, rfl, rfl⟩ trivial)) (by exact (all_cons_true (all_cons_true rfl (all_cons_true rfl rfl)) rfl)) rfl rfl rfl rfl (by exact (.box rfl rfl .nil)) .plain <| K.build rfl rfl (by exact rfl) (by exact nl6 rfl rfl rfl rfl rfl rfl rfl) .plain ?_; refine K.alloc rfl .plain ?_; refine K.storeAll rfl rfl rfl rfl rfl rfl .plain ?_; refine kas rfl <| RunK.nil <| LWP.seq <| LWP.region (by kernel_rfl) <| kfa rfl rfl ?_; refine kl1 rfl rfl rfl <| kca rfl rfl (rowOf_2 X) <| K.fieldAgg (m := 3) (l' := [.val (.bool true), .val (.bool true), .val (.bool false)]) rfl Tryz.underlying73 rfl (by kernel_rfl) rfl .plain ?_; refine K.alloc rfl .plain ?_; refine K.storeAll rfl rfl rfl rfl rfl rfl .plain ?_; refine RunK.nil <| LWP.seq <| LWP.seq <| LWP.region (by kernel_rfl) <| kfa rfl rfl ?_; refine kl1 rfl rfl rfl <| RunK.nil <| LWP.condT rfl ?_; refine LWP.region (by kernel_rfl) <| kmv rfl <| K.callM [] (rd 1000000 l2 b2) (h2) rfl rfl (by exact (And.intro ⟨_, rfl, rfl⟩ trivial)) (by exact (all_cons_true (all_cons_true rfl (all_cons_true rfl rfl)) rfl)) rfl rfl rfl rfl (by exact (.box rfl rfl .nil)) .plain <| kfa rfl rfl ?_; refine K.storeOne rfl rfl rfl rfl rfl (nl6 rfl rfl rfl rfl rfl rfl rfl) .plain <| RunK.nil <| LWP.seq <| LWP.seq <| LWP.region (by kernel_rfl) <| kfa rfl rfl ?_; refine kl1 rfl rfl rfl <| RunK.nil <| LWP.condT rfl ?_; refine LWP.region (by kernel_rfl) <| kmv rfl <| K.callM [] (rd 1000000 l3 b3) (h3) rfl rfl (by exact (And.intro ⟨_, rfl, rfl⟩ trivial)) (by exact (all_cons_true (all_cons_true rfl (all_cons_true rfl rfl)) rfl)) rfl rfl rfl rfl (by exact (.box rfl rfl .nil)) .plain <| kfa rfl rfl ?_; refine K.storeOne rfl rfl rfl rfl rfl (nl6 rfl rfl rfl rfl rfl rfl rfl) .plain <| RunK.nil <| LWP.seq <| LWP.seq <| LWP.region (by kernel_rfl) <| kfa rfl rfl ?_; refine kl1 rfl rfl rfl <| RunK.nil <| LWP.condF rfl ?_; refine LWP.skip ?_; refine LWP.seq <| LWP.region (by kernel_rfl) <| K.loadAll rfl rfl rfl .plain ?_; refine kmv rfl <| K.storeAll rfl rfl rfl rfl rfl rfl .plain ?_; refine kas rfl <| RunK.nil <| LWP.ret ?_)
    exact ⟨[], ⟨[_, _], ⟨⟨_, _, rfl, rfl, rfl, .inl ⟨AggT.h, rfl⟩⟩, rfl, trivial⟩, rfl⟩, ⟨⟨_, rfl, rfl⟩, trivial⟩, rfl, rfl⟩
  rw [if_neg c2]
  by_cases c3 : c.toNat = 3
  · rw [if_pos c3]
    rw [c3] at h1
    have h1 : MSpec Tryz.prog X 45 [Lp 1000000] (rd 1000000 l b) (Ln .i64 3) (rd 1000000 l1 b1) := h1
    have h2 := eTake X l1 b1 (by omega)
    rcases hy2 : eS (l1, b1) with ⟨ca, l2, b2⟩
    rw [hy2] at h2
    simp only at h2 ⊢
    refine MSpec.intro Tryz.func46 rfl (by kernel_rfl) rfl rfl rfl rfl rfl ?_
    intro C
    (refine LWP.seq <| LWP.region (by kernel_rfl) <| K.alloc rfl .plain ?_; refine kas rfl <| RunK.nil <| LWP.seq <| LWP.region (by kernel_rfl) <| kmv rfl <| K.callM [] (rd 1000000 l1 b1) (h1) rfl rfl (by exact (And.intro ⟨_, rfl, rfl⟩ trivial)) (by exact (all_cons_true (all_cons_true rfl (all_cons_true rfl rfl)) rfl)) rfl rfl rfl rfl (by exact (.box rfl rfl .nil)) .plain <| K.build rfl rfl (by exact rfl) (by exact nl6 rfl rfl rfl rfl rfl rfl rfl) .plain ?_; refine K.alloc rfl .plain ?_; refine K.storeAll rfl rfl rfl rfl rfl rfl .plain ?_; refine kas rfl <| RunK.nil <| LWP.seq <| LWP.region (by kernel_rfl) <| kfa rfl rfl ?_; refine kl1 rfl rfl rfl <| kca rfl rfl (rowOf_3 X) <| K.fieldAgg (m := 3) (l' := [.val (.bool true), .val (.bool false), .val (.bool false)]) rfl Tryz.underlying73 rfl (by kernel_rfl) rfl .plain ?_; refine K.alloc rfl .plain ?_; refine K.storeAll rfl rfl rfl rfl rfl rfl .plain ?_; refine RunK.nil <| LWP.seq <| LWP.seq <| LWP.region (by kernel_rfl) <| kfa rfl rfl ?_; refine kl1 rfl rfl rfl <| RunK.nil <| LWP.condT rfl ?_; refine LWP.region (by kernel_rfl) <| kmv rfl <| K.callM [] (rd 1000000 l2 b2) (h2) rfl rfl (by exact (And.intro ⟨_, rfl, rfl⟩ trivial)) (by exact (all_cons_true (all_cons_true rfl (all_cons_true rfl rfl)) rfl)) rfl rfl rfl rfl (by exact (.box rfl rfl .nil)) .plain <| kfa rfl rfl ?_; refine K.storeOne rfl rfl rfl rfl rfl (nl6 rfl rfl rfl rfl rfl rfl rfl) .plain <| RunK.nil <| LWP.seq <| LWP.seq <| LWP.region (by kernel_rfl) <| kfa rfl rfl ?_; refine kl1 rfl rfl rfl <| RunK.nil <| LWP.condF rfl ?_; refine LWP.skip ?_; refine LWP.seq <| LWP.seq <| LWP.region (by kernel_rfl) <| kfa rfl rfl ?_; refine kl1 rfl rfl rfl <| RunK.nil <| LWP.condF rfl ?_; refine LWP.skip ?_; refine LWP.seq <| LWP.region (by kernel_rfl) <| K.loadAll rfl rfl rfl .plain ?_; refine kmv rfl <| K.storeAll rfl rfl rfl rfl rfl rfl .plain ?_; refine kas rfl <| RunK.nil <| LWP.ret ?_)
    exact ⟨[], ⟨[_, _], ⟨⟨_, _, rfl, rfl, rfl, .inl ⟨AggT.h, rfl⟩⟩, rfl, trivial⟩, rfl⟩, ⟨⟨_, rfl, rfl⟩, trivial⟩, rfl, rfl⟩
  rw [if_neg c3]
  generalize hop : ((c.toNat : Nat) : Int) = op at *
  have hno := rowL_no (op := op) (by omega) (by omega) (by omega)
  by_cases c5 : 5 ≤ op ∧ op ≤ 17
  · have hR := rowOf_fn X op c5
    unfold LRow at hR
    rw [hno] at hR
    refine MSpec.intro Tryz.func46 rfl (by kernel_rfl) rfl rfl rfl rfl rfl ?_
    intro C
    (refine LWP.seq <| LWP.region (by kernel_rfl) <| K.alloc rfl .plain ?_; refine kas rfl <| RunK.nil <| LWP.seq <| LWP.region (by kernel_rfl) <| kmv rfl <| K.callM [] (rd 1000000 l1 b1) (h1) rfl rfl (by exact (And.intro ⟨_, rfl, rfl⟩ trivial)) (by exact (all_cons_true (all_cons_true rfl (all_cons_true rfl rfl)) rfl)) rfl rfl rfl rfl (by exact (.box rfl rfl .nil)) .plain <| K.build rfl rfl (by exact rfl) (by exact nl6 rfl rfl rfl rfl rfl rfl rfl) .plain ?_; refine K.alloc rfl .plain ?_; refine K.storeAll rfl rfl rfl rfl rfl rfl .plain ?_; refine kas rfl <| RunK.nil <| LWP.seq <| LWP.region (by kernel_rfl) <| kfa rfl rfl ?_; refine kl1 rfl rfl rfl <| K.callMp [(1000001, 600)] (.sv (.agg [.val (.string ⟨(wordS op).toArray⟩), .val (.int .i64 (takes op : Nat)), .val (.bool false), .val (.bool false), .val (.bool false), ptrF (cloF op) 600])) [dB 600 op] (hR) rfl rfl (by exact trivial) rfl rfl rfl rfl rfl (by exact (.box rfl rfl .nil)) .plain <| K.fieldAgg (m := 3) (l' := [.val (.bool false), .val (.bool false), .val (.bool false)]) rfl Tryz.underlying73 rfl (by kernel_rfl) rfl .plain ?_; refine K.alloc rfl .plain ?_; refine K.storeAll rfl rfl rfl rfl rfl rfl .plain ?_; refine RunK.nil <| LWP.seq <| LWP.seq <| LWP.region (by kernel_rfl) <| kfa rfl rfl ?_; refine kl1 rfl rfl rfl <| RunK.nil <| LWP.condF rfl ?_; refine LWP.skip ?_; refine LWP.seq <| LWP.seq <| LWP.region (by kernel_rfl) <| kfa rfl rfl ?_; refine kl1 rfl rfl rfl <| RunK.nil <| LWP.condF rfl ?_; refine LWP.skip ?_; refine LWP.seq <| LWP.seq <| LWP.region (by kernel_rfl) <| kfa rfl rfl ?_; refine kl1 rfl rfl rfl <| RunK.nil <| LWP.condF rfl ?_; refine LWP.skip ?_; refine LWP.seq <| LWP.region (by kernel_rfl) <| K.loadAll rfl rfl rfl .plain ?_; refine kmv rfl <| K.storeAll rfl rfl rfl rfl rfl rfl .plain ?_; refine kas rfl <| RunK.nil <| LWP.ret ?_)
    exact ⟨[], ⟨[_, _], ⟨⟨_, _, rfl, rfl, rfl, .inl ⟨AggT.h, rfl⟩⟩, rfl, trivial⟩, rfl⟩, ⟨⟨_, rfl, rfl⟩, trivial⟩, rfl, rfl⟩
  · have hR := rowOf_leaf X op (by omega)
    generalize leafV op = v at *
    unfold LRow at hR
    rw [hno] at hR
    refine MSpec.intro Tryz.func46 rfl (by kernel_rfl) rfl rfl rfl rfl rfl ?_
    intro C
    (refine LWP.seq <| LWP.region (by kernel_rfl) <| K.alloc rfl .plain ?_; refine kas rfl <| RunK.nil <| LWP.seq <| LWP.region (by kernel_rfl) <| kmv rfl <| K.callM [] (rd 1000000 l1 b1) (h1) rfl rfl (by exact (And.intro ⟨_, rfl, rfl⟩ trivial)) (by exact (all_cons_true (all_cons_true rfl (all_cons_true rfl rfl)) rfl)) rfl rfl rfl rfl (by exact (.box rfl rfl .nil)) .plain <| K.build rfl rfl (by exact rfl) (by exact nl6 rfl rfl rfl rfl rfl rfl rfl) .plain ?_; refine K.alloc rfl .plain ?_; refine K.storeAll rfl rfl rfl rfl rfl rfl .plain ?_; refine kas rfl <| RunK.nil <| LWP.seq <| LWP.region (by kernel_rfl) <| kfa rfl rfl ?_; refine kl1 rfl rfl rfl <| kca rfl rfl hR <| K.fieldAgg (m := 3) (l' := [.val (.bool false), .val (.bool false), .val (.bool false)]) rfl Tryz.underlying73 rfl (by kernel_rfl) rfl .plain ?_; refine K.alloc rfl .plain ?_; refine K.storeAll rfl rfl rfl rfl rfl rfl .plain ?_; refine RunK.nil <| LWP.seq <| LWP.seq <| LWP.region (by kernel_rfl) <| kfa rfl rfl ?_; refine kl1 rfl rfl rfl <| RunK.nil <| LWP.condF rfl ?_; refine LWP.skip ?_; refine LWP.seq <| LWP.seq <| LWP.region (by kernel_rfl) <| kfa rfl rfl ?_; refine kl1 rfl rfl rfl <| RunK.nil <| LWP.condF rfl ?_; refine LWP.skip ?_; refine LWP.seq <| LWP.seq <| LWP.region (by kernel_rfl) <| kfa rfl rfl ?_; refine kl1 rfl rfl rfl <| RunK.nil <| LWP.condF rfl ?_; refine LWP.skip ?_; refine LWP.seq <| LWP.region (by kernel_rfl) <| K.loadAll rfl rfl rfl .plain ?_; refine kmv rfl <| K.storeAll rfl rfl rfl rfl rfl rfl .plain ?_; refine kas rfl <| RunK.nil <| LWP.ret ?_)
    exact ⟨[], ⟨[_, _], ⟨⟨_, _, rfl, rfl, rfl, .inl ⟨AggT.h, rfl⟩⟩, rfl, trivial⟩, rfl⟩, ⟨⟨_, rfl, rfl⟩, trivial⟩, rfl, rfl⟩
def zeI (k : Nat) : List Value := (List.replicate k [Value.int .i64 0, .int .i64 0, .int .i64 0, .bool false, .int .u64 0, .int .u64 0]).flatten
theorem zeI_succ (k : Nat) : zeI (k + 1) = [Value.int .i64 0, .int .i64 0, .int .i64 0, .bool false, .int .u64 0, .int .u64 0] ++ zeI k := by unfold zeI; rw [List.replicate_succ, List.flatten_cons]
theorem zeI_len (k : Nat) : (zeI k).length = k * 6 := by
  induction k with
  | zero => rfl
  | succ k ih => rw [zeI_succ, List.length_append, ih]; simp; omega
theorem inssV_snoc2 (q : List Ins) (x : Ins) : inssV (q ++ [x]) = inssV q ++ insV x := by unfold inssV; rw [List.map_append, List.flatten_append]; simp
def gdR (s : List UInt8) : LV := match decX s with | some l => .tup [.one (.slc 1000001 0 l.length 6), Sn .i64 0] | none => .tup [Vnil, Sn .i64 4]
def gdBx (s : List UInt8) : List (Nat × Option Box) := match decX s with | some l => [(1000001, some ⟨44, (inssV l).map .val, true⟩)] | none => []
theorem gd_none {s : List UInt8} (h : decX s = none) : gdR s = .tup [Vnil, Sn .i64 4] ∧ gdBx s = [] := by unfold gdR gdBx; rw [h]; exact ⟨rfl, rfl⟩
theorem gd_some {s : List UInt8} {l : List Ins} (h : decX s = some l) : gdR s = .tup [.one (.slc 1000001 0 l.length 6), Sn .i64 0] ∧ gdBx s = [(1000001, some ⟨44, (inssV l).map .val, true⟩)] := by unfold gdR gdBx; rw [h]; exact ⟨rfl, rfl⟩
theorem gdBx_use (s : List UInt8) : ((gdBx s).all fun p => match p.2 with | some b => b.cells.all (CV.inUse (gdBx s)) | none => true) = true := by
  cases h : decX s with
  | none => rw [(gd_none h).2]; rfl
  | some l => rw [(gd_some h).2]; simp only [List.all_cons, List.all_nil, vals_use, Bool.and_true]
theorem gdR_use (s : List UInt8) : LV.inUse (gdBx s) (gdR s) = true := by
  cases h : decX s with
  | none => rw [(gd_none h).1, (gd_none h).2]; rfl
  | some l => rw [(gd_some h).1, (gd_some h).2]; rfl
abbrev deSt (m i : Nat) (l : List UInt8) (b : Bool) (cells : List Value) (Y : Nat → Option Obj) : St :=
  ⟨[(4, Lp 700), (5, .sv (.one (.slc 600 0 m 6))), (15, Ln .i64 (m : Nat)), (16, Ln .i64 (i : Nat))], rd 700 l b ++ [(600, some ⟨44, cells.map .val, false⟩)], Y⟩
set_option maxHeartbeats 6400000 in
theorem gDecodeM (s : List UInt8) (hs : s.length ≤ 4096) : MSpec Tryz.prog X 20 [Ls s] [] (gdR s) (gdBx s) := by
  have hD := decX_e s
  have h1 := eTake X s false (by omega)
  have g1 := (eS_less (s, false)).1
  rcases hy1 : eS (s, false) with ⟨c, l1, b1⟩
  rw [hy1] at h1 g1 hD
  simp only at h1 g1 hD
  have hc := c.toNat_lt
  generalize c.toNat = m at *
  refine MSpec.intro Tryz.func20 rfl (by kernel_rfl) rfl (gdR_use s) (gdBx_use s) rfl rfl ?_
  intro C
  have hmk : slcBuild Tryz.prog 22 m = some (zeI m, 6, 44) := slcBuild_many (z := #[.int .i64 0, .int .i64 0, .int .i64 0, .bool false, .int .u64 0, .int .u64 0]) (by kernel_rfl) (by kernel_rfl) rfl (by omega)
  have hR := Read_spec X s
  (refine LWP.seq <| LWP.region (by kernel_rfl) <| kas rfl <| kas rfl <| RunK.nil <| LWP.seq <| LWP.region (by kernel_rfl) <| kmv rfl <| K.callMp [(1000001, 700)] (Lp 700) (rd 700 s false) (hR) rfl rfl (by exact trivial) rfl rfl rfl rfl rfl (by exact (.box rfl rfl .nil)) .plain <| kas rfl <| RunK.nil <| LWP.seq <| LWP.region (by kernel_rfl) <| kmv rfl ?_; refine K.callM [(1000000, 700)] (rd 700 l1 b1) (h1) rfl rfl (by exact (And.intro ⟨_, rfl, rfl⟩ trivial)) (by exact (all_cons_true (all_cons_true rfl (all_cons_true rfl rfl)) rfl)) rfl rfl rfl rfl (by exact (.box rfl rfl .nil)) .plain <| K.makeSlc (m := m) (bytes := 48) rfl rfl hmk (by kernel_rfl) (by omega) rfl rfl .plain <| kas rfl <| RunK.nil <| LWP.seq <| LWP.seq <| LWP.region (by kernel_rfl) <| kmv rfl <| K.lenSlc rfl SliceT.h rfl .plain ?_; refine kmv rfl <| RunK.nil <| LWP.block ?_)
  refine LWP.loop (fun k σ => ∃ (i : Nat) (q : List Ins) (l : List UInt8) (b : Bool), i ≤ m ∧ k = m - i ∧ eIs (l1, b1) i = some (q, l, b) ∧ σ = deSt m i l b (inssV q ++ zeI (m - i)) X) m
    ⟨deSt m 0 l1 b1 (inssV [] ++ zeI (m - 0)) X, Le.ofR [(700, 700), (600, 13)] (by exact ⟨rfl, rfl, rfl, rfl, trivial⟩) (by repeat' (first | exact trivial | refine And.intro ⟨_, rfl, ?_⟩ ?_ | refine And.intro ⟨_, rfl⟩ ?_ | rfl | exact Box.ren_bytes _ _ _ _ | exact Box.ren_vals _ _ _ _ | exact Box.ren_mid rfl)) (by exact rfl) (by exact rfl) (by repeat' (first | refine all_cons_true ?_ ?_ | rfl | exact bytes_inUse | exact vals_inUse | exact mid_inUse rfl)) (by exact rfl) (by exact rfl), 0, [], l1, b1, Nat.zero_le _, rfl, rfl, rfl⟩ ?_
  rintro k σ ⟨i, q, l, b, hi, rfl, hq, rfl⟩
  obtain ⟨hqn, ⟨hll, _⟩, hqs⟩ := eIs_len hq
  simp only at hll
  by_cases hlt : i < m
  · have hT := eTakeIns X l b (by omega)
    have hnx : eIs (l1, b1) (i + 1) = if (eI (l, b)).1.2 = true then some (q ++ [(eI (l, b)).1.1], (eI (l, b)).2) else none := by simp only [eIs, hq]
    rcases hy : eI (l, b) with ⟨⟨x, is⟩, l2, b2⟩
    rw [hy] at hT hnx
    simp only at hT hnx
    cases is with
    | false =>
      rw [if_neg (by decide)] at hnx
      have := eIs_none hnx (m - (i + 1))
      rw [show i + 1 + (m - (i + 1)) = m by omega] at this
      rw [this] at hD
      obtain ⟨q1, q2⟩ := gd_none hD
      rw [q1, q2]
      (refine LWP.seq <| LWP.region (by kernel_rfl) <| klt rfl rfl (decide_eq_true (by omega)) <| RunK.nil <| LWP.seq <| LWP.condT rfl ?_; refine LWP.skip ?_; refine LWP.seq <| LWP.block <| LWP.seq <| LWP.region (by kernel_rfl) <| kmv rfl <| kas rfl <| RunK.nil <| LWP.seq <| LWP.region (by kernel_rfl) <| kmv rfl <| K.callM [(1000000, 700)] (rd 700 l2 b2) (hT) rfl rfl (by exact (And.intro ⟨_, rfl, rfl⟩ trivial)) (by exact (all_cons_true (all_cons_true rfl (all_cons_true rfl rfl)) rfl)) rfl rfl rfl rfl (by exact (.box rfl rfl .nil)) .plain <| kmv rfl <| kex rfl rfl <| kex rfl rfl ?_; refine K.alloc rfl .plain ?_; refine K.storeAll rfl rfl rfl rfl rfl rfl .plain ?_; refine kas rfl <| RunK.nil <| LWP.seq <| LWP.seq <| LWP.region (by kernel_rfl) <| kmv rfl <| K.not rfl rfl .plain <| RunK.nil <| LWP.condT rfl ?_; refine LWP.seq <| LWP.region (by kernel_rfl) <| kas rfl <| kas rfl <| RunK.nil <| LWP.ret ?_)
      exact ⟨[], ⟨[_, _], ⟨rfl, rfl, trivial⟩, rfl⟩, trivial, rfl, rfl⟩
    | true =>
      rw [if_pos rfl] at hnx
      have hix : 0 + Int.toNat (i : Int) * 6 = i * 6 := by rw [Int.toNat_natCast]; omega
      have hpl : (inssV q).length = i * 6 := by have := inssV_len q; rw [List.length_map] at this; rw [this, hqn]
      have hroom : i * 6 + 6 ≤ ((inssV q ++ zeI (m - i)).map CV.val).length := by rw [List.length_map, List.length_append, hpl, zeI_len]; omega
      have hspl : splice ((inssV q ++ zeI (m - i)).map CV.val) (i * 6) ((insV x).map CV.val) = (inssV (q ++ [x]) ++ zeI (m - (i + 1))).map CV.val := by
        rw [inssV_snoc2, show m - i = (m - (i + 1)) + 1 by omega, zeI_succ]
        unfold splice
        simp only [List.map_append, List.append_assoc]
        have hml : ((inssV q).map CV.val).length = i * 6 := by rw [List.length_map, hpl]
        generalize (inssV q).map CV.val = R at *
        rw [← hml, List.take_left, List.drop_length_add_append]
        simp [insV]
      have hinc : IntKind.i64.wrap (((i : Nat) : Int) + 1) = ((i + 1 : Nat) : Int) := by rw [wrap_i64 (by omega)]; omega
      (refine LWP.seq <| LWP.region (by kernel_rfl) <| klt rfl rfl (decide_eq_true (by omega)) <| RunK.nil <| LWP.seq <| LWP.condT rfl ?_; refine LWP.skip ?_; refine LWP.seq <| LWP.block <| LWP.seq <| LWP.region (by kernel_rfl) <| kmv rfl <| kas rfl <| RunK.nil <| LWP.seq <| LWP.region (by kernel_rfl) <| kmv rfl <| K.callM [(1000000, 700)] (rd 700 l2 b2) (hT) rfl rfl (by exact (And.intro ⟨_, rfl, rfl⟩ trivial)) (by exact (all_cons_true (all_cons_true rfl (all_cons_true rfl rfl)) rfl)) rfl rfl rfl rfl (by exact (.box rfl rfl .nil)) .plain <| kmv rfl <| kex rfl rfl <| kex rfl rfl ?_; refine K.alloc rfl .plain ?_; refine K.storeAll rfl rfl rfl rfl rfl rfl .plain ?_; refine kas rfl <| RunK.nil <| LWP.seq <| LWP.seq <| LWP.region (by kernel_rfl) <| kmv rfl <| K.not rfl rfl .plain <| RunK.nil <| LWP.condF rfl ?_; refine LWP.skip ?_; refine LWP.region (by kernel_rfl) <| kmv rfl <| kmv rfl <| K.loadAll rfl rfl rfl .plain ?_; refine K.indexSlc rfl rfl (by omega) hix .plain ?_; refine K.store rfl rfl rfl rfl (by kernel_rfl) hroom hspl .plain <| RunK.nil <| LWP.region (by kernel_rfl) <| kad rfl rfl hinc <| kmv rfl <| RunK.nil ?_)
      exact ⟨m - (i + 1), deSt m (i + 1) l2 b2 (inssV (q ++ [x]) ++ zeI (m - (i + 1))) X, by omega, Le.of (by exact ⟨rfl, rfl, rfl, rfl, trivial⟩) (by exact ⟨rfl, rfl, trivial⟩) (by exact rfl) (by exact rfl) (by repeat' (first | refine all_cons_true ?_ ?_ | rfl | exact bytes_inUse | exact vals_inUse | exact mid_inUse rfl)), i + 1, q ++ [x], l2, b2, by omega, rfl, hnx, rfl⟩
  · have e : i = m := by omega
    subst e
    rw [hq] at hD
    simp only at hD
    have hz : zeI (i - i) = [] := by rw [Nat.sub_self]; rfl
    rw [hz, List.append_nil]
    rw [← hqn] at *
    clear hqn
    (refine LWP.seq <| LWP.region (by kernel_rfl) <| klt rfl rfl (decide_eq_false (by omega)) <| RunK.nil <| LWP.seq <| LWP.condF rfl ?_; refine LWP.exit <| LWP.seq <| LWP.seq ?_)
    refine LWP.le (σ' := ⟨[(5, .sv (.one (.slc 600 0 q.length 6))), (4, Lp 700)], (600, some ⟨44, (inssV q).map .val, false⟩) :: rd 700 l b, X⟩) (Le.of (by exact ⟨rfl, rfl, trivial⟩) (by exact ⟨rfl, rfl, trivial⟩) (by exact rfl) (by exact rfl) (by repeat' (first | refine all_cons_true ?_ ?_ | rfl | exact bytes_inUse | exact vals_inUse | exact mid_inUse rfl))) ?_
    refine LWP.freeze rfl rfl rfl fun sb scap sarr sfr hn hFz hcp hfit hsp => ?_
    have hin : InsIn (withBlock X sb (.cells sarr 44 sfr)) (some ⟨sb, 0, none⟩) q := ⟨rows_in (withBlock_at _ _ _) (fun r hr => by obtain ⟨x, _, rfl⟩ := List.mem_map.1 hr; rfl) hsp, hqs⟩
    have hC := gCheck' _ q (some ⟨sb, 0, none⟩) scap hin (by omega)
    have hDn := Done_spec (withBlock X sb (.cells sarr 44 sfr)) l b _ rfl
    by_cases hd : (!b && (l == [])) = true
    · rw [hd] at hDn
      by_cases hk : chkX q = 0
      · rw [if_pos ⟨hd, hk⟩] at hD
        obtain ⟨q1, q2⟩ := gd_some hD
        rw [q1, q2]
        rw [hk] at hC
        (refine LWP.region (by kernel_rfl) <| kmv rfl <| K.callM [(1000000, 700)] (rd 700 l b) (hDn) rfl rfl (by exact (And.intro ⟨_, rfl, rfl⟩ trivial)) (by exact (all_cons_true (all_cons_true rfl (all_cons_true rfl rfl)) rfl)) rfl rfl rfl rfl (by exact (.box rfl rfl .nil)) .plain <| K.not rfl rfl .plain <| kmv rfl <| gmv rfl rfl rfl <| gca rfl rfl hC rfl rfl <| K.neq rfl rfl (r := false) rfl (.taken rfl rfl) ?_; refine kpf rfl rfl <| RunK.nil <| LWP.condF rfl ?_; refine LWP.skip ?_; refine LWP.seq ?_)
        refine LWP.le (σ' := ⟨[(5, .sv (.one (.val (.slice (some ⟨sb, 0, none⟩) q.length scap))))], [], withBlock X sb (.cells sarr 44 sfr)⟩) (Le.of (by exact ⟨rfl, trivial⟩) (by exact trivial) (by exact rfl) (by exact rfl) (by repeat' (first | refine all_cons_true ?_ ?_ | rfl | exact bytes_inUse | exact vals_inUse | exact mid_inUse rfl))) ?_
        refine LWP.thaw (k := 600) (sz := 6) (vals := inssV q) hn hFz hcp hfit hsp rfl rfl rfl (by decide) ?_
        (refine LWP.region (by kernel_rfl) <| kmv rfl <| kas rfl <| kas rfl <| RunK.nil <| LWP.ret ?_)
        exact ⟨[(1000001, 600)], ⟨[_, _], ⟨rfl, rfl, trivial⟩, rfl⟩, (by repeat' (first | exact trivial | refine And.intro ⟨_, rfl, ?_⟩ ?_ | refine And.intro ⟨_, rfl⟩ ?_ | rfl | exact Box.ren_bytes _ _ _ _ | exact Box.ren_vals _ _ _ _ | exact Box.ren_mid rfl)), rfl, rfl⟩
      · rw [if_neg (fun h => hk h.2)] at hD
        obtain ⟨q1, q2⟩ := gd_none hD
        rw [q1, q2]
        (refine LWP.region (by kernel_rfl) <| kmv rfl <| K.callM [(1000000, 700)] (rd 700 l b) (hDn) rfl rfl (by exact (And.intro ⟨_, rfl, rfl⟩ trivial)) (by exact (all_cons_true (all_cons_true rfl (all_cons_true rfl rfl)) rfl)) rfl rfl rfl rfl (by exact (.box rfl rfl .nil)) .plain <| K.not rfl rfl .plain <| kmv rfl <| gmv rfl rfl rfl <| gca rfl rfl hC rfl rfl <| K.neq rfl rfl (r := true) (bne_iff_ne.2 hk) (.taken rfl rfl) ?_; refine kpf rfl rfl <| RunK.nil <| LWP.condT rfl ?_; refine LWP.seq <| LWP.region (by kernel_rfl) <| kas rfl <| kas rfl <| RunK.nil <| LWP.ret ?_)
        exact ⟨[], ⟨[_, _], ⟨rfl, rfl, trivial⟩, rfl⟩, trivial, rfl, rfl⟩
    · rw [if_neg (fun h => hd h.1)] at hD
      obtain ⟨q1, q2⟩ := gd_none hD
      rw [q1, q2]
      rw [Bool.not_eq_true] at hd
      rw [hd] at hDn
      (refine LWP.region (by kernel_rfl) <| kmv rfl <| K.callM [(1000000, 700)] (rd 700 l b) (hDn) rfl rfl (by exact (And.intro ⟨_, rfl, rfl⟩ trivial)) (by exact (all_cons_true (all_cons_true rfl (all_cons_true rfl rfl)) rfl)) rfl rfl rfl rfl (by exact (.box rfl rfl .nil)) .plain <| K.not rfl rfl .plain <| kmv rfl <| RunK.passed rfl rfl rfl <| RunK.passed rfl rfl rfl <| RunK.passed rfl rfl rfl <| kpt rfl rfl <| RunK.nil <| LWP.condT rfl ?_; refine LWP.seq <| LWP.region (by kernel_rfl) <| kas rfl <| kas rfl <| RunK.nil <| LWP.ret ?_)
      exact ⟨[], ⟨[_, _], ⟨rfl, rfl, trivial⟩, rfl⟩, trivial, rfl, rfl⟩
end Go.Proofs.YtimpjdbhalnofaaGreatDoor
end
section
namespace Go.Proofs.YtimpjdbhalnofaaGreatDoor
open Go Go.Lg Go.Lg.Fml Go.Lg.Fld Go.Lg.Arith
set_option maxRecDepth 100000
variable (X : Nat → Option Obj)
abbrev usSt (ad : Option Addr) (n cap i : Nat) (q : List Ins) (r : Bool) (Y : Nat → Option Obj) : St :=
  ⟨[(0, Lx ad n cap), (3, .sv (.one (.slc 500 0 q.length 6))), (7, Lx ad n cap), (8, Ln .i64 (n : Nat)), (9, Ln .i64 (i : Nat))], [(500, some ⟨44, (inssV q).map .val, r⟩)], Y⟩
theorem uses_take {l : List Ins} {i : Nat} {x : Ins} (hx : l[i]? = some x) : usesX (l.take (i + 1)) = if (x.op == 2 || x.op == 3) = true then usesX (l.take i) ++ [x] else usesX (l.take i) := by
  unfold usesX
  rw [List.take_add_one, hx, List.filter_append]
  simp only [Option.toList_some, List.filter_cons, List.filter_nil]
  split <;> simp
theorem uses_le (l : List Ins) : (usesX l).length ≤ l.length := List.length_filter_le _ _
set_option maxHeartbeats 6400000 in
theorem gUses' (l : List Ins) (ad : Option Addr) (cap : Nat) (hin : InsIn X ad l) (hl : l.length ≤ 1000) : MSpec Tryz.prog X 17 [Lx ad l.length cap] [] (.sv (.one (.slc 1000001 0 (usesX l).length 6))) [(1000001, some ⟨44, (inssV (usesX l)).map .val, true⟩)] := by
  refine MSpec.intro Tryz.func17 rfl (by kernel_rfl) rfl (by exact (by repeat' (first | refine all_cons_true ?_ ?_ | rfl | exact bytes_inUse | exact vals_inUse | exact mid_inUse rfl))) (by exact (by repeat' (first | refine all_cons_true ?_ ?_ | rfl | exact bytes_inUse | exact vals_inUse | exact mid_inUse rfl))) rfl rfl ?_
  intro C
  refine LWP.ends ?_
  (refine LWP.seq <| LWP.region (by kernel_rfl) <| kas rfl <| RunK.nil <| LWP.seq <| LWP.region (by kernel_rfl) <| K.buildSlc (zs := []) (sz := 6) (e := 44) (by kernel_rfl) rfl rfl rfl rfl rfl rfl .plain <| kas rfl <| RunK.nil <| LWP.seq <| LWP.seq <| LWP.region (by kernel_rfl) <| kmv rfl <| K.lenX rfl SliceT.h rfl .plain ?_; refine kmv rfl <| RunK.nil <| LWP.block ?_)
  refine LWP.loop (fun m σ => ∃ (i : Nat) (r : Bool), i ≤ l.length ∧ m = l.length - i ∧ σ = usSt ad l.length cap i (usesX (l.take i)) r X) l.length
    ⟨usSt ad l.length cap 0 (usesX (l.take 0)) false X, Le.ofR [(500, 6)] (by exact ⟨rfl, rfl, rfl, rfl, rfl, trivial⟩) (by repeat' (first | exact trivial | refine And.intro ⟨_, rfl, ?_⟩ ?_ | refine And.intro ⟨_, rfl⟩ ?_ | rfl | exact Box.ren_bytes _ _ _ _ | exact Box.ren_vals _ _ _ _ | exact Box.ren_mid rfl)) (by exact rfl) (by exact rfl) (by repeat' (first | refine all_cons_true ?_ ?_ | rfl | exact bytes_inUse | exact vals_inUse | exact mid_inUse rfl)) (by exact rfl) (by exact rfl), 0, false, by omega, by omega, rfl⟩ ?_
  rintro m σ ⟨i, r, hi, rfl, rfl⟩
  by_cases hlt : i < l.length
  · obtain ⟨x, hx⟩ : ∃ x, l[i]? = some x := ⟨_, List.getElem?_eq_getElem hlt⟩
    obtain ⟨blk, off, arr, el, fr, rfl, hX, hsz, hcs, hop⟩ := hin.at hx
    have hio : off + Int.toNat (i : Int) * 6 = off + i * 6 := by simp
    have hin0 : 0 ≤ (i : Int) ∧ (i : Int) < (l.length : Nat) := by omega
    have hut := uses_take hx
    have hul := uses_le (l.take i)
    rw [List.length_take] at hul
    have hinc : IntKind.i64.wrap (((i : Nat) : Int) + 1) = ((i + 1 : Nat) : Int) := by rw [wrap_i64 (by omega)]; omega
    by_cases h2 : x.op = 2
    · rw [if_pos (by rw [beq_iff_eq.2 h2]; rfl)] at hut
      generalize usesX (l.take i) = q at *
      have hcl := inssV_len q
      have hnc : (inssV q).map CV.val ++ (insV x).map CV.val = (inssV (q ++ [x])).map CV.val := inssV_snoc q x rfl
      have hnl : q.length + 1 = (q ++ [x]).length := by rw [List.length_append]; rfl
      (refine LWP.seq <| LWP.region (by kernel_rfl) <| klt rfl rfl (decide_eq_true (by omega)) <| RunK.nil <| LWP.seq <| LWP.condT rfl ?_; refine LWP.skip ?_; refine LWP.seq <| LWP.block <| LWP.seq <| LWP.region (by kernel_rfl) <| K.indexX rfl rfl SliceT.h hin0 hio .plain <| K.loadXagg rfl hX (by kernel_rfl) hsz hcs .plain <| K.alloc rfl .plain ?_; refine K.storeAll rfl rfl rfl rfl rfl rfl .plain ?_; refine RunK.nil <| LWP.seq <| LWP.region (by kernel_rfl) <| kfa rfl rfl ?_; refine kl1 rfl rfl rfl <| keq rfl rfl (r := true) (beq_iff_eq.2 h2) <| kmv rfl <| RunK.passed rfl rfl rfl <| RunK.passed rfl rfl rfl <| RunK.passed rfl rfl rfl <| kpt rfl rfl <| RunK.nil <| LWP.condT rfl ?_; refine LWP.region (by kernel_rfl) <| kmv rfl <| K.loadAll rfl rfl rfl .plain ?_; refine K.buildSlc (zs := [Value.int .i64 0, .int .i64 0, .int .i64 0, .bool false, .int .u64 0, .int .u64 0]) (sz := 6) (e := 44) (cs' := (insV x).map .val) (by kernel_rfl) rfl rfl rfl rfl rfl rfl .plain <| K.appendSlc (by_ := 48) (e2 := 44) (l2 := (insV x).map .val) (nl := (q ++ [x]).length) (nc := (inssV (q ++ [x])).map .val) rfl rfl hcl rfl rfl (Nat.le_refl _) rfl rfl (by kernel_rfl) (by kernel_rfl) (by omega) (by omega) rfl hnl hnc .plain <| kas rfl <| RunK.nil <| LWP.region (by kernel_rfl) <| kad rfl rfl hinc <| kmv rfl <| RunK.nil ?_)
      exact ⟨_, usSt (some ⟨blk, off, none⟩) l.length cap (i + 1) (q ++ [x]) true X, by omega, Le.ofR [(500, 24)] (by exact ⟨rfl, rfl, rfl, rfl, rfl, trivial⟩) (by repeat' (first | exact trivial | refine And.intro ⟨_, rfl, ?_⟩ ?_ | refine And.intro ⟨_, rfl⟩ ?_ | rfl | exact Box.ren_bytes _ _ _ _ | exact Box.ren_vals _ _ _ _ | exact Box.ren_mid rfl)) (by exact rfl) (by exact rfl) (by repeat' (first | refine all_cons_true ?_ ?_ | rfl | exact bytes_inUse | exact vals_inUse | exact mid_inUse rfl)) (by exact rfl) (by exact rfl), i + 1, true, by omega, rfl, by rw [hut]⟩
    · by_cases h3 : x.op = 3
      · rw [if_pos (by rw [beq_iff_eq.2 h3, Bool.or_true])] at hut
        generalize usesX (l.take i) = q at *
        have hcl := inssV_len q
        have hnc : (inssV q).map CV.val ++ (insV x).map CV.val = (inssV (q ++ [x])).map CV.val := inssV_snoc q x rfl
        have hnl : q.length + 1 = (q ++ [x]).length := by rw [List.length_append]; rfl
        (refine LWP.seq <| LWP.region (by kernel_rfl) <| klt rfl rfl (decide_eq_true (by omega)) <| RunK.nil <| LWP.seq <| LWP.condT rfl ?_; refine LWP.skip ?_; refine LWP.seq <| LWP.block <| LWP.seq <| LWP.region (by kernel_rfl) <| K.indexX rfl rfl SliceT.h hin0 hio .plain <| K.loadXagg rfl hX (by kernel_rfl) hsz hcs .plain <| K.alloc rfl .plain ?_; refine K.storeAll rfl rfl rfl rfl rfl rfl .plain ?_; refine RunK.nil <| LWP.seq <| LWP.region (by kernel_rfl) <| kfa rfl rfl ?_; refine kl1 rfl rfl rfl <| keq rfl rfl (r := false) (beq_eq_false_iff_ne.2 h2) <| kmv rfl <| K.fieldAddr rfl rfl (.taken rfl rfl) ?_; refine K.loadOne rfl rfl rfl (.taken rfl rfl) ?_; refine K.eql rfl rfl (r := true) (beq_iff_eq.2 h3) (.taken rfl rfl) ?_; refine kpf rfl rfl <| RunK.nil <| LWP.condT rfl ?_; refine LWP.region (by kernel_rfl) <| kmv rfl <| K.loadAll rfl rfl rfl .plain ?_; refine K.buildSlc (zs := [Value.int .i64 0, .int .i64 0, .int .i64 0, .bool false, .int .u64 0, .int .u64 0]) (sz := 6) (e := 44) (cs' := (insV x).map .val) (by kernel_rfl) rfl rfl rfl rfl rfl rfl .plain <| K.appendSlc (by_ := 48) (e2 := 44) (l2 := (insV x).map .val) (nl := (q ++ [x]).length) (nc := (inssV (q ++ [x])).map .val) rfl rfl hcl rfl rfl (Nat.le_refl _) rfl rfl (by kernel_rfl) (by kernel_rfl) (by omega) (by omega) rfl hnl hnc .plain <| kas rfl <| RunK.nil <| LWP.region (by kernel_rfl) <| kad rfl rfl hinc <| kmv rfl <| RunK.nil ?_)
        exact ⟨_, usSt (some ⟨blk, off, none⟩) l.length cap (i + 1) (q ++ [x]) true X, by omega, Le.ofR [(500, 24)] (by exact ⟨rfl, rfl, rfl, rfl, rfl, trivial⟩) (by repeat' (first | exact trivial | refine And.intro ⟨_, rfl, ?_⟩ ?_ | refine And.intro ⟨_, rfl⟩ ?_ | rfl | exact Box.ren_bytes _ _ _ _ | exact Box.ren_vals _ _ _ _ | exact Box.ren_mid rfl)) (by exact rfl) (by exact rfl) (by repeat' (first | refine all_cons_true ?_ ?_ | rfl | exact bytes_inUse | exact vals_inUse | exact mid_inUse rfl)) (by exact rfl) (by exact rfl), i + 1, true, by omega, rfl, by rw [hut]⟩
      · rw [if_neg (by rw [beq_eq_false_iff_ne.2 h2, beq_eq_false_iff_ne.2 h3]; decide)] at hut
        generalize usesX (l.take i) = q at *
        (refine LWP.seq <| LWP.region (by kernel_rfl) <| klt rfl rfl (decide_eq_true (by omega)) <| RunK.nil <| LWP.seq <| LWP.condT rfl ?_; refine LWP.skip ?_; refine LWP.seq <| LWP.block <| LWP.seq <| LWP.region (by kernel_rfl) <| K.indexX rfl rfl SliceT.h hin0 hio .plain <| K.loadXagg rfl hX (by kernel_rfl) hsz hcs .plain <| K.alloc rfl .plain ?_; refine K.storeAll rfl rfl rfl rfl rfl rfl .plain ?_; refine RunK.nil <| LWP.seq <| LWP.region (by kernel_rfl) <| kfa rfl rfl ?_; refine kl1 rfl rfl rfl <| keq rfl rfl (r := false) (beq_eq_false_iff_ne.2 h2) <| kmv rfl <| K.fieldAddr rfl rfl (.taken rfl rfl) ?_; refine K.loadOne rfl rfl rfl (.taken rfl rfl) ?_; refine K.eql rfl rfl (r := false) (beq_eq_false_iff_ne.2 h3) (.taken rfl rfl) ?_; refine kpf rfl rfl <| RunK.nil <| LWP.condF rfl ?_; refine LWP.skip ?_; refine LWP.region (by kernel_rfl) <| kad rfl rfl hinc <| kmv rfl <| RunK.nil ?_)
        exact ⟨_, usSt (some ⟨blk, off, none⟩) l.length cap (i + 1) q r X, by omega, Le.of (by exact ⟨rfl, rfl, rfl, rfl, rfl, trivial⟩) (by exact ⟨rfl, trivial⟩) (by exact rfl) (by exact rfl) (by repeat' (first | refine all_cons_true ?_ ?_ | rfl | exact bytes_inUse | exact vals_inUse | exact mid_inUse rfl)), i + 1, r, by omega, rfl, by rw [hut]⟩
  · have e : i = l.length := by omega
    subst e
    rw [List.take_length]
    (refine LWP.seq <| LWP.region (by kernel_rfl) <| klt rfl rfl (decide_eq_false (by omega)) <| RunK.nil <| LWP.seq <| LWP.condF rfl ?_; refine LWP.exit <| LWP.seq <| LWP.region (by kernel_rfl) <| kmv rfl <| kas rfl <| RunK.nil <| LWP.ret ?_)
    refine Leads.le (σ' := ⟨[(2, .sv (.one (.slc 500 0 (usesX l).length 6)))], [(500, some ⟨44, (inssV (usesX l)).map .val, r⟩)], X⟩) (Le.of (by exact ⟨rfl, trivial⟩) (by exact ⟨rfl, trivial⟩) (by exact rfl) (by exact rfl) (by repeat' (first | refine all_cons_true ?_ ?_ | rfl | exact bytes_inUse | exact vals_inUse | exact mid_inUse rfl))) ?_
    refine Leads.le Le.loose (Leads.done ?_)
    exact ⟨[(1000001, 500)], ⟨[_], ⟨rfl, trivial⟩, rfl⟩, (by repeat' (first | exact trivial | refine And.intro ⟨_, rfl, ?_⟩ ?_ | refine And.intro ⟨_, rfl⟩ ?_ | rfl | exact Box.ren_bytes _ _ _ _ | exact Box.ren_vals _ _ _ _ | exact Box.ren_mid rfl)), rfl, rfl⟩
end Go.Proofs.YtimpjdbhalnofaaGreatDoor
end
section
namespace Go.Proofs.YtimpjdbhalnofaaGreatDoor
open Go Go.Lg Go.Lg.Fml Go.Lg.Fld Go.Lg.Arith
set_option maxRecDepth 100000
theorem eqT_expr {o a b o' a' b' : Int} {s s' : Bool} {h l h' l' : Int} (r : Bool) (hr : (o == o' && (a == a' && (b == b' && (s == s' && (h == h' && l == l'))))) = r) (w : World) :
    (Op.equalIn 10000 44 (.agg [.int .i64 o, .int .i64 a, .int .i64 b, .bool s, .int .u64 h, .int .u64 l].toArray) (.agg [.int .i64 o', .int .i64 a', .int .i64 b', .bool s', .int .u64 h', .int .u64 l'].toArray)).run Tryz.prog w = .ok r w := by
  subst hr
  rw [show (10000 : Nat) = 9999 + 1 from rfl, run_equalIn_agg w 9999 44 _ _ (by kernel_rfl) (by kernel_rfl)]
  simp only [Program.fieldsOf, Tryz.underlying44]
  go_simp
  by_cases e1 : o = o'
  · by_cases e2 : a = a'
    · by_cases e3 : b = b'
      · by_cases e4 : s = s'
        · by_cases e5 : h = h'
          · by_cases e6 : l = l' <;> simp [e1, e2, e3, e4, e5, e6]
          · simp [e1, e2, e3, e4, e5]
        · simp [e1, e2, e3, e4]
      · simp [e1, e2, e3]
    · simp [e1, e2]
  · simp [e1]
theorem eqT_retrofitref11 {o a b o' a' b' : Int} {s s' : Bool} {h l h' l' : Int} (r : Bool) (hr : (o == o' && (a == a' && (b == b' && (s == s' && (h == h' && l == l'))))) = r) (w : World) :
    (Op.equalIn 10000 54 (.agg [.int .i64 o, .int .i64 a, .int .i64 b, .bool s, .int .u64 h, .int .u64 l].toArray) (.agg [.int .i64 o', .int .i64 a', .int .i64 b', .bool s', .int .u64 h', .int .u64 l'].toArray)).run Tryz.prog w = .ok r w := by
  subst hr
  rw [show (10000 : Nat) = 9999 + 1 from rfl, run_equalIn_agg w 9999 54 _ _ (by kernel_rfl) (by kernel_rfl)]
  simp only [Program.fieldsOf, Tryz.underlying54]
  go_simp
  by_cases e1 : o = o'
  · by_cases e2 : a = a'
    · by_cases e3 : b = b'
      · by_cases e4 : s = s'
        · by_cases e5 : h = h'
          · by_cases e6 : l = l' <;> simp [e1, e2, e3, e4, e5, e6]
          · simp [e1, e2, e3, e4, e5]
        · simp [e1, e2, e3, e4]
      · simp [e1, e2, e3]
    · simp [e1, e2]
  · simp [e1]
variable (X : Nat → Option Obj)
theorem gCheck (l : List Ins) (ad : Option Addr) (cap : Nat) (hin : InsIn X ad l) (hl : l.length < 1152921504606846976) : PSpec Tryz.prog X 13 [Lx ad l.length cap] (Ln .i64 (chkX l)) := by
  exact gCheck' X l ad cap hin hl
theorem gEval (l : List Ins) (ad : Option Addr) (cap : Nat) (hin : InsIn X ad l) (hbig : l.length < 1152921504606846976) (fad : Option Addr) (fcap : Nat) (fs : List (List Nm)) (hfs : FssIn X fad fs) (hfl : fs.length < 4611686018427387904) (hrl : ∀ r ∈ fs, r.length < 4611686018427387904) (hf2 : ∀ r ∈ fs, ∀ u ∈ r, In2 u.2) (at_ : Int) (hat : -9223372036854775808 ≤ at_ ∧ at_ < 9223372036854775808) :
    PSpec Tryz.prog X 11 [Lx ad l.length cap, LEnv fad fs.length fcap at_] (exR (evX l fs at_)) := by
  exact gEval' X l ad cap hin hbig fad fcap fs at_ ⟨hfs, hfl, hrl, hat⟩ hf2
theorem gShow (hT : XTab X) (l : List Ins) (ad : Option Addr) (cap : Nat) (hin : InsIn X ad l) (hl : l.length < 1152921504606846976) : PSpec Tryz.prog X 15 [Lx ad l.length cap] (Ls (showX l)) := by
  exact gShow' X hT l ad cap hin hl
theorem gUses (l : List Ins) (ad : Option Addr) (cap : Nat) (hin : InsIn X ad l) (hl : l.length ≤ 1000) : (usesX l = [] ∧ MSpec Tryz.prog X 17 [Lx ad l.length cap] [] (.sv Vnil) []) ∨
    MSpec Tryz.prog X 17 [Lx ad l.length cap] [] (.sv (.one (.slc 1000001 0 (usesX l).length 6))) [(1000001, some ⟨44, (inssV (usesX l)).map .val, true⟩)] := by
  exact .inr (gUses' X l ad cap hin hl)
theorem gEncode (l : List Ins) (ad : Option Addr) (cap : Nat) (hin : InsIn X ad l) (hl : l.length < 1152921504606846976) : PSpec Tryz.prog X 18 [Lx ad l.length cap] (.tup [Ss (encTX l), Sn .i64 (encErr l)]) := by
  exact gEncode' X l ad cap hin hl
theorem gDecode_no (s : List UInt8) (hs : s.length ≤ 4096) (h : decX s = none) : PSpec Tryz.prog X 20 [Ls s] (.tup [Vnil, Sn .i64 4]) := by
  have hM := gDecodeM X s hs
  obtain ⟨q1, q2⟩ := gd_none h
  rw [q1, q2] at hM
  exact hM.plain
theorem gDecode_ok (s : List UInt8) (hs : s.length ≤ 4096) {l : List Ins} (h : decX s = some l) : MSpec Tryz.prog X 20 [Ls s] [] (.tup [.one (.slc 1000001 0 l.length 6), Sn .i64 0]) [(1000001, some ⟨44, (inssV l).map .val, true⟩)] := by
  have hM := gDecodeM X s hs
  obtain ⟨q1, q2⟩ := gd_some h
  rw [q1, q2] at hM
  exact hM
end Go.Proofs.YtimpjdbhalnofaaGreatDoor
end
section
namespace Go.Proofs.YtimpjdbhalnofaaGreatDoor
open Go Go.Lg Go.Lg.Fml Go.Lg.Fld Go.Lg.Arith
set_option maxRecDepth 100000
variable (X : Nat → Option Obj)
def grt (l : List Ins) (fs : List (List Nm)) : Bool := decide (80 < l.length) || (decide (12 < fs.length) || fs.any fun r => decide (20 < r.length))
theorem grt_false {l : List Ins} {fs : List (List Nm)} (h : grt l fs = false) : l.length ≤ 80 ∧ fs.length ≤ 12 ∧ ∀ r ∈ fs, r.length ≤ 20 := by
  unfold grt at h
  rw [Bool.or_eq_false_iff, Bool.or_eq_false_iff, decide_eq_false_iff_not, decide_eq_false_iff_not] at h
  refine ⟨by omega, by omega, fun r hr => ?_⟩
  have := List.any_eq_false.1 h.2.2 r hr
  simpa using this
set_option maxHeartbeats 1600000 in
theorem great11_spec (l : List Ins) (ad : Option Addr) (cap : Nat) (fad : Option Addr) (fcap : Nat) (fs : List (List Nm)) (hfs : FssIn X fad fs) (hl : l.length < 9223372036854775808) (hfl : fs.length < 9223372036854775808) (hrl : ∀ r ∈ fs, r.length < 9223372036854775808) :
    PSpec Tryz.prog X 9 [Lx ad l.length cap, Lx fad fs.length fcap] (Lb (grt l fs)) := by
  refine PSpec.intro Tryz.func9 rfl (by kernel_rfl) rfl rfl ?_
  intro C
  unfold grt
  by_cases h1 : 80 < l.length
  · rw [decide_eq_true h1]
    (refine LWP.seq <| LWP.region (by kernel_rfl) <| kas rfl <| RunK.nil <| LWP.seq <| LWP.seq <| LWP.region (by kernel_rfl) <| kmv rfl <| K.lenX rfl SliceT.h rfl .plain ?_; refine K.gtr rfl rfl (decide_eq_true (by omega)) .plain <| kmv rfl <| RunK.passed rfl rfl rfl <| RunK.passed rfl rfl rfl <| RunK.passed rfl rfl rfl <| kpt rfl rfl <| RunK.nil <| LWP.condT rfl ?_; refine LWP.seq <| LWP.region (by kernel_rfl) <| kas rfl <| RunK.nil <| LWP.ret ?_)
    exact ⟨[_], ⟨rfl, trivial⟩, rfl⟩
  rw [decide_eq_false h1, Bool.false_or]
  by_cases h2 : 12 < fs.length
  · rw [decide_eq_true h2]
    (refine LWP.seq <| LWP.region (by kernel_rfl) <| kas rfl <| RunK.nil <| LWP.seq <| LWP.seq <| LWP.region (by kernel_rfl) <| kmv rfl <| K.lenX rfl SliceT.h rfl .plain ?_; refine K.gtr rfl rfl (decide_eq_false (by omega)) .plain <| kmv rfl <| gmv rfl rfl rfl <| K.lenX rfl SliceT.h rfl (.taken rfl rfl) ?_; refine K.gtr rfl rfl (decide_eq_true (by omega)) (.taken rfl rfl) ?_; refine kpf rfl rfl <| RunK.nil <| LWP.condT rfl ?_; refine LWP.seq <| LWP.region (by kernel_rfl) <| kas rfl <| RunK.nil <| LWP.ret ?_)
    exact ⟨[_], ⟨rfl, trivial⟩, rfl⟩
  rw [decide_eq_false h2, Bool.false_or]
  (refine LWP.seq <| LWP.region (by kernel_rfl) <| kas rfl <| RunK.nil <| LWP.seq <| LWP.seq <| LWP.region (by kernel_rfl) <| kmv rfl <| K.lenX rfl SliceT.h rfl .plain ?_; refine K.gtr rfl rfl (decide_eq_false (by omega)) .plain <| kmv rfl <| gmv rfl rfl rfl <| K.lenX rfl SliceT.h rfl (.taken rfl rfl) ?_; refine K.gtr rfl rfl (decide_eq_false (by omega)) (.taken rfl rfl) ?_; refine kpf rfl rfl <| RunK.nil <| LWP.condF rfl ?_; refine LWP.skip ?_; refine LWP.seq <| LWP.seq <| LWP.region (by kernel_rfl) <| kas rfl <| RunK.nil <| LWP.block ?_)
  refine LWP.loop (fun m σ => ∃ i : Nat, i ≤ fs.length ∧ m = fs.length - i ∧ (fs.take i).any (fun r => decide (20 < r.length)) = false ∧ σ = ⟨[(1, Lx fad fs.length fcap), (5, Ln .i64 (i : Nat))], [], X⟩) fs.length
    ⟨⟨[(1, Lx fad fs.length fcap), (5, Ln .i64 (0 : Nat))], [], X⟩, Le.of (by exact ⟨rfl, rfl, trivial⟩) (by exact trivial) (by exact rfl) (by exact rfl) (by exact rfl), 0, by omega, rfl, rfl, rfl⟩ ?_
  rintro m σ ⟨i, hi, rfl, hany, rfl⟩
  by_cases hlt : i < fs.length
  · obtain ⟨r, hr⟩ : ∃ r, fs[i]? = some r := ⟨_, List.getElem?_eq_getElem hlt⟩
    obtain ⟨blk, off, arr, el, fr, vad, vcap, rfl, hX, hsz, hc, hN⟩ := hfs.at_ _ r hr
    have hio : off + Int.toNat (i : Int) * 1 = off + i := by simp
    have hrb := hrl r (List.mem_of_getElem? hr)
    by_cases h3 : 20 < r.length
    · have e : (fs.any fun r => decide (20 < r.length)) = true := List.any_eq_true.2 ⟨r, List.mem_of_getElem? hr, decide_eq_true h3⟩
      rw [e]
      (refine LWP.seq <| LWP.seq <| LWP.region (by kernel_rfl) <| kmv rfl <| kmv rfl <| K.lenX rfl SliceT.h rfl .plain ?_; refine klt rfl rfl (decide_eq_true (by omega)) <| RunK.nil <| LWP.condT rfl ?_; refine LWP.skip ?_; refine LWP.seq <| LWP.block <| LWP.seq <| LWP.region (by kernel_rfl) <| kmv rfl <| kmv rfl <| K.indexX rfl rfl SliceT.h (by omega) hio .plain <| K.loadX rfl hX rfl hc .plain <| K.lenX rfl SliceT.h rfl .plain ?_; refine K.gtr rfl rfl (decide_eq_true (by omega)) .plain <| RunK.nil <| LWP.condT rfl ?_; refine LWP.seq <| LWP.region (by kernel_rfl) <| kas rfl <| RunK.nil <| LWP.ret ?_)
      exact ⟨[_], ⟨rfl, trivial⟩, rfl⟩
    · have hadd : IntKind.i64.wrap ((i : Int) + 1) = ((i + 1 : Nat) : Int) := by rw [wrap_i64 (by omega)]; omega
      have hany2 : (fs.take (i + 1)).any (fun r => decide (20 < r.length)) = false := by rw [take_snoc hr, List.any_append, hany]; simp; omega
      (refine LWP.seq <| LWP.seq <| LWP.region (by kernel_rfl) <| kmv rfl <| kmv rfl <| K.lenX rfl SliceT.h rfl .plain ?_; refine klt rfl rfl (decide_eq_true (by omega)) <| RunK.nil <| LWP.condT rfl ?_; refine LWP.skip ?_; refine LWP.seq <| LWP.block <| LWP.seq <| LWP.region (by kernel_rfl) <| kmv rfl <| kmv rfl <| K.indexX rfl rfl SliceT.h (by omega) hio .plain <| K.loadX rfl hX rfl hc .plain <| K.lenX rfl SliceT.h rfl .plain ?_; refine K.gtr rfl rfl (decide_eq_false (by omega)) .plain <| RunK.nil <| LWP.condF rfl ?_; refine LWP.skip ?_; refine LWP.region (by kernel_rfl) <| kmv rfl <| kad rfl rfl hadd <| kas rfl <| RunK.nil ?_)
      exact ⟨_, ⟨[(1, Lx (some ⟨blk, off, none⟩) fs.length fcap), (5, Ln .i64 (i + 1 : Nat))], [], X⟩, by omega, Le.of (by exact ⟨rfl, rfl, trivial⟩) (by exact trivial) (by exact rfl) (by exact rfl) (by exact rfl), i + 1, by omega, rfl, hany2, rfl⟩
  · have e : i = fs.length := by omega
    subst e
    rw [List.take_length] at hany
    rw [hany]
    (refine LWP.seq <| LWP.seq <| LWP.region (by kernel_rfl) <| kmv rfl <| kmv rfl <| K.lenX rfl SliceT.h rfl .plain ?_; refine klt rfl rfl (decide_eq_false (by omega)) <| RunK.nil <| LWP.condF rfl ?_; refine LWP.exit <| LWP.seq <| LWP.region (by kernel_rfl) <| kas rfl <| RunK.nil <| LWP.ret ?_)
    exact ⟨[_], ⟨rfl, trivial⟩, rfl⟩
theorem InsIn.parts {X : Nat → Option Obj} {ad : Option Addr} {l : List Ins} (h : InsIn X ad l) {i : Nat} {x : Ins} (hx : l[i]? = some x) :
    ∃ (blk off : Nat) (arr : Array Value) (el : TypeId) (fr : Nat × Nat), ad = some ⟨blk, off, none⟩ ∧ X blk = some (.cells arr el fr) ∧ arr[off + i * 6]? = some (.int .i64 x.op) ∧ arr[off + i * 6 + 1]? = some (.int .i64 x.a) ∧ arr[off + i * 6 + 2]? = some (.int .i64 x.b) ∧ off + i * 6 + 3 + 3 ≤ arr.size ∧ ((arr.toList.drop (off + i * 6 + 3)).take 3).map CV.val = cI x.k.1 x.k.2 := by
  obtain ⟨blk, off, arr, el, fr, h1, h2, h3, h4⟩ := h.rows i (insV x) (by rw [List.getElem?_map, hx]; rfl)
  have g : ∀ j, j < 6 → arr[off + i * 6 + j]? = (insV x)[j]? := fun j hj => by
    rw [← h4, List.getElem?_take, if_pos hj, List.getElem?_drop, Array.getElem?_toList]
  refine ⟨blk, off, arr, el, fr, h1, h2, g 0 (by decide), g 1 (by decide), g 2 (by decide), by omega, ?_⟩
  have h5 := congrArg (fun q : List Value => (q.drop 3).map CV.val) h4
  simp only [List.drop_take, List.drop_drop] at h5
  exact h5
set_option maxHeartbeats 3200000 in
theorem form11_spec (l : List Ins) (ad : Option Addr) (cap : Nat) (hin : InsIn X ad l) (hl : l.length ≤ 1000) :
    MSpec Tryz.prog X 10 [Lx ad l.length cap] [] (.sv (.one (.slc 1000001 0 l.length 6))) [(1000001, some ⟨54, (inssV l).map .val, true⟩)] := by
  refine MSpec.intro Tryz.func10 rfl (by kernel_rfl) rfl rfl (by simp only [List.all_cons, List.all_nil, vals_use, Bool.and_true]) rfl rfl ?_
  intro C
  refine LWP.ends ?_
  (refine LWP.seq <| LWP.region (by kernel_rfl) <| kas rfl <| RunK.nil <| LWP.seq <| LWP.region (by kernel_rfl) <| K.buildSlc (zs := []) (sz := 6) (e := 54) (by kernel_rfl) rfl rfl rfl rfl rfl rfl .plain <| kas rfl <| RunK.nil <| LWP.seq <| LWP.seq <| LWP.region (by kernel_rfl) <| kas rfl <| RunK.nil ?_; refine LWP.block ?_)
  refine LWP.loop (fun m σ => ∃ i : Nat, i ≤ l.length ∧ m = l.length - i ∧ σ = ⟨[(0, Lx ad l.length cap), (3, .sv (.one (.slc 500 0 i 6))), (4, Ln .i64 (i : Nat))], [(500, some ⟨54, (inssV (l.take i)).map .val, Nat.blt 0 i⟩)], X⟩) l.length
    ⟨⟨[(0, Lx ad l.length cap), (3, .sv (.one (.slc 500 0 0 6))), (4, Ln .i64 (0 : Nat))], [(500, some ⟨54, (inssV (l.take 0)).map .val, Nat.blt 0 0⟩)], X⟩, Le.ofR [(500, 5)] (by exact ⟨rfl, rfl, rfl, trivial⟩) (by repeat' (first | exact trivial | refine And.intro ⟨_, rfl, ?_⟩ ?_ | refine And.intro ⟨_, rfl⟩ ?_ | rfl | exact Box.ren_bytes _ _ _ _ | exact Box.ren_vals _ _ _ _ | exact Box.ren_mid rfl)) (by exact rfl) (by exact rfl) (by repeat' (first | refine all_cons_true ?_ ?_ | rfl | exact bytes_inUse | exact vals_inUse | exact mid_inUse rfl)) (by exact rfl) (by exact rfl), 0, by omega, rfl, rfl⟩ ?_
  rintro m σ ⟨i, hi, rfl, rfl⟩
  by_cases hlt : i < l.length
  · obtain ⟨x, hx⟩ : ∃ x, l[i]? = some x := ⟨_, List.getElem?_eq_getElem hlt⟩
    obtain ⟨blk, off, arr, el, fr, rfl, hX, c0, c1, c2, hsz, hcs⟩ := hin.parts hx
    have hio : off + Int.toNat (i : Int) * 6 = off + i * 6 := by simp
    have hadd : IntKind.i64.wrap ((i : Int) + 1) = ((i + 1 : Nat) : Int) := by rw [wrap_i64 (by omega)]; omega
    have hcl := inssV_len (l.take i)
    rw [List.length_take, Nat.min_eq_left hi] at hcl
    have hnc := inssV_snoc (l.take i) x (cs := [.val (.int .i64 x.op), .val (.int .i64 x.a), .val (.int .i64 x.b), .val (.bool x.k.1), .val (.int .u64 (x.k.2 / 18446744073709551616)), .val (.int .u64 (x.k.2 % 18446744073709551616))]) rfl
    rw [← take_snoc hx] at hnc
    (refine LWP.seq <| LWP.seq <| LWP.region (by kernel_rfl) <| kmv rfl <| kmv rfl <| K.lenX rfl SliceT.h rfl .plain ?_; refine klt rfl rfl (decide_eq_true (by omega)) <| RunK.nil <| LWP.condT rfl ?_; refine LWP.skip ?_; refine LWP.seq <| LWP.block <| LWP.draws mixed (by kernel_rfl) <| kmv rfl <| kmv rfl <| kmv rfl <| K.indexX rfl rfl SliceT.h (by omega) hio .plain <| K.fieldAddrX rfl rfl .plain ?_; refine K.loadX rfl hX rfl c0 .plain <| kmv rfl <| kmv rfl <| K.indexX rfl rfl SliceT.h (by omega) hio .plain <| K.fieldAddrX rfl rfl .plain ?_; refine K.loadX rfl hX rfl c1 .plain <| kmv rfl <| kmv rfl <| K.indexX rfl rfl SliceT.h (by omega) hio .plain <| K.fieldAddrX rfl rfl .plain ?_; refine K.loadX rfl hX rfl c2 .plain <| kmv rfl <| kmv rfl <| K.indexX rfl rfl SliceT.h (by omega) hio .plain <| K.fieldAddrX rfl rfl .plain ?_; refine K.loadXagg rfl hX (by kernel_rfl) hsz hcs .plain <| K.build rfl rfl (by exact rfl) (by exact nl6 rfl rfl rfl rfl rfl rfl rfl) .plain ?_; refine K.buildSlc (zs := [.int .i64 0, .int .i64 0, .int .i64 0, .bool false, .int .u64 0, .int .u64 0]) (sz := 6) (e := 54) (cs' := [.val (.int .i64 x.op), .val (.int .i64 x.a), .val (.int .i64 x.b), .val (.bool x.k.1), .val (.int .u64 (x.k.2 / 18446744073709551616)), .val (.int .u64 (x.k.2 % 18446744073709551616))]) (by kernel_rfl) rfl rfl rfl rfl rfl rfl .plain <| K.appendSlc (by_ := 48) (e2 := 54) (l2 := [.val (.int .i64 x.op), .val (.int .i64 x.a), .val (.int .i64 x.b), .val (.bool x.k.1), .val (.int .u64 (x.k.2 / 18446744073709551616)), .val (.int .u64 (x.k.2 % 18446744073709551616))]) (nl := i + 1) (nc := (inssV (l.take (i + 1))).map .val) rfl rfl hcl rfl rfl (Nat.le_refl _) rfl rfl (by kernel_rfl) (by kernel_rfl) (by omega) (by omega) rfl rfl hnc .plain <| kas rfl <| RunK.nil <| And.intro (by kernel_rfl) ?_; refine LWP.region (by kernel_rfl) <| kmv rfl <| kad rfl rfl hadd <| kas rfl <| RunK.nil ?_)
    exact ⟨_, ⟨[(0, Lx (some ⟨blk, off, none⟩) l.length cap), (3, .sv (.one (.slc 500 0 (i + 1) 6))), (4, Ln .i64 (i + 1 : Nat))], [(500, some ⟨54, (inssV (l.take (i + 1))).map .val, Nat.blt 0 (i + 1)⟩)], X⟩, by omega, Le.ofR [(500, 35)] (by exact ⟨rfl, rfl, rfl, trivial⟩) (by repeat' (first | exact trivial | refine And.intro ⟨_, rfl, ?_⟩ ?_ | refine And.intro ⟨_, rfl⟩ ?_ | rfl | exact Box.ren_bytes _ _ _ _ | exact Box.ren_vals _ _ _ _ | exact Box.ren_mid rfl)) (by exact rfl) (by exact rfl) (by repeat' (first | refine all_cons_true ?_ ?_ | rfl | exact bytes_inUse | exact vals_inUse | exact mid_inUse rfl)) (by exact rfl) (by exact rfl), i + 1, by omega, rfl, rfl⟩
  · have e : i = l.length := by omega
    subst e
    rw [List.take_length]
    (refine LWP.seq <| LWP.seq <| LWP.region (by kernel_rfl) <| kmv rfl <| kmv rfl <| K.lenX rfl SliceT.h rfl .plain ?_; refine klt rfl rfl (decide_eq_false (by omega)) <| RunK.nil <| LWP.condF rfl ?_; refine LWP.exit <| LWP.seq <| LWP.region (by kernel_rfl) <| kmv rfl <| kas rfl <| RunK.nil <| LWP.ret ?_)
    refine Leads.le (σ' := ⟨[(2, .sv (.one (.slc 500 0 l.length 6)))], [(500, some ⟨54, (inssV l).map .val, Nat.blt 0 l.length⟩)], X⟩) (Le.ofR [(500, 500)] (by exact ⟨rfl, trivial⟩) (by repeat' (first | exact trivial | refine And.intro ⟨_, rfl, ?_⟩ ?_ | refine And.intro ⟨_, rfl⟩ ?_ | rfl | exact Box.ren_bytes _ _ _ _ | exact Box.ren_vals _ _ _ _ | exact Box.ren_mid rfl)) (by exact rfl) (by exact rfl) (by repeat' (first | refine all_cons_true ?_ ?_ | rfl | exact bytes_inUse | exact vals_inUse | exact mid_inUse rfl)) (by exact rfl) (by exact rfl)) ?_
    refine Leads.le Le.loose (Leads.done ?_)
    exact ⟨[(1000001, 500)], ⟨[_], ⟨rfl, trivial⟩, rfl⟩, (by repeat' (first | exact trivial | refine And.intro ⟨_, rfl, ?_⟩ ?_ | refine And.intro ⟨_, rfl⟩ ?_ | rfl | exact Box.ren_bytes _ _ _ _ | exact Box.ren_vals _ _ _ _ | exact Box.ren_mid rfl)), rfl, rfl⟩
end Go.Proofs.YtimpjdbhalnofaaGreatDoor
end
section
namespace Go.Proofs.YtimpjdbhalnofaaGreatDoor
open Go Go.Lg Go.Lg.Fml Go.Lg.Fld Go.Lg.Arith
set_option maxRecDepth 100000
def code0 : List Ins := [⟨2, 0, 0, (false, 0)⟩, ⟨1, 0, 0, (false, 2)⟩, ⟨7, 0, 0, (false, 0)⟩]
def code1 : List Ins := [⟨1, 0, 0, (false, 0)⟩, ⟨1, 0, 0, (false, 0)⟩, ⟨17, 0, 0, (false, 0)⟩]
def code2 : List Ins := [⟨3, 3, 0, (false, 0)⟩]
theorem small_0 : ∀ x ∈ code0, smallI x := by
  intro x hx
  simp only [code0, List.mem_cons, List.not_mem_nil, or_false] at hx
  rcases hx with rfl | rfl | rfl <;> exact ⟨by decide, by decide, by decide, by show (0 : Int) ≤ _ ∧ _ < _; decide⟩
theorem small_1 : ∀ x ∈ code1, smallI x := by
  intro x hx
  simp only [code1, List.mem_cons, List.not_mem_nil, or_false] at hx
  rcases hx with rfl | rfl | rfl <;> exact ⟨by decide, by decide, by decide, by show (0 : Int) ≤ _ ∧ _ < _; decide⟩
theorem small_2 : ∀ x ∈ code2, smallI x := by
  intro x hx
  simp only [code2, List.mem_cons, List.not_mem_nil, or_false] at hx
  subst hx
  exact ⟨by decide, by decide, by decide, by show (0 : Int) ≤ _ ∧ _ < _; decide⟩
theorem ev0 : evX code0 [[(false, 21)]] 0 = .ok (false, 42) := by rfl
theorem ev0n : evX code0 [] 0 = .error 3 := by rfl
theorem ev1n : evX code1 [] 0 = .error 9 := by rfl
theorem enc2 : encTX code2 = [1, 3, 3] ∧ encErr code2 = 0 := ⟨by rfl, by rfl⟩
theorem dec2 : decX [1, 3, 3] = some code2 := by rfl
theorem itoa0 : Lib.itoa 0 = [48] := by
  rw [show (0 : Int) = ((0 : Nat) : Int) from rfl]
  first
    | rfl
    | decide
    | simp [Lib.itoa, Lib.decDigits]
theorem dec2d : Lib.decDigits 2 = [50] := by
  rw [Lib.decDigits_one (by decide)]
  rfl
theorem show0 : showX code0 = [109, 117, 108, 40, 102, 48, 46, 48, 44, 50, 41] := by
  have h1 : textQ 2 = [50] := dec2d
  have h2 := itoa0
  unfold showX
  rw [if_pos (by rfl)]
  show ((wordX 7 ++ [40]) ++ joinS [([102] ++ dg1 0) ++ ([46] ++ dg1 0), textQ (zz (false, 2))]) ++ [41] = _
  rw [show zz (false, 2) = 2 from rfl, h1, show dg1 0 = [48] from h2]
  rfl
theorem uses0 : usesX code0 = [⟨2, 0, 0, (false, 0)⟩] := by rfl
variable (X : Nat → Option Obj)
theorem fss_nil {ad : Option Addr} : FssIn X ad [] := ⟨fun i r h => by simp at h⟩
theorem eval_lent {S : Nat → Option (Option Box)} {k : Nat} {l : List Ins} {el : TypeId} {row : Bool} (hl : l.length ≤ 1000) (hi : ∀ x ∈ l, smallI x) (hk : S k = some (some ⟨el, (inssV l).map .val, row⟩)) :
    ∀ (Y : Nat → Option Obj) (us : List Value), (∀ b o, X b = some o → Y b = some o) → Lent S Y [.sv (.one (.slc k 0 l.length 6)), LEnv none 0 0 0] us → PSpec Tryz.prog Y 11 (us.map toLV) (exR (evX l [] 0)) := by
  intro Y us hY hL
  obtain ⟨u2, us2, rfl, h2, u3, us3, rfl, h3, rfl⟩ := hL
  have h3 : u3 = .agg [Value.slice none 0 0, .int .i64 0].toArray := h3 [Value.slice none 0 0, .int .i64 0] rfl
  subst h3
  obtain ⟨el', cells, row', hk', blk, cap2, arr, fr, us', sp, rfl, hYb, hc, hfit, harr, hv⟩ := h2
  rw [hk] at hk'
  simp only [Option.some.injEq, Box.mk.injEq] at hk'
  obtain ⟨rfl, rfl, rfl⟩ := hk'
  have := hv (inssV l) rfl
  subst this
  exact gEval Y l (some ⟨blk, 0, none⟩) cap2 (ins_in hYb hi ⟨sp, harr⟩) (by omega) none 0 [] (fss_nil Y) (by decide) (fun r hr => by cases hr) (fun r hr => by cases hr) 0 (by decide)
theorem encode_lent {S : Nat → Option (Option Box)} {k : Nat} {l : List Ins} {el : TypeId} {row : Bool} (hl : l.length ≤ 1000) (hi : ∀ x ∈ l, smallI x) (hk : S k = some (some ⟨el, (inssV l).map .val, row⟩)) :
    ∀ (Y : Nat → Option Obj) (us : List Value), (∀ b o, X b = some o → Y b = some o) → Lent S Y [.sv (.one (.slc k 0 l.length 6))] us → PSpec Tryz.prog Y 18 (us.map toLV) (.tup [Ss (encTX l), Sn .i64 (encErr l)]) := by
  intro Y us hY hL
  obtain ⟨u2, us2, rfl, h2, rfl⟩ := hL
  obtain ⟨el', cells, row', hk', blk, cap2, arr, fr, us', sp, rfl, hYb, hc, hfit, harr, hv⟩ := h2
  rw [hk] at hk'
  simp only [Option.some.injEq, Box.mk.injEq] at hk'
  obtain ⟨rfl, rfl, rfl⟩ := hk'
  have := hv (inssV l) rfl
  subst this
  exact gEncode Y l (some ⟨blk, 0, none⟩) cap2 (ins_in hYb hi ⟨sp, harr⟩) (by omega)
theorem eval_one {ad : Option Addr} {cap : Nat} {bx : List (Nat × Option Box)} (hin : InsIn X ad code0) (h21 : Go.Lg.look 21 bx = some (some ⟨58, [.slc 20 0 1 3], false⟩)) (h20 : Go.Lg.look 20 bx = some (some ⟨30, (nsV [21]).map .val, false⟩)) :
    ∀ (Y : Nat → Option Obj) (us : List Value) (S : Nat → Option (Option Box)) (ι : Nat → Nat × Nat), (∀ b o, X b = some o → Y b = some o) → (∀ k, k ∈ [21, 20] → S k = Go.Lg.look k bx) → LVs.rel S ι [Lx ad 3 cap, .sv (.agg [.slc 21 0 1 1, .val (.int .i64 0)])] us → LentAt [21, 20] S ι Y → PSpec Tryz.prog Y 11 (us.map toLV) (exR (.ok (false, 42))) := by
  intro Y us S ι hY hS hrel hL
  have s21 := (hS 21 (by simp)).trans h21
  have s20 := (hS 20 (by simp)).trans h20
  match us, hrel with
  | [u1, u2], ⟨h1, ⟨av, e1, ha⟩, _⟩ =>
    have h1 : u1 = .slice ad 3 cap := h1
    subst h1
    obtain ⟨arr, fr, g1, _, g3⟩ := hL 21 (by simp) _ s21 rfl
    obtain ⟨varr, vfr, k1, _, k3⟩ := hL 20 (by simp) _ s20 rfl
    have g3 : CVs.rel S ι [.slc 20 0 1 3] arr.toList := g3
    have k3 : CVs.rel S ι ((nsV [21]).map .val) varr.toList := k3
    have k3 := rel_vals k3
    obtain ⟨ec, hav⟩ : ∃ ec, av.toList = [.slice (some ⟨(ι 21).1, 0, none⟩) 1 ec, .int .i64 0] := by
      match av.toList, ha with
      | [x, y], ⟨hx, hy, _⟩ =>
        have hy : y = .int .i64 0 := hy
        have hx : (CV.slc 21 0 1 1).rel S ι x := hx
        simp only [CV.rel, s21] at hx
        obtain ⟨c, rfl, _, _⟩ := hx
        exact ⟨c, by rw [hy]⟩
    have hav : av = #[.slice (some ⟨(ι 21).1, 0, none⟩) 1 ec, .int .i64 0] := by rw [← Array.toArray_toList (xs := av), hav]
    subst e1 hav
    obtain ⟨vc, hva⟩ : ∃ vc, arr.toList = [.slice (some ⟨(ι 20).1, 0, none⟩) 1 vc] := by
      match arr.toList, g3 with
      | [x], ⟨hx, _⟩ =>
        have hx : (CV.slc 20 0 1 3).rel S ι x := hx
        simp only [CV.rel, s20] at hx
        obtain ⟨c, rfl, _, _⟩ := hx
        exact ⟨c, rfl⟩
    have hN : NumsIn Y (some ⟨(ι 20).1, 0, none⟩) [(false, 21)] := nms_in k1 (fun u hu => by rw [List.mem_singleton.1 hu]; show (0 : Int) ≤ 21 ∧ (21 : Int) < _; omega) ⟨[], by rw [k3]; rfl⟩
    have hF : FssIn Y (some ⟨(ι 21).1, 0, none⟩) [[(false, 21)]] := ⟨fun i r hr => by
      match i, hr with
      | 0, hr =>
        simp only [List.getElem?_cons_zero, Option.some.injEq] at hr
        subst hr
        have hl : arr.size = 1 := by rw [← Array.length_toList, hva]; rfl
        exact ⟨(ι 21).1, 0, arr, _, fr, some ⟨(ι 20).1, 0, none⟩, vc, rfl, g1, by omega, by rw [← Array.getElem?_toList, hva]; rfl, hN⟩
      | _ + 1, hr => simp at hr⟩
    have h := gEval Y code0 ad cap (hin.mono hY) (by decide) (some ⟨(ι 21).1, 0, none⟩) ec [[(false, 21)]] hF (by decide) (fun r hr => by rw [List.mem_singleton.1 hr]; decide) (fun r hr u hu => by
      rw [List.mem_singleton.1 hr] at hu
      rw [List.mem_singleton.1 hu]
      show (0 : Int) ≤ 21 ∧ (21 : Int) < _; omega) 0 (by decide)
    rw [ev0] at h
    exact h
end Go.Proofs.YtimpjdbhalnofaaGreatDoor
end
