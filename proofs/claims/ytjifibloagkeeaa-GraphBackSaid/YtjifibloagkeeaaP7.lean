/- A piece of a proof over this program: contracts of its functions, and a logic to prove them by. -/
import Derived.Test.YtjifibloagkeeaaP3
import Derived.Test.YtjifibloagkeeaaP4
import Derived.Test.YtjifibloagkeeaaP5
import Derived.Test.YtjifibloagkeeaaP6
import Derived.Lib.SmallJoins
import Derived.Test.YtjifibloagkeeaaRows
section
namespace Go.Proofs.Ytjifibloagkeeaa
open Go Go.Lg Go.Lg.Fld Go.Lg.Sg Go.Lg.Col
set_option maxRecDepth 100000
theorem few_names {cs : List Cp} (hs : FewC cs) (hm : NamesIn cs) : NamesC cs := fun c hc => ⟨by have := hs.2 c hc; omega, (hm c hc).1, (hm c hc).2⟩
variable (X : Nat → Option Obj)
theorem gNew_no (s : Sc) (archs rows : Int) (ad : Option Addr) (cap : Nat) (hin : CompsIn X ad s.cs) (hm : NamesIn s.cs) (hs : FewC s.cs) (h : goodG s archs rows = false) : PSpec Try.prog X 7 [Sx s.ver ad s.cs.length cap, Ln .i64 archs, Ln .i64 rows] LnilG := by
  have hC := pCheckBig X s ad cap hin (by omega) (few_names hs hm) _ rfl
  refine PSpec.intro Try.func7 rfl (by kernel_rfl) rfl rfl ?_
  intro C
  by_cases hc : chkE s = 0
  case neg =>
    generalize chkE s = e at *
    (refine LWP.seq <| LWP.region (by kernel_rfl) <| K.box rfl rfl rfl .plain <| kas rfl <| RunK.nil <| LWP.seq <| LWP.seq <| LWP.region (by kernel_rfl) <| K.loadAll rfl rfl rfl .plain ?_; refine kca rfl rfl hC <| kne rfl rfl (r := true) (bne_iff_ne.2 hc) <| kmv rfl <| RunK.passed rfl rfl rfl <| RunK.passed rfl rfl rfl <| kpt rfl rfl <| kmv rfl <| RunK.passed rfl rfl rfl <| RunK.passed rfl rfl rfl <| kpt rfl rfl <| kmv rfl <| RunK.passed rfl rfl rfl <| RunK.passed rfl rfl rfl <| kpt rfl rfl ?_; refine kmv rfl <| RunK.passed rfl rfl rfl <| RunK.passed rfl rfl rfl <| kpt rfl rfl <| RunK.nil <| LWP.condT rfl ?_; refine LWP.seq <| LWP.region (by kernel_rfl) <| kas rfl <| RunK.nil <| LWP.ret ?_)
    exact ⟨[_], ⟨rfl, trivial⟩, rfl⟩
  unfold goodG at h
  rw [hc] at hC h
  by_cases h1 : archs < 1
  · (refine LWP.seq <| LWP.region (by kernel_rfl) <| K.box rfl rfl rfl .plain <| kas rfl <| RunK.nil <| LWP.seq <| LWP.seq <| LWP.region (by kernel_rfl) <| K.loadAll rfl rfl rfl .plain ?_; refine kca rfl rfl hC <| kne rfl rfl (r := false) rfl <| kmv rfl <| gmv rfl rfl rfl <| K.lss rfl rfl (decide_eq_true h1) (.taken rfl rfl) ?_; refine kpf rfl rfl <| kmv rfl <| RunK.passed rfl rfl rfl <| RunK.passed rfl rfl rfl <| kpt rfl rfl <| kmv rfl <| RunK.passed rfl rfl rfl <| RunK.passed rfl rfl rfl <| kpt rfl rfl <| kmv rfl <| RunK.passed rfl rfl rfl <| RunK.passed rfl rfl rfl <| kpt rfl rfl <| RunK.nil ?_; refine LWP.condT rfl ?_; refine LWP.seq <| LWP.region (by kernel_rfl) <| kas rfl <| RunK.nil <| LWP.ret ?_)
    exact ⟨[_], ⟨rfl, trivial⟩, rfl⟩
  by_cases h2 : 64 < archs
  · (refine LWP.seq <| LWP.region (by kernel_rfl) <| K.box rfl rfl rfl .plain <| kas rfl <| RunK.nil <| LWP.seq <| LWP.seq <| LWP.region (by kernel_rfl) <| K.loadAll rfl rfl rfl .plain ?_; refine kca rfl rfl hC <| kne rfl rfl (r := false) rfl <| kmv rfl <| gmv rfl rfl rfl <| K.lss rfl rfl (decide_eq_false h1) (.taken rfl rfl) ?_; refine kpf rfl rfl <| kmv rfl <| gmv rfl rfl rfl <| K.gtr rfl rfl (decide_eq_true h2) (.taken rfl rfl) ?_; refine kpf rfl rfl <| kmv rfl <| RunK.passed rfl rfl rfl <| RunK.passed rfl rfl rfl <| kpt rfl rfl <| kmv rfl <| RunK.passed rfl rfl rfl <| RunK.passed rfl rfl rfl <| kpt rfl rfl <| RunK.nil <| LWP.condT rfl ?_; refine LWP.seq <| LWP.region (by kernel_rfl) <| kas rfl <| RunK.nil <| LWP.ret ?_)
    exact ⟨[_], ⟨rfl, trivial⟩, rfl⟩
  by_cases h3 : rows < 1
  · (refine LWP.seq <| LWP.region (by kernel_rfl) <| K.box rfl rfl rfl .plain <| kas rfl <| RunK.nil <| LWP.seq <| LWP.seq <| LWP.region (by kernel_rfl) <| K.loadAll rfl rfl rfl .plain ?_; refine kca rfl rfl hC <| kne rfl rfl (r := false) rfl <| kmv rfl <| gmv rfl rfl rfl <| K.lss rfl rfl (decide_eq_false h1) (.taken rfl rfl) ?_; refine kpf rfl rfl <| kmv rfl <| gmv rfl rfl rfl <| K.gtr rfl rfl (decide_eq_false h2) (.taken rfl rfl) ?_; refine kpf rfl rfl <| kmv rfl <| gmv rfl rfl rfl <| K.lss rfl rfl (decide_eq_true h3) (.taken rfl rfl) ?_; refine kpf rfl rfl <| kmv rfl <| RunK.passed rfl rfl rfl <| RunK.passed rfl rfl rfl <| kpt rfl rfl <| RunK.nil <| LWP.condT rfl ?_; refine LWP.seq <| LWP.region (by kernel_rfl) <| kas rfl <| RunK.nil <| LWP.ret ?_)
    exact ⟨[_], ⟨rfl, trivial⟩, rfl⟩
  have h4 : 256 < rows := by
    rw [decide_eq_true rfl, Bool.true_and, decide_eq_true (by omega), decide_eq_true (by omega), decide_eq_true (by omega), Bool.true_and, Bool.true_and, Bool.true_and, decide_eq_false_iff_not] at h
    omega
  (refine LWP.seq <| LWP.region (by kernel_rfl) <| K.box rfl rfl rfl .plain <| kas rfl <| RunK.nil <| LWP.seq <| LWP.seq <| LWP.region (by kernel_rfl) <| K.loadAll rfl rfl rfl .plain ?_; refine kca rfl rfl hC <| kne rfl rfl (r := false) rfl <| kmv rfl <| gmv rfl rfl rfl <| K.lss rfl rfl (decide_eq_false h1) (.taken rfl rfl) ?_; refine kpf rfl rfl <| kmv rfl <| gmv rfl rfl rfl <| K.gtr rfl rfl (decide_eq_false h2) (.taken rfl rfl) ?_; refine kpf rfl rfl <| kmv rfl <| gmv rfl rfl rfl <| K.lss rfl rfl (decide_eq_false h3) (.taken rfl rfl) ?_; refine kpf rfl rfl <| kmv rfl <| gmv rfl rfl rfl <| K.gtr rfl rfl (decide_eq_true h4) (.taken rfl rfl) ?_; refine kpf rfl rfl <| RunK.nil <| LWP.condT rfl ?_; refine LWP.seq <| LWP.region (by kernel_rfl) <| kas rfl <| RunK.nil <| LWP.ret ?_)
  exact ⟨[_], ⟨rfl, trivial⟩, rfl⟩
set_option maxHeartbeats 6400000 in
theorem gNew (s : Sc) (archs rows : Nat) (ad : Option Addr) (cap : Nat) (hin : CompsIn X ad s.cs) (hm : NamesIn s.cs) (hs : FewC s.cs) (h : goodG s (archs : Nat) (rows : Nat) = true) : MSpec Try.prog X 7 [Sx s.ver ad s.cs.length cap, Ln .i64 (archs : Nat), Ln .i64 (rows : Nat)] [] (Lp 1000001) [gB 1000001 ⟨s, archs, rows, [], []⟩] := by
  have hC := pCheckBig X s ad cap hin (by omega) (few_names hs hm) _ rfl
  have hCl := pCloneBig X s.ver ad cap s.cs hin (by omega) fun c hc => by have := hs.2 c hc; omega
  unfold goodG at h
  simp only [Bool.and_eq_true, decide_eq_true_eq] at h
  obtain ⟨⟨⟨⟨hc, h1⟩, h2⟩, h3⟩, h4⟩ := h
  rw [hc] at hC
  refine MSpec.intro Try.func7 rfl (by kernel_rfl) rfl rfl (by exact (by repeat' (first | refine all_cons_true ?_ ?_ | rfl | exact bytes_inUse | exact vals_inUse | exact mid_inUse rfl))) rfl rfl ?_
  intro C
  refine LWP.ends ?_
  generalize hnc : s.cs.length = nc at *
  (refine LWP.seq <| LWP.region (by kernel_rfl) <| K.box rfl rfl rfl .plain <| kas rfl <| RunK.nil <| LWP.seq <| LWP.seq <| LWP.region (by kernel_rfl) <| K.loadAll rfl rfl rfl .plain ?_; refine kca rfl rfl hC <| kne rfl rfl (r := false) rfl <| kmv rfl <| gmv rfl rfl rfl <| K.lss rfl rfl (decide_eq_false (by omega)) (.taken rfl rfl) ?_; refine kpf rfl rfl <| kmv rfl <| gmv rfl rfl rfl <| K.gtr rfl rfl (decide_eq_false (by omega)) (.taken rfl rfl) ?_; refine kpf rfl rfl <| kmv rfl <| gmv rfl rfl rfl <| K.lss rfl rfl (decide_eq_false (by omega)) (.taken rfl rfl) ?_; refine kpf rfl rfl <| kmv rfl <| gmv rfl rfl rfl <| K.gtr rfl rfl (decide_eq_false (by omega)) (.taken rfl rfl) ?_; refine kpf rfl rfl <| RunK.nil <| LWP.condF rfl ?_; refine LWP.skip ?_; refine LWP.seq <| LWP.region (by kernel_rfl) <| K.loadAll rfl rfl rfl .plain ?_; refine K.callMp [(1000001, 602)] (.sv (.agg [.val (.int .i64 s.ver), .slc 602 0 nc 3])) [scB 602 s.cs] (hCl) rfl rfl (by exact trivial) rfl rfl rfl rfl rfl (by exact (.box rfl rfl .nil)) .plain <| kmv rfl <| kmv rfl <| K.makeMap WK rfl .plain ?_; refine K.build rfl rfl (by exact rfl) (by exact nl6 rfl rfl rfl rfl rfl rfl rfl) .plain ?_; refine K.box rfl rfl rfl .plain <| kas rfl <| RunK.nil <| LWP.ret ?_)
  refine Leads.le (σ' := ⟨[(6, Lp 32)], [(32, some ⟨60, [.val (.int .i64 s.ver)] ++ .slc 602 0 nc 3 :: [.val (.int .i64 (archs : Nat)), .val (.int .i64 (rows : Nat)), .val nilSlc, .mp 30], false⟩), scB 602 s.cs, (30, some ⟨0, [], .res (mapR Try.prog WK [])⟩)], X⟩) (Le.of (by exact ⟨rfl, trivial⟩) (by exact ⟨rfl, rfl, rfl, trivial⟩) (by exact rfl) (by exact rfl) (by repeat' (first | refine all_cons_true ?_ ?_ | rfl | exact bytes_inUse | exact vals_inUse | exact mid_inUse rfl))) ?_
  refine Leads.fixCell rfl rfl rfl rfl rfl rfl fun ρ H2 cc hsc hO2 hcc _ => ?_
  obtain ⟨cb, cm⟩ := ρ
  refine Leads.fixRsc (k := 30) (s := [(6, Lp 32)]) (bx := []) (s0 := []) (b0 := [(32, some ⟨60, [.val (.int .i64 s.ver), .val (.slice (some ⟨cb, 0, none⟩) nc cc), .val (.int .i64 (archs : Nat)), .val (.int .i64 (rows : Nat)), .val nilSlc, .mp 30], false⟩)]) (by rfl) (by rfl) (by rfl) (by rfl) (by rfl) fun ρ Hm k1 k2 => ?_
  obtain ⟨mb, mn⟩ := ρ
  refine Leads.le (σ' := ⟨[(6, Lp 32)], [gO 32 (grV ⟨s, archs, rows, [], []⟩ (.slice (some ⟨cb, 0, none⟩) nc cc) nilSlc mb)], joinM X (joinM (joinM (joinM H2 Hm) (fun _ => none)) (fun _ => none))⟩) (by
    rw [joinM_nil, joinM_nil, ← joinM_join]
    exact Le.of (by exact ⟨rfl, trivial⟩) (by exact ⟨rfl, trivial⟩) (by exact rfl) (by exact rfl) (by repeat' (first | refine all_cons_true ?_ ?_ | rfl | exact bytes_inUse | exact vals_inUse | exact mid_inUse rfl))) ?_
  refine g_shut (g := ⟨s, archs, rows, [], []⟩) (own4_join hO2 k2 (OwnedM.nil _ _) (OwnedM.nil _ _)) ⟨H2, Hm, fun _ => none, fun _ => none, _, _, mb, [], [], rfl, rfl, ap_own k2, fun b hb => absurd rfl hb, fun b hb => absurd rfl hb, ⟨cb, cc, by rw [← hnc], scR_in hsc fun _ _ h => h⟩, ⟨mn, k1⟩, Refs.nil _, .inl ⟨rfl, rfl⟩, .none rfl, hm, hs⟩ (Leads.done ?_)
  exact ⟨[(1000001, 32)], ⟨[_], ⟨rfl, trivial⟩, rfl⟩, (by repeat' (first | exact trivial | refine And.intro ⟨_, rfl, ?_⟩ ?_ | refine And.intro ⟨_, rfl⟩ ?_ | rfl | exact Box.ren_bytes _ _ _ _ | exact Box.ren_vals _ _ _ _ | exact Box.ren_mid rfl)), rfl, rfl⟩
theorem GrHS.grow' {g g' : Gr} {H Hs Hm Hr Hn Ha' : Nat → Option Obj} {vC vT' : Value} {mb : Nat} {ps qs ts : List Nat} {m : List (Value × Value)} {C : Ctx} (hsc : ∃ (cb cc : Nat), vC = .slice (some ⟨cb, 0, none⟩) g.sc.cs.length cc ∧ CompsIn Hs (some ⟨cb, 0, none⟩) g.sc.cs) (hrf : Refs Hr ps (tabsG g)) (hnm : NamesIn g.sc.cs) (hfw : FewC g.sc.cs)
    (hmap : ∃ mn, (mapR Try.prog WK m).holds (mb, mn) Hm) (hw : WaysOk g' m) (e1 : g'.sc = g.sc) (e2 : g'.rows = g.rows) (e4 : g'.l = g.l ++ ts)
    (o1 : OwnedM C X Hs) (o2 : OwnedM C (joinM X Hs) Hm) (o3 : OwnedM C (joinM (joinM X Hs) Hm) Hr) (on : OwnedM C (joinM (joinM (joinM X Hs) Hm) Hr) Hn) (oa : OwnedM C (joinM (joinM (joinM (joinM X Hs) Hm) Hr) Hn) Ha') (hR : Refs Hn qs (tabs g ts)) (hA : TArr Ha' vT' (ps ++ qs)) (hH : H = joinM (joinM (joinM Hs Hm) (joinM Hr Hn)) Ha') :
    OwnedM C X H ∧ GrHS H g' Hs Hm (joinM Hr Hn) Ha' vC vT' mb (ps ++ qs) m ∧ joinM (joinM (joinM (joinM (joinM X Hs) Hm) Hr) Hn) Ha' = joinM X H := by
  have o34 := o3.join on
  have oa' : OwnedM C (joinM (joinM (joinM X Hs) Hm) (joinM Hr Hn)) Ha' := by rw [← joinM_join]; exact oa
  obtain ⟨a1, a2, a3⟩ := ap4 o2 o34 oa'
  subst hH
  refine ⟨own4_join o1 o2 o34 oa', ⟨rfl, a1, a2, a3, ?_⟩, by simp only [joinM_join]⟩
  have hR2 := hrf.append hR (ap_own on)
  have htb : tabsG g' = tabsG g ++ tabs g ts := by
    unfold tabsG tbl
    rw [e1, e2, e4, List.map_append]
  exact ⟨by rw [e1]; exact hsc, hmap, by rw [htb]; exact hR2, hA, hw, by rw [e1]; exact hnm, by rw [e1]; exact hfw⟩
theorem GrHS.grow {g g' : Gr} {H Hs Hm Hr Ha Hn Ha' : Nat → Option Obj} {vC vT vT' : Value} {mb : Nat} {ps qs ts : List Nat} {m : List (Value × Value)} {C : Ctx} (h : GraIn g Hs Hm Hr Ha vC vT mb ps m) (e1 : g'.sc = g.sc) (e2 : g'.rows = g.rows) (e3 : g'.w = g.w) (e4 : g'.l = g.l ++ ts)
    (o1 : OwnedM C X Hs) (o2 : OwnedM C (joinM X Hs) Hm) (o3 : OwnedM C (joinM (joinM X Hs) Hm) Hr) (on : OwnedM C (joinM (joinM (joinM X Hs) Hm) Hr) Hn) (oa : OwnedM C (joinM (joinM (joinM (joinM X Hs) Hm) Hr) Hn) Ha') (hR : Refs Hn qs (tabs g ts)) (hA : TArr Ha' vT' (ps ++ qs)) (hH : H = joinM (joinM (joinM Hs Hm) (joinM Hr Hn)) Ha') :
    OwnedM C X H ∧ GrHS H g' Hs Hm (joinM Hr Hn) Ha' vC vT' mb (ps ++ qs) m ∧ joinM (joinM (joinM (joinM (joinM X Hs) Hm) Hr) Hn) Ha' = joinM X H :=
  GrHS.grow' X h.sc h.refs h.names h.few h.map (h.ways.same_l ⟨ts, e4⟩ e1 e3) e1 e2 e4 o1 o2 o3 on oa hR hA hH
set_option maxHeartbeats 3200000 in
theorem gMake (g : Gr) (hk : GrOk g) (s : Nat) (hs : s < 4294967296) : MSpec Try.prog X 8 [Lp 1000000, Ln .u32 (s : Nat)] [gB 1000000 g] (.tup [Sn .i64 (makeN g s : Nat), Sn .i64 (makeE g s)]) [gB 1000000 (makeG g s)] := by
  refine MSpec.intro Try.func8 rfl (by kernel_rfl) rfl rfl (by exact (by repeat' (first | refine all_cons_true ?_ ?_ | rfl | exact bytes_inUse | exact vals_inUse | exact mid_inUse rfl))) rfl rfl ?_
  intro C
  refine g_open fun H vals hO hH => ?_
  have hX := g_in hO hH
  obtain ⟨Hs, Hm, Hr, Ha, vC, vT, mb, ps, m, rfl, hHS⟩ := hH
  obtain ⟨o1, o2, o3, o4, e⟩ := own4 hO hHS.mem hHS.a1 hHS.a2 hHS.a3
  obtain ⟨pad, pcap, rfl⟩ := hHS.to.arr.slice
  have hI : GrX (joinM X H) g vC (.slice pad ps.length pcap) mb ps m := by
    rw [e]
    exact hHS.to.x hk (fun b o hb => joinM_has o4 (joinM_has o3 (joinM_has o2 (joinM_in hb)))) (fun b o hb => joinM_has o4 (joinM_has o3 (joinM_in hb))) (fun b o hb => joinM_has o4 (joinM_in hb)) (fun b o hb => joinM_in hb)
  rw [e] at hI ⊢
  refine LWP.exits (Mid := fun σ => retM Try.prog Try.f8 [gB 1000000 g] (.tup [Sn .i64 (makeN g s : Nat), Sn .i64 (makeE g s)]) [gB 1000000 (makeG g s)] .ret σ) ?_ (fun _ h => h) (fun _ h => h)
  refine make_body rfl g vC pad pcap mb ps m s hs hk o4 hHS.to.arr hI fun qs ts Hn Ha' vT' hl on oa hR hA => ?_
  obtain ⟨p1, p2, p3⟩ := GrHS.grow X (g' := makeG g s) hHS.to rfl rfl rfl hl o1 o2 o3 on oa hR hA rfl
  rw [p3]
  generalize makeN g s = mn
  generalize makeE g s = me
  refine g_shut (k := 1000000) (g := makeG g s) (vals := grV (makeG g s) vC vT' mb) p1 ⟨_, _, _, _, _, _, _, _, _, rfl, p2⟩ (Leads.done ?_)
  exact ⟨[], ⟨[_, _], ⟨rfl, rfl, trivial⟩, rfl⟩, (by repeat' (first | exact trivial | refine And.intro ⟨_, rfl, ?_⟩ ?_ | refine And.intro ⟨_, rfl⟩ ?_ | rfl | exact Box.ren_bytes _ _ _ _ | exact Box.ren_vals _ _ _ _ | exact Box.ren_mid rfl)), rfl, rfl⟩
end Go.Proofs.Ytjifibloagkeeaa
end
section
namespace Go.Proofs.Ytjifibloagkeeaa
open Go Go.Lg Go.Lg.Fld Go.Lg.Sg Go.Lg.Col
set_option maxRecDepth 100000
def gnR (g : Gr) (s : Nat) (vC : Value) (mb : Nat) (ps : List Nat) : Rsc := ⟨fun ρ H => ρ.2 = 6 ∧ ∃ (fr : Nat × Nat) (qs ts : List Nat) (Hn Ha : Nat → Option Obj) (vT : Value), H ρ.1 = some (.cells (grV g vC vT mb).toArray 60 fr) ∧ cutM H ρ.1 = joinM Hn Ha ∧ ApM Hn Ha ∧
  makeL g s = g.l ++ ts ∧ Refs Hn qs (tabs g ts) ∧ TArr Ha vT (ps ++ qs)⟩
abbrev gnB (k : Nat) (g : Gr) (s : Nat) (vC : Value) (mb : Nat) (ps : List Nat) : Nat × Option Box := (k, some ⟨0, [], .res (gnR g s vC mb ps)⟩)
abbrev ptB (k : Nat) (ps : List Nat) (r : Bool) : Nat × Option Box := (k, some ⟨PT, (pvs ps).map .val, r⟩)
section
variable {P : Program} {n : Nat} {C : Ctx} {c : Code} {Q : Exit → St → Prop} {X : Nat → Option Obj} {sl : List (Nat × LV)} {bx : List (Nat × Option Box)} {k : Nat}
theorem gn_open {g : Gr} {s : Nat} {vC : Value} {mb : Nat} {ps : List Nat}
    (h : ∀ (qs ts : List Nat) (Hn Ha : Nat → Option Obj) (vT : Value), makeL g s = g.l ++ ts → OwnedM C X Hn → OwnedM C (joinM X Hn) Ha → Refs Hn qs (tabs g ts) → TArr Ha vT (ps ++ qs) → LWP P n C c Q ⟨sl, gS k g (.val vC) (.val vT) (mV mb) :: bx, joinM (joinM X Hn) Ha⟩) :
    LWP P n C c Q ⟨sl, gnB k g s vC mb ps :: bx, X⟩ := by
  refine LWP.openRes (fun ρ H h => ?_) fun ρ H vals el fr hR hv hO => ?_
  · obtain ⟨h1, fr, _, _, _, _, _, h2, _⟩ := h
    exact ⟨_, _, fr, h2, by rw [h1]; rfl⟩
  · obtain ⟨h1, fr', qs, ts, Hn, Ha, vT, h2, h3, h4, h5, h6, h7⟩ := hR
    rw [hv] at h2
    simp only [Option.some.injEq, Obj.cells.injEq] at h2
    obtain ⟨rfl, rfl, rfl⟩ := h2
    have hO1 := hO.cut ρ.1
    rw [h3] at hO1 ⊢
    obtain ⟨p1, p2⟩ := own_join hO1 rfl h4
    rw [← joinM_join]
    exact h qs ts Hn Ha vT h5 p1 p2 h6 h7
end
variable (X : Nat → Option Obj)
set_option maxHeartbeats 3200000 in
theorem gMakeHalf (g : Gr) (hk : GrOk g) (s : Nat) (hs : s < 4294967296) (vC : Value) (mb : Nat) (ps : List Nat) (m : List (Value × Value)) (r : Bool)
    (hI : ∀ (Y : Nat → Option Obj) (vT : Value), (∀ b o, X b = some o → Y b = some o) → PtrsIn Y vT ps → GrX Y g vC vT mb ps m) :
    MSpec Try.prog X 8 [Lp 1000000, Ln .u32 (s : Nat)] [gS 1000000 g (.val vC) (.slc 1000001 0 ps.length 1) (mV mb), ptB 1000001 ps r] (.tup [Sn .i64 (makeN g s : Nat), Sn .i64 (makeE g s)]) [gnB 1000000 g s vC mb ps, (1000001, none)] := by
  refine MSpec.intro Try.func8 rfl (by kernel_rfl) rfl rfl (by exact (by repeat' (first | refine all_cons_true ?_ ?_ | rfl | exact bytes_inUse | exact vals_inUse | exact mid_inUse rfl))) rfl rfl ?_
  intro C
  refine LWP.toNil ?_
  refine LWP.closeCell (A := [.val (.int .i64 g.sc.ver), .val vC, .val (.int .i64 (g.archs : Nat)), .val (.int .i64 (g.rows : Nat))]) (B := [mV mb]) (OwnedM.nil C X) (by rw [pvs_len]; omega) rfl rfl rfl rfl rfl rfl fun b o v _ _ hO hL => ?_
  generalize withBlock (fun _ => none) b o = Ha at *
  have hA : TArr Ha v ps := .inr ⟨b, hL⟩
  obtain ⟨pad, pcap, rfl⟩ := hA.slice
  have hG := hI (joinM X Ha) (.slice pad ps.length pcap) (fun b o hb => joinM_has hO hb) (hA.ptrs.mono fun b o hb => joinM_in hb)
  refine LWP.exits (Mid := fun σ => retM Try.prog Try.f8 [gS 1000000 g (.val vC) (.slc 1000001 0 ps.length 1) (mV mb), ptB 1000001 ps r] (.tup [Sn .i64 (makeN g s : Nat), Sn .i64 (makeE g s)]) [gnB 1000000 g s vC mb ps, (1000001, none)] .ret σ) ?_ (fun _ h => h) (fun _ h => h)
  refine make_body rfl g vC pad pcap mb ps m s hs hk hO hA hG fun qs ts Hn Ha' vT' hl on oa hR hA' => ?_
  generalize makeN g s = mn
  generalize makeE g s = me
  rw [joinM_join]
  refine Leads.dead (k := 1000001) rfl ?_
  refine Leads.le (σ' := ⟨[(4, Ln .i64 (mn : Nat)), (5, Ln .i64 me)], [gS 1000000 g (.val vC) (.val vT') (mV mb), (1000001, none)], joinM X (joinM Hn Ha')⟩) (Le.same ⟨fun _ => rfl, fun j => (by
    show cond (Nat.beq 1000001 j) _ (cond (Nat.beq 1000000 j) _ _) = cond (Nat.beq 1000000 j) _ (cond (Nat.beq 1000001 j) _ _)
    by_cases e : j = 1000001
    · subst e; rfl
    · rw [show Nat.beq 1000001 j = false from by cases h : Nat.beq 1000001 j; rfl; exact absurd (Nat.eq_of_beq_eq_true h).symm e]; rfl), rfl⟩) ?_
  refine Leads.closeRes (vals := grV g vC vT' mb) (R := gnR g s vC mb ps) (on.join oa) (fun ρ fr g1 _ g3 => ⟨g3, fr, qs, ts, Hn, Ha', vT', withBlock_at _ _ _, by rw [cut_with g1], ap_own oa, hl, hR, hA'⟩) (Leads.done ?_)
  exact ⟨[], ⟨[_, _], ⟨rfl, rfl, trivial⟩, rfl⟩, (by repeat' (first | exact trivial | refine And.intro ⟨_, rfl, ?_⟩ ?_ | refine And.intro ⟨_, rfl⟩ ?_ | rfl | exact Box.ren_bytes _ _ _ _ | exact Box.ren_vals _ _ _ _ | exact Box.ren_mid rfl)), rfl, rfl⟩
theorem minus_self (H : Nat → Option Obj) : minusM H H = fun _ => none := by
  funext b
  unfold minusM
  cases H b <;> rfl
set_option maxHeartbeats 12800000 in
theorem gStep (g : Gr) (hk : GrOk g) (i c : Int) (a : Bool) (hi : In6 i) (hc : In6 c) : MSpec Try.prog X 11 [Lp 1000000, Ln .i64 i, Ln .i64 c, Lb a] [gB 1000000 g] (.tup [Sn .i64 (stepN g i c a : Nat), Sn .i64 (stepE g i c a)]) [gB 1000000 (stepG g i c a)] := by
  refine MSpec.intro Try.func11 rfl (by kernel_rfl) rfl rfl (by exact (by repeat' (first | refine all_cons_true ?_ ?_ | rfl | exact bytes_inUse | exact vals_inUse | exact mid_inUse rfl))) rfl rfl ?_
  intro C
  refine LWP.ends ?_
  refine g_open fun H vals hO hH => ?_
  obtain ⟨Hs, Hm, Hr, Ha, vC, vT, mb, ps, m, rfl, hHS⟩ := hH
  obtain ⟨o1, o2, o3, o4, e⟩ := own4 hO hHS.mem hHS.a1 hHS.a2 hHS.a3
  obtain ⟨pad, pcap, rfl⟩ := hHS.to.arr.slice
  have hI : GrX (joinM X H) g vC (.slice pad ps.length pcap) mb ps m := by
    rw [e]
    exact hHS.to.x hk (fun b o hb => joinM_has o4 (joinM_has o3 (joinM_has o2 (joinM_in hb)))) (fun b o hb => joinM_has o4 (joinM_has o3 (joinM_in hb))) (fun b o hb => joinM_has o4 (joinM_in hb)) (fun b o hb => joinM_in hb)
  have hGH : GrH H (grV g vC (.slice pad ps.length pcap) mb) g := ⟨_, _, _, _, _, _, _, _, _, rfl, hHS⟩
  obtain ⟨v, h1, h2, h3⟩ := wayAt _ g vC pad pcap mb ps m hI hk (i, c, a)
  obtain ⟨kl, hkl⟩ := wyK_key (x := (i, c, a)) hi hc
  have hm := hI.map
  (refine LWP.seq <| LWP.region (by kernel_rfl) <| kas rfl <| kas rfl <| RunK.nil <| LWP.seq <| LWP.seq <| LWP.region (by kernel_rfl) <| kmv rfl <| K.ptrNil rfl (by kernel_rfl) (.inl ⟨rfl, rfl⟩) .plain <| RunK.nil <| LWP.condF rfl ?_; refine LWP.skip ?_; refine LWP.seq <| LWP.region (by kernel_rfl) <| kmv rfl <| kmv rfl <| kmv rfl <| K.build rfl rfl (by exact rfl) (by exact nl3 rfl rfl rfl rfl) .plain ?_; refine K.alloc rfl .plain ?_; refine K.storeAll rfl rfl rfl rfl rfl rfl .plain ?_; refine RunK.nil <| LWP.seq <| LWP.seq ?_)
  refine LWP.le (σ' := ⟨[(0, Lp 1000000), (1, Ln .i64 i), (10, Lp 10)], [wyB 10 i c a, gS 1000000 g (.val vC) (vS' pad ps.length pcap) (mV mb)], joinM X H⟩) (Le.of (by exact ⟨rfl, rfl, rfl, trivial⟩) (by exact ⟨rfl, rfl, trivial⟩) (by exact rfl) (by exact rfl) (by repeat' (first | refine all_cons_true ?_ ?_ | rfl | exact bytes_inUse | exact vals_inUse | exact mid_inUse rfl))) ?_
  cases hq : knowsW g.w (i, c, a) with
  | true =>
    obtain ⟨_, k2, k3⟩ := hI.ways.known hk hq
    rw [k2, k3]
    have hv := h2 hq
    simp only at hv
    subst hv
    rw [hq] at h3
    generalize stepN g i c a = sn at *
    (refine LWP.draws mixed (by kernel_rfl) <| kmv rfl <| K.nilCheck rfl .plain <| kfa rfl rfl ?_; refine kl1 rfl rfl rfl <| K.loadAll rfl rfl rfl .plain ?_; refine K.lookupOkX (kt := WK) (et := 3) (z := .int .i64 0) rfl rfl (agg_key (us := [.int .i64 i, .int .i64 c, .bool a])) hm (by kernel_rfl) wyL hkl (by kernel_rfl) h1 h3 .plain ?_; refine kmv rfl <| kex rfl rfl <| kex rfl rfl <| kas rfl <| kas rfl <| RunK.nil <| And.intro (by kernel_rfl) ?_; refine LWP.seq <| LWP.region (by kernel_rfl) <| kmv rfl <| RunK.nil <| LWP.condT rfl ?_; refine LWP.seq <| LWP.region (by kernel_rfl) <| kmv rfl <| kas rfl <| kas rfl <| RunK.nil <| LWP.ret ?_)
    refine Leads.le (σ' := ⟨[(8, Ln .i64 (sn : Nat)), (9, Ln .i64 0)], [gO 1000000 (grV g vC (.slice pad ps.length pcap) mb)], joinM X H⟩) (Le.of (by exact ⟨rfl, rfl, trivial⟩) (by exact ⟨rfl, trivial⟩) (by exact rfl) (by exact rfl) (by repeat' (first | refine all_cons_true ?_ ?_ | rfl | exact bytes_inUse | exact vals_inUse | exact mid_inUse rfl))) ?_
    refine g_shut hO hGH (Leads.done ?_)
    exact ⟨[], ⟨[_, _], ⟨rfl, rfl, trivial⟩, rfl⟩, (by repeat' (first | exact trivial | refine And.intro ⟨_, rfl, ?_⟩ ?_ | refine And.intro ⟨_, rfl⟩ ?_ | rfl | exact Box.ren_bytes _ _ _ _ | exact Box.ren_vals _ _ _ _ | exact Box.ren_mid rfl)), rfl, rfl⟩
  | false =>
    rw [hq] at h3
    clear h2
    have hch := hcheck0 _ g vC pad pcap mb ps m hI hk i c a
    (refine LWP.draws mixed (by kernel_rfl) <| kmv rfl <| K.nilCheck rfl .plain <| kfa rfl rfl ?_; refine kl1 rfl rfl rfl <| K.loadAll rfl rfl rfl .plain ?_; refine K.lookupOkX (kt := WK) (et := 3) (z := .int .i64 0) rfl rfl (agg_key (us := [.int .i64 i, .int .i64 c, .bool a])) hm (by kernel_rfl) wyL hkl (by kernel_rfl) h1 h3 .plain ?_; refine kmv rfl <| kex rfl rfl <| kex rfl rfl <| kas rfl <| kas rfl <| RunK.nil <| And.intro (by kernel_rfl) ?_; refine LWP.seq <| LWP.region (by kernel_rfl) <| kmv rfl <| RunK.nil <| LWP.condF rfl ?_; refine LWP.skip ?_; refine LWP.seq <| LWP.seq <| LWP.region (by kernel_rfl) <| kmv rfl <| K.loadAll rfl rfl rfl .plain ?_; refine K.callR [(1000000, 1000000)] (hch) rfl rfl (by exact (And.intro ⟨_, rfl, rfl⟩ trivial)) (by exact (all_cons_true (all_cons_true rfl (all_cons_true rfl (all_cons_true rfl (all_cons_true rfl (all_cons_true rfl (all_cons_true rfl rfl)))))) rfl)) rfl rfl rfl rfl .plain <| kas rfl <| RunK.nil <| LWP.seq ?_)
    refine LWP.le (σ' := ⟨[(0, Lp 1000000), (1, Ln .i64 i), (10, Lp 10), (13, Ln .i64 (chkS g i c a))], [wyB 10 i c a, gS 1000000 g (.val vC) (vS' pad ps.length pcap) (mV mb)], joinM X H⟩) (Le.of (by exact ⟨rfl, rfl, rfl, rfl, trivial⟩) (by exact ⟨rfl, rfl, trivial⟩) (by exact rfl) (by exact rfl) (by repeat' (first | refine all_cons_true ?_ ?_ | rfl | exact bytes_inUse | exact vals_inUse | exact mid_inUse rfl))) ?_
    have hsE := stepE_chk g i c a
    by_cases hz : chkS g i c a = 0
    case neg =>
      rw [if_neg hz] at hsE
      have e2 : stepG g i c a = g := by unfold stepG; rw [if_neg (by rw [hsE]; exact hz)]
      have e3 : stepN g i c a = 0 := by unfold stepN; rw [if_neg (by rw [hsE]; exact hz)]
      rw [hsE, e2, e3]
      clear hsE hch
      generalize chkS g i c a = ce at *
      (refine LWP.region (by kernel_rfl) <| kmv rfl <| kne rfl rfl (r := true) (bne_iff_ne.2 hz) <| RunK.nil <| LWP.condT rfl ?_; refine LWP.seq <| LWP.region (by kernel_rfl) <| kmv rfl <| kas rfl <| kas rfl <| RunK.nil <| LWP.ret ?_)
      refine Leads.le (σ' := ⟨[(8, Ln .i64 (0 : Nat)), (9, Ln .i64 ce)], [gO 1000000 (grV g vC (.slice pad ps.length pcap) mb)], joinM X H⟩) (Le.of (by exact ⟨rfl, rfl, trivial⟩) (by exact ⟨rfl, trivial⟩) (by exact rfl) (by exact rfl) (by repeat' (first | refine all_cons_true ?_ ?_ | rfl | exact bytes_inUse | exact vals_inUse | exact mid_inUse rfl))) ?_
      refine g_shut hO hGH (Leads.done ?_)
      exact ⟨[], ⟨[_, _], ⟨rfl, rfl, trivial⟩, rfl⟩, (by repeat' (first | exact trivial | refine And.intro ⟨_, rfl, ?_⟩ ?_ | refine And.intro ⟨_, rfl⟩ ?_ | rfl | exact Box.ren_bytes _ _ _ _ | exact Box.ren_vals _ _ _ _ | exact Box.ren_mid rfl)), rfl, rfl⟩
    rw [if_pos hz] at hsE
    obtain ⟨k, s, rfl, hs, hC, hN⟩ : ∃ k s, i = ((k : Nat) : Int) ∧ g.l[k]? = some s ∧ hasC g.sc.cs c = true ∧ hasB s c ≠ a := by
      unfold chkS at hz
      by_cases r1 : rowG g i = true
      · obtain ⟨k, s, rfl, hs⟩ := rowG_at r1
        rw [if_pos r1, setAt_of hs] at hz
        by_cases r2 : hasC g.sc.cs c = true
        · rw [if_pos r2] at hz
          by_cases r3 : hasB s c = a
          · rw [if_pos r3] at hz; cases hz
          · exact ⟨k, s, rfl, hs, r2, r3⟩
        · rw [if_neg r2] at hz; cases hz
      · rw [if_neg r1] at hz; cases hz
    rw [setAt_of hs] at hsE
    rw [hz]
    clear hch
    have hs32 := (hk.can s (List.mem_of_getElem? hs)).2
    have hn32 := next_lt (c := c) (a := a) hs32
    rw [e]
    have hX0s : ∀ b o, Hs b = some o → joinM (joinM (joinM X Hs) Hm) Hr b = some o := fun b o hb => joinM_has o3 (joinM_has o2 (joinM_in hb))
    have hX0m : ∀ b o, Hm b = some o → joinM (joinM (joinM X Hs) Hm) Hr b = some o := fun b o hb => joinM_has o3 (joinM_in hb)
    have hX0r : ∀ b o, Hr b = some o → joinM (joinM (joinM X Hs) Hm) Hr b = some o := fun b o hb => joinM_in hb
    have hG := hHS.to
    obtain ⟨mn, hmn⟩ := hG.map
    obtain ⟨hmI, hmr, _⟩ := MapIn.of hmn
    have hI0 : ∀ (Y : Nat → Option Obj) (vT : Value), (∀ b o, joinM (joinM (joinM X Hs) Hm) Hr b = some o → Y b = some o) → PtrsIn Y vT ps → GrX Y g vC vT mb ps m := fun Y vT hY hP => by
      obtain ⟨cb, cc, e1, e2⟩ := hG.sc
      exact ⟨⟨cb, cc, e1, e2.mono fun b o hb => hY _ _ (hX0s b o hb)⟩, hmI.mono fun b o hb => hY _ _ (hX0m b o hb), by rw [hG.refs.len, tabs_len], hP, refs_tabs hk hG.refs fun b o hb => hY _ _ (hX0r b o hb), hG.ways, hG.names, hG.few⟩
    clear hm hI hGH
    rcases hG.arr with ⟨_, h0⟩ | ⟨db, hd⟩
    · have : ps.length = g.l.length := by rw [hG.refs.len, tabs_len]
      rw [h0] at this
      have := (List.getElem?_eq_some_iff.1 hs).1
      simp at *
      omega
    obtain ⟨b, hb, hT⟩ := refs_tabs (Y := joinM (joinM (joinM (joinM X Hs) Hm) Hr) (cutM Ha db)) hk hG.refs (fun b o hb => joinM_has (o4.cut db) (hX0r b o hb)) k s hs
    have hkl2 := (List.getElem?_eq_some_iff.1 hb).1
    have hel : (pvs ps).length = ps.length * 1 := by rw [pvs_len]; omega
    have hio : 0 + Int.toNat (k : Int) * 1 = k := by simp
    have hcell : ((pvs ps).map CV.val)[k]? = some (.val (.pointer (some ⟨b, 0, none⟩))) := by unfold pvs; rw [List.getElem?_map, List.getElem?_map, hb]; rfl
    have hSg := tSigX _ _ _ hT
    have hOf := hOf (joinM (joinM (joinM (joinM X Hs) Hm) Hr) (cutM Ha db)) ((k : Nat) : Int) c a s hs32
    have hMk := gMakeHalf (joinM (joinM (joinM (joinM X Hs) Hm) Hr) (cutM Ha db)) g hk (nextS s c a) hn32 vC mb ps m true fun Y vT hY hP => hI0 Y vT (fun b o hb => hY _ _ (joinM_has (o4.cut db) hb)) hP
    refine LWP.le (σ' := ⟨[(0, Lp 1000000), (1, Ln .i64 (k : Nat)), (10, Lp 10), (13, Ln .i64 0)], [(1000000, some ⟨60, [.val (.int .i64 g.sc.ver), .val vC, .val (.int .i64 (g.archs : Nat)), .val (.int .i64 (g.rows : Nat))] ++ vS' pad ps.length pcap :: [mV mb], false⟩), wyB 10 (k : Nat) c a], joinM (joinM (joinM (joinM X Hs) Hm) Hr) Ha⟩) (Le.of (by exact ⟨rfl, rfl, rfl, rfl, trivial⟩) (by exact ⟨rfl, rfl, trivial⟩) (by exact rfl) (by exact rfl) (by repeat' (first | refine all_cons_true ?_ ?_ | rfl | exact bytes_inUse | exact vals_inUse | exact mid_inUse rfl))) ?_
    refine LWP.openCell (A := [.val (.int .i64 g.sc.ver), .val vC, .val (.int .i64 (g.archs : Nat)), .val (.int .i64 (g.rows : Nat))]) (B := [mV mb]) (k := 602) (sz := 1) (len := ps.length) o4 hd hel (by omega) rfl (by repeat' (first | refine all_cons_true ?_ ?_ | rfl | exact vals_inUse)) rfl rfl rfl ?_
    (refine LWP.region (by kernel_rfl) <| kmv rfl <| kne rfl rfl (r := false) rfl <| RunK.nil <| LWP.condF rfl ?_; refine LWP.skip ?_; refine LWP.seq <| LWP.draws mixed (by kernel_rfl) <| kmv rfl <| K.loadAll rfl rfl rfl .plain ?_; refine kmv rfl <| K.nilCheck rfl .plain <| kfa rfl rfl ?_; refine kl1 rfl rfl rfl <| kmv rfl <| K.indexSlc rfl rfl (by omega) hio .plain ?_; refine kl1 rfl rfl hcell <| kca rfl rfl hSg <| kca rfl rfl hOf <| K.callM [(1000000, 1000000), (1000001, 602)] [gnB 1000000 g (nextS s c a) vC mb ps, (602, none)] (hMk) rfl rfl (by exact (And.intro ⟨_, rfl, rfl⟩ (And.intro ⟨_, rfl, (Box.ren_vals _ _ _ _)⟩ trivial))) (by exact (all_cons_true (all_cons_true rfl (all_cons_true rfl (all_cons_true rfl (all_cons_true rfl (all_cons_true rfl (all_cons_true rfl rfl)))))) (all_cons_true vals_inUse rfl))) rfl rfl rfl rfl (by exact (.box rfl rfl (.dead rfl .nil))) .plain <| kmv rfl <| kex rfl rfl <| kex rfl rfl <| kas rfl <| kas rfl <| RunK.nil <| And.intro (by kernel_rfl) ?_; refine LWP.seq <| LWP.seq ?_)
    refine LWP.le (σ' := ⟨[(0, Lp 1000000), (1, Ln .i64 (k : Nat)), (10, Lp 10), (14, Ln .i64 (makeN g (nextS s c a) : Nat)), (15, Ln .i64 (makeE g (nextS s c a)))], [gnB 1000000 g (nextS s c a) vC mb ps, wyB 10 (k : Nat) c a], joinM (joinM (joinM (joinM X Hs) Hm) Hr) (cutM Ha db)⟩) (Le.of (by exact ⟨rfl, rfl, rfl, rfl, rfl, trivial⟩) (by exact ⟨rfl, rfl, trivial⟩) (by exact rfl) (by exact rfl) (by repeat' (first | refine all_cons_true ?_ ?_ | rfl | exact bytes_inUse | exact vals_inUse | exact mid_inUse rfl))) ?_
    refine gn_open fun qs ts Hn Ha' vT' hl on oa hR hA => ?_
    have hR0 := (Refs.nil (cutM Ha db)).append hR (ap_own on)
    rw [List.nil_append, List.nil_append] at hR0
    clear hMk hSg hOf
    by_cases hme : makeE g (nextS s c a) = 0
    case neg =>
      have e2 : stepG g (k : Nat) c a = g := by unfold stepG; rw [if_neg (by rw [hsE]; exact hme)]
      have e3 : stepN g (k : Nat) c a = 0 := by unfold stepN; rw [if_neg (by rw [hsE]; exact hme)]
      have hts : ts = [] := by
        have := (make_no hme).1
        rw [hl] at this
        simpa using this
      rw [hsE, e2, e3]
      generalize makeN g (nextS s c a) = mn at *
      generalize makeE g (nextS s c a) = me at *
      (refine LWP.region (by kernel_rfl) <| kmv rfl <| kne rfl rfl (r := true) (bne_iff_ne.2 hme) <| RunK.nil <| LWP.condT rfl ?_; refine LWP.seq <| LWP.region (by kernel_rfl) <| kmv rfl <| kas rfl <| kas rfl <| RunK.nil <| LWP.ret ?_)
      obtain ⟨p1, p2, p3⟩ := GrHS.grow X (g' := g) hG rfl rfl rfl (by rw [hts, List.append_nil]) o1 o2 o3 ((o4.cut db).join on) (by rw [← joinM_join]; exact oa) hR0 hA rfl
      refine Leads.le (σ' := ⟨[(8, Ln .i64 (0 : Nat)), (9, Ln .i64 me)], [gO 1000000 (grV g vC vT' mb)], joinM X (joinM (joinM (joinM Hs Hm) (joinM Hr (joinM (cutM Ha db) Hn))) Ha')⟩) (by
        rw [← p3, ← joinM_join _ (cutM Ha db) Hn]
        exact Le.of (by exact ⟨rfl, rfl, trivial⟩) (by exact ⟨rfl, trivial⟩) (by exact rfl) (by exact rfl) (by repeat' (first | refine all_cons_true ?_ ?_ | rfl | exact bytes_inUse | exact vals_inUse | exact mid_inUse rfl))) ?_
      refine g_shut p1 ⟨_, _, _, _, _, _, _, _, _, rfl, p2⟩ (Leads.done ?_)
      exact ⟨[], ⟨[_, _], ⟨rfl, rfl, trivial⟩, rfl⟩, (by repeat' (first | exact trivial | refine And.intro ⟨_, rfl, ?_⟩ ?_ | refine And.intro ⟨_, rfl⟩ ?_ | rfl | exact Box.ren_bytes _ _ _ _ | exact Box.ren_vals _ _ _ _ | exact Box.ren_mid rfl)), rfl, rfl⟩
    have hS : Stepped g ((k : Nat) : Int) c a k s := ⟨rfl, hs, hC, hN, hme⟩
    obtain ⟨b1, b2, b3⟩ := hG.ways.more hk hS hq
    obtain ⟨e1, e2⟩ := hS.step
    have hat := (List.getElem?_eq_some_iff.1 (makeN_at hme)).1
    have hlen64 : (makeL g (nextS s c a)).length ≤ 64 := by
      have := (hk.make (s := nextS s c a) hn32).room
      have h64 := hk.archs
      have : (makeL g (nextS s c a)).length ≤ g.archs := this
      omega
    rw [hsE, hme, e2]
    rw [e2] at b1 b2
    rw [e1] at b2 ⊢
    generalize makeN g (nextS s c a) = nn at *
    have hn6 : In6 ((nn : Nat) : Int) := ⟨by omega, by omega⟩
    obtain ⟨kl2, hkl3⟩ := wyK_key (x := (((nn : Nat) : Int), c, !a)) hn6 hc
    have hne : wyK (((k : Nat) : Int), c, a) ≠ wyK (((nn : Nat) : Int), c, !a) := fun e => by
      have : a = !a := congrArg (fun x : Wy => x.2.2) (wyK_inj e)
      cases a <;> cases this
    have put1 : Put m (wyK (((k : Nat) : Int), c, a)) (.int .i64 (nn : Nat)) (m ++ [(wyK (((k : Nat) : Int), c, a), .int .i64 (nn : Nat))]) := .inr ⟨hG.ways.no hq, rfl⟩
    have put2 : Put (m ++ [(wyK (((k : Nat) : Int), c, a), .int .i64 (nn : Nat))]) (wyK (((nn : Nat) : Int), c, !a)) (.int .i64 (k : Nat)) (m ++ [(wyK (((k : Nat) : Int), c, a), .int .i64 (nn : Nat))] ++ [(wyK (((nn : Nat) : Int), c, !a), .int .i64 (k : Nat))]) := .inr ⟨fun p hp => by
      rcases List.mem_append.1 hp with hp | hp
      · exact hG.ways.no b1 p hp
      · rw [List.mem_singleton.1 hp]; exact hne, rfl⟩
    obtain ⟨⟨p1, p2, p3, p4, p5, _⟩, pe⟩ := ownL_perm (C := C) (l := [Hm, Hr, cutM Ha db, Hn, Ha']) (l' := [Hr, cutM Ha db, Hn, Ha', Hm]) ((by decide : [0, 1, 2, 3, 4].Perm [1, 2, 3, 4, 0]).map fun i : Nat => [Hm, Hr, cutM Ha db, Hn, Ha'].getD i Hm) (joinM X Hs) ⟨o2, o3, o4.cut db, on, oa, trivial⟩
    rw [show joinM (joinM (joinM (joinM (joinM (joinM X Hs) Hm) Hr) (cutM Ha db)) Hn) Ha' = joinL (joinM X Hs) [Hm, Hr, cutM Ha db, Hn, Ha'] from rfl, pe]
    refine LWP.le (σ' := ⟨[(0, Lp 1000000), (1, Ln .i64 (k : Nat)), (10, Lp 10), (14, Ln .i64 (nn : Nat)), (15, Ln .i64 0)], [gS 1000000 g (.val vC) (.val vT') (mV mb), wyB 10 (k : Nat) c a], joinM (joinM (joinM (joinM (joinM (joinM X Hs) Hr) (cutM Ha db)) Hn) Ha') Hm⟩) (Le.of (by exact ⟨rfl, rfl, rfl, rfl, rfl, trivial⟩) (by exact ⟨rfl, rfl, trivial⟩) (by exact rfl) (by exact rfl) (by repeat' (first | refine all_cons_true ?_ ?_ | rfl | exact bytes_inUse | exact vals_inUse | exact mid_inUse rfl))) ?_
    refine LWP.takeRes (k := 604) p5 (fun _ _ h => h) hmn hmr rfl rfl rfl (by decide) ?_
    rw [minus_self, joinM_nil]
    have hBk := hBack (joinM (joinM (joinM (joinM (joinM X Hs) Hr) (cutM Ha db)) Hn) Ha') ((k : Nat) : Int) c a ((nn : Nat) : Int)
    (refine LWP.region (by kernel_rfl) <| kmv rfl <| kne rfl rfl (r := false) rfl <| RunK.nil <| LWP.condF rfl ?_; refine LWP.skip ?_; refine LWP.seq <| LWP.draws mixed (by kernel_rfl) <| kmv rfl <| K.nilCheck rfl .plain <| kfa rfl rfl ?_; refine kl1 rfl rfl rfl <| K.loadAll rfl rfl rfl .plain ?_; refine kmv rfl <| K.mapUpdateAt (k := 604) (et := 3) (kt := WK) _ rfl rfl (agg_key (us := [.int .i64 (k : Nat), .int .i64 c, .bool a])) rfl one_key rfl (by kernel_rfl) wyL hkl put1 .plain ?_; refine RunK.nil <| And.intro (by kernel_rfl) ?_; refine LWP.seq <| LWP.draws mixed (by kernel_rfl) <| kmv rfl <| K.nilCheck rfl .plain <| kfa rfl rfl ?_; refine kl1 rfl rfl rfl <| K.loadAll rfl rfl rfl .plain ?_; refine kmv rfl <| kca rfl rfl hBk <| kmv rfl <| K.mapUpdateAt (k := 604) (et := 3) (kt := WK) _ rfl rfl (agg_key (us := [.int .i64 (nn : Nat), .int .i64 c, .bool (!a)])) rfl one_key rfl (by kernel_rfl) wyL hkl3 put2 .plain ?_; refine RunK.nil <| And.intro (by kernel_rfl) ?_; refine LWP.seq <| LWP.region (by kernel_rfl) <| kmv rfl <| kas rfl <| kas rfl <| RunK.nil <| LWP.ret ?_)
    refine Leads.le (σ' := ⟨[(8, Ln .i64 (nn : Nat)), (9, Ln .i64 0)], [(604, some ⟨0, [], .res (atR mb (mapR Try.prog WK (m ++ [(wyK (((k : Nat) : Int), c, a), .int .i64 (nn : Nat))] ++ [(wyK (((nn : Nat) : Int), c, !a), .int .i64 (k : Nat))])))⟩), gS 1000000 g (.val vC) (.val vT') (mV mb)], joinM (joinM (joinM (joinM (joinM X Hs) Hr) (cutM Ha db)) Hn) Ha'⟩) (Le.of (by exact ⟨rfl, rfl, trivial⟩) (by exact ⟨rfl, rfl, trivial⟩) (by exact rfl) (by exact rfl) (by repeat' (first | refine all_cons_true ?_ ?_ | rfl | exact bytes_inUse | exact vals_inUse | exact mid_inUse rfl))) ?_
    refine Leads.fixAlone rfl rfl rfl fun ρ H2 hh o2' => ?_
    obtain ⟨mb', mn'⟩ := ρ
    obtain ⟨rfl, hm2⟩ := hh
    obtain ⟨⟨ow1, ow2, ow3, ow4, ow5, _⟩, owe⟩ := ownL_perm (C := C) (l := [Hr, cutM Ha db, Hn, Ha', H2]) (l' := [H2, Hr, cutM Ha db, Hn, Ha']) ((by decide : [0, 1, 2, 3, 4].Perm [4, 0, 1, 2, 3]).map fun i : Nat => [Hr, cutM Ha db, Hn, Ha', H2].getD i Hm) (joinM X Hs) ⟨p1, p2, p3, p4, o2', trivial⟩
    rw [show joinM (joinM (joinM (joinM (joinM (joinM X Hs) Hr) (cutM Ha db)) Hn) Ha') H2 = joinL (joinM X Hs) [Hr, cutM Ha db, Hn, Ha', H2] from rfl, owe]
    have ow6 : OwnedM C (joinM (joinM (joinM (joinM X Hs) H2) Hr) (joinM (cutM Ha db) Hn)) Ha' := by rw [← joinM_join]; exact ow5
    obtain ⟨q1, q2, q3⟩ := GrHS.grow' X (ts := ts) hG.sc hG.refs hG.names hG.few ⟨mn', hm2⟩ b2 rfl rfl hl o1 ow1 ow2 (ow3.join ow4) ow6 hR0 hA rfl
    refine Leads.le (σ' := ⟨[(8, Ln .i64 (nn : Nat)), (9, Ln .i64 0)], [gO 1000000 (grV g vC vT' mb')], joinM X (joinM (joinM (joinM Hs H2) (joinM Hr (joinM (cutM Ha db) Hn))) Ha')⟩) (by
      rw [← q3, ← joinM_join _ (cutM Ha db) Hn]
      exact Le.of (by exact ⟨rfl, rfl, trivial⟩) (by exact ⟨rfl, trivial⟩) (by exact rfl) (by exact rfl) (by repeat' (first | refine all_cons_true ?_ ?_ | rfl | exact bytes_inUse | exact vals_inUse | exact mid_inUse rfl))) ?_
    refine g_shut (g := { g with l := makeL g (nextS s c a), w := addW (addW g.w (((k : Nat) : Int), c, a)) (((nn : Nat) : Int), c, !a) }) (vals := grV g vC vT' mb') q1 ⟨_, _, _, _, _, _, _, _, _, rfl, q2⟩ (Leads.done ?_)
    exact ⟨[], ⟨[_, _], ⟨rfl, rfl, trivial⟩, rfl⟩, (by repeat' (first | exact trivial | refine And.intro ⟨_, rfl, ?_⟩ ?_ | refine And.intro ⟨_, rfl⟩ ?_ | rfl | exact Box.ren_bytes _ _ _ _ | exact Box.ren_vals _ _ _ _ | exact Box.ren_mid rfl)), rfl, rfl⟩
end Go.Proofs.Ytjifibloagkeeaa
end
section
namespace Go.Proofs.Ytjifibloagkeeaa
open Go Go.Lg Go.Lg.Fld Go.Lg.Sg
set_option maxRecDepth 100000
def gMade (_ : Nat) : Bool := true
theorem gMade_zero {n : Nat} (h : gMade n = false) : n = 0 := by cases h
variable (X : Nat → Option Obj)
section
variable {vals : List Value} {g : Gr} (hI : GrIn X vals g) (hk : GrOk g)
include hI hk
theorem grLen : MSpec Try.prog X 15 [Lp 1000000] [gO 1000000 vals] (Ln .i64 (g.l.length : Nat)) [gO 1000000 vals] := by
  obtain ⟨vC, vT, mb, ps, m, rfl, hX⟩ := hI
  obtain ⟨pad, pcap, rfl, _⟩ := hX.ptrs
  have _ := hk
  exact hlen0 X g vC pad pcap mb ps m hX
theorem gRoom : MSpec Try.prog X 19 [Lp 1000000] [gO 1000000 vals] (Ln .i64 (g.archs - g.l.length : Nat)) [gO 1000000 vals] := by
  obtain ⟨vC, vT, mb, ps, m, rfl, hX⟩ := hI
  obtain ⟨pad, pcap, rfl, _⟩ := hX.ptrs
  exact hroom0 X g vC pad pcap mb ps m hX hk
theorem gWays : MSpec Try.prog X 16 [Lp 1000000] [gO 1000000 vals] (Ln .i64 (g.w.length : Nat)) [gO 1000000 vals] := by
  obtain ⟨vC, vT, mb, ps, m, rfl, hX⟩ := hI
  obtain ⟨pad, pcap, rfl, _⟩ := hX.ptrs
  have _ := hk
  exact hways0 X g vC pad pcap mb ps m hX
theorem gKnows (i c : Int) (a : Bool) (hi : In6 i) (hc : In6 c) : MSpec Try.prog X 14 [Lp 1000000, Ln .i64 i, Ln .i64 c, Lb a] [gO 1000000 vals] (Lb (knowsW g.w (i, c, a))) [gO 1000000 vals] := by
  obtain ⟨vC, vT, mb, ps, m, rfl, hX⟩ := hI
  obtain ⟨pad, pcap, rfl, _⟩ := hX.ptrs
  exact hknows0 X g vC pad pcap mb ps m hX hk i c a hi hc
theorem gFind (s : Nat) (_ : s < 4294967296) : MSpec Try.prog X 18 [Lp 1000000, Ln .u32 (s : Nat)] [gO 1000000 vals] (.tup [Sn .i64 ((match findG g.l s with | some i => i | none => 0 : Nat) : Nat), .one (.val (.bool (findG g.l s).isSome))]) [gO 1000000 vals] := by
  obtain ⟨vC, vT, mb, ps, m, rfl, hX⟩ := hI
  obtain ⟨pad, pcap, rfl, _⟩ := hX.ptrs
  exact hfind0 X g vC pad pcap mb ps m hX hk s
theorem gSigs_none (hm : gMade g.l.length = false) : MSpec Try.prog X 17 [Lp 1000000] [gO 1000000 vals] (.sv (.one (.val (.slice none 0 0)))) [gO 1000000 vals] := by have _ := hI; have _ := hk; cases hm
theorem gSigs (_ : gMade g.l.length = true) : MSpec Try.prog X 17 [Lp 1000000] [gO 1000000 vals] (.sv (.one (.slc 1000001 0 g.l.length 1))) [gO 1000000 vals, sgB 1000001 g.l] := by
  obtain ⟨vC, vT, mb, ps, m, rfl, hX⟩ := hI
  obtain ⟨pad, pcap, rfl, _⟩ := hX.ptrs
  exact hsigs0 X g vC pad pcap mb ps m hX hk
theorem gTable_no (i : Int) (h : rowG g i = false) : MSpec Try.prog X 9 [Lp 1000000, Ln .i64 i] [gO 1000000 vals] LnilT [gO 1000000 vals] := by
  obtain ⟨vC, vT, mb, ps, m, rfl, hX⟩ := hI
  obtain ⟨pad, pcap, rfl, _⟩ := hX.ptrs
  exact htable0_no X g vC pad pcap mb ps m hX hk i h
theorem gTable (i s : Nat) (h : g.l[i]? = some s) : ∃ tb, TbX X tb (tbl g s) ∧ MSpec Try.prog X 9 [Lp 1000000, Ln .i64 (i : Nat)] [gO 1000000 vals] (Lpx tb) [gO 1000000 vals] := by
  obtain ⟨vC, vT, mb, ps, m, rfl, hX⟩ := hI
  obtain ⟨pad, pcap, rfl, _⟩ := hX.ptrs
  obtain ⟨b, hb, hT⟩ := hX.tabs i s h
  exact ⟨_, hT, htable0 X g vC pad pcap mb ps m hX hk i b hb⟩
end
end Go.Proofs.Ytjifibloagkeeaa
end
section
namespace Go.Proofs.Ytjifibloagkeeaa
open Go Go.Lg Go.Lg.Fld Go.Lg.Sg
set_option maxRecDepth 100000
def sc17 : Sc := ⟨1, [⟨1, [97], []⟩, ⟨2, [98], []⟩]⟩
def g17a : Gr := ⟨sc17, 4, 9, [], []⟩
def g17b : Gr := makeG g17a 0
def g17c : Gr := stepG g17b 0 1 true
def g17d : Gr := stepG g17c 1 2 true
def g17e : Gr := stepG g17d 2 1 false
theorem good17 : goodG sc17 (4 : Nat) (9 : Nat) = true := by decide +kernel
theorem ok17a : GrOk g17a := GrOk.new good17
theorem ok17b : GrOk g17b := ok17a.make (by decide)
theorem ok17c : GrOk g17c := ok17b.step 0 1 true
theorem ok17d : GrOk g17d := ok17c.step 1 2 true
theorem ok17e : GrOk g17e := ok17d.step 2 1 false
theorem q17a : makeN g17a 0 = 0 ∧ makeE g17a 0 = 0 := by decide +kernel
theorem q17b : stepN g17b 0 1 true = 1 ∧ stepE g17b 0 1 true = 0 := by decide +kernel
theorem q17c : stepN g17c 1 2 true = 2 ∧ stepE g17c 1 2 true = 0 := by decide +kernel
theorem q17d : stepN g17d 2 1 false = 3 ∧ stepE g17d 2 1 false = 0 := by decide +kernel
theorem q17e : stepN g17e 0 1 false = 0 ∧ stepE g17e 0 1 false = 7 := by decide +kernel
theorem q17f : makeN g17e 8 = 0 ∧ makeE g17e 8 = 6 := by decide +kernel
theorem q17g : findG g17e.l 6 = some 2 := by decide +kernel
theorem q17h : g17e.l.length = 4 ∧ g17e.w.length = 6 ∧ knowsW g17e.w (3, 1, true) = true := by decide +kernel
theorem q17i : g17e.l[2]? = some 6 := by decide +kernel
theorem same17 : stepG g17e 0 1 false = g17e ∧ makeG g17e 8 = g17e := by
  refine ⟨?_, ?_⟩
  · unfold stepG; rw [if_neg (by rw [q17e.2]; decide)]
  · unfold makeG; rw [(make_no (by rw [q17f.2]; decide)).1]
theorem inb17 : InB sc17.cs := by
  intro c hc
  simp only [sc17, List.mem_cons, List.not_mem_nil, or_false] at hc
  rcases hc with rfl | rfl <;> exact ⟨by decide, fun f hf => by cases hf⟩
theorem names17 : NamesIn sc17.cs := fun c hc => by
  simp only [sc17, List.mem_cons, List.not_mem_nil, or_false] at hc
  rcases hc with rfl | rfl <;> exact ⟨by decide, fun f hf => by cases hf⟩
theorem few17 : sc17.cs.length ≤ 30 ∧ ∀ c ∈ sc17.cs, c.fs.length ≤ 12 := ⟨by decide, fun c hc => by
  simp only [sc17, List.mem_cons, List.not_mem_nil, or_false] at hc
  rcases hc with rfl | rfl <;> decide⟩
theorem lent_sc17 {S : Nat → Option (Option Box)} {Y : Nat → Option Obj} {k n : Nat} {cs : List Cp} {e : TypeId} {cc : List CV} {u : Value} (hk : S k = some (some ⟨e, cc, .res (scR cs)⟩)) (hu : LentC S Y (.slc k 0 n 3) u) : ∃ (blk cap : Nat), u = .slice (some ⟨blk, 0, none⟩) n cap ∧ CompsIn Y (some ⟨blk, 0, none⟩) cs := by
  obtain ⟨b, blk, cap2, m, hk', rfl, hc, hfit, hB⟩ := hu
  rw [hk] at hk'
  simp only [Option.some.injEq] at hk'
  subst hk'
  obtain ⟨H, hR, hHY⟩ := hB
  exact ⟨blk, cap2, rfl, scR_in hR hHY⟩
variable (X : Nat → Option Obj)
theorem two17_spec : MSpec Try.prog X 20 [] [] (.sv (.agg [.val (.int .i64 1), .slc 1000001 0 2 3])) [scB 1000001 sc17.cs] := by
  refine MSpec.intro Try.func20 rfl (by kernel_rfl) rfl rfl (by exact (by repeat' (first | refine all_cons_true ?_ ?_ | rfl | exact bytes_inUse | exact vals_inUse | exact mid_inUse rfl))) rfl rfl ?_
  intro C
  refine LWP.ends ?_
  (refine LWP.seq <| LWP.region (by kernel_rfl) <| K.alloc rfl .plain ?_; refine RunK.nil <| LWP.seq <| LWP.region (by kernel_rfl) <| K.build rfl rfl (by exact rfl) (by exact nl3 rfl rfl rfl rfl) .plain ?_; refine K.build rfl rfl (by exact rfl) (by exact nl3 rfl rfl rfl rfl) .plain ?_; refine K.buildSlc (zs := (List.replicate 2 [Value.int .i64 0, .string ⟨#[]⟩, .slice none 0 0]).flatten) (sz := 3) (e := 54) (cs' := [Value.int .i64 1, .string ⟨#[97]⟩, .slice none 0 0, .int .i64 2, .string ⟨#[98]⟩, .slice none 0 0].map .val) (by kernel_rfl) rfl rfl rfl rfl rfl rfl .plain <| K.build rfl rfl (by exact rfl) (by exact nl2 rfl rfl rfl) .plain ?_; refine K.storeAll rfl rfl rfl rfl rfl rfl .plain ?_; refine RunK.nil <| LWP.ret ?_)
  refine Leads.le (σ' := ⟨[(0, Lp 0)], [(3, some ⟨54, (rowsZ sc17.cs [.slice none 0 0, .slice none 0 0] ++ []).map .val, false⟩), (0, some ⟨24, [.val (.int .i64 1), .slc 3 0 2 3], false⟩)], joinM X (fun _ => none)⟩) (by rw [joinM_nil]; exact Le.of (by exact ⟨rfl, trivial⟩) (by exact ⟨rfl, rfl, trivial⟩) (by exact rfl) (by exact rfl) (by repeat' (first | refine all_cons_true ?_ ?_ | rfl | exact bytes_inUse | exact vals_inUse | exact mid_inUse rfl))) ?_
  have G : Twigs (fun _ => none) 94 3 [] [.slice none 0 0, .slice none 0 0] (sc17.cs.map fun c => flV c.fs) := ((Twigs.nil _ _ _ _).pushZ none 0).pushZ none 0
  refine sc_shut (OwnedM.nil C X) G inb17 (Leads.done ?_)
  exact ⟨[(1000001, 3)], ⟨[_], ⟨⟨_, _, rfl, rfl, rfl, .inl ⟨AggT.h, rfl⟩⟩, trivial⟩, rfl⟩, (by repeat' (first | exact trivial | refine And.intro ⟨_, rfl, ?_⟩ ?_ | refine And.intro ⟨_, rfl⟩ ?_ | rfl | exact Box.ren_bytes _ _ _ _ | exact Box.ren_vals _ _ _ _ | exact Box.ren_mid rfl)), rfl, rfl⟩
theorem new17_lent : MSpec Try.prog X 7 [.sv (.agg [.val (.int .i64 1), .slc 1000000 0 2 3]), Ln .i64 4, Ln .i64 9] [scB 1000000 sc17.cs] (Lp 1000001) ([scB 1000000 sc17.cs] ++ [gB 1000001 g17a]) := by
  refine MSpec.lend (by kernel_rfl) rfl (by exact (by repeat' (first | refine all_cons_true ?_ ?_ | rfl | exact bytes_inUse | exact vals_inUse | exact mid_inUse rfl))) (by exact (by repeat' (first | refine all_cons_true ?_ ?_ | rfl | exact bytes_inUse | exact vals_inUse | exact mid_inUse rfl))) rfl rfl fun Y us hY hL => ?_
  obtain ⟨u1, us1, rfl, ⟨av, rfl, a1, av1, rfl, g1, a2, av2, rfl, g2, rfl⟩, u2, us2, rfl, h2, u3, us3, rfl, h3, rfl⟩ := hL
  have g1 : a1 = .int .i64 1 := g1
  have h2 : u2 = .int .i64 4 := h2
  have h3 : u3 = .int .i64 9 := h3
  subst g1 h2 h3
  obtain ⟨blk, cap, rfl, hin⟩ := lent_sc17 (S := stOf [scB 1000000 sc17.cs]) (k := 1000000) rfl g2
  exact gNew Y sc17 4 9 (some ⟨blk, 0, none⟩) cap hin names17 few17 good17
set_option maxHeartbeats 25600000 in
theorem awake17_spec : PSpec Try.prog X 5 [] (Lb true) := by
  have h1 := two17_spec X
  have h2 := new17_lent X
  have a1 := gMake X g17a ok17a 0 (by decide)
  have a2 := gStep X g17b ok17b 0 1 true ⟨by decide, by decide⟩ ⟨by decide, by decide⟩
  have a3 := gStep X g17c ok17c 1 2 true ⟨by decide, by decide⟩ ⟨by decide, by decide⟩
  have a4 := gStep X g17d ok17d 2 1 false ⟨by decide, by decide⟩ ⟨by decide, by decide⟩
  have a5 := gStep X g17e ok17e 0 1 false ⟨by decide, by decide⟩ ⟨by decide, by decide⟩
  have a6 := gMake X g17e ok17e 8 (by decide)
  rw [q17a.1, q17a.2, show makeG g17a 0 = g17b from rfl] at a1
  rw [q17b.1, q17b.2, show stepG g17b 0 1 true = g17c from rfl] at a2
  rw [q17c.1, q17c.2, show stepG g17c 1 2 true = g17d from rfl] at a3
  rw [q17d.1, q17d.2, show stepG g17d 2 1 false = g17e from rfl] at a4
  rw [q17e.1, q17e.2, same17.1] at a5
  rw [q17f.1, q17f.2, same17.2] at a6
  have hk := ok17e
  have k1 := q17g
  have k2 := q17h
  have k3 := q17i
  have k4 : g17e.archs = 4 := by decide +kernel
  generalize g17a = ga at *
  generalize g17b = gb at *
  generalize g17c = gc at *
  generalize g17d = gd at *
  generalize g17e = ge at *
  refine PSpec.intro Try.func5 rfl (by kernel_rfl) rfl rfl ?_
  intro C
  (refine LWP.seq <| LWP.region (by kernel_rfl) <| kas rfl <| RunK.nil <| LWP.seq <| LWP.region (by kernel_rfl) <| K.callMp [(1000001, 701)] (.sv (.agg [.val (.int .i64 1), .slc 701 0 2 3])) [scB 701 sc17.cs] (h1) rfl rfl (by exact trivial) rfl rfl rfl rfl rfl (by exact (.box rfl rfl .nil)) .plain <| K.callMp [(1000000, 701), (1000001, 500)] (Lp 500) [scB 701 sc17.cs, gB 500 ga] (h2) rfl rfl (by exact (And.intro ⟨_, rfl, rfl⟩ trivial)) (by exact (all_cons_true rfl rfl)) rfl rfl rfl rfl (by exact (.box rfl rfl (.box rfl rfl .nil))) .plain <| kas rfl <| RunK.nil <| LWP.seq <| LWP.region (by kernel_rfl) <| kmv rfl <| K.callM [(1000000, 500)] [gB 500 gb] (a1) rfl rfl (by exact (And.intro ⟨_, rfl, rfl⟩ trivial)) (by exact (all_cons_true rfl rfl)) rfl rfl rfl rfl (by exact (.box rfl rfl .nil)) .plain ?_; refine kmv rfl <| kex rfl rfl <| kex rfl rfl <| kas rfl <| kas rfl <| RunK.nil <| LWP.seq <| LWP.region (by kernel_rfl) <| kmv rfl <| K.callM [(1000000, 500)] [gB 500 gc] (a2) rfl rfl (by exact (And.intro ⟨_, rfl, rfl⟩ trivial)) (by exact (all_cons_true rfl rfl)) rfl rfl rfl rfl (by exact (.box rfl rfl .nil)) .plain <| kmv rfl <| kex rfl rfl <| kex rfl rfl <| kas rfl ?_; refine kas rfl <| RunK.nil <| LWP.seq <| LWP.region (by kernel_rfl) <| kmv rfl <| K.callM [(1000000, 500)] [gB 500 gd] (a3) rfl rfl (by exact (And.intro ⟨_, rfl, rfl⟩ trivial)) (by exact (all_cons_true rfl rfl)) rfl rfl rfl rfl (by exact (.box rfl rfl .nil)) .plain <| kmv rfl <| kex rfl rfl <| kex rfl rfl <| kas rfl <| kas rfl <| RunK.nil <| LWP.seq <| LWP.region (by kernel_rfl) ?_; refine kmv rfl <| K.callM [(1000000, 500)] [gB 500 ge] (a4) rfl rfl (by exact (And.intro ⟨_, rfl, rfl⟩ trivial)) (by exact (all_cons_true rfl rfl)) rfl rfl rfl rfl (by exact (.box rfl rfl .nil)) .plain <| kmv rfl <| kex rfl rfl <| kex rfl rfl <| kas rfl <| kas rfl <| RunK.nil <| LWP.seq <| LWP.region (by kernel_rfl) <| kmv rfl <| K.callM [(1000000, 500)] [gB 500 ge] (a5) rfl rfl (by exact (And.intro ⟨_, rfl, rfl⟩ trivial)) (by exact (all_cons_true rfl rfl)) rfl rfl rfl rfl (by exact (.box rfl rfl .nil)) .plain <| kmv rfl <| kex rfl rfl ?_; refine kex rfl rfl <| kas rfl <| kas rfl <| RunK.nil <| LWP.seq <| LWP.region (by kernel_rfl) <| kmv rfl <| K.callM [(1000000, 500)] [gB 500 ge] (a6) rfl rfl (by exact (And.intro ⟨_, rfl, rfl⟩ trivial)) (by exact (all_cons_true rfl rfl)) rfl rfl rfl rfl (by exact (.box rfl rfl .nil)) .plain <| kmv rfl <| kex rfl rfl <| kex rfl rfl <| kas rfl <| kas rfl <| RunK.nil ?_; refine LWP.seq ?_)
  refine LWP.le (σ' := ⟨[(1, Lp 500), (2, Ln .i64 0), (3, Ln .i64 0), (4, Ln .i64 1), (5, Ln .i64 0), (6, Ln .i64 2), (7, Ln .i64 0), (8, Ln .i64 3), (9, Ln .i64 0), (11, Ln .i64 7), (13, Ln .i64 6)], [gB 500 ge], X⟩) (Le.of (by exact ⟨rfl, rfl, rfl, rfl, rfl, rfl, rfl, rfl, rfl, rfl, rfl, trivial⟩) (by exact ⟨rfl, trivial⟩) (by exact rfl) (by exact rfl) (by exact rfl)) ?_
  refine g_open fun H vals hO hI0 => ?_
  have hI := g_in hO hI0
  have b1 := gFind (joinM X H) hI hk 6 (by decide)
  have b2 := grLen (joinM X H) hI hk
  have b3 := gRoom (joinM X H) hI hk
  have b4 := gWays (joinM X H) hI hk
  have b5 := gKnows (joinM X H) hI hk 3 1 true ⟨by decide, by decide⟩ ⟨by decide, by decide⟩
  have b6 := gTable_no (joinM X H) hI hk 4 (by unfold rowG; rw [k2.1]; decide)
  obtain ⟨tb, hT, b7⟩ := gTable (joinM X H) hI hk 2 6 k3
  have b8 := tSigX (joinM X H) tb _ hT
  rw [k1] at b1
  rw [k2.1] at b2 b3
  rw [k4] at b3
  rw [k2.2.1] at b4
  rw [k2.2.2] at b5
  ((refine LWP.region (by kernel_rfl) <| kmv rfl <| K.callM [(1000000, 500)] [gO 500 vals] (b1) rfl rfl (by exact (And.intro ⟨_, rfl, (Box.ren_vals _ _ _ _)⟩ trivial)) (by exact (all_cons_true vals_inUse rfl)) rfl rfl rfl rfl (by exact (.box rfl (Box.ren_vals _ _ _ _) .nil)) .plain <| kmv rfl <| kex rfl rfl <| kex rfl rfl <| kas rfl <| kas rfl <| RunK.nil <| LWP.seq <| LWP.region (by kernel_rfl) <| kmv rfl <| keq rfl rfl (r := true) rfl <| kmv rfl ?_; refine gmv rfl rfl rfl <| K.eql rfl rfl (r := true) rfl (.taken rfl rfl) ?_; refine kpt rfl rfl <| kmv rfl <| gmv rfl rfl rfl <| K.eql rfl rfl (r := true) rfl (.taken rfl rfl) ?_; refine kpt rfl rfl <| kmv rfl <| gmv rfl rfl rfl <| K.eql rfl rfl (r := true) rfl (.taken rfl rfl) ?_; refine kpt rfl rfl <| kmv rfl <| gmv rfl rfl rfl <| K.eql rfl rfl (r := true) rfl (.taken rfl rfl) ?_; refine kpt rfl rfl <| kmv rfl <| gmv rfl rfl rfl <| K.eql rfl rfl (r := true) rfl (.taken rfl rfl) ?_; refine kpt rfl rfl <| kmv rfl <| gmv rfl rfl rfl <| K.eql rfl rfl (r := true) rfl (.taken rfl rfl) ?_; refine kpt rfl rfl <| kmv rfl <| gmv rfl rfl rfl <| K.eql rfl rfl (r := true) rfl (.taken rfl rfl) ?_; refine kpt rfl rfl <| kmv rfl <| gmv rfl rfl rfl <| K.eql rfl rfl (r := true) rfl (.taken rfl rfl) ?_; refine kpt rfl rfl <| kmv rfl <| gmv rfl rfl rfl <| K.eql rfl rfl (r := true) rfl (.taken rfl rfl) ?_; refine kpt rfl rfl <| kmv rfl <| gmv rfl rfl rfl <| kpt rfl rfl <| kmv rfl <| gmv rfl rfl rfl <| K.eql rfl rfl (r := true) rfl (.taken rfl rfl) ?_; refine kpt rfl rfl <| kmv rfl <| gmv rfl rfl rfl <| K.callM [(1000000, 500)] [gO 500 vals] (b2) rfl rfl (by exact (And.intro ⟨_, rfl, (Box.ren_vals _ _ _ _)⟩ trivial)) (by exact (all_cons_true vals_inUse rfl)) rfl rfl rfl rfl (by exact (.box rfl (Box.ren_vals _ _ _ _) .nil)) (.taken rfl rfl) ?_); (refine K.eql rfl rfl (r := true) rfl (.taken rfl rfl) ?_; refine kpt rfl rfl <| kmv rfl <| gmv rfl rfl rfl <| K.callM [(1000000, 500)] [gO 500 vals] (b3) rfl rfl (by exact (And.intro ⟨_, rfl, (Box.ren_vals _ _ _ _)⟩ trivial)) (by exact (all_cons_true vals_inUse rfl)) rfl rfl rfl rfl (by exact (.box rfl (Box.ren_vals _ _ _ _) .nil)) (.taken rfl rfl) ?_; refine K.eql rfl rfl (r := true) rfl (.taken rfl rfl) ?_; refine kpt rfl rfl <| kmv rfl <| gmv rfl rfl rfl <| K.callM [(1000000, 500)] [gO 500 vals] (b4) rfl rfl (by exact (And.intro ⟨_, rfl, (Box.ren_vals _ _ _ _)⟩ trivial)) (by exact (all_cons_true vals_inUse rfl)) rfl rfl rfl rfl (by exact (.box rfl (Box.ren_vals _ _ _ _) .nil)) (.taken rfl rfl) ?_; refine K.eql rfl rfl (r := true) rfl (.taken rfl rfl) ?_; refine kpt rfl rfl <| kmv rfl <| gmv rfl rfl rfl <| K.callM [(1000000, 500)] [gO 500 vals] (b5) rfl rfl (by exact (And.intro ⟨_, rfl, (Box.ren_vals _ _ _ _)⟩ trivial)) (by exact (all_cons_true vals_inUse rfl)) rfl rfl rfl rfl (by exact (.box rfl (Box.ren_vals _ _ _ _) .nil)) (.taken rfl rfl) ?_; refine kpt rfl rfl <| kmv rfl <| gmv rfl rfl rfl <| K.callM [(1000000, 500)] [gO 500 vals] (b6) rfl rfl (by exact (And.intro ⟨_, rfl, (Box.ren_vals _ _ _ _)⟩ trivial)) (by exact (all_cons_true vals_inUse rfl)) rfl rfl rfl rfl (by exact (.box rfl (Box.ren_vals _ _ _ _) .nil)) (.taken rfl rfl) ?_; refine K.nilNil rfl (by kernel_rfl) (.inl ⟨rfl, rfl⟩) (.taken rfl rfl) ?_; refine kpt rfl rfl <| kmv rfl <| gmv rfl rfl rfl <| K.callM [(1000000, 500)] [gO 500 vals] (b7) rfl rfl (by exact (And.intro ⟨_, rfl, (Box.ren_vals _ _ _ _)⟩ trivial)) (by exact (all_cons_true vals_inUse rfl)) rfl rfl rfl rfl (by exact (.box rfl (Box.ren_vals _ _ _ _) .nil)) (.taken rfl rfl) ?_; refine gca rfl rfl b8 rfl rfl <| K.eql rfl rfl (r := true) rfl (.taken rfl rfl) ?_; refine kpt rfl rfl <| kas rfl <| RunK.nil <| LWP.ret ?_))
  exact ⟨[_], ⟨rfl, trivial⟩, rfl⟩
end Go.Proofs.Ytjifibloagkeeaa
end
section
namespace Go.Proofs.Ytjifibloagkeeaa
open Go Go.Lg Go.Lg.Fld Go.Lg.Sg Go.Lg.Arith
set_option maxRecDepth 100000
structure Ag where
  kind : Int
  set : Nat
  i : Int
  c : Int
  a : Bool
def Ag.vals (x : Ag) : List Value := [.int .i64 x.kind, .int .u32 (x.set : Nat), .int .i64 x.i, .int .i64 x.c, .bool x.a]
structure AgsIn (X : Nat → Option Obj) (ad : Option Addr) (l : List Ag) : Prop where
  rows : Go.Lg.RowsIn X ad 5 (l.map Ag.vals)
  small : ∀ x ∈ l, (-9223372036854775808 ≤ x.kind ∧ x.kind < 9223372036854775808) ∧ x.set < 4294967296 ∧ (-9223372036854775808 ≤ x.i ∧ x.i < 9223372036854775808) ∧ (-9223372036854775808 ≤ x.c ∧ x.c < 9223372036854775808)
theorem AgsIn.mono {X Y : Nat → Option Obj} {ad : Option Addr} {l : List Ag} (h : AgsIn X ad l) (hXY : ∀ b o, X b = some o → Y b = some o) : AgsIn Y ad l := ⟨h.rows.mono hXY, h.small⟩
theorem AgsIn.at {X : Nat → Option Obj} {ad : Option Addr} {l : List Ag} (h : AgsIn X ad l) {i : Nat} {x : Ag} (hx : l[i]? = some x) : ∃ (blk off : Nat) (arr : Array Value) (el : TypeId) (fr : Nat × Nat), ad = some ⟨blk, off, none⟩ ∧ X blk = some (.cells arr el fr) ∧ off + i * 5 + 5 ≤ arr.size ∧ ((arr.toList.drop (off + i * 5)).take 5).map CV.val = [.val (.int .i64 x.kind), .val (.int .u32 (x.set : Nat)), .val (.int .i64 x.i), .val (.int .i64 x.c), .val (.bool x.a)] := by
  obtain ⟨blk, off, arr, el, fr, h1, h2, h3, h4⟩ := h.rows i x.vals (by rw [List.getElem?_map, hx]; rfl)
  exact ⟨blk, off, arr, el, fr, h1, h2, h3, by rw [h4]; rfl⟩
theorem u32_at {X : Nat → Option Obj} {ad : Option Addr} {l : List Nat} (h : U32In X ad l) {i s : Nat} (hs : l[i]? = some s) : ∃ (blk off : Nat) (arr : Array Value) (el : TypeId) (fr : Nat × Nat), ad = some ⟨blk, off, none⟩ ∧ X blk = some (.cells arr el fr) ∧ arr[off + i * 1]? = some (.int .u32 (s : Nat)) := by
  obtain ⟨blk, off, arr, el, fr, h1, h2, h3, h4⟩ := h i [.int .u32 (s : Nat)] (by rw [List.getElem?_map, hs]; rfl)
  refine ⟨blk, off, arr, el, fr, h1, h2, ?_⟩
  rw [← Array.getElem?_toList]
  have := congrArg (fun L : List Value => L[0]?) h4
  simp only [List.getElem?_take, List.getElem?_drop] at this
  simpa using this
theorem u32_frozen {X : Nat → Option Obj} {blk : Nat} {arr : Array Value} {el : TypeId} {fr : Nat × Nat} {l : List Nat} (h : ∃ sp, arr.toList = u32V l ++ sp) : U32In (withBlock X blk (.cells arr el fr)) (some ⟨blk, 0, none⟩) l := by
  obtain ⟨sp, h⟩ := h
  refine rows_in (withBlock_at _ _ _) (fun r hr => by obtain ⟨x, _, rfl⟩ := List.mem_map.1 hr; rfl) ⟨sp, ?_⟩
  rw [h]
  congr 1
  clear h
  unfold u32V
  induction l with
  | nil => rfl
  | cons x t ih => rw [List.map_cons, List.map_cons, List.flatten_cons, ← ih]; rfl
variable (X : Nat → Option Obj)
set_option maxHeartbeats 3200000 in
theorem great17_spec (ver : Int) (ad : Option Addr) (cap : Nat) (cs : List Cp) (hin : CompsIn X ad cs) (r : Bool) (hr : greatB16 cs = r) : PSpec Try.prog X 6 [Sx ver ad cs.length cap] (Lb r) := by
  subst hr
  refine PSpec.intro Try.func6 rfl (by kernel_rfl) rfl rfl ?_
  intro C
  by_cases hn : 30 < cs.length
  · rw [show greatB16 cs = true by unfold greatB16; rw [decide_eq_true hn]; rfl]
    (refine LWP.seq <| LWP.region (by kernel_rfl) <| K.box rfl rfl rfl .plain <| kas rfl <| RunK.nil <| LWP.seq <| LWP.seq <| LWP.region (by kernel_rfl) <| kfa rfl rfl ?_; refine kl1 rfl rfl rfl <| K.lenX rfl SliceT.h rfl .plain ?_; refine K.gtr rfl rfl (decide_eq_true (by omega)) .plain <| RunK.nil <| LWP.condT rfl ?_; refine LWP.seq <| LWP.region (by kernel_rfl) <| kas rfl <| RunK.nil <| LWP.ret ?_)
    exact ⟨[_], ⟨rfl, trivial⟩, rfl⟩
  (refine LWP.seq <| LWP.region (by kernel_rfl) <| K.box rfl rfl rfl .plain <| kas rfl <| RunK.nil <| LWP.seq <| LWP.seq <| LWP.region (by kernel_rfl) <| kfa rfl rfl ?_; refine kl1 rfl rfl rfl <| K.lenX rfl SliceT.h rfl .plain ?_; refine K.gtr rfl rfl (decide_eq_false (by omega)) .plain <| RunK.nil <| LWP.condF rfl ?_; refine LWP.skip ?_; refine LWP.seq <| LWP.seq <| LWP.region (by kernel_rfl) <| kas rfl <| RunK.nil <| LWP.block ?_)
  refine LWP.loop (fun m σ => ∃ i : Nat, i ≤ cs.length ∧ m = cs.length - i ∧ (∀ (j : Nat) (y : Cp), j < i → cs[j]? = some y → decide (12 < y.fs.length) = false) ∧ σ = ⟨[(1, Lp 1), (3, Ln .i64 (i : Nat))], [sxB 1 ver ad cs.length cap], X⟩) cs.length
    ⟨_, Le.of (by exact ⟨rfl, rfl, trivial⟩) (by exact ⟨rfl, trivial⟩) (by exact rfl) (by exact rfl) (by repeat' (first | refine all_cons_true ?_ ?_ | rfl | exact bytes_inUse | exact vals_inUse | exact mid_inUse rfl)), 0, by omega, by omega, fun j y hj => absurd hj (by omega), rfl⟩ ?_
  rintro m σ ⟨i, hi, rfl, hpre, rfl⟩
  by_cases hlt : i < cs.length
  · obtain ⟨c, hc⟩ : ∃ c, cs[i]? = some c := ⟨_, List.getElem?_eq_getElem hlt⟩
    obtain ⟨blk, off, arr, el, fr, fad, fcap, rfl, hX, hsz, hcs, g1, g2, g3, hF⟩ := hin.get hc
    have hio : off + Int.toNat (i : Int) * 3 = off + i * 3 := by simp
    by_cases h1 : 12 < c.fs.length
    · rw [show greatB16 cs = true by unfold greatB16; rw [any_at hc (by exact decide_eq_true h1), Bool.or_true]]
      (refine LWP.seq <| LWP.seq <| LWP.region (by kernel_rfl) <| kmv rfl <| kfa rfl rfl ?_; refine kl1 rfl rfl rfl <| K.lenX rfl SliceT.h rfl .plain ?_; refine klt rfl rfl (decide_eq_true (by omega)) <| RunK.nil <| LWP.condT rfl ?_; refine LWP.skip ?_; refine LWP.seq <| LWP.block <| LWP.seq <| LWP.region (by kernel_rfl) <| kfa rfl rfl ?_; refine kl1 rfl rfl rfl <| kmv rfl <| K.indexX rfl rfl SliceT.h (by omega) hio .plain <| K.fieldAddrX rfl rfl .plain ?_; refine K.loadX rfl hX rfl g3 .plain <| K.lenX rfl SliceT.h rfl .plain ?_; refine K.gtr rfl rfl (decide_eq_true (by omega)) .plain <| RunK.nil <| LWP.condT rfl ?_; refine LWP.seq <| LWP.region (by kernel_rfl) <| kas rfl <| RunK.nil <| LWP.ret ?_)
      exact ⟨[_], ⟨rfl, trivial⟩, rfl⟩
    · (refine LWP.seq <| LWP.seq <| LWP.region (by kernel_rfl) <| kmv rfl <| kfa rfl rfl ?_; refine kl1 rfl rfl rfl <| K.lenX rfl SliceT.h rfl .plain ?_; refine klt rfl rfl (decide_eq_true (by omega)) <| RunK.nil <| LWP.condT rfl ?_; refine LWP.skip ?_; refine LWP.seq <| LWP.block <| LWP.seq <| LWP.region (by kernel_rfl) <| kfa rfl rfl ?_; refine kl1 rfl rfl rfl <| kmv rfl <| K.indexX rfl rfl SliceT.h (by omega) hio .plain <| K.fieldAddrX rfl rfl .plain ?_; refine K.loadX rfl hX rfl g3 .plain <| K.lenX rfl SliceT.h rfl .plain ?_; refine K.gtr rfl rfl (decide_eq_false (by omega)) .plain <| RunK.nil <| LWP.condF rfl ?_; refine LWP.skip ?_; refine LWP.region (by kernel_rfl) <| kmv rfl <| kad rfl rfl (wrap_i64 (by omega)) <| kas rfl <| RunK.nil ?_)
      exact ⟨_, _, by omega, Le.of (by exact ⟨rfl, rfl, trivial⟩) (by exact ⟨rfl, trivial⟩) (by exact rfl) (by exact rfl) (by repeat' (first | refine all_cons_true ?_ ?_ | rfl | exact bytes_inUse | exact vals_inUse | exact mid_inUse rfl)), i + 1, by omega, rfl, (fun j y hj hy => by
        by_cases e : j = i
        · subst e
          rw [hc] at hy
          cases hy
          exact decide_eq_false h1
        · exact hpre j y (by omega) hy), rfl⟩
  · rw [show greatB16 cs = false by unfold greatB16; rw [decide_eq_false hn, any_no fun j y hy => hpre j y (by have := (List.getElem?_eq_some_iff.1 hy).1; omega) hy]; rfl]
    (refine LWP.seq <| LWP.seq <| LWP.region (by kernel_rfl) <| kmv rfl <| kfa rfl rfl ?_; refine kl1 rfl rfl rfl <| K.lenX rfl SliceT.h rfl .plain ?_; refine klt rfl rfl (decide_eq_false (by omega)) <| RunK.nil <| LWP.condF rfl ?_; refine LWP.exit <| LWP.seq <| LWP.region (by kernel_rfl) <| kas rfl <| RunK.nil <| LWP.ret ?_)
    exact ⟨[_], ⟨rfl, trivial⟩, rfl⟩
end Go.Proofs.Ytjifibloagkeeaa
end
section
namespace Go.Proofs.Ytjifibloagkeeaa
open Go Go.Lg Go.RowKit Go.ChangeShapes Go.WideShapes Go.Joins
set_option maxRecDepth 100000
section
variable {H : Type} {enc : TypeId × Value → H} {w : World}
theorem five_fields {P : Program} {t : TypeId} {f0 f1 f2 f3 f4 : Field} {fuel : Nat} {cs : List Value} {x : DataW H × List MemPlace} (ht : P.underlying t = some (.struct #[f0, f1, f2, f3, f4])) (h : DataW.trod enc P w 0 (fun _ => true) true fuel t cs = some x) :
    ∃ n, (∃ y, DataW.trod enc P w 0 (fun _ => true) true n f0.type ((cs.drop f0.offset).take (P.cellsOf f0.type)) = some y) ∧ (∃ y, DataW.trod enc P w 0 (fun _ => true) true n f1.type ((cs.drop f1.offset).take (P.cellsOf f1.type)) = some y) ∧
      (∃ y, DataW.trod enc P w 0 (fun _ => true) true n f2.type ((cs.drop f2.offset).take (P.cellsOf f2.type)) = some y) ∧ (∃ y, DataW.trod enc P w 0 (fun _ => true) true n f3.type ((cs.drop f3.offset).take (P.cellsOf f3.type)) = some y) ∧
      (∃ y, DataW.trod enc P w 0 (fun _ => true) true n f4.type ((cs.drop f4.offset).take (P.cellsOf f4.type)) = some y) := by
  obtain ⟨xs, n, _, rfl, _, hlen, hf⟩ := DataW.trod_struct ht h
  have hg : ∀ (i : Nat) (f : Field), (#[f0, f1, f2, f3, f4] : Array Field)[i]? = some f → ∃ y, DataW.trod enc P w 0 (fun _ => true) true n f.type ((cs.drop f.offset).take (P.cellsOf f.type)) = some y := fun i f hi => by
    have h1 : i < xs.length := by
      have := (Array.getElem?_eq_some_iff.1 hi).1
      simp only [List.size_toArray, List.length_cons, List.length_nil] at this hlen
      omega
    have h2 := hf i f hi
    rw [List.getElem?_eq_getElem h1] at h2
    exact ⟨_, h2⟩
  exact ⟨n, hg 0 _ rfl, hg 1 _ rfl, hg 2 _ rfl, hg 3 _ rfl, hg 4 _ rfl⟩
theorem open_acts17 {r : Reach} {b0 : Nat} {v : Value} {d : DataW H} {p : List MemPlace} (hv : Value.okWide Try.prog w r b0 25 v) (h : DataW.Trod enc Try.prog w 0 (fun _ => true) true 25 v d p) :
    ∃ (ad : Option Addr) (cap : Nat) (ds : List Ag), v = .slice ad ds.length cap ∧ ds.length ≤ cap ∧ cap ≤ maxLen ∧ AgsIn (fun b => w.heap[b]?) ad ds := by
  obtain ⟨ad, cap, rows, rfl, h1, h2, h3, h4, _⟩ := open_rows (e := 37) (sz := 5) (by kernel_rfl) (by kernel_rfl) (by decide) hv h
  obtain ⟨ds, rfl, h5⟩ := map_of (f := Ag.vals) (q := fun x => (-9223372036854775808 ≤ x.kind ∧ x.kind < 9223372036854775808) ∧ x.set < 4294967296 ∧ (-9223372036854775808 ≤ x.i ∧ x.i < 9223372036854775808) ∧ (-9223372036854775808 ≤ x.c ∧ x.c < 9223372036854775808)) (vs := rows) (fun u hu => by
    obtain ⟨hlen, n, x, hx⟩ := h4 u hu
    obtain ⟨n', ⟨y0, g0⟩, ⟨y1, g1⟩, ⟨y2, g2⟩, ⟨y3, g3⟩, ⟨y4, g4⟩⟩ := five_fields (t := 37) Try.underlying37 hx
    obtain ⟨c0, c1, c2, c3, c4, rfl⟩ : ∃ c0 c1 c2 c3 c4, u = [c0, c1, c2, c3, c4] := by
      match u, hlen with
      | [c0, c1, c2, c3, c4], _ => exact ⟨c0, c1, c2, c3, c4, rfl⟩
    obtain ⟨k, e0, _, wa0⟩ := DataW.trod_int (k := .i64) (by kernel_rfl) g0
    obtain ⟨s, e1, _, wa1⟩ := DataW.trod_int (k := .u32) (by kernel_rfl) g1
    obtain ⟨i, e2, _, wa2⟩ := DataW.trod_int (k := .i64) (by kernel_rfl) g2
    obtain ⟨c, e3, _, wa3⟩ := DataW.trod_int (k := .i64) (by kernel_rfl) g3
    obtain ⟨b, e4, _⟩ := DataW.trod_bool (by kernel_rfl) g4
    have q0 : c0 = .int .i64 k := by simpa using (show ([c0, c1, c2, c3, c4].drop 0).take 1 = [.int .i64 k] from e0)
    have q1 : c1 = .int .u32 s := by simpa using (show ([c0, c1, c2, c3, c4].drop 1).take 1 = [.int .u32 s] from e1)
    have q2 : c2 = .int .i64 i := by simpa using (show ([c0, c1, c2, c3, c4].drop 2).take 1 = [.int .i64 i] from e2)
    have q3 : c3 = .int .i64 c := by simpa using (show ([c0, c1, c2, c3, c4].drop 3).take 1 = [.int .i64 c] from e3)
    have q4 : c4 = .bool b := by simpa using (show ([c0, c1, c2, c3, c4].drop 4).take 1 = [.bool b] from e4)
    subst q0 q1 q2 q3 q4
    have b0 := bounds_i64 wa0
    have b1 := bounds_u32 wa1
    have b2 := bounds_i64 wa2
    have b3 := bounds_i64 wa3
    obtain ⟨s', rfl⟩ : ∃ s' : Nat, s = (s' : Int) := ⟨s.toNat, by omega⟩
    exact ⟨⟨k, s', i, c, b⟩, rfl, by show (-9223372036854775808 ≤ k ∧ k < 9223372036854775808) ∧ s' < 4294967296 ∧ (-9223372036854775808 ≤ i ∧ i < 9223372036854775808) ∧ (-9223372036854775808 ≤ c ∧ c < 9223372036854775808); omega⟩)
  exact ⟨ad, cap, ds, by rw [List.length_map], by rw [List.length_map] at h1; exact h1, h2, ⟨h3, h5⟩⟩
end
end Go.Proofs.Ytjifibloagkeeaa
end
section
namespace Go.Proofs.Ytjifibloagkeeaa
open Go Go.Lg Go.Lg.Fld Go.Lg.Sg
set_option maxRecDepth 100000
variable (X : Nat → Option Obj)
set_option maxHeartbeats 51200000 in
theorem graphGrows_law (s : Sc) (archs : Int) (acs : List Ag) (ad aad : Option Addr) (cap acap : Nat) (hin : CompsIn X ad s.cs) (hmn : NamesIn s.cs) (hA : AgsIn X aad acs) (hb : acs.length < 9223372036854775808) :
    PSpec Try.prog X 4 [Sx s.ver ad s.cs.length cap, Ln .i64 archs, .sv (.one (.val (.slice aad acs.length acap)))] (Lb true) := by
  have hW := awake17_spec X
  have hG := great17_spec X s.ver ad cap s.cs hin (greatB16 s.cs) rfl
  refine PSpec.intro Try.func4 rfl (by kernel_rfl) rfl rfl ?_
  intro C
  cases hg : greatB16 s.cs with
  | true =>
    rw [hg] at hG
    (refine LWP.seq <| LWP.region (by kernel_rfl) <| K.box rfl rfl rfl .plain <| kas rfl <| RunK.nil <| LWP.seq <| LWP.seq <| LWP.region (by kernel_rfl) <| kca rfl rfl (hW) <| K.not rfl rfl .plain <| RunK.nil <| LWP.condF rfl ?_; refine LWP.skip ?_; refine LWP.seq <| LWP.seq <| LWP.region (by kernel_rfl) <| K.loadAll rfl rfl rfl .plain ?_; refine kca rfl rfl hG <| kmv rfl <| RunK.passed rfl rfl rfl <| RunK.passed rfl rfl rfl <| RunK.passed rfl rfl rfl <| kpt rfl rfl <| RunK.nil <| LWP.condT rfl ?_; refine LWP.seq <| LWP.region (by kernel_rfl) <| kas rfl <| RunK.nil <| LWP.ret ?_)
    exact ⟨[_], ⟨rfl, trivial⟩, rfl⟩
  | false =>
  rw [hg] at hG
  obtain ⟨s1, s2⟩ := greatB16_no hg
  by_cases h100 : 100 < acs.length
  · (refine LWP.seq <| LWP.region (by kernel_rfl) <| K.box rfl rfl rfl .plain <| kas rfl <| RunK.nil <| LWP.seq <| LWP.seq <| LWP.region (by kernel_rfl) <| kca rfl rfl (hW) <| K.not rfl rfl .plain <| RunK.nil <| LWP.condF rfl ?_; refine LWP.skip ?_; refine LWP.seq <| LWP.seq <| LWP.region (by kernel_rfl) <| K.loadAll rfl rfl rfl .plain ?_; refine kca rfl rfl hG <| kmv rfl <| gmv rfl rfl rfl <| K.lenX rfl SliceT.h rfl (.taken rfl rfl) ?_; refine K.gtr rfl rfl (decide_eq_true (by omega)) (.taken rfl rfl) ?_; refine kpf rfl rfl <| RunK.nil <| LWP.condT rfl ?_; refine LWP.seq <| LWP.region (by kernel_rfl) <| kas rfl <| RunK.nil <| LWP.ret ?_)
    exact ⟨[_], ⟨rfl, trivial⟩, rfl⟩
  obtain ⟨p, hp64, hp⟩ := rest_u16 (v := archs) 64 (by decide) (by decide)
  have hpw : IntKind.i64.wrap ((p : Nat) : Int) = ((p : Nat) : Int) := wrap_i64 (by omega)
  have hpa : IntKind.i64.wrap (1 + ((p : Nat) : Int)) = ((p + 1 : Nat) : Int) := by rw [wrap_i64 (by omega)]; omega
  obtain ⟨n, hn⟩ : ∃ n, p + 1 = n := ⟨_, rfl⟩
  rw [hn] at hpa
  have hn1 : 1 ≤ n ∧ n ≤ 64 := by omega
  cases hgt : goodG s (n : Nat) 9 with
  | false =>
    have hN := gNew_no X s (n : Nat) 9 ad cap hin hmn ⟨s1, s2⟩ hgt
    (refine LWP.seq <| LWP.region (by kernel_rfl) <| K.box rfl rfl rfl .plain <| kas rfl <| RunK.nil <| LWP.seq <| LWP.seq <| LWP.region (by kernel_rfl) <| kca rfl rfl (hW) <| K.not rfl rfl .plain <| RunK.nil <| LWP.condF rfl ?_; refine LWP.skip ?_; refine LWP.seq <| LWP.seq <| LWP.region (by kernel_rfl) <| K.loadAll rfl rfl rfl .plain ?_; refine kca rfl rfl hG <| kmv rfl <| gmv rfl rfl rfl <| K.lenX rfl SliceT.h rfl (.taken rfl rfl) ?_; refine K.gtr rfl rfl (decide_eq_false (by omega)) (.taken rfl rfl) ?_; refine kpf rfl rfl <| RunK.nil <| LWP.condF rfl ?_; refine LWP.skip ?_; refine LWP.seq <| LWP.region (by kernel_rfl) <| K.loadAll rfl rfl rfl .plain ?_; refine kmv rfl <| kcv rfl rfl ?_; refine K.rem rfl rfl (by decide) hp .plain <| kcv rfl hpw ?_; refine kad rfl rfl hpa <| kca rfl rfl hN <| kas rfl <| RunK.nil <| LWP.seq <| LWP.seq <| LWP.region (by kernel_rfl) <| kmv rfl <| K.nilNil rfl (by kernel_rfl) (.inl ⟨rfl, rfl⟩) .plain <| RunK.nil <| LWP.condT rfl ?_; refine LWP.seq <| LWP.region (by kernel_rfl) <| kas rfl <| RunK.nil <| LWP.ret ?_)
    exact ⟨[_], ⟨rfl, trivial⟩, rfl⟩
  | true =>
  have hN : MSpec Try.prog X 7 [Sx s.ver ad s.cs.length cap, Ln .i64 (n : Nat), Ln .i64 9] [] (Lp 1000001) [gB 1000001 ⟨s, n, 9, [], []⟩] := gNew X s n 9 ad cap hin hmn ⟨s1, s2⟩ hgt
  (refine LWP.seq <| LWP.region (by kernel_rfl) <| K.box rfl rfl rfl .plain <| kas rfl <| RunK.nil <| LWP.seq <| LWP.seq <| LWP.region (by kernel_rfl) <| kca rfl rfl (hW) <| K.not rfl rfl .plain <| RunK.nil <| LWP.condF rfl ?_; refine LWP.skip ?_; refine LWP.seq <| LWP.seq <| LWP.region (by kernel_rfl) <| K.loadAll rfl rfl rfl .plain ?_; refine kca rfl rfl hG <| kmv rfl <| gmv rfl rfl rfl <| K.lenX rfl SliceT.h rfl (.taken rfl rfl) ?_; refine K.gtr rfl rfl (decide_eq_false (by omega)) (.taken rfl rfl) ?_; refine kpf rfl rfl <| RunK.nil <| LWP.condF rfl ?_; refine LWP.skip ?_; refine LWP.seq <| LWP.region (by kernel_rfl) <| K.loadAll rfl rfl rfl .plain ?_; refine kmv rfl <| kcv rfl rfl ?_; refine K.rem rfl rfl (by decide) hp .plain <| kcv rfl hpw ?_; refine kad rfl rfl hpa <| K.callMp [(1000001, 500)] (Lp 500) [gB 500 ⟨s, n, 9, [], []⟩] (hN) rfl rfl (by exact trivial) rfl rfl rfl rfl rfl (by exact (.box rfl rfl .nil)) .plain <| kas rfl <| RunK.nil <| LWP.seq <| LWP.seq <| LWP.region (by kernel_rfl) <| kmv rfl <| K.ptrNil rfl (by kernel_rfl) (.inl ⟨rfl, rfl⟩) .plain <| RunK.nil <| LWP.condF rfl ?_; refine LWP.skip ?_; refine LWP.seq <| LWP.seq <| LWP.region (by kernel_rfl) <| kas rfl <| RunK.nil <| LWP.block ?_)
  have hOk0 : GrOk ⟨s, n, 9, [], []⟩ := GrOk.new hgt
  have ha0 : (⟨s, n, 9, [], []⟩ : Gr).archs = n := rfl
  have hw0 : (⟨s, n, 9, [], []⟩ : Gr).w.length ≤ 2 * 0 := Nat.le_refl _
  clear hN hW hG hgt
  generalize (⟨s, n, 9, [], []⟩ : Gr) = g0 at *
  refine LWP.le (σ' := ⟨[(1, Ln .i64 archs), (2, .sv (.one (.val (.slice aad acs.length acap)))), (7, Lp 500), (8, Ln .i64 (0 : Nat))], [gB 500 (g0)], X⟩) (Le.of (by exact ⟨rfl, rfl, rfl, rfl, trivial⟩) (by exact ⟨rfl, trivial⟩) (by exact rfl) (by exact rfl) (by repeat' (first | refine all_cons_true ?_ ?_ | rfl | exact bytes_inUse | exact vals_inUse | exact mid_inUse rfl))) ?_
  refine LWP.loopL (fun z σ => ∃ (i : Nat) (g : Gr), i ≤ acs.length ∧ z = acs.length - i ∧ GrOk g ∧ g.archs = n ∧ g.w.length ≤ 2 * i ∧ σ = ⟨[(1, Ln .i64 archs), (2, .sv (.one (.val (.slice aad acs.length acap)))), (7, Lp 500), (8, Ln .i64 (i : Nat))], [gB 500 (g)], X⟩) acs.length
    (Leads.done ⟨0, g0, by omega, by omega, hOk0, ha0, hw0, rfl⟩) ?_
  clear hOk0 ha0 hw0
  clear g0
  rintro z σ ⟨i, g, hi, rfl, hkg, han, hwl, rfl⟩
  by_cases hlt : i < acs.length
  case neg =>
    (refine LWP.seq <| LWP.seq <| LWP.region (by kernel_rfl) <| kmv rfl <| kmv rfl <| K.lenX rfl SliceT.h rfl .plain ?_; refine klt rfl rfl (decide_eq_false (by omega)) <| RunK.nil <| LWP.condF rfl ?_; refine LWP.exit <| LWP.seq <| LWP.region (by kernel_rfl) <| kas rfl <| RunK.nil <| LWP.ret ?_)
    exact ⟨[_], ⟨rfl, trivial⟩, rfl⟩
  obtain ⟨a, ha⟩ : ∃ a, acs[i]? = some a := ⟨_, List.getElem?_eq_getElem hlt⟩
  obtain ⟨ab, ao, arr, el, fr, rfl, hX, hsz, hcells⟩ := hA.at ha
  obtain ⟨ak, aset, ai, ac⟩ := hA.small a (List.mem_of_getElem? ha)
  have hao : ao + Int.toNat (i : Int) * 5 = ao + i * 5 := by simp
  have hadd : IntKind.i64.wrap (((i : Nat) : Int) + 1) = ((i + 1 : Nat) : Int) := by rw [wrap_i64 (by omega)]; omega
  (refine LWP.seq <| LWP.seq <| LWP.region (by kernel_rfl) <| kmv rfl <| kmv rfl <| K.lenX rfl SliceT.h rfl .plain ?_; refine klt rfl rfl (decide_eq_true (by omega)) <| RunK.nil <| LWP.condT rfl ?_; refine LWP.skip ?_; refine LWP.seq <| LWP.block <| LWP.seq <| LWP.region (by kernel_rfl) <| kmv rfl <| kmv rfl <| K.indexX rfl rfl SliceT.h (by omega) hao .plain <| K.loadXagg rfl hX (by kernel_rfl) hsz hcells .plain <| K.alloc rfl .plain ?_; refine K.storeAll rfl rfl rfl rfl rfl rfl .plain ?_; refine RunK.nil <| LWP.seq ?_)
  repeat refine LWP.seq ?_
  refine LWP.meetL (fun σ => ∃ (Y : Nat → Option Obj) (wad : Option Addr) (wc : Nat), (∀ b o, X b = some o → Y b = some o) ∧ U32In Y wad g.l ∧ σ = ⟨[(10, .sv (.one (.val (.slice wad g.l.length wc)))), (1, Ln .i64 archs), (2, .sv (.one (.val (.slice (some ⟨ab, ao, none⟩) acs.length acap)))), (7, Lp 500), (8, Ln .i64 (i : Nat)), (9, Lp 9)], [(9, some ⟨37, [.val (.int .i64 a.kind), .val (.int .u32 (a.set : Nat)), .val (.int .i64 a.i), .val (.int .i64 a.c), .val (.bool a.a)], false⟩), gB 500 (g)], Y⟩) ?_ ?_
  · refine LWP.le (σ' := ⟨[(1, Ln .i64 archs), (2, .sv (.one (.val (.slice (some ⟨ab, ao, none⟩) acs.length acap)))), (7, Lp 500), (8, Ln .i64 (i : Nat)), (9, Lp 9)], [gB 500 (g), (9, some ⟨37, [.val (.int .i64 a.kind), .val (.int .u32 (a.set : Nat)), .val (.int .i64 a.i), .val (.int .i64 a.c), .val (.bool a.a)], false⟩)], X⟩) (Le.of (by exact ⟨rfl, rfl, rfl, rfl, rfl, trivial⟩) (by exact ⟨rfl, rfl, trivial⟩) (by exact rfl) (by exact rfl) (by repeat' (first | refine all_cons_true ?_ ?_ | rfl | exact bytes_inUse | exact vals_inUse | exact mid_inUse rfl))) ?_
    refine g_open fun H vals hO hI0 => ?_
    have hI := g_in hO hI0
    cases hmm : gMade g.l.length with
    | false =>
      have hE := gSigs_none (joinM X H) hI hkg hmm
      have hz := gMade_zero hmm
      (refine LWP.region (by kernel_rfl) <| kmv rfl <| K.callM [(1000000, 500)] [gO 500 vals] (hE) rfl rfl (by exact (And.intro ⟨_, rfl, (Box.ren_vals _ _ _ _)⟩ trivial)) (by exact (all_cons_true vals_inUse rfl)) rfl rfl rfl rfl (by exact (.box rfl (Box.ren_vals _ _ _ _) .nil)) .plain <| kas rfl <| RunK.nil ?_)
      refine Leads.le (σ' := ⟨[(10, .sv (.one (.val (.slice none 0 0)))), (1, Ln .i64 archs), (2, .sv (.one (.val (.slice (some ⟨ab, ao, none⟩) acs.length acap)))), (7, Lp 500), (8, Ln .i64 (i : Nat)), (9, Lp 9)], [gO 500 vals, (9, some ⟨37, [.val (.int .i64 a.kind), .val (.int .u32 (a.set : Nat)), .val (.int .i64 a.i), .val (.int .i64 a.c), .val (.bool a.a)], false⟩)], joinM X H⟩) (Le.of (by exact ⟨rfl, rfl, rfl, rfl, rfl, rfl, trivial⟩) (by exact ⟨rfl, rfl, trivial⟩) (by exact rfl) (by exact rfl) (by repeat' (first | refine all_cons_true ?_ ?_ | rfl | exact bytes_inUse | exact vals_inUse | exact mid_inUse rfl))) ?_
      refine g_shut hO hI0 ?_
      exact Leads.here (σ' := ⟨[(10, .sv (.one (.val (.slice none 0 0)))), (1, Ln .i64 archs), (2, .sv (.one (.val (.slice (some ⟨ab, ao, none⟩) acs.length acap)))), (7, Lp 500), (8, Ln .i64 (i : Nat)), (9, Lp 9)], [(9, some ⟨37, [.val (.int .i64 a.kind), .val (.int .u32 (a.set : Nat)), .val (.int .i64 a.i), .val (.int .i64 a.c), .val (.bool a.a)], false⟩), gB 500 (g)], X⟩) (Le.of (by exact ⟨rfl, rfl, rfl, rfl, rfl, rfl, trivial⟩) (by exact ⟨rfl, rfl, trivial⟩) (by exact rfl) (by exact rfl) (by repeat' (first | refine all_cons_true ?_ ?_ | rfl | exact bytes_inUse | exact vals_inUse | exact mid_inUse rfl))) ⟨X, none, 0, fun _ _ h => h, by rw [List.eq_nil_of_length_eq_zero hz]; exact U32In.nil, by rw [hz]⟩
    | true =>
      have hE := gSigs (joinM X H) hI hkg hmm
      (refine LWP.region (by kernel_rfl) <| kmv rfl <| K.callMp [(1000000, 500), (1000001, 601)] (.sv (.one (.slc 601 0 g.l.length 1))) [gO 500 vals, sgB 601 g.l] (hE) rfl rfl (by exact (And.intro ⟨_, rfl, (Box.ren_vals _ _ _ _)⟩ trivial)) (by exact (all_cons_true vals_inUse rfl)) rfl rfl rfl rfl (by exact (.box rfl (Box.ren_vals _ _ _ _) (.box rfl (Box.ren_vals _ _ _ _) .nil))) .plain <| kas rfl <| RunK.nil ?_)
      refine Leads.le (σ' := ⟨[(10, .sv (.one (.slc 601 0 g.l.length 1))), (1, Ln .i64 archs), (2, .sv (.one (.val (.slice (some ⟨ab, ao, none⟩) acs.length acap)))), (7, Lp 500), (8, Ln .i64 (i : Nat)), (9, Lp 9)], [gO 500 vals, sgB 601 g.l, (9, some ⟨37, [.val (.int .i64 a.kind), .val (.int .u32 (a.set : Nat)), .val (.int .i64 a.i), .val (.int .i64 a.c), .val (.bool a.a)], false⟩)], joinM X H⟩) (Le.of (by exact ⟨rfl, rfl, rfl, rfl, rfl, rfl, trivial⟩) (by exact ⟨rfl, rfl, rfl, trivial⟩) (by exact rfl) (by exact rfl) (by repeat' (first | refine all_cons_true ?_ ?_ | rfl | exact bytes_inUse | exact vals_inUse | exact mid_inUse rfl))) ?_
      refine g_shut hO hI0 ?_
      refine Leads.le (σ' := ⟨[(10, .sv (.one (.slc 601 0 g.l.length 1))), (1, Ln .i64 archs), (2, .sv (.one (.val (.slice (some ⟨ab, ao, none⟩) acs.length acap)))), (7, Lp 500), (8, Ln .i64 (i : Nat)), (9, Lp 9)], [sgB 601 g.l, (9, some ⟨37, [.val (.int .i64 a.kind), .val (.int .u32 (a.set : Nat)), .val (.int .i64 a.i), .val (.int .i64 a.c), .val (.bool a.a)], false⟩), gB 500 (g)], X⟩) (Le.of (by exact ⟨rfl, rfl, rfl, rfl, rfl, rfl, trivial⟩) (by exact ⟨rfl, rfl, rfl, trivial⟩) (by exact rfl) (by exact rfl) (by repeat' (first | refine all_cons_true ?_ ?_ | rfl | exact bytes_inUse | exact vals_inUse | exact mid_inUse rfl))) ?_
      refine Leads.freeze rfl (by repeat' (first | refine all_cons_true ?_ ?_ | rfl | exact vals_inUse)) rfl fun blk c2 arr fr hn _ _ _ hsp => ?_
      exact Leads.here (σ' := ⟨[(10, .sv (.one (.val (.slice (some ⟨blk, 0, none⟩) g.l.length c2)))), (1, Ln .i64 archs), (2, .sv (.one (.val (.slice (some ⟨ab, ao, none⟩) acs.length acap)))), (7, Lp 500), (8, Ln .i64 (i : Nat)), (9, Lp 9)], [(9, some ⟨37, [.val (.int .i64 a.kind), .val (.int .u32 (a.set : Nat)), .val (.int .i64 a.i), .val (.int .i64 a.c), .val (.bool a.a)], false⟩), gB 500 (g)], withBlock X blk (.cells arr 35 fr)⟩) (Le.of (by exact ⟨rfl, rfl, rfl, rfl, rfl, rfl, trivial⟩) (by exact ⟨rfl, rfl, trivial⟩) (by exact rfl) (by exact rfl) (by repeat' (first | refine all_cons_true ?_ ?_ | rfl | exact bytes_inUse | exact vals_inUse | exact mid_inUse rfl))) ⟨_, some ⟨blk, 0, none⟩, c2, withBlock_old hn, u32_frozen hsp, rfl⟩
  rintro σ ⟨Y, wad, wc, hY, hU10, rfl⟩
  have hm := hkg.archs
  have hro := hkg.room
  clear hcells hsz hao
  repeat refine LWP.seq ?_
  refine LWP.meetL (fun σ => σ = ⟨[(11, Ln .i64 0), (1, Ln .i64 archs), (2, .sv (.one (.val (.slice (some ⟨ab, ao, none⟩) acs.length acap)))), (7, Lp 500), (8, Ln .i64 (i : Nat)), (9, Lp 9), (10, .sv (.one (.val (.slice wad g.l.length wc))))], [(9, some ⟨37, [.val (.int .i64 a.kind), .val (.int .u32 (a.set : Nat)), .val (.int .i64 a.i), .val (.int .i64 a.c), .val (.bool a.a)], false⟩), gB 500 (g)], Y⟩) ?_ ?_
  · (refine LWP.region (by kernel_rfl) <| kas rfl <| RunK.nil ?_)
    exact Leads.here (σ' := ⟨[(11, Ln .i64 0), (1, Ln .i64 archs), (2, .sv (.one (.val (.slice (some ⟨ab, ao, none⟩) acs.length acap)))), (7, Lp 500), (8, Ln .i64 (i : Nat)), (9, Lp 9), (10, .sv (.one (.val (.slice wad g.l.length wc))))], [(9, some ⟨37, [.val (.int .i64 a.kind), .val (.int .u32 (a.set : Nat)), .val (.int .i64 a.i), .val (.int .i64 a.c), .val (.bool a.a)], false⟩), gB 500 (g)], Y⟩) (Le.of (by exact ⟨rfl, rfl, rfl, rfl, rfl, rfl, rfl, trivial⟩) (by exact ⟨rfl, rfl, trivial⟩) (by exact rfl) (by exact rfl) (by repeat' (first | refine all_cons_true ?_ ?_ | rfl | exact bytes_inUse | exact vals_inUse | exact mid_inUse rfl))) rfl
  rintro σ rfl
  refine LWP.seq ?_
  refine LWP.meetL (fun σ => ∃ (u : Gr) (e : Int) (t : List Nat), GrOk u ∧ u.archs = g.archs ∧ u.w.length ≤ g.w.length + 2 ∧ u.l = g.l ++ t ∧ t.length ≤ 1 ∧ (e ≠ 0 → t = []) ∧ σ = ⟨[(11, Ln .i64 e), (1, Ln .i64 archs), (2, .sv (.one (.val (.slice (some ⟨ab, ao, none⟩) acs.length acap)))), (7, Lp 500), (8, Ln .i64 (i : Nat)), (9, Lp 9), (10, .sv (.one (.val (.slice wad g.l.length wc))))], [(9, some ⟨37, [.val (.int .i64 a.kind), .val (.int .u32 (a.set : Nat)), .val (.int .i64 a.i), .val (.int .i64 a.c), .val (.bool a.a)], false⟩), gB 500 (u)], Y⟩) ?_ ?_
  · by_cases c1 : a.kind = 1
    · have hMa := gMake Y g hkg a.set aset
      obtain ⟨t, ht1, ht2, ht3⟩ := makeL_pre (g := g) (s := a.set)
      have hku := hkg.make aset
      have hua : (makeG g a.set).archs = g.archs := rfl
      have huw : (makeG g a.set).w.length ≤ g.w.length + 2 := by show g.w.length ≤ _; omega
      have hul : (makeG g a.set).l = g.l ++ t := ht1
      generalize makeE g a.set = e at *
      generalize makeN g a.set = nn at *
      generalize makeG g a.set = u at *
      (refine LWP.seq <| LWP.region (by kernel_rfl) <| kfa rfl rfl ?_; refine kl1 rfl rfl rfl <| keq rfl rfl (r := true) (beq_iff_eq.2 c1) <| RunK.nil <| LWP.condT rfl ?_; refine LWP.region (by kernel_rfl) <| kmv rfl <| kfa rfl rfl ?_; refine kl1 rfl rfl rfl <| K.callM [(1000000, 500)] [gB 500 u] (hMa) rfl rfl (by exact (And.intro ⟨_, rfl, rfl⟩ trivial)) (by exact (all_cons_true rfl rfl)) rfl rfl rfl rfl (by exact (.box rfl rfl .nil)) .plain <| kmv rfl <| kex rfl rfl <| kex rfl rfl <| kas rfl <| RunK.nil ?_)
      exact Leads.here (σ' := ⟨[(11, Ln .i64 e), (1, Ln .i64 archs), (2, .sv (.one (.val (.slice (some ⟨ab, ao, none⟩) acs.length acap)))), (7, Lp 500), (8, Ln .i64 (i : Nat)), (9, Lp 9), (10, .sv (.one (.val (.slice wad g.l.length wc))))], [(9, some ⟨37, [.val (.int .i64 a.kind), .val (.int .u32 (a.set : Nat)), .val (.int .i64 a.i), .val (.int .i64 a.c), .val (.bool a.a)], false⟩), gB 500 (u)], Y⟩) (Le.of (by exact ⟨rfl, rfl, rfl, rfl, rfl, rfl, rfl, trivial⟩) (by exact ⟨rfl, rfl, trivial⟩) (by exact rfl) (by exact rfl) (by repeat' (first | refine all_cons_true ?_ ?_ | rfl | exact bytes_inUse | exact vals_inUse | exact mid_inUse rfl))) ⟨u, e, t, hku, hua, huw, hul, ht2, ht3, rfl⟩
    · have hSt := gStep Y g hkg a.i a.c a.a ai ac
      obtain ⟨t, ht1, ht2, ht3⟩ := step_pre g a.i a.c a.a
      have hku := hkg.step a.i a.c a.a
      have hua := (step_same g a.i a.c a.a).2.1
      have huw := step_ways g a.i a.c a.a
      generalize stepE g a.i a.c a.a = e at *
      generalize stepN g a.i a.c a.a = nn at *
      generalize stepG g a.i a.c a.a = u at *
      (refine LWP.seq <| LWP.region (by kernel_rfl) <| kfa rfl rfl ?_; refine kl1 rfl rfl rfl <| keq rfl rfl (r := false) (beq_eq_false_iff_ne.2 c1) <| RunK.nil <| LWP.condF rfl ?_; refine LWP.region (by kernel_rfl) <| kmv rfl <| kfa rfl rfl ?_; refine kl1 rfl rfl rfl <| kfa rfl rfl ?_; refine kl1 rfl rfl rfl <| kfa rfl rfl ?_; refine kl1 rfl rfl rfl <| K.callM [(1000000, 500)] [gB 500 u] (hSt) rfl rfl (by exact (And.intro ⟨_, rfl, rfl⟩ trivial)) (by exact (all_cons_true rfl rfl)) rfl rfl rfl rfl (by exact (.box rfl rfl .nil)) .plain <| kmv rfl <| kex rfl rfl <| kex rfl rfl <| kas rfl <| RunK.nil ?_)
      exact Leads.here (σ' := ⟨[(11, Ln .i64 e), (1, Ln .i64 archs), (2, .sv (.one (.val (.slice (some ⟨ab, ao, none⟩) acs.length acap)))), (7, Lp 500), (8, Ln .i64 (i : Nat)), (9, Lp 9), (10, .sv (.one (.val (.slice wad g.l.length wc))))], [(9, some ⟨37, [.val (.int .i64 a.kind), .val (.int .u32 (a.set : Nat)), .val (.int .i64 a.i), .val (.int .i64 a.c), .val (.bool a.a)], false⟩), gB 500 (u)], Y⟩) (Le.of (by exact ⟨rfl, rfl, rfl, rfl, rfl, rfl, rfl, trivial⟩) (by exact ⟨rfl, rfl, trivial⟩) (by exact rfl) (by exact rfl) (by repeat' (first | refine all_cons_true ?_ ?_ | rfl | exact bytes_inUse | exact vals_inUse | exact mid_inUse rfl))) ⟨u, e, t, hku, hua, huw, ht1, ht2, ht3, rfl⟩
  rintro σ ⟨u, e, t, hku, hua, huw, hul, ht2, ht3, rfl⟩
  repeat refine LWP.seq ?_
  refine LWP.meetL (fun σ => ∃ (Z : Nat → Option Obj) (iad : Option Addr) (ic : Nat), (∀ b o, Y b = some o → Z b = some o) ∧ U32In Z iad u.l ∧ σ = ⟨[(12, .sv (.one (.val (.slice iad u.l.length ic)))), (1, Ln .i64 archs), (2, .sv (.one (.val (.slice (some ⟨ab, ao, none⟩) acs.length acap)))), (7, Lp 500), (8, Ln .i64 (i : Nat)), (9, Lp 9), (10, .sv (.one (.val (.slice wad g.l.length wc)))), (11, Ln .i64 e)], [(9, some ⟨37, [.val (.int .i64 a.kind), .val (.int .u32 (a.set : Nat)), .val (.int .i64 a.i), .val (.int .i64 a.c), .val (.bool a.a)], false⟩), gB 500 (u)], Z⟩) ?_ ?_
  · refine LWP.le (σ' := ⟨[(1, Ln .i64 archs), (2, .sv (.one (.val (.slice (some ⟨ab, ao, none⟩) acs.length acap)))), (7, Lp 500), (8, Ln .i64 (i : Nat)), (9, Lp 9), (10, .sv (.one (.val (.slice wad g.l.length wc)))), (11, Ln .i64 e)], [gB 500 (u), (9, some ⟨37, [.val (.int .i64 a.kind), .val (.int .u32 (a.set : Nat)), .val (.int .i64 a.i), .val (.int .i64 a.c), .val (.bool a.a)], false⟩)], Y⟩) (Le.of (by exact ⟨rfl, rfl, rfl, rfl, rfl, rfl, rfl, trivial⟩) (by exact ⟨rfl, rfl, trivial⟩) (by exact rfl) (by exact rfl) (by repeat' (first | refine all_cons_true ?_ ?_ | rfl | exact bytes_inUse | exact vals_inUse | exact mid_inUse rfl))) ?_
    refine g_open fun H vals hO hI0 => ?_
    have hI := g_in hO hI0
    cases hmm : gMade u.l.length with
    | false =>
      have hE := gSigs_none (joinM Y H) hI hku hmm
      have hz := gMade_zero hmm
      (refine LWP.region (by kernel_rfl) <| kmv rfl <| K.callM [(1000000, 500)] [gO 500 vals] (hE) rfl rfl (by exact (And.intro ⟨_, rfl, (Box.ren_vals _ _ _ _)⟩ trivial)) (by exact (all_cons_true vals_inUse rfl)) rfl rfl rfl rfl (by exact (.box rfl (Box.ren_vals _ _ _ _) .nil)) .plain <| kas rfl <| RunK.nil ?_)
      refine Leads.le (σ' := ⟨[(12, .sv (.one (.val (.slice none 0 0)))), (1, Ln .i64 archs), (2, .sv (.one (.val (.slice (some ⟨ab, ao, none⟩) acs.length acap)))), (7, Lp 500), (8, Ln .i64 (i : Nat)), (9, Lp 9), (10, .sv (.one (.val (.slice wad g.l.length wc)))), (11, Ln .i64 e)], [gO 500 vals, (9, some ⟨37, [.val (.int .i64 a.kind), .val (.int .u32 (a.set : Nat)), .val (.int .i64 a.i), .val (.int .i64 a.c), .val (.bool a.a)], false⟩)], joinM Y H⟩) (Le.of (by exact ⟨rfl, rfl, rfl, rfl, rfl, rfl, rfl, rfl, trivial⟩) (by exact ⟨rfl, rfl, trivial⟩) (by exact rfl) (by exact rfl) (by repeat' (first | refine all_cons_true ?_ ?_ | rfl | exact bytes_inUse | exact vals_inUse | exact mid_inUse rfl))) ?_
      refine g_shut hO hI0 ?_
      exact Leads.here (σ' := ⟨[(12, .sv (.one (.val (.slice none 0 0)))), (1, Ln .i64 archs), (2, .sv (.one (.val (.slice (some ⟨ab, ao, none⟩) acs.length acap)))), (7, Lp 500), (8, Ln .i64 (i : Nat)), (9, Lp 9), (10, .sv (.one (.val (.slice wad g.l.length wc)))), (11, Ln .i64 e)], [(9, some ⟨37, [.val (.int .i64 a.kind), .val (.int .u32 (a.set : Nat)), .val (.int .i64 a.i), .val (.int .i64 a.c), .val (.bool a.a)], false⟩), gB 500 (u)], Y⟩) (Le.of (by exact ⟨rfl, rfl, rfl, rfl, rfl, rfl, rfl, rfl, trivial⟩) (by exact ⟨rfl, rfl, trivial⟩) (by exact rfl) (by exact rfl) (by repeat' (first | refine all_cons_true ?_ ?_ | rfl | exact bytes_inUse | exact vals_inUse | exact mid_inUse rfl))) ⟨Y, none, 0, fun _ _ h => h, by rw [List.eq_nil_of_length_eq_zero hz]; exact U32In.nil, by rw [hz]⟩
    | true =>
      have hE := gSigs (joinM Y H) hI hku hmm
      (refine LWP.region (by kernel_rfl) <| kmv rfl <| K.callMp [(1000000, 500), (1000001, 601)] (.sv (.one (.slc 601 0 u.l.length 1))) [gO 500 vals, sgB 601 u.l] (hE) rfl rfl (by exact (And.intro ⟨_, rfl, (Box.ren_vals _ _ _ _)⟩ trivial)) (by exact (all_cons_true vals_inUse rfl)) rfl rfl rfl rfl (by exact (.box rfl (Box.ren_vals _ _ _ _) (.box rfl (Box.ren_vals _ _ _ _) .nil))) .plain <| kas rfl <| RunK.nil ?_)
      refine Leads.le (σ' := ⟨[(12, .sv (.one (.slc 601 0 u.l.length 1))), (1, Ln .i64 archs), (2, .sv (.one (.val (.slice (some ⟨ab, ao, none⟩) acs.length acap)))), (7, Lp 500), (8, Ln .i64 (i : Nat)), (9, Lp 9), (10, .sv (.one (.val (.slice wad g.l.length wc)))), (11, Ln .i64 e)], [gO 500 vals, sgB 601 u.l, (9, some ⟨37, [.val (.int .i64 a.kind), .val (.int .u32 (a.set : Nat)), .val (.int .i64 a.i), .val (.int .i64 a.c), .val (.bool a.a)], false⟩)], joinM Y H⟩) (Le.of (by exact ⟨rfl, rfl, rfl, rfl, rfl, rfl, rfl, rfl, trivial⟩) (by exact ⟨rfl, rfl, rfl, trivial⟩) (by exact rfl) (by exact rfl) (by repeat' (first | refine all_cons_true ?_ ?_ | rfl | exact bytes_inUse | exact vals_inUse | exact mid_inUse rfl))) ?_
      refine g_shut hO hI0 ?_
      refine Leads.le (σ' := ⟨[(12, .sv (.one (.slc 601 0 u.l.length 1))), (1, Ln .i64 archs), (2, .sv (.one (.val (.slice (some ⟨ab, ao, none⟩) acs.length acap)))), (7, Lp 500), (8, Ln .i64 (i : Nat)), (9, Lp 9), (10, .sv (.one (.val (.slice wad g.l.length wc)))), (11, Ln .i64 e)], [sgB 601 u.l, (9, some ⟨37, [.val (.int .i64 a.kind), .val (.int .u32 (a.set : Nat)), .val (.int .i64 a.i), .val (.int .i64 a.c), .val (.bool a.a)], false⟩), gB 500 (u)], Y⟩) (Le.of (by exact ⟨rfl, rfl, rfl, rfl, rfl, rfl, rfl, rfl, trivial⟩) (by exact ⟨rfl, rfl, rfl, trivial⟩) (by exact rfl) (by exact rfl) (by repeat' (first | refine all_cons_true ?_ ?_ | rfl | exact bytes_inUse | exact vals_inUse | exact mid_inUse rfl))) ?_
      refine Leads.freeze rfl (by repeat' (first | refine all_cons_true ?_ ?_ | rfl | exact vals_inUse)) rfl fun blk c2 arr fr hn _ _ _ hsp => ?_
      exact Leads.here (σ' := ⟨[(12, .sv (.one (.val (.slice (some ⟨blk, 0, none⟩) u.l.length c2)))), (1, Ln .i64 archs), (2, .sv (.one (.val (.slice (some ⟨ab, ao, none⟩) acs.length acap)))), (7, Lp 500), (8, Ln .i64 (i : Nat)), (9, Lp 9), (10, .sv (.one (.val (.slice wad g.l.length wc)))), (11, Ln .i64 e)], [(9, some ⟨37, [.val (.int .i64 a.kind), .val (.int .u32 (a.set : Nat)), .val (.int .i64 a.i), .val (.int .i64 a.c), .val (.bool a.a)], false⟩), gB 500 (u)], withBlock Y blk (.cells arr 35 fr)⟩) (Le.of (by exact ⟨rfl, rfl, rfl, rfl, rfl, rfl, rfl, rfl, trivial⟩) (by exact ⟨rfl, rfl, trivial⟩) (by exact rfl) (by exact rfl) (by repeat' (first | refine all_cons_true ?_ ?_ | rfl | exact bytes_inUse | exact vals_inUse | exact mid_inUse rfl))) ⟨_, some ⟨blk, 0, none⟩, c2, withBlock_old hn, u32_frozen hsp, rfl⟩
  rintro σ ⟨Z, iad, ic, hZ, hU12, rfl⟩
  have hUw := hU10.mono hZ
  have hlt2 : u.l.length = g.l.length + t.length := by rw [hul, List.length_append]
  have hro2 := hku.room
  refine LWP.le (σ' := ⟨[(1, Ln .i64 archs), (2, .sv (.one (.val (.slice (some ⟨ab, ao, none⟩) acs.length acap)))), (7, Lp 500), (8, Ln .i64 (i : Nat)), (10, .sv (.one (.val (.slice wad g.l.length wc)))), (11, Ln .i64 e), (12, .sv (.one (.val (.slice iad u.l.length ic))))], [gB 500 (u)], Z⟩) (Le.of (by exact ⟨rfl, rfl, rfl, rfl, rfl, rfl, rfl, trivial⟩) (by exact ⟨rfl, trivial⟩) (by exact rfl) (by exact rfl) (by repeat' (first | refine all_cons_true ?_ ?_ | rfl | exact bytes_inUse | exact vals_inUse | exact mid_inUse rfl))) ?_
  refine g_open fun H vals hO hI0 => ?_
  have hI := g_in hO hI0
  have hLe := grLen (joinM Z H) hI hku
  have hRo := gRoom (joinM Z H) hI hku
  have hla : IntKind.i64.wrap (((g.l.length : Nat) : Int) + 1) = ((g.l.length + 1 : Nat) : Int) := by rw [wrap_i64 (by omega)]; omega
  have hsum : IntKind.i64.wrap (((u.l.length : Nat) : Int) + ((u.archs - u.l.length : Nat) : Int)) = ((n : Nat) : Int) := by rw [wrap_i64 (by omega)]; omega
  have hjm : ∀ b o, Z b = some o → joinM Z H b = some o := fun b o h => joinM_has hO h
  have hUw2 := hUw.mono hjm
  have hUi2 := hU12.mono hjm
  refine LWP.seq ?_
  refine LWP.meetL (fun σ => σ = ⟨[(1, Ln .i64 archs), (2, .sv (.one (.val (.slice (some ⟨ab, ao, none⟩) acs.length acap)))), (7, Lp 500), (8, Ln .i64 (i : Nat)), (10, .sv (.one (.val (.slice wad g.l.length wc)))), (12, .sv (.one (.val (.slice iad u.l.length ic))))], [gO 500 vals], joinM Z H⟩) ?_ ?_
  · by_cases he : e = 0
    · (refine LWP.seq <| LWP.region (by kernel_rfl) <| kmv rfl <| K.lenX rfl SliceT.h rfl .plain ?_; refine kmv rfl <| K.lenX rfl SliceT.h rfl .plain ?_; refine klt rfl rfl (decide_eq_false (by omega)) <| kmv rfl <| gmv rfl rfl rfl <| K.lenX rfl SliceT.h rfl (.taken rfl rfl) ?_; refine gmv rfl rfl rfl <| K.lenX rfl SliceT.h rfl (.taken rfl rfl) ?_; refine K.add rfl rfl hla (.taken rfl rfl) ?_; refine K.gtr rfl rfl (decide_eq_false (by omega)) (.taken rfl rfl) ?_; refine kpf rfl rfl <| kmv rfl <| gmv rfl rfl rfl <| K.neq rfl rfl (r := false) (bne_eq_false_iff_eq.2 he) (.taken rfl rfl) ?_; refine gmv rfl rfl rfl <| RunK.passed rfl rfl rfl <| RunK.passed rfl rfl rfl <| RunK.passed rfl rfl rfl <| RunK.passed rfl rfl rfl <| RunK.passed rfl rfl rfl <| K.pickF rfl rfl (.taken rfl rfl) ?_; refine kpf rfl rfl <| kmv rfl <| gmv rfl rfl rfl <| K.callM [(1000000, 500)] [gO 500 vals] (hLe) rfl rfl (by exact (And.intro ⟨_, rfl, (Box.ren_vals _ _ _ _)⟩ trivial)) (by exact (all_cons_true vals_inUse rfl)) rfl rfl rfl rfl (by exact (.box rfl (Box.ren_vals _ _ _ _) .nil)) (.taken rfl rfl) ?_; refine gmv rfl rfl rfl <| K.callM [(1000000, 500)] [gO 500 vals] (hRo) rfl rfl (by exact (And.intro ⟨_, rfl, (Box.ren_vals _ _ _ _)⟩ trivial)) (by exact (all_cons_true vals_inUse rfl)) rfl rfl rfl rfl (by exact (.box rfl (Box.ren_vals _ _ _ _) .nil)) (.taken rfl rfl) ?_; refine K.add rfl rfl hsum (.taken rfl rfl) ?_; refine gmv rfl rfl rfl <| K.conv rfl rfl (.taken rfl rfl) ?_; refine K.rem rfl rfl (by decide) hp (.taken rfl rfl) ?_; refine K.conv rfl hpw (.taken rfl rfl) ?_; refine K.add rfl rfl hpa (.taken rfl rfl) ?_; refine K.neq rfl rfl (r := false) (bne_eq_false_iff_eq.2 rfl) (.taken rfl rfl) ?_; refine kpf rfl rfl <| RunK.nil <| LWP.condF rfl ?_; refine LWP.skip ?_)
      exact Leads.here (σ' := ⟨[(1, Ln .i64 archs), (2, .sv (.one (.val (.slice (some ⟨ab, ao, none⟩) acs.length acap)))), (7, Lp 500), (8, Ln .i64 (i : Nat)), (10, .sv (.one (.val (.slice wad g.l.length wc)))), (12, .sv (.one (.val (.slice iad u.l.length ic))))], [gO 500 vals], joinM Z H⟩) (Le.of (by exact ⟨rfl, rfl, rfl, rfl, rfl, rfl, trivial⟩) (by exact ⟨rfl, trivial⟩) (by exact rfl) (by exact rfl) (by repeat' (first | refine all_cons_true ?_ ?_ | rfl | exact bytes_inUse | exact vals_inUse | exact mid_inUse rfl))) rfl
    · have ht0 := ht3 he
      rw [ht0, List.length_nil] at hlt2
      ((refine LWP.seq <| LWP.region (by kernel_rfl) <| kmv rfl <| K.lenX rfl SliceT.h rfl .plain ?_; refine kmv rfl <| K.lenX rfl SliceT.h rfl .plain ?_; refine klt rfl rfl (decide_eq_false (by omega)) <| kmv rfl <| gmv rfl rfl rfl <| K.lenX rfl SliceT.h rfl (.taken rfl rfl) ?_; refine gmv rfl rfl rfl <| K.lenX rfl SliceT.h rfl (.taken rfl rfl) ?_; refine K.add rfl rfl hla (.taken rfl rfl) ?_; refine K.gtr rfl rfl (decide_eq_false (by omega)) (.taken rfl rfl) ?_; refine kpf rfl rfl <| kmv rfl <| gmv rfl rfl rfl <| K.neq rfl rfl (r := true) (bne_iff_ne.2 he) (.taken rfl rfl) ?_; refine gmv rfl rfl rfl <| gmv rfl rfl rfl <| K.lenX rfl SliceT.h rfl (.taken rfl rfl) ?_; refine gmv rfl rfl rfl <| K.lenX rfl SliceT.h rfl (.taken rfl rfl) ?_; refine K.neq rfl rfl (r := false) (bne_eq_false_iff_eq.2 (by omega)) (.taken rfl rfl) ?_; refine K.pickT rfl rfl (.taken rfl rfl) ?_; refine kpf rfl rfl <| kmv rfl <| gmv rfl rfl rfl <| K.callM [(1000000, 500)] [gO 500 vals] (hLe) rfl rfl (by exact (And.intro ⟨_, rfl, (Box.ren_vals _ _ _ _)⟩ trivial)) (by exact (all_cons_true vals_inUse rfl)) rfl rfl rfl rfl (by exact (.box rfl (Box.ren_vals _ _ _ _) .nil)) (.taken rfl rfl) ?_); (refine gmv rfl rfl rfl <| K.callM [(1000000, 500)] [gO 500 vals] (hRo) rfl rfl (by exact (And.intro ⟨_, rfl, (Box.ren_vals _ _ _ _)⟩ trivial)) (by exact (all_cons_true vals_inUse rfl)) rfl rfl rfl rfl (by exact (.box rfl (Box.ren_vals _ _ _ _) .nil)) (.taken rfl rfl) ?_; refine K.add rfl rfl hsum (.taken rfl rfl) ?_; refine gmv rfl rfl rfl <| K.conv rfl rfl (.taken rfl rfl) ?_; refine K.rem rfl rfl (by decide) hp (.taken rfl rfl) ?_; refine K.conv rfl hpw (.taken rfl rfl) ?_; refine K.add rfl rfl hpa (.taken rfl rfl) ?_; refine K.neq rfl rfl (r := false) (bne_eq_false_iff_eq.2 rfl) (.taken rfl rfl) ?_; refine kpf rfl rfl <| RunK.nil <| LWP.condF rfl ?_; refine LWP.skip ?_))
      exact Leads.here (σ' := ⟨[(1, Ln .i64 archs), (2, .sv (.one (.val (.slice (some ⟨ab, ao, none⟩) acs.length acap)))), (7, Lp 500), (8, Ln .i64 (i : Nat)), (10, .sv (.one (.val (.slice wad g.l.length wc)))), (12, .sv (.one (.val (.slice iad u.l.length ic))))], [gO 500 vals], joinM Z H⟩) (Le.of (by exact ⟨rfl, rfl, rfl, rfl, rfl, rfl, trivial⟩) (by exact ⟨rfl, trivial⟩) (by exact rfl) (by exact rfl) (by repeat' (first | refine all_cons_true ?_ ?_ | rfl | exact bytes_inUse | exact vals_inUse | exact mid_inUse rfl))) rfl
  rintro σ rfl
  (refine LWP.seq <| LWP.region (by kernel_rfl) <| kas rfl <| RunK.nil <| LWP.block ?_)
  repeat refine LWP.seq ?_
  refine LWP.loopL (fun z σ => ∃ k : Nat, k ≤ g.l.length ∧ z = g.l.length - k ∧ σ = ⟨[(1, Ln .i64 archs), (2, .sv (.one (.val (.slice (some ⟨ab, ao, none⟩) acs.length acap)))), (7, Lp 500), (8, Ln .i64 (i : Nat)), (10, .sv (.one (.val (.slice wad g.l.length wc)))), (12, .sv (.one (.val (.slice iad u.l.length ic)))), (13, Ln .i64 (k : Nat))], [gO 500 vals], joinM Z H⟩) g.l.length
    (Leads.le (σ' := ⟨[(1, Ln .i64 archs), (2, .sv (.one (.val (.slice (some ⟨ab, ao, none⟩) acs.length acap)))), (7, Lp 500), (8, Ln .i64 (i : Nat)), (10, .sv (.one (.val (.slice wad g.l.length wc)))), (12, .sv (.one (.val (.slice iad u.l.length ic)))), (13, Ln .i64 (0 : Nat))], [gO 500 vals], joinM Z H⟩) (Le.of (by exact ⟨rfl, rfl, rfl, rfl, rfl, rfl, rfl, trivial⟩) (by exact ⟨rfl, trivial⟩) (by exact rfl) (by exact rfl) (by repeat' (first | refine all_cons_true ?_ ?_ | rfl | exact bytes_inUse | exact vals_inUse | exact mid_inUse rfl))) (Leads.done ⟨0, by omega, by omega, rfl⟩)) ?_
  rintro z σ ⟨k, hkk, rfl, rfl⟩
  by_cases hkl : k < g.l.length
  case neg =>
    (refine LWP.seq <| LWP.seq <| LWP.region (by kernel_rfl) <| kmv rfl <| kmv rfl <| K.lenX rfl SliceT.h rfl .plain ?_; refine klt rfl rfl (decide_eq_false (by omega)) <| RunK.nil <| LWP.condF rfl ?_; refine LWP.exit <| LWP.region (by kernel_rfl) <| kmv rfl <| kad rfl rfl hadd <| kas rfl <| RunK.nil ?_)
    refine Leads.le (σ' := ⟨[(1, Ln .i64 archs), (2, .sv (.one (.val (.slice (some ⟨ab, ao, none⟩) acs.length acap)))), (7, Lp 500), (8, Ln .i64 (i + 1 : Nat))], [gO 500 vals], joinM Z H⟩) (Le.of (by exact ⟨rfl, rfl, rfl, rfl, trivial⟩) (by exact ⟨rfl, trivial⟩) (by exact rfl) (by exact rfl) (by repeat' (first | refine all_cons_true ?_ ?_ | rfl | exact bytes_inUse | exact vals_inUse | exact mid_inUse rfl))) ?_
    refine g_shut hO hI0 ?_
    exact Leads.le (Le.drop fun b o h => hZ b o (hY b o h)) (Leads.done ⟨acs.length - (i + 1), by omega, i + 1, u, by omega, rfl, hku, by omega, by omega, rfl⟩)
  have hadk : IntKind.i64.wrap (((k : Nat) : Int) + 1) = ((k + 1 : Nat) : Int) := by rw [wrap_i64 (by omega)]; omega
  obtain ⟨v, hv⟩ : ∃ v, g.l[k]? = some v := ⟨_, List.getElem?_eq_getElem hkl⟩
  have hv2 : u.l[k]? = some v := by rw [hul, List.getElem?_append_left hkl]; exact hv
  obtain ⟨wb, wo, warr, wel, wfr, rfl, hWX, hWJ⟩ := u32_at hUw2 hv
  obtain ⟨ib, io, iarr, iel, ifr, rfl, hIX, hIJ⟩ := u32_at hUi2 hv2
  have hwo : wo + Int.toNat ((k : Nat) : Int) * 1 = wo + k * 1 := by simp
  have hio : io + Int.toNat ((k : Nat) : Int) * 1 = io + k * 1 := by simp
  (refine LWP.seq <| LWP.seq <| LWP.region (by kernel_rfl) <| kmv rfl <| kmv rfl <| K.lenX rfl SliceT.h rfl .plain ?_; refine klt rfl rfl (decide_eq_true (by omega)) <| RunK.nil <| LWP.condT rfl ?_; refine LWP.skip ?_; refine LWP.seq <| LWP.block <| LWP.seq <| LWP.draws mixed (by kernel_rfl) <| kmv rfl <| kmv rfl <| K.indexX rfl rfl SliceT.h (by omega) hwo .plain <| K.loadX rfl hWX rfl hWJ .plain <| kmv rfl <| kmv rfl <| K.indexX rfl rfl SliceT.h (by omega) hio .plain <| K.loadX rfl hIX rfl hIJ .plain <| kne rfl rfl (r := false) (bne_eq_false_iff_eq.2 rfl) <| RunK.nil ?_; refine And.intro (by kernel_rfl) ?_; refine LWP.condF rfl ?_; refine LWP.skip ?_; refine LWP.region (by kernel_rfl) <| kmv rfl <| kad rfl rfl hadk <| kas rfl <| RunK.nil ?_)
  exact Leads.le (σ' := ⟨[(1, Ln .i64 archs), (2, .sv (.one (.val (.slice (some ⟨ab, ao, none⟩) acs.length acap)))), (7, Lp 500), (8, Ln .i64 (i : Nat)), (10, .sv (.one (.val (.slice (some ⟨wb, wo, none⟩) g.l.length wc)))), (12, .sv (.one (.val (.slice (some ⟨ib, io, none⟩) u.l.length ic)))), (13, Ln .i64 (k + 1 : Nat))], [gO 500 vals], joinM Z H⟩) (Le.of (by exact ⟨rfl, rfl, rfl, rfl, rfl, rfl, rfl, trivial⟩) (by exact ⟨rfl, trivial⟩) (by exact rfl) (by exact rfl) (by repeat' (first | refine all_cons_true ?_ ?_ | rfl | exact bytes_inUse | exact vals_inUse | exact mid_inUse rfl))) (Leads.done ⟨g.l.length - (k + 1), by omega, k + 1, by omega, rfl, rfl⟩)
end Go.Proofs.Ytjifibloagkeeaa
end
section
namespace Go.Proofs.Ytjifibloagkeeaa
open Go Go.Lg Go.Lg.Fld Go.Lg.Sg
set_option maxRecDepth 100000
def sgE (L : List Nat) : List (Value × Value) := L.map fun s => (.int .u32 (s : Nat), .bool true)
theorem sgE_no {L : List Nat} {h : Nat} (hn : h ∉ L) : ∀ p ∈ sgE L, p.1 ≠ .int .u32 (h : Nat) := fun p hp e => by
  obtain ⟨y, hy, rfl⟩ := List.mem_map.1 hp
  simp only [Value.int.injEq, true_and] at e
  exact hn ((show y = h by omega) ▸ hy)
theorem sgE_at {L : List Nat} {h : Nat} (hn : h ∉ L) : At (sgE L) (.int .u32 (h : Nat)) (.bool false) (.bool false) := .inr ⟨sgE_no hn, rfl⟩
theorem sgE_put {L : List Nat} {h : Nat} (hn : h ∉ L) : Put (sgE L) (.int .u32 (h : Nat)) (.bool true) (sgE (L ++ [h])) := .inr ⟨sgE_no hn, by unfold sgE; rw [List.map_append]; rfl⟩
theorem key_sig {h : Nat} (hh : h < 4294967296) : Go.keyOf Try.prog 35 (.int .u32 (h : Nat)) = some (.int .u32 (h : Nat)) := by
  rw [keyOf_int (q := .u32) (by kernel_rfl)]
  unfold mapKey
  rw [show Try.prog.underlying 35 = some (.int .u32) by kernel_rfl]
  have hw : (Lit.int .u32 (h : Nat)).wf = true := by
    show (decide (IntKind.u32.min ≤ ((h : Nat) : Int)) && decide (((h : Nat) : Int) ≤ IntKind.u32.max)) = true
    rw [show IntKind.u32.min = 0 from rfl, show IntKind.u32.max = 4294967295 from rfl, decide_eq_true (show (0 : Int) ≤ (h : Nat) by omega), decide_eq_true (show ((h : Nat) : Int) ≤ 4294967295 by omega)]; rfl
  simp [hw]
abbrev sgM (k : Nat) (L : List Nat) : Nat × Option Box := (k, some ⟨0, [], .res (mapR Try.prog 35 (sgE L))⟩)
theorem seen_no {L : List Nat} (hn : L.Nodup) {k v : Nat} (h : L[k]? = some v) : v ∉ L.take k := fun hm => by
  obtain ⟨j, hj⟩ := List.mem_iff_getElem?.1 hm
  have hjk : j < k := by have := (List.getElem?_eq_some_iff.1 hj).1; rw [List.length_take] at this; omega
  rw [List.getElem?_take, if_pos hjk] at hj
  have := (List.getElem?_inj (List.getElem?_eq_some_iff.1 hj).1 hn).1 (hj.trans h.symm)
  omega
theorem seen_next {L : List Nat} {k v : Nat} (h : L[k]? = some v) : L.take k ++ [v] = L.take (k + 1) := by
  obtain ⟨hk, rfl⟩ := List.getElem?_eq_some_iff.1 h
  rw [List.take_append_getElem hk]
variable (X : Nat → Option Obj)
set_option maxHeartbeats 51200000 in
theorem graphBack_law (s : Sc) (archs : Int) (acs : List Ag) (ad aad : Option Addr) (cap acap : Nat) (hin : CompsIn X ad s.cs) (hmn : NamesIn s.cs) (hA : AgsIn X aad acs) (hb : acs.length < 9223372036854775808) :
    PSpec Try.prog X 3 [Sx s.ver ad s.cs.length cap, Ln .i64 archs, .sv (.one (.val (.slice aad acs.length acap)))] (Lb true) := by
  have hW := awake17_spec X
  have hG := great17_spec X s.ver ad cap s.cs hin (greatB16 s.cs) rfl
  refine PSpec.intro Try.func3 rfl (by kernel_rfl) rfl rfl ?_
  intro C
  cases hg : greatB16 s.cs with
  | true =>
    rw [hg] at hG
    (refine LWP.seq <| LWP.region (by kernel_rfl) <| K.box rfl rfl rfl .plain <| kas rfl <| RunK.nil <| LWP.seq <| LWP.seq <| LWP.region (by kernel_rfl) <| kca rfl rfl (hW) <| K.not rfl rfl .plain <| RunK.nil <| LWP.condF rfl ?_; refine LWP.skip ?_; refine LWP.seq <| LWP.seq <| LWP.region (by kernel_rfl) <| K.loadAll rfl rfl rfl .plain ?_; refine kca rfl rfl hG <| kmv rfl <| RunK.passed rfl rfl rfl <| RunK.passed rfl rfl rfl <| RunK.passed rfl rfl rfl <| kpt rfl rfl <| RunK.nil <| LWP.condT rfl ?_; refine LWP.seq <| LWP.region (by kernel_rfl) <| kas rfl <| RunK.nil <| LWP.ret ?_)
    exact ⟨[_], ⟨rfl, trivial⟩, rfl⟩
  | false =>
  rw [hg] at hG
  obtain ⟨s1, s2⟩ := greatB16_no hg
  by_cases h100 : 100 < acs.length
  · (refine LWP.seq <| LWP.region (by kernel_rfl) <| K.box rfl rfl rfl .plain <| kas rfl <| RunK.nil <| LWP.seq <| LWP.seq <| LWP.region (by kernel_rfl) <| kca rfl rfl (hW) <| K.not rfl rfl .plain <| RunK.nil <| LWP.condF rfl ?_; refine LWP.skip ?_; refine LWP.seq <| LWP.seq <| LWP.region (by kernel_rfl) <| K.loadAll rfl rfl rfl .plain ?_; refine kca rfl rfl hG <| kmv rfl <| gmv rfl rfl rfl <| K.lenX rfl SliceT.h rfl (.taken rfl rfl) ?_; refine K.gtr rfl rfl (decide_eq_true (by omega)) (.taken rfl rfl) ?_; refine kpf rfl rfl <| RunK.nil <| LWP.condT rfl ?_; refine LWP.seq <| LWP.region (by kernel_rfl) <| kas rfl <| RunK.nil <| LWP.ret ?_)
    exact ⟨[_], ⟨rfl, trivial⟩, rfl⟩
  obtain ⟨p, hp64, hp⟩ := rest_u16 (v := archs) 64 (by decide) (by decide)
  have hpw : IntKind.i64.wrap ((p : Nat) : Int) = ((p : Nat) : Int) := wrap_i64 (by omega)
  have hpa : IntKind.i64.wrap (1 + ((p : Nat) : Int)) = ((p + 1 : Nat) : Int) := by rw [wrap_i64 (by omega)]; omega
  obtain ⟨n, hn⟩ : ∃ n, p + 1 = n := ⟨_, rfl⟩
  rw [hn] at hpa
  have hn1 : 1 ≤ n ∧ n ≤ 64 := by omega
  cases hgt : goodG s (n : Nat) 9 with
  | false =>
    have hN := gNew_no X s (n : Nat) 9 ad cap hin hmn ⟨s1, s2⟩ hgt
    (refine LWP.seq <| LWP.region (by kernel_rfl) <| K.box rfl rfl rfl .plain <| kas rfl <| RunK.nil <| LWP.seq <| LWP.seq <| LWP.region (by kernel_rfl) <| kca rfl rfl (hW) <| K.not rfl rfl .plain <| RunK.nil <| LWP.condF rfl ?_; refine LWP.skip ?_; refine LWP.seq <| LWP.seq <| LWP.region (by kernel_rfl) <| K.loadAll rfl rfl rfl .plain ?_; refine kca rfl rfl hG <| kmv rfl <| gmv rfl rfl rfl <| K.lenX rfl SliceT.h rfl (.taken rfl rfl) ?_; refine K.gtr rfl rfl (decide_eq_false (by omega)) (.taken rfl rfl) ?_; refine kpf rfl rfl <| RunK.nil <| LWP.condF rfl ?_; refine LWP.skip ?_; refine LWP.seq <| LWP.region (by kernel_rfl) <| K.loadAll rfl rfl rfl .plain ?_; refine kmv rfl <| kcv rfl rfl ?_; refine K.rem rfl rfl (by decide) hp .plain <| kcv rfl hpw ?_; refine kad rfl rfl hpa <| kca rfl rfl hN <| kas rfl <| RunK.nil <| LWP.seq <| LWP.seq <| LWP.region (by kernel_rfl) <| kmv rfl <| K.nilNil rfl (by kernel_rfl) (.inl ⟨rfl, rfl⟩) .plain <| RunK.nil <| LWP.condT rfl ?_; refine LWP.seq <| LWP.region (by kernel_rfl) <| kas rfl <| RunK.nil <| LWP.ret ?_)
    exact ⟨[_], ⟨rfl, trivial⟩, rfl⟩
  | true =>
  have hN : MSpec Try.prog X 7 [Sx s.ver ad s.cs.length cap, Ln .i64 (n : Nat), Ln .i64 9] [] (Lp 1000001) [gB 1000001 ⟨s, n, 9, [], []⟩] := gNew X s n 9 ad cap hin hmn ⟨s1, s2⟩ hgt
  have hMk := gMake X ⟨s, n, 9, [], []⟩ (GrOk.new hgt) 0 (by decide)
  (refine LWP.seq <| LWP.region (by kernel_rfl) <| K.box rfl rfl rfl .plain <| kas rfl <| RunK.nil <| LWP.seq <| LWP.seq <| LWP.region (by kernel_rfl) <| kca rfl rfl (hW) <| K.not rfl rfl .plain <| RunK.nil <| LWP.condF rfl ?_; refine LWP.skip ?_; refine LWP.seq <| LWP.seq <| LWP.region (by kernel_rfl) <| K.loadAll rfl rfl rfl .plain ?_; refine kca rfl rfl hG <| kmv rfl <| gmv rfl rfl rfl <| K.lenX rfl SliceT.h rfl (.taken rfl rfl) ?_; refine K.gtr rfl rfl (decide_eq_false (by omega)) (.taken rfl rfl) ?_; refine kpf rfl rfl <| RunK.nil <| LWP.condF rfl ?_; refine LWP.skip ?_; refine LWP.seq <| LWP.region (by kernel_rfl) <| K.loadAll rfl rfl rfl .plain ?_; refine kmv rfl <| kcv rfl rfl ?_; refine K.rem rfl rfl (by decide) hp .plain <| kcv rfl hpw ?_; refine kad rfl rfl hpa <| K.callMp [(1000001, 500)] (Lp 500) [gB 500 ⟨s, n, 9, [], []⟩] (hN) rfl rfl (by exact trivial) rfl rfl rfl rfl rfl (by exact (.box rfl rfl .nil)) .plain <| kas rfl <| RunK.nil <| LWP.seq <| LWP.seq <| LWP.region (by kernel_rfl) <| kmv rfl <| K.ptrNil rfl (by kernel_rfl) (.inl ⟨rfl, rfl⟩) .plain <| RunK.nil <| LWP.condF rfl ?_; refine LWP.skip ?_; refine LWP.seq <| LWP.region (by kernel_rfl) <| kmv rfl <| K.callM [(1000000, 500)] [gB 500 (makeG ⟨s, n, 9, [], []⟩ 0)] (hMk) rfl rfl (by exact (And.intro ⟨_, rfl, rfl⟩ trivial)) (by exact (all_cons_true rfl rfl)) rfl rfl rfl rfl (by exact (.box rfl rfl .nil)) .plain <| RunK.nil <| LWP.seq <| LWP.seq <| LWP.region (by kernel_rfl) <| kas rfl <| RunK.nil <| LWP.block ?_)
  have hOk0 : GrOk (makeG ⟨s, n, 9, [], []⟩ 0) := (GrOk.new hgt).make (by decide)
  have hw0 : (makeG ⟨s, n, 9, [], []⟩ 0).w.length ≤ 2 * 0 := Nat.le_refl _
  clear hN hW hG hgt hMk
  generalize (makeG ⟨s, n, 9, [], []⟩ 0 : Gr) = g0 at *
  refine LWP.le (σ' := ⟨[(1, Ln .i64 archs), (2, .sv (.one (.val (.slice aad acs.length acap)))), (7, Lp 500), (8, Ln .i64 (0 : Nat))], [gB 500 (g0)], X⟩) (Le.of (by exact ⟨rfl, rfl, rfl, rfl, trivial⟩) (by exact ⟨rfl, trivial⟩) (by exact rfl) (by exact rfl) (by repeat' (first | refine all_cons_true ?_ ?_ | rfl | exact bytes_inUse | exact vals_inUse | exact mid_inUse rfl))) ?_
  refine LWP.loopL (fun z σ => ∃ (i : Nat) (g : Gr), i ≤ acs.length ∧ z = acs.length - i ∧ GrOk g ∧ g.w.length ≤ 2 * i ∧ σ = ⟨[(1, Ln .i64 archs), (2, .sv (.one (.val (.slice aad acs.length acap)))), (7, Lp 500), (8, Ln .i64 (i : Nat))], [gB 500 (g)], X⟩) acs.length
    (Leads.done ⟨0, g0, by omega, by omega, hOk0, hw0, rfl⟩) ?_
  clear hOk0 hw0
  clear g0
  rintro z σ ⟨i, g, hi, rfl, hkg, hwl, rfl⟩
  by_cases hlt : i < acs.length
  case neg =>
    (refine LWP.seq <| LWP.seq <| LWP.region (by kernel_rfl) <| kmv rfl <| kmv rfl <| K.lenX rfl SliceT.h rfl .plain ?_; refine klt rfl rfl (decide_eq_false (by omega)) <| RunK.nil <| LWP.condF rfl ?_; refine LWP.exit <| LWP.seq <| LWP.region (by kernel_rfl) <| K.makeMap 35 rfl .plain ?_; refine kas rfl <| RunK.nil <| LWP.seq ?_)
    repeat refine LWP.seq ?_
    refine LWP.meetL (fun σ => ∃ (Y : Nat → Option Obj) (wad : Option Addr) (wc : Nat), (∀ b o, X b = some o → Y b = some o) ∧ U32In Y wad g.l ∧ σ = ⟨[(21, .sv (.one (.val (.slice wad g.l.length wc)))), (7, Lp 500), (20, .sv (.one (.mp 166)))], [gB 500 g, sgM 166 ([])], Y⟩) ?_ ?_
    · refine LWP.le (σ' := ⟨[(7, Lp 500), (20, .sv (.one (.mp 166)))], [gB 500 g, sgM 166 ([])], X⟩) (Le.of (by exact ⟨rfl, rfl, trivial⟩) (by exact ⟨rfl, rfl, trivial⟩) (by exact rfl) (by exact rfl) (by repeat' (first | refine all_cons_true ?_ ?_ | rfl | exact bytes_inUse | exact vals_inUse | exact mid_inUse rfl))) ?_
      refine g_open fun H vals hO hI0 => ?_
      have hI := g_in hO hI0
      cases hmm : gMade g.l.length with
      | false =>
        have hE := gSigs_none (joinM X H) hI hkg hmm
        have hz := gMade_zero hmm
        (refine LWP.region (by kernel_rfl) <| kmv rfl <| K.callM [(1000000, 500)] [gO 500 vals] (hE) rfl rfl (by exact (And.intro ⟨_, rfl, (Box.ren_vals _ _ _ _)⟩ trivial)) (by exact (all_cons_true vals_inUse rfl)) rfl rfl rfl rfl (by exact (.box rfl (Box.ren_vals _ _ _ _) .nil)) .plain <| kas rfl <| RunK.nil ?_)
        refine Leads.le (σ' := ⟨[(21, .sv (.one (.val (.slice none 0 0)))), (7, Lp 500), (20, .sv (.one (.mp 166)))], [gO 500 vals, sgM 166 ([])], joinM X H⟩) (Le.of (by exact ⟨rfl, rfl, rfl, trivial⟩) (by exact ⟨rfl, rfl, trivial⟩) (by exact rfl) (by exact rfl) (by repeat' (first | refine all_cons_true ?_ ?_ | rfl | exact bytes_inUse | exact vals_inUse | exact mid_inUse rfl))) ?_
        refine g_shut hO hI0 ?_
        exact Leads.here (σ' := ⟨[(21, .sv (.one (.val (.slice none 0 0)))), (7, Lp 500), (20, .sv (.one (.mp 166)))], [gB 500 g, sgM 166 ([])], X⟩) (Le.of (by exact ⟨rfl, rfl, rfl, trivial⟩) (by exact ⟨rfl, rfl, trivial⟩) (by exact rfl) (by exact rfl) (by repeat' (first | refine all_cons_true ?_ ?_ | rfl | exact bytes_inUse | exact vals_inUse | exact mid_inUse rfl))) ⟨X, none, 0, fun _ _ h => h, by rw [List.eq_nil_of_length_eq_zero hz]; exact U32In.nil, by rw [hz]⟩
      | true =>
        have hE := gSigs (joinM X H) hI hkg hmm
        (refine LWP.region (by kernel_rfl) <| kmv rfl <| K.callMp [(1000000, 500), (1000001, 601)] (.sv (.one (.slc 601 0 g.l.length 1))) [gO 500 vals, sgB 601 g.l] (hE) rfl rfl (by exact (And.intro ⟨_, rfl, (Box.ren_vals _ _ _ _)⟩ trivial)) (by exact (all_cons_true vals_inUse rfl)) rfl rfl rfl rfl (by exact (.box rfl (Box.ren_vals _ _ _ _) (.box rfl (Box.ren_vals _ _ _ _) .nil))) .plain <| kas rfl <| RunK.nil ?_)
        refine Leads.le (σ' := ⟨[(21, .sv (.one (.slc 601 0 g.l.length 1))), (7, Lp 500), (20, .sv (.one (.mp 166)))], [gO 500 vals, sgB 601 g.l, sgM 166 ([])], joinM X H⟩) (Le.of (by exact ⟨rfl, rfl, rfl, trivial⟩) (by exact ⟨rfl, rfl, rfl, trivial⟩) (by exact rfl) (by exact rfl) (by repeat' (first | refine all_cons_true ?_ ?_ | rfl | exact bytes_inUse | exact vals_inUse | exact mid_inUse rfl))) ?_
        refine g_shut hO hI0 ?_
        refine Leads.le (σ' := ⟨[(21, .sv (.one (.slc 601 0 g.l.length 1))), (7, Lp 500), (20, .sv (.one (.mp 166)))], [sgB 601 g.l, gB 500 g, sgM 166 ([])], X⟩) (Le.of (by exact ⟨rfl, rfl, rfl, trivial⟩) (by exact ⟨rfl, rfl, rfl, trivial⟩) (by exact rfl) (by exact rfl) (by repeat' (first | refine all_cons_true ?_ ?_ | rfl | exact bytes_inUse | exact vals_inUse | exact mid_inUse rfl))) ?_
        refine Leads.freeze rfl (by repeat' (first | refine all_cons_true ?_ ?_ | rfl | exact vals_inUse)) rfl fun blk c2 arr fr hn _ _ _ hsp => ?_
        exact Leads.here (σ' := ⟨[(21, .sv (.one (.val (.slice (some ⟨blk, 0, none⟩) g.l.length c2)))), (7, Lp 500), (20, .sv (.one (.mp 166)))], [gB 500 g, sgM 166 ([])], withBlock X blk (.cells arr 35 fr)⟩) (Le.of (by exact ⟨rfl, rfl, rfl, trivial⟩) (by exact ⟨rfl, rfl, trivial⟩) (by exact rfl) (by exact rfl) (by repeat' (first | refine all_cons_true ?_ ?_ | rfl | exact bytes_inUse | exact vals_inUse | exact mid_inUse rfl))) ⟨_, some ⟨blk, 0, none⟩, c2, withBlock_old hn, u32_frozen hsp, rfl⟩
    rintro σ ⟨Y, wad, wc, hY, hU, rfl⟩
    (refine LWP.seq <| LWP.seq <| LWP.region (by kernel_rfl) <| kas rfl <| RunK.nil <| LWP.block ?_)
    refine LWP.le (σ' := ⟨[(22, Ln .i64 (0 : Nat)), (21, .sv (.one (.val (.slice wad g.l.length wc)))), (7, Lp 500), (20, .sv (.one (.mp 166)))], [gB 500 g, sgM 166 ([])], Y⟩) (Le.of (by exact ⟨rfl, rfl, rfl, rfl, trivial⟩) (by exact ⟨rfl, rfl, trivial⟩) (by exact rfl) (by exact rfl) (by repeat' (first | refine all_cons_true ?_ ?_ | rfl | exact bytes_inUse | exact vals_inUse | exact mid_inUse rfl))) ?_
    refine g_open fun H vals hO hI0 => ?_
    have hI := g_in hO hI0
    have hUj := hU.mono fun b o h => joinM_has hO h
    have hm := hkg.archs
    have hro := hkg.room
    refine LWP.loopL (fun z σ => ∃ k : Nat, k ≤ g.l.length ∧ z = g.l.length - k ∧ σ = ⟨[(22, Ln .i64 (k : Nat)), (21, .sv (.one (.val (.slice wad g.l.length wc)))), (7, Lp 500), (20, .sv (.one (.mp 166)))], [gO 500 vals, sgM 166 (g.l.take (k))], joinM Y H⟩) g.l.length
      (Leads.done ⟨0, by omega, by omega, rfl⟩) ?_
    rintro z σ ⟨k, hkk, rfl, rfl⟩
    by_cases hkl : k < g.l.length
    case neg =>
      (refine LWP.seq <| LWP.seq <| LWP.region (by kernel_rfl) <| kmv rfl <| kmv rfl <| K.lenX rfl SliceT.h rfl .plain ?_; refine klt rfl rfl (decide_eq_false (by omega)) <| RunK.nil <| LWP.condF rfl ?_; refine LWP.exit <| LWP.seq ?_)
      refine LWP.le (σ' := ⟨[(7, Lp 500), (20, .sv (.one (.mp 166)))], [gO 500 vals, sgM 166 (g.l.take k)], joinM Y H⟩) (Le.of (by exact ⟨rfl, rfl, trivial⟩) (by exact ⟨rfl, rfl, trivial⟩) (by exact rfl) (by exact rfl) (by repeat' (first | refine all_cons_true ?_ ?_ | rfl | exact bytes_inUse | exact vals_inUse | exact mid_inUse rfl))) ?_
      refine g_shutL hO hI0 ?_
      (refine LWP.region (by kernel_rfl) <| kas rfl <| RunK.nil <| LWP.ret ?_)
      exact ⟨[_], ⟨rfl, trivial⟩, rfl⟩
    have hadk : IntKind.i64.wrap (((k : Nat) : Int) + 1) = ((k + 1 : Nat) : Int) := by rw [wrap_i64 (by omega)]; omega
    obtain ⟨v, hv⟩ : ∃ v, g.l[k]? = some v := ⟨_, List.getElem?_eq_getElem hkl⟩
    have hv32 := (hkg.can v (List.mem_of_getElem? hv)).2
    have hFi : MSpec Try.prog (joinM Y H) 18 [Lp 1000000, Ln .u32 (v : Nat)] [gO 1000000 vals] (.tup [Sn .i64 (k : Nat), .one (.val (.bool true))]) [gO 1000000 vals] := by
      have h := gFind (joinM Y H) hI hkg v hv32
      rw [findG_at hkg.nd hv] at h
      exact h
    have hkey := key_sig hv32
    have hno := seen_no hkg.nd hv
    have hat := sgE_at hno
    have hput := sgE_put hno
    rw [seen_next hv] at hput
    obtain ⟨wb, wo, warr, wel, wfr, rfl, hWX, hWJ⟩ := u32_at hUj hv
    have hwo : wo + Int.toNat ((k : Nat) : Int) * 1 = wo + k * 1 := by simp
    (refine LWP.seq <| LWP.seq <| LWP.region (by kernel_rfl) <| kmv rfl <| kmv rfl <| K.lenX rfl SliceT.h rfl .plain ?_; refine klt rfl rfl (decide_eq_true (by omega)) <| RunK.nil <| LWP.condT rfl ?_; refine LWP.skip ?_; refine LWP.seq <| LWP.block <| LWP.seq <| LWP.region (by kernel_rfl) <| kmv rfl <| kmv rfl <| kmv rfl <| K.indexX rfl rfl SliceT.h (by omega) hwo .plain <| K.loadX rfl hWX rfl hWJ .plain <| K.callM [(1000000, 500)] [gO 500 vals] (hFi) rfl rfl (by exact (And.intro ⟨_, rfl, (Box.ren_vals _ _ _ _)⟩ trivial)) (by exact (all_cons_true vals_inUse rfl)) rfl rfl rfl rfl (by exact (.box rfl (Box.ren_vals _ _ _ _) .nil)) .plain <| kmv rfl <| kex rfl rfl <| kex rfl rfl <| kas rfl ?_; refine kas rfl <| RunK.nil <| LWP.seq <| LWP.seq <| LWP.region (by kernel_rfl) <| kmv rfl <| kmv rfl <| kmv rfl <| K.indexX rfl rfl SliceT.h (by omega) hwo .plain <| K.loadX rfl hWX rfl hWJ .plain <| K.lookup (kt := 35) (et := 4) (v := .bool false) (z := .bool false) rfl rfl rfl (by kernel_rfl) (KL.int (q := .u32) (by kernel_rfl)) hkey (by kernel_rfl) hat .plain ?_; refine kmv rfl <| gmv rfl rfl rfl <| K.not rfl rfl (.taken rfl rfl) ?_; refine kpf rfl rfl <| kmv rfl <| gmv rfl rfl rfl <| gmv rfl rfl rfl <| K.neq rfl rfl (r := false) (bne_eq_false_iff_eq.2 rfl) (.taken rfl rfl) ?_; refine kpf rfl rfl <| RunK.nil <| LWP.condF rfl ?_; refine LWP.skip ?_; refine LWP.region (by kernel_rfl) <| kmv rfl <| kmv rfl <| kmv rfl <| K.indexX rfl rfl SliceT.h (by omega) hwo .plain <| K.loadX rfl hWX rfl hWJ .plain <| K.mapUpdate (kt := 35) (et := 4) (sgE (g.l.take (k + 1))) rfl rfl rfl rfl (by kernel_rfl) (KL.int (q := .u32) (by kernel_rfl)) hkey hput .plain ?_; refine RunK.nil <| LWP.region (by kernel_rfl) <| kmv rfl <| kad rfl rfl hadk <| kas rfl <| RunK.nil ?_)
    exact Leads.le (σ' := ⟨[(22, Ln .i64 (k + 1 : Nat)), (21, .sv (.one (.val (.slice (some ⟨wb, wo, none⟩) g.l.length wc)))), (7, Lp 500), (20, .sv (.one (.mp 166)))], [gO 500 vals, sgM 166 (g.l.take (k + 1))], joinM Y H⟩) (Le.of (by exact ⟨rfl, rfl, rfl, rfl, trivial⟩) (by exact ⟨rfl, rfl, trivial⟩) (by exact rfl) (by exact rfl) (by repeat' (first | refine all_cons_true ?_ ?_ | rfl | exact bytes_inUse | exact vals_inUse | exact mid_inUse rfl))) (Leads.done ⟨g.l.length - (k + 1), by omega, k + 1, by omega, rfl, rfl⟩)
  obtain ⟨a, ha⟩ : ∃ a, acs[i]? = some a := ⟨_, List.getElem?_eq_getElem hlt⟩
  obtain ⟨ab, ao, arr, el, fr, rfl, hX, hsz, hcells⟩ := hA.at ha
  obtain ⟨ak, aset, ai, ac⟩ := hA.small a (List.mem_of_getElem? ha)
  generalize hga : a.a = ga at *
  have hao : ao + Int.toNat (i : Int) * 5 = ao + i * 5 := by simp
  have hadd : IntKind.i64.wrap (((i : Nat) : Int) + 1) = ((i + 1 : Nat) : Int) := by rw [wrap_i64 (by omega)]; omega
  (refine LWP.seq <| LWP.seq <| LWP.region (by kernel_rfl) <| kmv rfl <| kmv rfl <| K.lenX rfl SliceT.h rfl .plain ?_; refine klt rfl rfl (decide_eq_true (by omega)) <| RunK.nil <| LWP.condT rfl ?_; refine LWP.skip ?_; refine LWP.seq <| LWP.block <| LWP.seq <| LWP.region (by kernel_rfl) <| kmv rfl <| kmv rfl <| K.indexX rfl rfl SliceT.h (by omega) hao .plain <| K.loadXagg rfl hX (by kernel_rfl) hsz hcells .plain <| K.alloc rfl .plain ?_; refine K.storeAll rfl rfl rfl rfl rfl rfl .plain ?_; refine RunK.nil <| LWP.seq ?_)
  clear hcells hX hsz hao hga fr
  repeat refine LWP.seq ?_
  refine LWP.meetL (fun σ => ∃ fr : Nat, fr < 4294967296 ∧ (∀ k s : Nat, a.i = (k : Int) → g.l[k]? = some s → fr = s) ∧ σ = ⟨[(10, Ln .u32 (fr : Nat)), (1, Ln .i64 archs), (2, .sv (.one (.val (.slice (some ⟨ab, ao, none⟩) acs.length acap)))), (7, Lp 500), (8, Ln .i64 (i : Nat)), (9, Lp 9)], [gB 500 (g), (9, some ⟨37, [.val (.int .i64 a.kind), .val (.int .u32 (a.set : Nat)), .val (.int .i64 a.i), .val (.int .i64 a.c), .val (.bool ga)], false⟩)], X⟩) ?_ ?_
  · refine LWP.le (σ' := ⟨[(1, Ln .i64 archs), (2, .sv (.one (.val (.slice (some ⟨ab, ao, none⟩) acs.length acap)))), (7, Lp 500), (8, Ln .i64 (i : Nat)), (9, Lp 9)], [gB 500 (g), (9, some ⟨37, [.val (.int .i64 a.kind), .val (.int .u32 (a.set : Nat)), .val (.int .i64 a.i), .val (.int .i64 a.c), .val (.bool ga)], false⟩)], X⟩) (Le.of (by exact ⟨rfl, rfl, rfl, rfl, rfl, trivial⟩) (by exact ⟨rfl, rfl, trivial⟩) (by exact rfl) (by exact rfl) (by repeat' (first | refine all_cons_true ?_ ?_ | rfl | exact bytes_inUse | exact vals_inUse | exact mid_inUse rfl))) ?_
    refine g_open fun H vals hO hI0 => ?_
    have hI := g_in hO hI0
    cases hrg : rowG g a.i with
    | false =>
      have hT := gTable_no (joinM X H) hI hkg a.i hrg
      have hS := tSig_nil (joinM X H)
      (refine LWP.region (by kernel_rfl) <| kmv rfl <| kfa rfl rfl ?_; refine kl1 rfl rfl rfl <| K.callM [(1000000, 500)] [gO 500 vals] (hT) rfl rfl (by exact (And.intro ⟨_, rfl, (Box.ren_vals _ _ _ _)⟩ trivial)) (by exact (all_cons_true vals_inUse rfl)) rfl rfl rfl rfl (by exact (.box rfl (Box.ren_vals _ _ _ _) .nil)) .plain <| kca rfl rfl hS <| kas rfl <| RunK.nil ?_)
      refine Leads.le (σ' := ⟨[(10, Ln .u32 0), (1, Ln .i64 archs), (2, .sv (.one (.val (.slice (some ⟨ab, ao, none⟩) acs.length acap)))), (7, Lp 500), (8, Ln .i64 (i : Nat)), (9, Lp 9)], [gO 500 vals, (9, some ⟨37, [.val (.int .i64 a.kind), .val (.int .u32 (a.set : Nat)), .val (.int .i64 a.i), .val (.int .i64 a.c), .val (.bool ga)], false⟩)], joinM X H⟩) (Le.of (by exact ⟨rfl, rfl, rfl, rfl, rfl, rfl, trivial⟩) (by exact ⟨rfl, rfl, trivial⟩) (by exact rfl) (by exact rfl) (by repeat' (first | refine all_cons_true ?_ ?_ | rfl | exact bytes_inUse | exact vals_inUse | exact mid_inUse rfl))) ?_
      refine g_shut hO hI0 ?_
      exact Leads.here (σ' := ⟨[(10, Ln .u32 0), (1, Ln .i64 archs), (2, .sv (.one (.val (.slice (some ⟨ab, ao, none⟩) acs.length acap)))), (7, Lp 500), (8, Ln .i64 (i : Nat)), (9, Lp 9)], [gB 500 (g), (9, some ⟨37, [.val (.int .i64 a.kind), .val (.int .u32 (a.set : Nat)), .val (.int .i64 a.i), .val (.int .i64 a.c), .val (.bool ga)], false⟩)], X⟩) (Le.of (by exact ⟨rfl, rfl, rfl, rfl, rfl, rfl, trivial⟩) (by exact ⟨rfl, rfl, trivial⟩) (by exact rfl) (by exact rfl) (by repeat' (first | refine all_cons_true ?_ ?_ | rfl | exact bytes_inUse | exact vals_inUse | exact mid_inUse rfl))) ⟨0, by decide, fun k s e hs => (by rw [e, rowG_of hs] at hrg; cases hrg), rfl⟩
    | true =>
      obtain ⟨k, q, hai, hq⟩ := rowG_at hrg
      obtain ⟨tb, hTb, hT⟩ := gTable (joinM X H) hI hkg k q hq
      rw [← hai] at hT
      have hS : PSpec Try.prog (joinM X H) 10 [Lpx tb] (Ln .u32 (q : Nat)) := tSigX (joinM X H) tb _ hTb
      (refine LWP.region (by kernel_rfl) <| kmv rfl <| kfa rfl rfl ?_; refine kl1 rfl rfl rfl <| K.callM [(1000000, 500)] [gO 500 vals] (hT) rfl rfl (by exact (And.intro ⟨_, rfl, (Box.ren_vals _ _ _ _)⟩ trivial)) (by exact (all_cons_true vals_inUse rfl)) rfl rfl rfl rfl (by exact (.box rfl (Box.ren_vals _ _ _ _) .nil)) .plain <| kca rfl rfl hS <| kas rfl <| RunK.nil ?_)
      refine Leads.le (σ' := ⟨[(10, Ln .u32 (q : Nat)), (1, Ln .i64 archs), (2, .sv (.one (.val (.slice (some ⟨ab, ao, none⟩) acs.length acap)))), (7, Lp 500), (8, Ln .i64 (i : Nat)), (9, Lp 9)], [gO 500 vals, (9, some ⟨37, [.val (.int .i64 a.kind), .val (.int .u32 (a.set : Nat)), .val (.int .i64 a.i), .val (.int .i64 a.c), .val (.bool ga)], false⟩)], joinM X H⟩) (Le.of (by exact ⟨rfl, rfl, rfl, rfl, rfl, rfl, trivial⟩) (by exact ⟨rfl, rfl, trivial⟩) (by exact rfl) (by exact rfl) (by repeat' (first | refine all_cons_true ?_ ?_ | rfl | exact bytes_inUse | exact vals_inUse | exact mid_inUse rfl))) ?_
      refine g_shut hO hI0 ?_
      exact Leads.here (σ' := ⟨[(10, Ln .u32 (q : Nat)), (1, Ln .i64 archs), (2, .sv (.one (.val (.slice (some ⟨ab, ao, none⟩) acs.length acap)))), (7, Lp 500), (8, Ln .i64 (i : Nat)), (9, Lp 9)], [gB 500 (g), (9, some ⟨37, [.val (.int .i64 a.kind), .val (.int .u32 (a.set : Nat)), .val (.int .i64 a.i), .val (.int .i64 a.c), .val (.bool ga)], false⟩)], X⟩) (Le.of (by exact ⟨rfl, rfl, rfl, rfl, rfl, rfl, trivial⟩) (by exact ⟨rfl, rfl, trivial⟩) (by exact rfl) (by exact rfl) (by repeat' (first | refine all_cons_true ?_ ?_ | rfl | exact bytes_inUse | exact vals_inUse | exact mid_inUse rfl))) ⟨q, (hkg.can q (List.mem_of_getElem? hq)).2, fun k' s' e hs' => by
        have hkk : k' = k := by omega
        rw [hkk, hq] at hs'
        exact Option.some.inj hs', rfl⟩
  rintro σ ⟨fr, hfr, hfs, rfl⟩
  have hSt := gStep X g hkg a.i a.c ga ai ac
  have hku := hkg.step a.i a.c ga
  have huw := step_ways g a.i a.c ga
  by_cases hz : stepE g a.i a.c ga = 0
  case neg =>
    generalize stepE g a.i a.c ga = e at *
    generalize stepN g a.i a.c ga = nn at *
    generalize stepG g a.i a.c ga = u at *
    (refine LWP.seq <| LWP.region (by kernel_rfl) <| kmv rfl <| kfa rfl rfl ?_; refine kl1 rfl rfl rfl <| kfa rfl rfl ?_; refine kl1 rfl rfl rfl <| kfa rfl rfl ?_; refine kl1 rfl rfl rfl <| K.callM [(1000000, 500)] [gB 500 u] (hSt) rfl rfl (by exact (And.intro ⟨_, rfl, rfl⟩ trivial)) (by exact (all_cons_true rfl rfl)) rfl rfl rfl rfl (by exact (.box rfl rfl .nil)) .plain <| kmv rfl <| kex rfl rfl <| kex rfl rfl <| kas rfl <| kas rfl <| RunK.nil <| LWP.seq <| LWP.seq <| LWP.region (by kernel_rfl) <| kmv rfl <| kne rfl rfl (r := true) (bne_iff_ne.2 hz) <| RunK.nil ?_; refine LWP.condT rfl ?_; refine LWP.exit <| LWP.region (by kernel_rfl) <| kmv rfl <| kad rfl rfl hadd <| kas rfl <| RunK.nil ?_)
    exact Leads.le (σ' := ⟨[(1, Ln .i64 archs), (2, .sv (.one (.val (.slice (some ⟨ab, ao, none⟩) acs.length acap)))), (7, Lp 500), (8, Ln .i64 (i + 1 : Nat))], [gB 500 (u)], X⟩) (Le.of (by exact ⟨rfl, rfl, rfl, rfl, trivial⟩) (by exact ⟨rfl, trivial⟩) (by exact rfl) (by exact rfl) (by repeat' (first | refine all_cons_true ?_ ?_ | rfl | exact bytes_inUse | exact vals_inUse | exact mid_inUse rfl))) (Leads.done ⟨acs.length - (i + 1), by omega, i + 1, u, by omega, rfl, hku, by omega, rfl⟩)
  obtain ⟨k, q, hS⟩ := step_zero hz
  obtain ⟨n1, e1, l1, l0, k1, k2, z1, b1, g1, z2, b2, g2⟩ := step_back hkg hS
  have hq := hfs k q hS.i hS.at_
  subst hq
  rw [hz, e1] at hSt
  have hki := hS.i
  generalize stepG g a.i a.c ga = u at *
  clear hz e1 hS hfs
  have hWo := gWithout X fr hfr a.c
  have hWi := gWith X fr hfr a.c
  have hn1 : n1 < 64 := by have h1 := (List.getElem?_eq_some_iff.1 l1).1; have h2 := hku.room; have h3 := hku.archs; omega
  have hB1 := gStep X u hku (n1 : Nat) a.c (!ga) ⟨by omega, by omega⟩ ac
  have hB2 := gStep X u hku a.i a.c ga ai ac
  rw [z1, b1, g1] at hB1
  rw [z2, b2, g2] at hB2
  clear z1 b1 g1 z2 b2 g2 l0
  (refine LWP.seq <| LWP.region (by kernel_rfl) <| kmv rfl <| kfa rfl rfl ?_; refine kl1 rfl rfl rfl <| kfa rfl rfl ?_; refine kl1 rfl rfl rfl <| kfa rfl rfl ?_; refine kl1 rfl rfl rfl <| K.callM [(1000000, 500)] [gB 500 u] (hSt) rfl rfl (by exact (And.intro ⟨_, rfl, rfl⟩ trivial)) (by exact (all_cons_true rfl rfl)) rfl rfl rfl rfl (by exact (.box rfl rfl .nil)) .plain <| kmv rfl <| kex rfl rfl <| kex rfl rfl <| kas rfl <| kas rfl <| RunK.nil <| LWP.seq <| LWP.seq <| LWP.region (by kernel_rfl) <| kmv rfl <| kne rfl rfl (r := false) rfl <| RunK.nil ?_; refine LWP.condF rfl ?_; refine LWP.skip ?_; refine LWP.seq ?_)
  refine LWP.meetL (fun σ => σ = ⟨[(13, Ln .u32 (withoutN fr a.c : Nat)), (10, Ln .u32 (fr : Nat)), (11, Ln .i64 (n1 : Nat)), (1, Ln .i64 archs), (2, .sv (.one (.val (.slice (some ⟨ab, ao, none⟩) acs.length acap)))), (7, Lp 500), (8, Ln .i64 (i : Nat)), (9, Lp 9)], [gB 500 (u), (9, some ⟨37, [.val (.int .i64 a.kind), .val (.int .u32 (a.set : Nat)), .val (.int .i64 a.i), .val (.int .i64 a.c), .val (.bool ga)], false⟩)], X⟩) ?_ ?_
  · (refine LWP.region (by kernel_rfl) <| kmv rfl <| kfa rfl rfl ?_; refine kl1 rfl rfl rfl <| kca rfl rfl hWo <| kas rfl <| RunK.nil ?_)
    exact Leads.here (σ' := ⟨[(13, Ln .u32 (withoutN fr a.c : Nat)), (10, Ln .u32 (fr : Nat)), (11, Ln .i64 (n1 : Nat)), (1, Ln .i64 archs), (2, .sv (.one (.val (.slice (some ⟨ab, ao, none⟩) acs.length acap)))), (7, Lp 500), (8, Ln .i64 (i : Nat)), (9, Lp 9)], [gB 500 (u), (9, some ⟨37, [.val (.int .i64 a.kind), .val (.int .u32 (a.set : Nat)), .val (.int .i64 a.i), .val (.int .i64 a.c), .val (.bool ga)], false⟩)], X⟩) (Le.of (by exact ⟨rfl, rfl, rfl, rfl, rfl, rfl, rfl, rfl, trivial⟩) (by exact ⟨rfl, rfl, trivial⟩) (by exact rfl) (by exact rfl) (by repeat' (first | refine all_cons_true ?_ ?_ | rfl | exact bytes_inUse | exact vals_inUse | exact mid_inUse rfl))) rfl
  rintro σ rfl
  refine LWP.seq ?_
  refine LWP.meetL (fun σ => σ = ⟨[(13, Ln .u32 (nextS fr a.c ga : Nat)), (10, Ln .u32 (fr : Nat)), (11, Ln .i64 (n1 : Nat)), (1, Ln .i64 archs), (2, .sv (.one (.val (.slice (some ⟨ab, ao, none⟩) acs.length acap)))), (7, Lp 500), (8, Ln .i64 (i : Nat)), (9, Lp 9)], [gB 500 (u), (9, some ⟨37, [.val (.int .i64 a.kind), .val (.int .u32 (a.set : Nat)), .val (.int .i64 a.i), .val (.int .i64 a.c), .val (.bool ga)], false⟩)], X⟩) ?_ ?_
  · cases ga with
    | false =>
      (refine LWP.seq <| LWP.region (by kernel_rfl) <| kfa rfl rfl ?_; refine kl1 rfl rfl rfl <| RunK.nil <| LWP.condF rfl ?_; refine LWP.skip ?_)
      exact Leads.here (σ' := ⟨[(13, Ln .u32 (nextS fr a.c false : Nat)), (10, Ln .u32 (fr : Nat)), (11, Ln .i64 (n1 : Nat)), (1, Ln .i64 archs), (2, .sv (.one (.val (.slice (some ⟨ab, ao, none⟩) acs.length acap)))), (7, Lp 500), (8, Ln .i64 (i : Nat)), (9, Lp 9)], [gB 500 (u), (9, some ⟨37, [.val (.int .i64 a.kind), .val (.int .u32 (a.set : Nat)), .val (.int .i64 a.i), .val (.int .i64 a.c), .val (.bool false)], false⟩)], X⟩) (Le.of (by exact ⟨rfl, rfl, rfl, rfl, rfl, rfl, rfl, rfl, trivial⟩) (by exact ⟨rfl, rfl, trivial⟩) (by exact rfl) (by exact rfl) (by repeat' (first | refine all_cons_true ?_ ?_ | rfl | exact bytes_inUse | exact vals_inUse | exact mid_inUse rfl))) rfl
    | true =>
      (refine LWP.seq <| LWP.region (by kernel_rfl) <| kfa rfl rfl ?_; refine kl1 rfl rfl rfl <| RunK.nil <| LWP.condT rfl ?_; refine LWP.region (by kernel_rfl) <| kmv rfl <| kfa rfl rfl ?_; refine kl1 rfl rfl rfl <| kca rfl rfl hWi <| kas rfl <| RunK.nil ?_)
      exact Leads.here (σ' := ⟨[(13, Ln .u32 (nextS fr a.c true : Nat)), (10, Ln .u32 (fr : Nat)), (11, Ln .i64 (n1 : Nat)), (1, Ln .i64 archs), (2, .sv (.one (.val (.slice (some ⟨ab, ao, none⟩) acs.length acap)))), (7, Lp 500), (8, Ln .i64 (i : Nat)), (9, Lp 9)], [gB 500 (u), (9, some ⟨37, [.val (.int .i64 a.kind), .val (.int .u32 (a.set : Nat)), .val (.int .i64 a.i), .val (.int .i64 a.c), .val (.bool true)], false⟩)], X⟩) (Le.of (by exact ⟨rfl, rfl, rfl, rfl, rfl, rfl, rfl, rfl, trivial⟩) (by exact ⟨rfl, rfl, trivial⟩) (by exact rfl) (by exact rfl) (by repeat' (first | refine all_cons_true ?_ ?_ | rfl | exact bytes_inUse | exact vals_inUse | exact mid_inUse rfl))) rfl
  rintro σ rfl
  clear hSt hWo hWi
  have hm := hku.archs
  have hro := hku.room
  refine g_open fun H vals hO hI0 => ?_
  have hI := g_in hO hI0
  obtain ⟨tb, hTb, hT⟩ := gTable (joinM X H) hI hku n1 _ l1
  have hSg : PSpec Try.prog (joinM X H) 10 [Lpx tb] (Ln .u32 (nextS fr a.c ga : Nat)) := tSigX (joinM X H) tb _ hTb
  have hK1 := gKnows (joinM X H) hI hku a.i a.c ga ai ac
  have hK2 := gKnows (joinM X H) hI hku (n1 : Nat) a.c (!ga) ⟨by omega, by omega⟩ ac
  rw [k1] at hK1
  rw [k2] at hK2
  have hLe := grLen (joinM X H) hI hku
  have hWa := gWays (joinM X H) hI hku
  clear hTb
  generalize nextS fr a.c ga = nx at *
  (refine LWP.seq <| LWP.seq <| LWP.region (by kernel_rfl) <| kmv rfl <| kmv rfl <| K.callM [(1000000, 500)] [gO 500 vals] (hT) rfl rfl (by exact (And.intro ⟨_, rfl, (Box.ren_vals _ _ _ _)⟩ trivial)) (by exact (all_cons_true vals_inUse rfl)) rfl rfl rfl rfl (by exact (.box rfl (Box.ren_vals _ _ _ _) .nil)) .plain <| kca rfl rfl hSg <| kmv rfl <| kne rfl rfl (r := false) (bne_eq_false_iff_eq.2 rfl) <| kmv rfl <| gmv rfl rfl rfl <| K.fieldAddr rfl rfl (.taken rfl rfl) ?_; refine K.loadOne rfl rfl rfl (.taken rfl rfl) ?_; refine K.fieldAddr rfl rfl (.taken rfl rfl) ?_; refine K.loadOne rfl rfl rfl (.taken rfl rfl) ?_; refine K.fieldAddr rfl rfl (.taken rfl rfl) ?_; refine K.loadOne rfl rfl rfl (.taken rfl rfl) ?_; refine K.callM [(1000000, 500)] [gO 500 vals] (hK1) rfl rfl (by exact (And.intro ⟨_, rfl, (Box.ren_vals _ _ _ _)⟩ trivial)) (by exact (all_cons_true vals_inUse rfl)) rfl rfl rfl rfl (by exact (.box rfl (Box.ren_vals _ _ _ _) .nil)) (.taken rfl rfl) ?_; refine K.not rfl rfl (.taken rfl rfl) ?_; refine kpf rfl rfl <| kmv rfl <| gmv rfl rfl rfl <| gmv rfl rfl rfl <| K.fieldAddr rfl rfl (.taken rfl rfl) ?_; refine K.loadOne rfl rfl rfl (.taken rfl rfl) ?_; refine K.fieldAddr rfl rfl (.taken rfl rfl) ?_; refine K.loadOne rfl rfl rfl (.taken rfl rfl) ?_; refine K.not rfl rfl (.taken rfl rfl) ?_; refine K.callM [(1000000, 500)] [gO 500 vals] (hK2) rfl rfl (by exact (And.intro ⟨_, rfl, (Box.ren_vals _ _ _ _)⟩ trivial)) (by exact (all_cons_true vals_inUse rfl)) rfl rfl rfl rfl (by exact (.box rfl (Box.ren_vals _ _ _ _) .nil)) (.taken rfl rfl) ?_; refine K.not rfl rfl (.taken rfl rfl) ?_; refine kpf rfl rfl <| RunK.nil <| LWP.condF rfl ?_; refine LWP.skip ?_; refine LWP.seq <| LWP.region (by kernel_rfl) <| kmv rfl <| K.callM [(1000000, 500)] [gO 500 vals] (hLe) rfl rfl (by exact (And.intro ⟨_, rfl, (Box.ren_vals _ _ _ _)⟩ trivial)) (by exact (all_cons_true vals_inUse rfl)) rfl rfl rfl rfl (by exact (.box rfl (Box.ren_vals _ _ _ _) .nil)) .plain <| kas rfl <| RunK.nil <| LWP.seq <| LWP.region (by kernel_rfl) <| kmv rfl <| K.callM [(1000000, 500)] [gO 500 vals] (hWa) rfl rfl (by exact (And.intro ⟨_, rfl, (Box.ren_vals _ _ _ _)⟩ trivial)) (by exact (all_cons_true vals_inUse rfl)) rfl rfl rfl rfl (by exact (.box rfl (Box.ren_vals _ _ _ _) .nil)) .plain <| kas rfl <| RunK.nil <| LWP.seq ?_)
  refine LWP.le (σ' := ⟨[(14, Ln .i64 (u.l.length : Nat)), (15, Ln .i64 (u.w.length : Nat)), (11, Ln .i64 (n1 : Nat)), (1, Ln .i64 archs), (2, .sv (.one (.val (.slice (some ⟨ab, ao, none⟩) acs.length acap)))), (7, Lp 500), (8, Ln .i64 (i : Nat)), (9, Lp 9)], [gO 500 vals, (9, some ⟨37, [.val (.int .i64 a.kind), .val (.int .u32 (a.set : Nat)), .val (.int .i64 a.i), .val (.int .i64 a.c), .val (.bool ga)], false⟩)], joinM X H⟩) (Le.of (by exact ⟨rfl, rfl, rfl, rfl, rfl, rfl, rfl, rfl, trivial⟩) (by exact ⟨rfl, rfl, trivial⟩) (by exact rfl) (by exact rfl) (by repeat' (first | refine all_cons_true ?_ ?_ | rfl | exact bytes_inUse | exact vals_inUse | exact mid_inUse rfl))) ?_
  refine g_shutL hO hI0 ?_
  clear hT hSg hK1 hK2 hLe hWa hI hI0 hO
  clear H vals
  (refine LWP.region (by kernel_rfl) <| kmv rfl <| kmv rfl <| kfa rfl rfl ?_; refine kl1 rfl rfl rfl <| kfa rfl rfl ?_; refine kl1 rfl rfl rfl <| K.not rfl rfl .plain <| K.callM [(1000000, 500)] [gB 500 u] (hB1) rfl rfl (by exact (And.intro ⟨_, rfl, rfl⟩ trivial)) (by exact (all_cons_true rfl rfl)) rfl rfl rfl rfl (by exact (.box rfl rfl .nil)) .plain <| kmv rfl <| kex rfl rfl <| kex rfl rfl <| kas rfl <| kas rfl <| RunK.nil <| LWP.seq <| LWP.region (by kernel_rfl) <| kmv rfl <| kfa rfl rfl ?_; refine kl1 rfl rfl rfl <| kfa rfl rfl ?_; refine kl1 rfl rfl rfl <| kfa rfl rfl ?_; refine kl1 rfl rfl rfl <| K.callM [(1000000, 500)] [gB 500 u] (hB2) rfl rfl (by exact (And.intro ⟨_, rfl, rfl⟩ trivial)) (by exact (all_cons_true rfl rfl)) rfl rfl rfl rfl (by exact (.box rfl rfl .nil)) .plain <| kmv rfl <| kex rfl rfl <| kex rfl rfl <| kas rfl <| kas rfl <| RunK.nil <| LWP.seq ?_)
  refine LWP.le (σ' := ⟨[(16, Ln .i64 (k : Nat)), (17, Ln .i64 0), (18, Ln .i64 (n1 : Nat)), (19, Ln .i64 0), (14, Ln .i64 (u.l.length : Nat)), (15, Ln .i64 (u.w.length : Nat)), (11, Ln .i64 (n1 : Nat)), (1, Ln .i64 archs), (2, .sv (.one (.val (.slice (some ⟨ab, ao, none⟩) acs.length acap)))), (7, Lp 500), (8, Ln .i64 (i : Nat)), (9, Lp 9)], [gB 500 (u), (9, some ⟨37, [.val (.int .i64 a.kind), .val (.int .u32 (a.set : Nat)), .val (.int .i64 a.i), .val (.int .i64 a.c), .val (.bool ga)], false⟩)], X⟩) (Le.of (by exact ⟨rfl, rfl, rfl, rfl, rfl, rfl, rfl, rfl, rfl, rfl, rfl, rfl, trivial⟩) (by exact ⟨rfl, rfl, trivial⟩) (by exact rfl) (by exact rfl) (by repeat' (first | refine all_cons_true ?_ ?_ | rfl | exact bytes_inUse | exact vals_inUse | exact mid_inUse rfl))) ?_
  refine g_open fun H vals hO hI0 => ?_
  have hI := g_in hO hI0
  have hLe := grLen (joinM X H) hI hku
  have hWa := gWays (joinM X H) hI hku
  (refine LWP.region (by kernel_rfl) <| kmv rfl <| kne rfl rfl (r := false) rfl <| kmv rfl <| gmv rfl rfl rfl <| K.fieldAddr rfl rfl (.taken rfl rfl) ?_; refine K.loadOne rfl rfl rfl (.taken rfl rfl) ?_; refine K.neq rfl rfl (r := false) (bne_eq_false_iff_eq.2 hki.symm) (.taken rfl rfl) ?_; refine kpf rfl rfl <| kmv rfl <| gmv rfl rfl rfl <| K.neq rfl rfl (r := false) rfl (.taken rfl rfl) ?_; refine kpf rfl rfl <| kmv rfl <| gmv rfl rfl rfl <| gmv rfl rfl rfl <| K.neq rfl rfl (r := false) (bne_eq_false_iff_eq.2 rfl) (.taken rfl rfl) ?_; refine kpf rfl rfl <| kmv rfl <| gmv rfl rfl rfl <| K.callM [(1000000, 500)] [gO 500 vals] (hLe) rfl rfl (by exact (And.intro ⟨_, rfl, (Box.ren_vals _ _ _ _)⟩ trivial)) (by exact (all_cons_true vals_inUse rfl)) rfl rfl rfl rfl (by exact (.box rfl (Box.ren_vals _ _ _ _) .nil)) (.taken rfl rfl) ?_; refine gmv rfl rfl rfl <| K.neq rfl rfl (r := false) (bne_eq_false_iff_eq.2 rfl) (.taken rfl rfl) ?_; refine kpf rfl rfl <| kmv rfl <| gmv rfl rfl rfl <| K.callM [(1000000, 500)] [gO 500 vals] (hWa) rfl rfl (by exact (And.intro ⟨_, rfl, (Box.ren_vals _ _ _ _)⟩ trivial)) (by exact (all_cons_true vals_inUse rfl)) rfl rfl rfl rfl (by exact (.box rfl (Box.ren_vals _ _ _ _) .nil)) (.taken rfl rfl) ?_; refine gmv rfl rfl rfl <| K.neq rfl rfl (r := false) (bne_eq_false_iff_eq.2 rfl) (.taken rfl rfl) ?_; refine kpf rfl rfl <| RunK.nil <| LWP.condF rfl ?_; refine LWP.skip ?_; refine LWP.region (by kernel_rfl) <| kmv rfl <| kad rfl rfl hadd <| kas rfl <| RunK.nil ?_)
  refine Leads.le (σ' := ⟨[(1, Ln .i64 archs), (2, .sv (.one (.val (.slice (some ⟨ab, ao, none⟩) acs.length acap)))), (7, Lp 500), (8, Ln .i64 (i + 1 : Nat))], [gO 500 vals], joinM X H⟩) (Le.of (by exact ⟨rfl, rfl, rfl, rfl, trivial⟩) (by exact ⟨rfl, trivial⟩) (by exact rfl) (by exact rfl) (by repeat' (first | refine all_cons_true ?_ ?_ | rfl | exact bytes_inUse | exact vals_inUse | exact mid_inUse rfl))) ?_
  refine g_shut hO hI0 ?_
  exact Leads.done ⟨acs.length - (i + 1), by omega, i + 1, u, by omega, rfl, hku, by omega, rfl⟩
end Go.Proofs.Ytjifibloagkeeaa
end
