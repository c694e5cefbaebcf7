/- A piece of a proof over this program: contracts of its functions, and a logic to prove them by. -/
import Derived.Test.YtfmadklfcoebhaaDoorP6
section
namespace Go.Proofs.YtfmadklfcoebhaaDoor
open Go Go.Lg Go.Lg.Fld
set_option maxRecDepth 100000
/-- a field's cells -/
abbrev cF (f : Fl) : List CV := [.val (.string ⟨f.nm.toArray⟩), .val (.int .i64 f.kind), .val (.int .i64 f.count)]
theorem fields_reads {X : Nat → Option Obj} {ad : Option Addr} {fs : List Fl} (h : FieldsIn X ad fs) : ReadsX X ad (fs.map Fl.vals).flatten :=
  reads_rows (by decide) (fun r hr => by obtain ⟨n, _, rfl⟩ := List.mem_map.1 hr; rfl) h.rows
theorem flat_snoc (fs : List Fl) (f : Fl) : (fs.map Fl.vals).flatten.map CV.val ++ cF f = ((fs ++ [f]).map Fl.vals).flatten.map CV.val := by
  rw [List.map_append, List.flatten_append, List.map_append]; rfl
variable (X : Nat → Option Obj)
set_option maxHeartbeats 12800000 in
theorem lgrows_law (ad ad2 : Option Addr) (cap cap2 : Nat) (fs : List Fl) (ns : List (Bool × Int)) (f : Fl) (hin : FieldsIn X ad fs) (hns : NumsIn X ad2 ns) (hfb : (-9223372036854775808 ≤ f.kind ∧ f.kind < 9223372036854775808) ∧ (-9223372036854775808 ≤ f.count ∧ f.count < 9223372036854775808)) (hsz : fs.length * 32 ≤ 140737488351232) :
    PSpec Tryd.prog X 7 [Lx ad fs.length cap, .sv (.agg (cF f)), Lx ad2 ns.length cap2] (Lb true) := by
  have hw := lawake_spec X
  have hbig : fs.length < 4611686018427387904 := by omega
  have hml : (fs ++ [f]).length = fs.length + 1 := by simp
  have hbig2 : (fs ++ [f]).length < 4611686018427387904 := by omega
  refine PSpec.intro Tryd.func7 rfl (by kernel_rfl) rfl rfl ?_
  intro C
  (refine LWP.seq <| LWP.region (by kernel_rfl) <| K.box rfl rfl rfl .plain <| kas rfl <| RunK.nil <| LWP.seq <| LWP.seq <| LWP.region (by kernel_rfl) <| kca rfl rfl (hw) <| K.not rfl rfl .plain <| RunK.nil <| LWP.condF rfl ?_; refine LWP.skip ?_; refine LWP.seq ?_)
  refine LWP.meetL (fun σ => ∃ (b1 c1 : Nat) (Y : Nat → Option Obj), Ext X Y ∧ FieldsIn Y (some ⟨b1, 0, none⟩) (fs ++ [f]) ∧ σ = ⟨[(0, Lx ad fs.length cap), (2, Lx ad2 ns.length cap2), (4, .sv (.one (.ptr 4 0))), (7, Lx (some ⟨b1, 0, none⟩) (fs ++ [f]).length c1)], [(4, some ⟨37, cF f, false⟩)], Y⟩) ?_ ?_
  · have hsmall : ∀ g ∈ fs ++ [f], (-9223372036854775808 ≤ g.kind ∧ g.kind < 9223372036854775808) ∧ (-9223372036854775808 ≤ g.count ∧ g.count < 9223372036854775808) := fun g hg => by
      rcases List.mem_append.1 hg with hg | hg
      · exact hin.small g hg
      · rw [List.mem_singleton.1 hg]; exact hfb
    have hfl := fields_len fs
    have hflm : ((fs.map Fl.vals).flatten.map CV.val).length = fs.length * 3 := by rw [List.length_map]; exact hfl
    have hfo := fields_one fs
    have hsn := flat_snoc fs f
    have hR := fields_reads hin
    cases ad with
    | none =>
      have h0 : fs = [] := List.eq_nil_of_length_eq_zero (by
        cases fs with
        | nil => rfl
        | cons g t =>
          obtain ⟨blk, off, arr, el, fr, h1, _⟩ := hin.rows 0 g.vals rfl
          cases h1)
      have hfs0 : fs.length = 0 := by rw [h0]; rfl
      have hsn0 : cF f = ((fs ++ [f]).map Fl.vals).flatten.map CV.val := by rw [h0]; rfl
      rw [hfs0]
      (refine LWP.draws mixed (by kernel_rfl) <| K.buildSlc (zs := []) (sz := 3) (e := 37) (by kernel_rfl) rfl rfl rfl rfl rfl rfl .plain <| kmv rfl <| K.appendX0 (by_ := 32) (e2 := 37) (nl := 0) (nc := []) rfl rfl rfl rfl (by kernel_rfl) (by kernel_rfl) (by omega) (by omega) rfl rfl rfl .plain ?_; refine K.loadAll rfl rfl rfl .plain ?_; refine K.buildSlc (zs := (List.replicate 1 [Value.string ⟨#[]⟩, .int .i64 0, .int .i64 0]).flatten) (sz := 3) (e := 37) (cs' := cF f) (by kernel_rfl) rfl rfl rfl rfl rfl rfl .plain <| K.appendSlc (by_ := 32) (e2 := 37) (m := 1) (nl := (fs ++ [f]).length) (nc := ((fs ++ [f]).map Fl.vals).flatten.map CV.val) rfl rfl rfl rfl rfl (by exact Nat.le_refl 3) rfl rfl (by kernel_rfl) (by kernel_rfl) (by omega) (by omega) rfl (by omega) hsn0 .plain <| kas rfl <| RunK.nil <| And.intro (by kernel_rfl) ?_)
      refine Leads.le (σ' := ⟨[(7, .sv (.one (.slc 25 0 (fs ++ [f]).length 3))), (0, Lx none 0 cap), (2, Lx ad2 ns.length cap2), (4, .sv (.one (.ptr 4 0)))], [(25, some ⟨37, ((fs ++ [f]).map Fl.vals).flatten.map CV.val, true⟩), (4, some ⟨37, cF f, false⟩)], X⟩) (Le.of (by exact ⟨rfl, rfl, rfl, rfl, trivial⟩) (by exact ⟨rfl, rfl, trivial⟩) (by exact rfl) (by exact rfl) (by repeat' (first | refine all_cons_true ?_ ?_ | rfl | exact bytes_inUse | exact vals_inUse))) ?_
      refine Leads.freeze rfl rfl rfl ?_
      intro b1 c1 a1 f1 n1 z1 g1 g2 sp1
      refine Leads.here (Le.of (by exact ⟨rfl, rfl, rfl, rfl, trivial⟩) (by exact ⟨rfl, trivial⟩) (by exact rfl) (by exact rfl) (by repeat' (first | refine all_cons_true ?_ ?_ | rfl | exact bytes_inUse | exact vals_inUse))) ⟨b1, c1, _, fun b o h => withBlock_old n1 b o h, fields_in (withBlock_at _ _ _) hsmall sp1, rfl⟩
    | some ad =>
      (refine LWP.draws mixed (by kernel_rfl) <| K.buildSlc (zs := []) (sz := 3) (e := 37) (by kernel_rfl) rfl rfl rfl rfl rfl rfl .plain <| kmv rfl <| K.appendX (by_ := 32) (e2 := 37) (news := (fs.map Fl.vals).flatten) (nl := fs.length) (nc := (fs.map Fl.vals).flatten.map .val) rfl rfl rfl rfl hR hfl hfo (by kernel_rfl) (by kernel_rfl) (by omega) (by omega) rfl (Nat.zero_add _) (List.nil_append _) .plain ?_; refine K.loadAll rfl rfl rfl .plain ?_; refine K.buildSlc (zs := (List.replicate 1 [Value.string ⟨#[]⟩, .int .i64 0, .int .i64 0]).flatten) (sz := 3) (e := 37) (cs' := cF f) (by kernel_rfl) rfl rfl rfl rfl rfl rfl .plain <| K.appendSlc (by_ := 32) (e2 := 37) (m := 1) (nl := (fs ++ [f]).length) (nc := ((fs ++ [f]).map Fl.vals).flatten.map CV.val) rfl rfl hflm rfl rfl (by exact Nat.le_refl 3) rfl rfl (by kernel_rfl) (by kernel_rfl) (by omega) (by omega) rfl (by omega) hsn .plain <| kas rfl <| RunK.nil <| And.intro (by kernel_rfl) ?_)
      refine Leads.le (σ' := ⟨[(7, .sv (.one (.slc 25 0 (fs ++ [f]).length 3))), (0, Lx (some ad) fs.length cap), (2, Lx ad2 ns.length cap2), (4, .sv (.one (.ptr 4 0)))], [(25, some ⟨37, ((fs ++ [f]).map Fl.vals).flatten.map CV.val, true⟩), (4, some ⟨37, cF f, false⟩)], X⟩) (Le.of (by exact ⟨rfl, rfl, rfl, rfl, trivial⟩) (by exact ⟨rfl, rfl, trivial⟩) (by exact rfl) (by exact rfl) (by repeat' (first | refine all_cons_true ?_ ?_ | rfl | exact bytes_inUse | exact vals_inUse))) ?_
      refine Leads.freeze rfl rfl rfl ?_
      intro b1 c1 a1 f1 n1 z1 g1 g2 sp1
      refine Leads.here (Le.of (by exact ⟨rfl, rfl, rfl, rfl, trivial⟩) (by exact ⟨rfl, trivial⟩) (by exact rfl) (by exact rfl) (by repeat' (first | refine all_cons_true ?_ ?_ | rfl | exact bytes_inUse | exact vals_inUse))) ⟨b1, c1, _, fun b o h => withBlock_old n1 b o h, fields_in (withBlock_at _ _ _) hsmall sp1, rfl⟩
  rintro σ ⟨b1, c1, Y, hXY, hmo, rfl⟩
  have hinY := fields_ext hXY hin
  have hnsY := nums_ext hXY hns
  have hC1 := Check_spec Y ad cap fs hinY hbig
  have hC2 := Check_spec Y _ c1 (fs ++ [f]) hmo hbig2
  have hg1 := great_spec Y ad ad2 fs.length ns.length cap cap2 _ rfl
  have hsm : ∀ l : List Fl, -9223372036854775808 ≤ layErr l ∧ layErr l < 9223372036854775808 := fun l => by unfold layErr; (repeat' split) <;> omega
  have hs1 := hsm fs
  have hs2 := hsm (fs ++ [f])
  cases hgr : (decide (12 < fs.length) || decide (100 < ns.length)) with
  | true =>
    rw [hgr] at hg1
    (refine LWP.seq <| LWP.seq <| LWP.region (by kernel_rfl) <| kmv rfl <| kmv rfl <| kca rfl rfl (hg1) <| kmv rfl <| RunK.passed rfl rfl rfl <| RunK.passed rfl rfl rfl <| RunK.passed rfl rfl rfl <| kpt rfl rfl <| kmv rfl <| RunK.passed rfl rfl rfl <| RunK.passed rfl rfl rfl ?_; refine RunK.passed rfl rfl rfl <| kpt rfl rfl <| RunK.nil <| LWP.condT rfl ?_; refine LWP.seq <| LWP.region (by kernel_rfl) <| kas rfl <| RunK.nil <| LWP.ret ?_)
    exact ⟨[_], ⟨rfl, trivial⟩, rfl⟩
  | false =>
  rw [hgr] at hg1
  have hb : fs.length ≤ 12 ∧ ns.length ≤ 100 := by
    simp only [Bool.or_eq_false_iff, decide_eq_false_iff_not] at hgr
    omega
  by_cases hl : layErr fs = 0
  case neg =>
    generalize layErr fs = e at *
    (refine LWP.seq <| LWP.seq <| LWP.region (by kernel_rfl) <| kmv rfl <| kmv rfl <| kca rfl rfl (hg1) <| kmv rfl <| gmv rfl rfl rfl <| gca rfl rfl hC1 rfl rfl <| K.neq rfl rfl (bne_iff_ne.2 (by omega)) (.taken rfl rfl) ?_; refine kpf rfl rfl <| kmv rfl <| RunK.passed rfl rfl rfl <| RunK.passed rfl rfl rfl <| RunK.passed rfl rfl rfl <| kpt rfl rfl <| RunK.nil <| LWP.condT rfl ?_; refine LWP.seq <| LWP.region (by kernel_rfl) <| kas rfl <| RunK.nil <| LWP.ret ?_)
    exact ⟨[_], ⟨rfl, trivial⟩, rfl⟩
  by_cases hl2 : layErr (fs ++ [f]) = 0
  case neg =>
    rw [hl] at hC1
    generalize layErr (fs ++ [f]) = e at *
    (refine LWP.seq <| LWP.seq <| LWP.region (by kernel_rfl) <| kmv rfl <| kmv rfl <| kca rfl rfl (hg1) <| kmv rfl <| gmv rfl rfl rfl <| gca rfl rfl hC1 rfl rfl <| K.neq rfl rfl ((bne_eq_false_iff_eq.2 (by omega))) (.taken rfl rfl) ?_; refine kpf rfl rfl <| kmv rfl <| gmv rfl rfl rfl <| gca rfl rfl hC2 rfl rfl <| K.neq rfl rfl (bne_iff_ne.2 (by omega)) (.taken rfl rfl) ?_; refine kpf rfl rfl <| RunK.nil <| LWP.condT rfl ?_; refine LWP.seq <| LWP.region (by kernel_rfl) <| kas rfl <| RunK.nil <| LWP.ret ?_)
    exact ⟨[_], ⟨rfl, trivial⟩, rfl⟩
  rw [hl] at hC1
  rw [hl2] at hC2
  obtain ⟨_, hall, hT1⟩ := layErr_facts hl
  obtain ⟨_, hall2, hT2⟩ := layErr_facts hl2
  have hokf : f.ok = true := by rw [List.all_append] at hall2; simpa using (Bool.and_eq_true_iff.1 hall2).2
  obtain ⟨_, hn1, hn8, hnc⟩ := ok_w hokf
  obtain ⟨hgrow, hgend⟩ := size_grows hall2
  have hEl := grow_elems hl hl2
  rw [show cF f = [.val (.string ⟨f.nm.toArray⟩), .val (.int .i64 f.kind), .val (.int .i64 (f.n : Nat))] by rw [hnc]]
  (refine LWP.seq <| LWP.seq <| LWP.region (by kernel_rfl) <| kmv rfl <| kmv rfl <| kca rfl rfl (hg1) <| kmv rfl <| gmv rfl rfl rfl <| gca rfl rfl hC1 rfl rfl <| K.neq rfl rfl ((bne_eq_false_iff_eq.2 (by omega))) (.taken rfl rfl) ?_; refine kpf rfl rfl <| kmv rfl <| gmv rfl rfl rfl <| gca rfl rfl hC2 rfl rfl <| K.neq rfl rfl ((bne_eq_false_iff_eq.2 (by omega))) (.taken rfl rfl) ?_; refine kpf rfl rfl <| RunK.nil <| LWP.condF rfl ?_; refine LWP.skip ?_; refine LWP.seq ?_)
  have hSl := starts_len fs 0
  have hSl2 := starts_len (fs ++ [f]) 0
  have hst : ∀ (i : Nat) (v : Value), i < fs.length → (ntV (startsAt 0 fs))[i]? = some v → (ntV (startsAt 0 (fs ++ [f])))[i]? = some v := fun i v hi h => by
    obtain ⟨g, hg⟩ : ∃ g, fs[i]? = some g := ⟨_, List.getElem?_eq_getElem hi⟩
    have e1 := starts_at (a := 0) hg
    have e2 := starts_at (l := fs ++ [f]) (a := 0) (i := i) (f := g) (by rw [List.getElem?_append_left hi]; exact hg)
    rw [List.take_append_of_le_length (by omega)] at e2
    unfold ntV at h ⊢
    rw [List.getElem?_map, e1] at h
    rw [List.getElem?_map, e2]
    exact h
  refine LWP.meetL (fun σ => ∃ (ad3 : Option Addr) (cap3 : Nat) (Z : Nat → Option Obj), Ext Y Z ∧ OneIn Z ad3 (ntV (startsAt 0 fs)) ∧ σ = ⟨[(0, Lx ad fs.length cap), (2, Lx ad2 ns.length cap2), (4, .sv (.one (.ptr 4 0))), (7, Lx (some ⟨b1, 0, none⟩) (fs ++ [f]).length c1), (8, .sv (.one (.ptr 8 0))), (9, Ln .i64 0)], [(4, some ⟨37, [.val (.string ⟨f.nm.toArray⟩), .val (.int .i64 f.kind), .val (.int .i64 (f.n : Nat))], false⟩), (8, some ⟨30, [.val (.int .i64 (rowSize fs : Nat)), .val (.slice ad3 fs.length cap3)], false⟩)], Z⟩) ?_ ?_
  · have hO := Of_ok Y ad cap fs hinY hbig hl
    generalize startsAt 0 fs = S at *
    generalize rowSize fs = T at *
    (refine LWP.region (by kernel_rfl) <| kmv rfl <| K.callMp [(1000001, 503)] (.tup [planV (T : Nat) (.slc 503 0 fs.length 1), Sn .i64 0]) [(503, some ⟨3, (ntV S).map .val, false⟩)] (hO) rfl rfl (by exact trivial) rfl rfl rfl rfl rfl (by exact (.box rfl (Box.ren_vals _ _ _ _) .nil)) .plain <| kmv rfl <| kex rfl rfl <| kex rfl rfl <| K.alloc rfl .plain ?_; refine K.storeAll rfl rfl rfl rfl rfl rfl .plain ?_; refine kas rfl <| RunK.nil ?_)
    refine Leads.le (σ' := ⟨[(0, Lx ad fs.length cap), (2, Lx ad2 ns.length cap2), (4, .sv (.one (.ptr 4 0))), (7, Lx (some ⟨b1, 0, none⟩) (fs ++ [f]).length c1), (8, .sv (.one (.ptr 8 0))), (9, Ln .i64 0)], [(8, some ⟨30, [.val (.int .i64 (T : Nat))] ++ .slc 503 0 fs.length 1 :: [], false⟩), (503, some ⟨3, (ntV S).map .val, false⟩), (4, some ⟨37, [.val (.string ⟨f.nm.toArray⟩), .val (.int .i64 f.kind), .val (.int .i64 (f.n : Nat))], false⟩)], Y⟩) (Le.of (by exact ⟨rfl, rfl, rfl, rfl, rfl, rfl, trivial⟩) (by exact ⟨rfl, rfl, rfl, trivial⟩) (by exact rfl) (by exact rfl) (by repeat' (first | refine all_cons_true ?_ ?_ | rfl | exact bytes_inUse | exact vals_inUse))) ?_
    refine Leads.freezeCell rfl rfl rfl rfl rfl rfl ?_
    intro b3 c3 a3 f3 n3 z3 g1 g2 sp3
    refine Leads.here (Le.of (by exact ⟨rfl, rfl, rfl, rfl, rfl, rfl, trivial⟩) (by exact ⟨rfl, rfl, trivial⟩) (by exact rfl) (by exact rfl) (by repeat' (first | refine all_cons_true ?_ ?_ | rfl | exact bytes_inUse | exact vals_inUse))) ⟨some ⟨b3, 0, none⟩, c3, _, fun b o h => withBlock_old n3 b o h, one_in (withBlock_at _ _ _) sp3, rfl⟩
  rintro σ ⟨ad3, cap3, Z, hYZ, hS3, rfl⟩
  have hinZ := fields_ext hYZ hinY
  have hmoZ := fields_ext hYZ hmo
  have hnsZ := nums_ext hYZ hnsY
  refine LWP.seq ?_
  refine LWP.meetL (fun σ => ∃ (ad4 : Option Addr) (cap4 : Nat) (W : Nat → Option Obj), Ext Z W ∧ OneIn W ad4 (ntV (startsAt 0 (fs ++ [f]))) ∧ σ = ⟨[(0, Lx ad fs.length cap), (2, Lx ad2 ns.length cap2), (4, .sv (.one (.ptr 4 0))), (7, Lx (some ⟨b1, 0, none⟩) (fs ++ [f]).length c1), (8, .sv (.one (.ptr 8 0))), (9, Ln .i64 0), (10, .sv (.one (.ptr 10 0))), (11, Ln .i64 0)], [(4, some ⟨37, [.val (.string ⟨f.nm.toArray⟩), .val (.int .i64 f.kind), .val (.int .i64 (f.n : Nat))], false⟩), (8, some ⟨30, [.val (.int .i64 (rowSize fs : Nat)), .val (.slice ad3 fs.length cap3)], false⟩), (10, some ⟨30, [.val (.int .i64 (rowSize (fs ++ [f]) : Nat)), .val (.slice ad4 (fs ++ [f]).length cap4)], false⟩)], W⟩) ?_ ?_
  · have hO := Of_ok Z _ c1 (fs ++ [f]) hmoZ hbig2 hl2
    generalize startsAt 0 (fs ++ [f]) = S at *
    generalize rowSize (fs ++ [f]) = T at *
    (refine LWP.region (by kernel_rfl) <| kmv rfl <| K.callMp [(1000001, 503)] (.tup [planV (T : Nat) (.slc 503 0 (fs ++ [f]).length 1), Sn .i64 0]) [(503, some ⟨3, (ntV S).map .val, false⟩)] (hO) rfl rfl (by exact trivial) rfl rfl rfl rfl rfl (by exact (.box rfl (Box.ren_vals _ _ _ _) .nil)) .plain <| kmv rfl <| kex rfl rfl <| kex rfl rfl <| K.alloc rfl .plain ?_; refine K.storeAll rfl rfl rfl rfl rfl rfl .plain ?_; refine kas rfl <| RunK.nil ?_)
    refine Leads.le (σ' := ⟨[(0, Lx ad fs.length cap), (2, Lx ad2 ns.length cap2), (4, .sv (.one (.ptr 4 0))), (7, Lx (some ⟨b1, 0, none⟩) (fs ++ [f]).length c1), (8, .sv (.one (.ptr 8 0))), (9, Ln .i64 0), (10, .sv (.one (.ptr 10 0))), (11, Ln .i64 0)], [(10, some ⟨30, [.val (.int .i64 (T : Nat))] ++ .slc 503 0 (fs ++ [f]).length 1 :: [], false⟩), (503, some ⟨3, (ntV S).map .val, false⟩), (4, some ⟨37, [.val (.string ⟨f.nm.toArray⟩), .val (.int .i64 f.kind), .val (.int .i64 (f.n : Nat))], false⟩), (8, some ⟨30, [.val (.int .i64 (rowSize fs : Nat)), .val (.slice ad3 fs.length cap3)], false⟩)], Z⟩) (Le.of (by exact ⟨rfl, rfl, rfl, rfl, rfl, rfl, rfl, rfl, trivial⟩) (by exact ⟨rfl, rfl, rfl, rfl, trivial⟩) (by exact rfl) (by exact rfl) (by repeat' (first | refine all_cons_true ?_ ?_ | rfl | exact bytes_inUse | exact vals_inUse))) ?_
    refine Leads.freezeCell rfl rfl rfl rfl rfl rfl ?_
    intro b3 c3 a3 f3 n3 z3 g1 g2 sp3
    refine Leads.here (Le.of (by exact ⟨rfl, rfl, rfl, rfl, rfl, rfl, rfl, rfl, trivial⟩) (by exact ⟨rfl, rfl, rfl, trivial⟩) (by exact rfl) (by exact rfl) (by repeat' (first | refine all_cons_true ?_ ?_ | rfl | exact bytes_inUse | exact vals_inUse))) ⟨some ⟨b3, 0, none⟩, c3, _, fun b o h => withBlock_old n3 b o h, one_in (withBlock_at _ _ _) sp3, rfl⟩
  rintro σ ⟨ad4, cap4, W, hZW, hS4, rfl⟩
  have hinW := fields_ext hZW hinZ
  have hmoW := fields_ext hZW hmoZ
  have hnsW := nums_ext hZW hnsZ
  have hS3W := OneIn.more hZW hS3
  have hE1 := Elems_spec W ad cap fs hinW hbig
  have hE2 := Elems_spec W _ c1 (fs ++ [f]) hmoW hbig2
  rw [hEl] at hE2
  have hNle : elemsN fs ≤ 8 * fs.length := by
    unfold elemsN
    rw [if_pos hl]
    exact (elems_len fs 0 hall).2
  have hend := end_le fs 0 hall
  have hend2 := end_le (fs ++ [f]) 0 hall2
  have hTs1 : rowSize fs ≤ 10000 := by
    have := (round_facts (great_wd fs hall) (endAt 0 fs)).2.2.1
    have hw8 := great_wd fs hall
    show roundUp (endAt 0 fs) (greatW fs) ≤ 10000
    rcases hw8 with e | e | e | e <;> omega
  have hTs2 : rowSize (fs ++ [f]) ≤ 10000 := by
    have := (round_facts (great_wd (fs ++ [f]) hall2) (endAt 0 (fs ++ [f]))).2.2.1
    have hw8 := great_wd (fs ++ [f]) hall2
    show roundUp (endAt 0 (fs ++ [f])) (greatW (fs ++ [f])) ≤ 10000
    rcases hw8 with e | e | e | e <;> omega
  generalize hN : elemsN fs = N at *
  generalize hR1 : rowSize fs = R1 at *
  generalize hR2 : rowSize (fs ++ [f]) = R2 at *
  ((refine LWP.seq <| LWP.seq <| LWP.draws mixed (by kernel_rfl) <| kmv rfl <| kne rfl rfl ((bne_eq_false_iff_eq.2 (by omega))) <| kmv rfl <| K.fieldAddr rfl rfl (.taken rfl rfl) ?_; refine K.loadOne rfl rfl rfl (.taken rfl rfl) ?_; refine K.fieldAddr rfl rfl (.taken rfl rfl) ?_; refine K.loadOne rfl rfl rfl (.taken rfl rfl) ?_; refine K.lss rfl rfl (decide_eq_false (by omega)) (.taken rfl rfl) ?_; refine kpf rfl rfl <| kmv rfl <| K.fieldAddr rfl rfl (.taken rfl rfl) ?_; refine K.loadOne rfl rfl rfl (.taken rfl rfl) ?_; refine K.lenX rfl SliceT.h rfl (.taken rfl rfl) ?_; refine K.fieldAddr rfl rfl (.taken rfl rfl) ?_; refine K.loadOne rfl rfl rfl (.taken rfl rfl) ?_; refine K.lenX rfl SliceT.h rfl (.taken rfl rfl) ?_; refine K.add rfl rfl (wrap_i64 (by omega)) (.taken rfl rfl) ?_); (refine K.neq rfl rfl ((bne_eq_false_iff_eq.2 (by omega))) (.taken rfl rfl) ?_; refine kpf rfl rfl <| kmv rfl <| gmv rfl rfl rfl <| gca rfl rfl hE2 rfl rfl <| gmv rfl rfl rfl <| gca rfl rfl hE1 rfl rfl <| K.fieldAddr rfl rfl (.taken rfl rfl) ?_; refine K.loadOne rfl rfl rfl (.taken rfl rfl) ?_; refine K.add rfl rfl (wrap_i64 (by omega)) (.taken rfl rfl) ?_; refine K.neq rfl rfl ((bne_eq_false_iff_eq.2 (by omega))) (.taken rfl rfl) ?_; refine kpf rfl rfl <| RunK.nil <| And.intro (by kernel_rfl) ?_; refine LWP.condF rfl ?_; refine LWP.skip ?_; refine LWP.seq <| LWP.region (by kernel_rfl) <| kas rfl <| RunK.nil <| LWP.seq <| LWP.seq <| LWP.region (by kernel_rfl) <| kas rfl <| RunK.nil <| LWP.block ?_))
  have hBx : True := trivial
  refine LWP.loop (fun m σ => ∃ i : Nat, i ≤ fs.length ∧ m = fs.length - i ∧ σ = ⟨[(0, Lx ad fs.length cap), (2, Lx ad2 ns.length cap2), (4, .sv (.one (.ptr 4 0))), (7, Lx (some ⟨b1, 0, none⟩) (fs ++ [f]).length c1), (8, .sv (.one (.ptr 8 0))), (10, .sv (.one (.ptr 10 0))), (12, Ln .i64 (endAt 0 (fs.take i) : Nat)), (13, Ln .i64 (i : Nat))], [(4, some ⟨37, [.val (.string ⟨f.nm.toArray⟩), .val (.int .i64 f.kind), .val (.int .i64 (f.n : Nat))], false⟩), (8, some ⟨30, [.val (.int .i64 (R1 : Nat)), .val (.slice ad3 fs.length cap3)], false⟩), (10, some ⟨30, [.val (.int .i64 (R2 : Nat)), .val (.slice ad4 (fs ++ [f]).length cap4)], false⟩)], W⟩) fs.length
    ⟨_, Le.of (by exact ⟨rfl, rfl, rfl, rfl, rfl, rfl, rfl, rfl, trivial⟩) (by exact ⟨rfl, rfl, rfl, trivial⟩) (by exact rfl) (by exact rfl) (by repeat' (first | refine all_cons_true ?_ ?_ | rfl | exact bytes_inUse | exact vals_inUse)), 0, by omega, rfl, rfl⟩ ?_
  rintro m σ ⟨i, hi, rfl, rfl⟩
  by_cases hlt : i < fs.length
  · obtain ⟨g, hg⟩ : ∃ g, fs[i]? = some g := ⟨_, List.getElem?_eq_getElem hlt⟩
    obtain ⟨blk, off, arr, el, fr', rfl, hX1, hcK, hcC⟩ := count_at hinW hg
    have hio : off + Int.toNat (i : Int) * 3 = off + i * 3 := by simp
    have hokg := List.all_eq_true.1 hall g (List.mem_of_getElem? hg)
    obtain ⟨hw4, hm1, hm8, hmc⟩ := ok_w hokg
    have hstart := starts_at (a := 0) hg
    have hv : (ntV (startsAt 0 fs))[i]? = some (.int .i64 (roundUp (endAt 0 (fs.take i)) g.w : Nat)) := by unfold ntV; rw [List.getElem?_map, hstart]; rfl
    obtain ⟨b3, o3, a3, el3, f3, rfl, hX3, hc3⟩ := hS3W i _ hv
    obtain ⟨b4, o4, a4, el4, f4, rfl, hX4, hc4⟩ := hS4 i _ (hst i _ hlt hv)
    have hio3 : o3 + Int.toNat (i : Int) * 1 = o3 + i := by simp
    have hio4 : o4 + Int.toNat (i : Int) * 1 = o4 + i := by simp
    have hSz := fSize_spec W g.kind
    rw [show kW g.kind = g.w from rfl] at hSz
    have hen : endAt 0 (fs.take (i + 1)) = roundUp (endAt 0 (fs.take i)) g.w + g.w * g.n := by rw [take_snoc hg, end_snoc]
    have hall_i : (fs.take (i + 1)).all Fl.ok = true := by rw [List.all_eq_true] at hall ⊢; exact fun x hx => hall x (List.mem_of_mem_take hx)
    have hendi := (end_le (fs.take (i + 1)) 0 hall_i).2
    have htl : (fs.take (i + 1)).length = i + 1 := by rw [List.length_take]; omega
    rw [htl] at hendi
    rw [← hmc] at hcC
    rw [hen] at hendi
    have hw8 : 1 ≤ g.w ∧ g.w ≤ 8 := by rcases hw4 with e | e | e | e <;> omega
    have hmax : g.w * g.n ≤ 64 := Nat.le_trans (Nat.mul_le_mul hw8.2 hm8) (by decide)
    generalize endAt 0 (fs.take i) = a at *
    generalize roundUp a g.w = T at *
    generalize g.n = c at *
    generalize g.w = w at *
    have hm2 : IntKind.i64.wrap (((w : Nat) : Int) * ((c : Nat) : Int)) = ((w * c : Nat) : Int) := by rw [← Int.natCast_mul, wrap_i64 (by omega)]
    have ha2 : IntKind.i64.wrap (((T : Nat) : Int) + ((w * c : Nat) : Int)) = ((T + w * c : Nat) : Int) := by rw [wrap_i64 (by omega)]; omega
    (refine LWP.seq <| LWP.seq <| LWP.region (by kernel_rfl) <| kmv rfl <| kmv rfl <| K.lenX rfl SliceT.h rfl .plain ?_; refine klt rfl rfl (decide_eq_true (by omega)) <| RunK.nil <| LWP.condT rfl ?_; refine LWP.skip ?_; refine LWP.seq <| LWP.block <| LWP.seq <| LWP.seq <| LWP.draws mixed (by kernel_rfl) <| kfa rfl rfl ?_; refine kl1 rfl rfl rfl <| kmv rfl <| K.indexX rfl rfl SliceT.h (by omega) hio3 .plain <| K.loadX rfl hX3 (by kernel_rfl) hc3 .plain <| kfa rfl rfl ?_; refine kl1 rfl rfl rfl <| kmv rfl <| K.indexX rfl rfl SliceT.h (by omega) hio4 .plain <| K.loadX rfl hX4 (by kernel_rfl) hc4 .plain <| kne rfl rfl ((bne_eq_false_iff_eq.2 (by omega))) <| RunK.nil <| And.intro (by kernel_rfl) ?_; refine LWP.condF rfl ?_; refine LWP.skip ?_; refine LWP.draws mixed (by kernel_rfl) <| kfa rfl rfl ?_; refine kl1 rfl rfl rfl <| kmv rfl <| K.indexX rfl rfl SliceT.h (by omega) hio3 .plain <| K.loadX rfl hX3 (by kernel_rfl) hc3 .plain <| kmv rfl <| kmv rfl <| K.indexX rfl rfl SliceT.h (by omega) hio .plain <| K.fieldAddrX rfl rfl .plain ?_; refine K.loadX rfl hX1 (by kernel_rfl) hcK .plain <| kca rfl rfl (hSz) <| kmv rfl <| kmv rfl <| K.indexX rfl rfl SliceT.h (by omega) hio .plain <| K.fieldAddrX rfl rfl .plain ?_; refine K.loadX rfl hX1 (by kernel_rfl) hcC .plain <| K.mul rfl rfl hm2 .plain <| kad rfl rfl ha2 <| kas rfl <| RunK.nil <| And.intro (by kernel_rfl) ?_; refine LWP.region (by kernel_rfl) <| kmv rfl <| kad rfl rfl (wrap_i64 (by omega)) <| kas rfl <| RunK.nil ?_)
    exact ⟨_, _, by omega, Le.of (by exact ⟨rfl, rfl, rfl, rfl, rfl, rfl, by rw [hen]; rfl, rfl, trivial⟩) (by exact ⟨rfl, rfl, rfl, trivial⟩) (by exact rfl) (by exact rfl) (by repeat' (first | refine all_cons_true ?_ ?_ | rfl | exact bytes_inUse | exact vals_inUse)), i + 1, by omega, rfl, rfl⟩
  have ei : i = fs.length := by omega
  subst ei
  rw [List.take_length]
  have hround := (round_facts (great_wd fs hall) (endAt 0 fs)).2.1
  rw [show roundUp (endAt 0 fs) (greatW fs) = R1 from hR1] at hround
  have hF := lPack_spec W ad ad2 cap cap2 fs ns hinW hbig hnsW (by omega)
  have hsmF := fitErr_small fs ns
  by_cases h0 : fitErr fs ns = 0
  case neg =>
    generalize packR fs ns = q at *
    generalize fitErr fs ns = e at *
    generalize endAt 0 fs = a at *
    (refine LWP.seq <| LWP.seq <| LWP.region (by kernel_rfl) <| kmv rfl <| kmv rfl <| K.lenX rfl SliceT.h rfl .plain ?_; refine klt rfl rfl (decide_eq_false (by omega)) <| RunK.nil <| LWP.condF rfl ?_; refine LWP.exit <| LWP.seq <| LWP.region (by kernel_rfl) <| kmv rfl <| kmv rfl <| kca rfl rfl hF <| kmv rfl <| kex rfl rfl <| kex rfl rfl <| kas rfl <| kas rfl <| RunK.nil <| LWP.seq <| LWP.seq ?_; refine LWP.region (by kernel_rfl) <| kmv rfl <| kne rfl rfl (bne_iff_ne.2 (by omega)) <| RunK.nil <| LWP.condT rfl ?_; refine LWP.seq <| LWP.region (by kernel_rfl) <| kas rfl <| RunK.nil <| LWP.ret ?_)
    exact ⟨[_], ⟨rfl, trivial⟩, rfl⟩
  obtain ⟨_, hElen, hfit⟩ := fitErr_facts h0
  obtain ⟨zs, hzs⟩ : ∃ zs : List Int, zs.map qn = ns := ⟨ns.map fun n => zv n.1 n.2, form_list hns.in2 (fun n hn => by
    obtain ⟨i, hi⟩ := List.getElem?_of_mem hn
    have hlt := (List.getElem?_eq_some_iff.1 hi).1
    obtain ⟨e, he⟩ : ∃ e, (elemsAt 0 fs)[i]? = some e := ⟨_, List.getElem?_eq_getElem (by omega)⟩
    exact (fitAll_at hfit he (b := n.1) (N := n.2) hi).1)⟩
  have hnl : ns.length = zs.length := by rw [← hzs, List.length_map]
  have h0z : fitErr fs (zs.map qn) = 0 := by rw [hzs]; exact h0
  have hpre := grow_pre h0z hl2
  have hfit2 := grow_fit h0z hl2
  have hp1 : packR fs ns = packB fs (zs.map qn) := by unfold packR; rw [if_pos h0, hzs]
  have hp2 : packR (fs ++ [f]) ((zs ++ List.replicate f.n 0).map qn) = packB (fs ++ [f]) ((zs ++ List.replicate f.n 0).map qn) := by unfold packR; rw [if_pos hfit2]
  have hB1 := packB_len hall (zs.map qn)
  have hB2 := packB_len hall2 ((zs ++ List.replicate f.n 0).map qn)
  rw [hp1, h0] at hF
  rw [hnl] at hF hg1 ⊢
  have hRz : ∀ y ∈ zs ++ List.replicate f.n 0, R127 y := by
    obtain ⟨_, hlen2, hf2⟩ := fitErr_facts hfit2
    intro y hy
    obtain ⟨j, hj⟩ := List.getElem?_of_mem hy
    have hjl := (List.getElem?_eq_some_iff.1 hj).1
    rw [List.length_map] at hlen2
    obtain ⟨e', he'⟩ : ∃ e', (elemsAt 0 (fs ++ [f]))[j]? = some e' := ⟨_, List.getElem?_eq_getElem (by omega)⟩
    have h := fitAll_at hf2 he' (b := (qn y).1) (N := (qn y).2) (by rw [List.getElem?_map, hj]; rfl)
    rw [zv_qn] at h
    exact fit_R h.2.2
  have hzl : (zs ++ List.replicate f.n 0).length = zs.length + f.n := by simp
  have hP2 := fun S row hk => pack_lent W (S := S) (ad := some ⟨b1, 0, none⟩) (cap := c1) (k := 128) (zs := zs ++ List.replicate f.n 0) (el := 42) (row := row) hmoW hbig2 (by omega) hRz hk hfit2 hp2
  rw [← hzs] at hnsW
  have hRd := nums_reads hnsW
  have hnlen := nsV_len zs
  have hone := nsV_one zs
  have hnm : ((nsV zs).map CV.val).length = zs.length * 3 := by rw [List.length_map]; exact hnlen
  have hzn := zeros_eq f.n
  have hzo := nsV_one (List.replicate f.n 0)
  have hcat : (nsV zs).map CV.val ++ (nsV (List.replicate f.n 0)).map CV.val = (nsV (zs ++ List.replicate f.n 0)).map CV.val := by
    unfold nsV
    simp only [List.map_append, List.flatten_append]
  have hzs24 : (zs.length + f.n) * 24 ≤ 140737488355328 := by omega
  clear hp1 hp2 hfit2 hEl
  have hsame : ((packB fs (zs.map qn)).take (endAt 0 fs) == (packB (fs ++ [f]) ((zs ++ List.replicate f.n 0).map qn)).take (endAt 0 fs)) = true := by rw [hpre]; exact beq_self_eq_true _
  have hle2 : endAt 0 fs ≤ R2 := Nat.le_trans hround hgrow
  rw [hR1] at hB1
  rw [hR2] at hB2
  clear hpre h0z
  generalize packB fs (zs.map qn) = B at *
  generalize packB (fs ++ [f]) ((zs ++ List.replicate f.n 0).map qn) = D at *
  generalize endAt 0 fs = a at *
  have zB : (⟨B.toArray⟩ : ByteArray).size = B.length := rfl
  have zD : (⟨D.toArray⟩ : ByteArray).size = D.length := rfl
  have x1 : (⟨B.toArray⟩ : ByteArray).extract 0 a = ⟨(B.take a).toArray⟩ := by rw [str_cut, List.drop_zero, Nat.sub_zero]
  have x2 : (⟨D.toArray⟩ : ByteArray).extract 0 a = ⟨(D.take a).toArray⟩ := by rw [str_cut, List.drop_zero, Nat.sub_zero]
  cases ad2 with
  | none =>
    have hz0 : zs = [] := by
      cases hzz : zs with
      | nil => rfl
      | cons z t =>
        subst hzz
        obtain ⟨_, blk, off, arr, el, fr, h1, _⟩ := hnsW.at (i := 0) (b := (qn z).1) (N := (qn z).2) rfl
        cases h1
    have hzz0 : zs.length = 0 := by rw [hz0]; rfl
    have hcat0 : [] ++ (nsV (List.replicate f.n 0)).map CV.val = (nsV (zs ++ List.replicate f.n 0)).map CV.val := by rw [hz0]; rfl
    have hzl0 : 0 + f.n = (zs ++ List.replicate f.n 0).length := by rw [hzl, hzz0]
    have hzs0 : (0 + f.n) * 24 ≤ 140737488355328 := by omega
    rw [hzz0] at hF ⊢
    (refine LWP.seq <| LWP.seq <| LWP.region (by kernel_rfl) <| kmv rfl <| kmv rfl <| K.lenX rfl SliceT.h rfl .plain ?_; refine klt rfl rfl (decide_eq_false (by omega)) <| RunK.nil <| LWP.condF rfl ?_; refine LWP.exit <| LWP.seq <| LWP.region (by kernel_rfl) <| kmv rfl <| kmv rfl <| kca rfl rfl hF <| kmv rfl <| kex rfl rfl <| kex rfl rfl <| kas rfl <| kas rfl <| RunK.nil <| LWP.seq <| LWP.seq ?_; refine LWP.region (by kernel_rfl) <| kmv rfl <| kne rfl rfl ((bne_eq_false_iff_eq.2 (by omega))) <| RunK.nil <| LWP.condF rfl ?_; refine LWP.skip ?_; refine LWP.seq <| LWP.draws mixed (by kernel_rfl) <| kmv rfl <| K.buildSlc (zs := []) (sz := 3) (e := 42) (by kernel_rfl) rfl rfl rfl rfl rfl rfl .plain <| kmv rfl <| K.appendX0 (by_ := 24) (e2 := 42) (nl := 0) (nc := []) rfl rfl rfl rfl (by kernel_rfl) (by kernel_rfl) (by omega) (by omega) rfl rfl rfl .plain ?_; refine kfa rfl rfl ?_; refine kl1 rfl rfl rfl <| K.appendZeros (by_ := 24) (kn := .i64) (m := f.n) (zc := #[.bool false, .int .u64 0, .int .u64 0]) (news := nsV (List.replicate f.n 0)) (nl := (zs ++ List.replicate f.n 0).length) (nc := (nsV (zs ++ List.replicate f.n 0)).map .val) rfl rfl rfl rfl (by kernel_rfl) (by kernel_rfl) (by kernel_rfl) hzn hzo hn1 (by omega) hzs0 (by omega) rfl hzl0 hcat0 .plain ?_; refine K.callX [128] rfl rfl rfl (hP2 _ _ rfl) .plain ?_; refine kmv rfl <| kex rfl rfl <| kex rfl rfl <| kas rfl <| kas rfl <| RunK.nil <| And.intro (by kernel_rfl) ?_; refine LWP.seq <| LWP.draws mixed (by kernel_rfl) <| kmv rfl <| keq rfl rfl (beq_iff_eq.2 (by omega)) <| kmv rfl <| gmv rfl rfl rfl <| gmv rfl rfl rfl <| K.sliceStr (l := 0) (h := a) (kl := .i64) (kh := .i64) rfl StrT.u rfl rfl ⟨(by omega), (by omega)⟩ x1 (.taken rfl rfl) ?_; refine gmv rfl rfl rfl <| gmv rfl rfl rfl <| K.sliceStr (l := 0) (h := a) (kl := .i64) (kh := .i64) rfl StrT.u rfl rfl ⟨(by omega), (by omega)⟩ x2 (.taken rfl rfl) ?_; refine K.strEq rfl rfl (strs_eq hsame) (.taken rfl rfl) ?_; refine kpt rfl rfl <| kas rfl <| RunK.nil <| And.intro (by kernel_rfl) ?_; refine LWP.ret ?_)
    exact ⟨[_], ⟨rfl, trivial⟩, rfl⟩
  | some ad2 =>
    (refine LWP.seq <| LWP.seq <| LWP.region (by kernel_rfl) <| kmv rfl <| kmv rfl <| K.lenX rfl SliceT.h rfl .plain ?_; refine klt rfl rfl (decide_eq_false (by omega)) <| RunK.nil <| LWP.condF rfl ?_; refine LWP.exit <| LWP.seq <| LWP.region (by kernel_rfl) <| kmv rfl <| kmv rfl <| kca rfl rfl hF <| kmv rfl <| kex rfl rfl <| kex rfl rfl <| kas rfl <| kas rfl <| RunK.nil <| LWP.seq <| LWP.seq ?_; refine LWP.region (by kernel_rfl) <| kmv rfl <| kne rfl rfl ((bne_eq_false_iff_eq.2 (by omega))) <| RunK.nil <| LWP.condF rfl ?_; refine LWP.skip ?_; refine LWP.seq <| LWP.draws mixed (by kernel_rfl) <| kmv rfl <| K.buildSlc (zs := []) (sz := 3) (e := 42) (by kernel_rfl) rfl rfl rfl rfl rfl rfl .plain <| kmv rfl <| K.appendX (by_ := 24) (e2 := 42) (news := nsV zs) (nl := zs.length) (nc := (nsV zs).map .val) rfl rfl rfl rfl hRd hnlen hone (by kernel_rfl) (by kernel_rfl) (by omega) (by omega) rfl (Nat.zero_add _) (List.nil_append _) .plain ?_; refine kfa rfl rfl ?_; refine kl1 rfl rfl rfl <| K.appendZeros (by_ := 24) (kn := .i64) (m := f.n) (zc := #[.bool false, .int .u64 0, .int .u64 0]) (news := nsV (List.replicate f.n 0)) (nl := (zs ++ List.replicate f.n 0).length) (nc := (nsV (zs ++ List.replicate f.n 0)).map .val) rfl rfl hnm rfl (by kernel_rfl) (by kernel_rfl) (by kernel_rfl) hzn hzo hn1 (by omega) hzs24 (by omega) rfl hzl.symm hcat .plain ?_; refine K.callX [128] rfl rfl rfl (hP2 _ _ rfl) .plain ?_; refine kmv rfl <| kex rfl rfl <| kex rfl rfl <| kas rfl <| kas rfl <| RunK.nil <| And.intro (by kernel_rfl) ?_; refine LWP.seq <| LWP.draws mixed (by kernel_rfl) <| kmv rfl <| keq rfl rfl (beq_iff_eq.2 (by omega)) <| kmv rfl <| gmv rfl rfl rfl <| gmv rfl rfl rfl <| K.sliceStr (l := 0) (h := a) (kl := .i64) (kh := .i64) rfl StrT.u rfl rfl ⟨(by omega), (by omega)⟩ x1 (.taken rfl rfl) ?_; refine gmv rfl rfl rfl <| gmv rfl rfl rfl <| K.sliceStr (l := 0) (h := a) (kl := .i64) (kh := .i64) rfl StrT.u rfl rfl ⟨(by omega), (by omega)⟩ x2 (.taken rfl rfl) ?_; refine K.strEq rfl rfl (strs_eq hsame) (.taken rfl rfl) ?_; refine kpt rfl rfl <| kas rfl <| RunK.nil <| And.intro (by kernel_rfl) ?_; refine LWP.ret ?_)
    exact ⟨[_], ⟨rfl, trivial⟩, rfl⟩
end Go.Proofs.YtfmadklfcoebhaaDoor
end
