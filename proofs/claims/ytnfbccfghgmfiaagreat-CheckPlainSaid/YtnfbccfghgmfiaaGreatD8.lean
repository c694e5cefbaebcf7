/- A piece of a proof over this program: contracts of its functions, and a logic to prove them by. -/
import Derived.Test.YtnfbccfghgmfiaaGreatD7
section
namespace Go.Proofs.YtnfbccfghgmfiaaGreat
open Go Go.Lg Go.Lg.Fml Go.Lg.Fld Go.Lg.Arith
set_option maxRecDepth 100000
theorem fl_small (l : List Fl) (h : (l.all fun f => decide (-1000 ≤ f.kind ∧ f.kind ≤ 1000 ∧ -1000 ≤ f.count ∧ f.count ≤ 1000)) = true) : ∀ f ∈ l, (-9223372036854775808 ≤ f.kind ∧ f.kind < 9223372036854775808) ∧ (-9223372036854775808 ≤ f.count ∧ f.count < 9223372036854775808) := fun f hf => by
  have := of_decide_eq_true (List.all_eq_true.1 h f hf)
  omega
theorem sm13a : ∀ f ∈ fl13a, (-9223372036854775808 ≤ f.kind ∧ f.kind < 9223372036854775808) ∧ (-9223372036854775808 ≤ f.count ∧ f.count < 9223372036854775808) := fl_small _ (by decide)
theorem sm13b : ∀ f ∈ fl13b, (-9223372036854775808 ≤ f.kind ∧ f.kind < 9223372036854775808) ∧ (-9223372036854775808 ≤ f.count ∧ f.count < 9223372036854775808) := fl_small _ (by decide)
theorem id13a : ∀ c ∈ sc13a.cs, -9223372036854775808 ≤ c.id ∧ c.id < 9223372036854775808 := by
  intro c hc
  simp only [sc13a, List.mem_cons, List.not_mem_nil, or_false] at hc
  subst hc; exact ⟨by decide, by decide⟩
theorem id13b : ∀ c ∈ sc13b.cs, -9223372036854775808 ≤ c.id ∧ c.id < 9223372036854775808 := by
  intro c hc
  simp only [sc13b, List.mem_cons, List.not_mem_nil, or_false] at hc
  rcases hc with rfl | rfl <;> exact ⟨by decide, by decide⟩
theorem nm13a : NamesIn sc13a.cs := by
  intro c hc
  simp only [sc13a, List.mem_cons, List.not_mem_nil, or_false] at hc
  subst hc
  refine ⟨by decide, fun f hf => ?_⟩
  simp only [fl13a, List.mem_cons, List.not_mem_nil, or_false] at hf
  rcases hf with rfl | rfl <;> decide
theorem nm13b : NamesIn sc13b.cs := by
  intro c hc
  simp only [sc13b, List.mem_cons, List.not_mem_nil, or_false] at hc
  rcases hc with rfl | rfl
  · refine ⟨by decide, fun f hf => ?_⟩
    simp only [fl13b, List.mem_cons, List.not_mem_nil, or_false] at hf
    rcases hf with rfl; decide
  · exact ⟨by decide, fun f hf => by cases hf⟩
theorem so13a : scOk sc13a.cs := ⟨by decide, fun c hc => by
  simp only [sc13a, List.mem_cons, List.not_mem_nil, or_false] at hc
  subst hc; decide⟩
theorem so13b : scOk sc13b.cs := ⟨by decide, fun c hc => by
  simp only [sc13b, List.mem_cons, List.not_mem_nil, or_false] at hc
  rcases hc with rfl | rfl <;> decide⟩
theorem po13 : (plainP sc13a sc13b).rs.length ≤ 30 ∧ ∀ r ∈ (plainP sc13a sc13b).rs, r.ex.length ≤ 12 ∧ ∀ c ∈ r.ex, c.length ≤ 80 := by
  rw [plain13]
  refine ⟨by decide, fun r hr => ?_⟩
  simp only [List.mem_cons, List.not_mem_nil, or_false] at hr
  rcases hr with rfl | rfl
  · exact ⟨by decide, fun c hc => by
      simp only [List.mem_cons, List.not_mem_nil, or_false] at hc
      subst hc; decide⟩
  · exact ⟨by decide, fun c hc => by cases hc⟩
theorem smI (l : List Ins) (h : (l.all fun x => decide ((-1000 ≤ x.op ∧ x.op ≤ 1000) ∧ (-1000 ≤ x.a ∧ x.a ≤ 1000) ∧ (-1000 ≤ x.b ∧ x.b ≤ 1000) ∧ (0 ≤ x.k.2 ∧ x.k.2 ≤ 1000))) = true) : ∀ x ∈ l, smallI x := fun x hx => by
  have := of_decide_eq_true (List.all_eq_true.1 h x hx)
  exact ⟨by omega, by omega, by omega, by show 0 ≤ _ ∧ _; omega⟩
variable (X : Nat → Option Obj)
set_option maxHeartbeats 12800000 in
theorem awake13_spec : PSpec Tryz.prog X 6 [] (Lb true) := by
  have h2 := two13_spec X
  refine PSpec.intro Tryz.func6 rfl (by kernel_rfl) rfl rfl ?_
  intro C
  (refine LWP.seq <| rgN <| kas rfl <| RunK.nil <| LWP.seq <| rgN <| K.callMp [(1000001, 701), (1000002, 702), (1000003, 703), (1000004, 704)] (.tup [.agg [.val (.int .i64 1), .slc 701 0 1 3], .agg [.val (.int .i64 2), .slc 703 0 2 3]]) [(701, some ⟨24, c13a (.slc 702 0 2 3), false⟩), (702, some ⟨49, (flV fl13a).map .val, false⟩), (703, some ⟨24, c13b (.slc 704 0 1 3), false⟩), (704, some ⟨49, (flV fl13b).map .val, false⟩)] (h2) rfl rfl (by exact trivial) rfl rfl rfl rfl rfl (by exact (.box rfl rfl (.box rfl rfl (.box rfl rfl (.box rfl rfl .nil))))) .plain <| kmv rfl <| kex rfl rfl <| kex rfl rfl <| K.alloc rfl .plain ?_; refine K.alloc rfl .plain ?_; refine K.storeAll rfl rfl rfl rfl rfl rfl .plain ?_; refine K.storeAll rfl rfl rfl rfl rfl rfl .plain ?_; refine RunK.nil <| LWP.seq ?_)
  refine LWP.le (σ' := ⟨[(1, Lp 1), (2, Lp 2)], [(701, some ⟨24, [.val (.int .i64 1), .val (.string ⟨#[97]⟩)] ++ .slc 702 0 2 3 :: [], false⟩), (702, some ⟨49, (flV fl13a).map .val, false⟩), (1, some ⟨32, [.val (.int .i64 1), .slc 701 0 1 3], false⟩), (2, some ⟨32, [.val (.int .i64 2), .slc 703 0 2 3], false⟩), (703, some ⟨24, c13b (.slc 704 0 1 3), false⟩), (704, some ⟨49, (flV fl13b).map .val, false⟩)], X⟩) (Le.of (by exact ⟨rfl, rfl, trivial⟩) (by exact ⟨rfl, rfl, rfl, rfl, rfl, rfl, trivial⟩) (by exact rfl) (by exact rfl) (by repeat' (first | refine all_cons_true ?_ ?_ | rfl | exact bytes_inUse | exact vals_inUse | exact mid_inUse rfl))) ?_
  refine LWP.freezeCell rfl rfl rfl rfl rfl rfl fun k1 cp1 arr1 fr1 hn1 _ _ _ hv1 => ?_
  refine LWP.le (σ' := ⟨[(1, Lp 1), (2, Lp 2)], [(1, some ⟨32, [.val (.int .i64 1)] ++ .slc 701 0 1 3 :: [], false⟩), (701, some ⟨24, (rowsZ sc13a.cs [.slice (some ⟨k1, 0, none⟩) 2 cp1]).map .val, false⟩), (2, some ⟨32, [.val (.int .i64 2), .slc 703 0 2 3], false⟩), (703, some ⟨24, c13b (.slc 704 0 1 3), false⟩), (704, some ⟨49, (flV fl13b).map .val, false⟩)], _⟩) (Le.of (by exact ⟨rfl, rfl, trivial⟩) (by exact ⟨rfl, rfl, rfl, rfl, rfl, trivial⟩) (by exact rfl) (by exact rfl) (by repeat' (first | refine all_cons_true ?_ ?_ | rfl | exact bytes_inUse | exact vals_inUse | exact mid_inUse rfl))) ?_
  refine LWP.freezeCell rfl rfl rfl rfl rfl rfl fun k2 cp2 arr2 fr2 hn2 _ _ _ hv2 => ?_
  have hFa : FieldsIn (withBlock X k1 (.cells arr1 49 fr1)) (some ⟨k1, 0, none⟩) fl13a := by
    obtain ⟨sp, hv⟩ := hv1
    exact fields_block (withBlock_at _ _ _) hv sm13a
  have hA : CompsIn (withBlock (withBlock X k1 (.cells arr1 49 fr1)) k2 (.cells arr2 24 fr2)) (some ⟨k2, 0, none⟩) sc13a.cs := by
    obtain ⟨sp, hv⟩ := hv2
    refine comps_lit (withBlock_at _ _ _) hv rfl id13a fun i c v hc hvv => ?_
    match i, hc, hvv with
    | 0, hc, hvv =>
      simp only [sc13a, List.getElem?_cons_zero, Option.some.injEq] at hc hvv
      subst hc hvv
      exact ⟨_, cp1, rfl, hFa.mono (withBlock_old hn2)⟩
  have hXY : ∀ b o, X b = some o → withBlock (withBlock X k1 (.cells arr1 49 fr1)) k2 (.cells arr2 24 fr2) b = some o := fun b o h => withBlock_old hn2 b o (withBlock_old hn1 b o h)
  clear hFa hv1 hv2 hn1 hn2
  generalize withBlock (withBlock X k1 (.cells arr1 49 fr1)) k2 (.cells arr2 24 fr2) = Y at *
  generalize (some ⟨k2, 0, none⟩ : Option Addr) = ad1 at *
  refine LWP.le (σ' := ⟨[(1, Lp 1), (2, Lp 2)], [(703, some ⟨24, [.val (.int .i64 1), .val (.string ⟨#[97]⟩)] ++ .slc 704 0 1 3 :: [.val (.int .i64 2), .val (.string ⟨#[98]⟩), .val (.slice none 0 0)], false⟩), (704, some ⟨49, (flV fl13b).map .val, false⟩), (2, some ⟨32, [.val (.int .i64 2), .slc 703 0 2 3], false⟩), sxB 1 1 ad1 1 cp2], Y⟩) (Le.of (by exact ⟨rfl, rfl, trivial⟩) (by exact ⟨rfl, rfl, rfl, rfl, trivial⟩) (by exact rfl) (by exact rfl) (by repeat' (first | refine all_cons_true ?_ ?_ | rfl | exact bytes_inUse | exact vals_inUse | exact mid_inUse rfl))) ?_
  refine LWP.freezeCell rfl rfl rfl rfl rfl rfl fun k3 cp3 arr3 fr3 hn3 _ _ _ hv3 => ?_
  refine LWP.le (σ' := ⟨[(1, Lp 1), (2, Lp 2)], [(2, some ⟨32, [.val (.int .i64 2)] ++ .slc 703 0 2 3 :: [], false⟩), (703, some ⟨24, (rowsZ sc13b.cs [.slice (some ⟨k3, 0, none⟩) 1 cp3, .slice none 0 0]).map .val, false⟩), sxB 1 1 ad1 1 cp2], _⟩) (Le.of (by exact ⟨rfl, rfl, trivial⟩) (by exact ⟨rfl, rfl, rfl, trivial⟩) (by exact rfl) (by exact rfl) (by repeat' (first | refine all_cons_true ?_ ?_ | rfl | exact bytes_inUse | exact vals_inUse | exact mid_inUse rfl))) ?_
  refine LWP.freezeCell rfl rfl rfl rfl rfl rfl fun k4 cp4 arr4 fr4 hn4 _ _ _ hv4 => ?_
  have hFb : FieldsIn (withBlock Y k3 (.cells arr3 49 fr3)) (some ⟨k3, 0, none⟩) fl13b := by
    obtain ⟨sp, hv⟩ := hv3
    exact fields_block (withBlock_at _ _ _) hv sm13b
  have hB : CompsIn (withBlock (withBlock Y k3 (.cells arr3 49 fr3)) k4 (.cells arr4 24 fr4)) (some ⟨k4, 0, none⟩) sc13b.cs := by
    obtain ⟨sp, hv⟩ := hv4
    refine comps_lit (withBlock_at _ _ _) hv rfl id13b fun i c v hc hvv => ?_
    match i, hc, hvv with
    | 0, hc, hvv =>
      simp only [sc13b, List.getElem?_cons_zero, Option.some.injEq] at hc hvv
      subst hc hvv
      exact ⟨_, cp3, rfl, hFb.mono (withBlock_old hn4)⟩
    | 1, hc, hvv =>
      simp only [sc13b, List.getElem?_cons_succ, List.getElem?_cons_zero, Option.some.injEq] at hc hvv
      subst hc hvv
      exact ⟨none, 0, rfl, fun i r h => by simp at h, fun f hf => by cases hf⟩
  have hYZ : ∀ b o, Y b = some o → withBlock (withBlock Y k3 (.cells arr3 49 fr3)) k4 (.cells arr4 24 fr4) b = some o := fun b o h => withBlock_old hn4 b o (withBlock_old hn3 b o h)
  replace hA := hA.mono hYZ
  clear hFb hv3 hv4 hn3 hn4 hYZ hXY
  generalize withBlock (withBlock Y k3 (.cells arr3 49 fr3)) k4 (.cells arr4 24 fr4) = Z at *
  generalize (some ⟨k4, 0, none⟩ : Option Addr) = ad2 at *
  have hP := cPlain Z sc13a sc13b ad1 ad2 cp2 cp4 hA hB nm13a nm13b so13a.big so13b.big
  rcases hP with ⟨h0, _⟩ | hP
  · cases h0
  (refine rgN <| K.loadAll rfl rfl rfl .plain ?_; refine K.loadAll rfl rfl rfl .plain ?_; refine K.callMp [(1000001, 601)] (.sv (.agg [.val (.int .i64 1), .val (.int .i64 2), .slc 601 0 2 3])) [rlB 27 601 (plainP sc13a sc13b).rs] (hP) rfl rfl (by exact trivial) rfl rfl rfl rfl rfl (by exact (.box rfl rfl .nil)) .plain <| K.alloc rfl .plain ?_; refine K.storeAll rfl rfl rfl rfl rfl rfl .plain ?_; refine RunK.nil <| LWP.seq ?_)
  refine LWP.le (σ' := ⟨[(1, Lp 1), (2, Lp 2), (3, Lp 3)], [(3, some ⟨35, [.val (.int .i64 1), .val (.int .i64 2)] ++ .slc 601 0 2 3 :: [], false⟩), rlB 27 601 (plainP sc13a sc13b).rs, sxB 2 2 ad2 2 cp4, sxB 1 1 ad1 1 cp2], Z⟩) (Le.of (by exact ⟨rfl, rfl, rfl, trivial⟩) (by exact ⟨rfl, rfl, rfl, rfl, trivial⟩) (by exact rfl) (by exact rfl) (by repeat' (first | refine all_cons_true ?_ ?_ | rfl | exact bytes_inUse | exact vals_inUse | exact mid_inUse rfl))) ?_
  refine LWP.fixCell rfl rfl rfl rfl rfl rfl fun ρ H pc hR hO _ _ => ?_
  have hp := hR.2.mono fun b o h => joinM_in (X := Z) h
  replace hA := hA.mono (fun _ _ h => joinM_has hO h)
  replace hB := hB.mono (fun _ _ h => joinM_has hO h)
  clear hR hO hP
  generalize joinM Z H = Z2 at *
  generalize (some ⟨ρ.1, 0, none⟩ : Option Addr) = pd at *
  have q1 := cCheck Z2 sc13a sc13b (plainP sc13a sc13b) ad1 ad2 pd cp2 cp4 pc hA hB hp nm13a nm13b so13a so13b po13
  have q2 := cCheck Z2 sc13b sc13a (plainP sc13a sc13b) ad2 ad1 pd cp4 cp2 pc hB hA hp nm13b nm13a so13b so13a po13
  have q3 := cCheck Z2 sc13a sc13b ⟨1, 2, []⟩ ad1 ad2 none cp2 cp4 0 hA hB RulesIn.nil nm13a nm13b so13a so13b ⟨by decide, fun r hr => by cases hr⟩
  rw [ck13] at q1
  rw [ck13b] at q2
  rw [ck13n] at q3
  obtain ⟨ab, ao, aarr, ael, afr, afd, afc, rfl, hAX, hAz, hAc, _, _, _, hFa⟩ := hA.get (i := 0) (c := ⟨1, [97], fl13a⟩) rfl
  obtain ⟨bb, bo, barr, bel, bfr, bfd, bfc, rfl, hBX, _, _, _, _, b3, hFb⟩ := hB.get (i := 0) (c := ⟨1, [97], fl13b⟩) rfl
  obtain ⟨fb, fo, farr, fel, ffr, rfl, hFX, hFz, hFc, _⟩ := hFb.cells (i := 0) (f := ⟨[120], 4, 1⟩) rfl
  rw [plain13] at hp
  obtain ⟨pb, po, parr, pel, pfr, _, _, rfl, hPX, _, _, _, p2, _, _⟩ := hp.get (i := 1) (r := ⟨2, 0, []⟩) rfl
  have m1 := fun (S : Nat → Option (Option Box)) (hk : S 13 = some (some ⟨66, (inssV [⟨3, 1, 0, (false, 0)⟩]).map .val, false⟩)) => formula_lent Z2 (S := S) (c := ⟨1, [97], fl13a⟩) (f := ⟨[120], 4, 1⟩) (l := [⟨3, 1, 0, (false, 0)⟩]) (ccap := afc) (k := 13) (t := 0) hFa (smI _ (by decide)) (by decide) (by decide) fm13a hk
  have m2 := fun (S : Nat → Option (Option Box)) (hk : S 62 = some (some ⟨66, (inssV [⟨3, 2, 0, (false, 0)⟩]).map .val, false⟩)) => formula_lent Z2 (S := S) (c := ⟨1, [97], fl13a⟩) (f := ⟨[120], 4, 1⟩) (l := [⟨3, 2, 0, (false, 0)⟩]) (ccap := afc) (k := 62) (t := 0) hFa (smI _ (by decide)) (by decide) (by decide) fm13b hk
  ((refine rgN <| K.build rfl rfl (by exact rfl) (by exact nl6 rfl rfl rfl rfl rfl rfl rfl) .plain ?_; refine K.buildSlc (zs := [.int .i64 0, .int .i64 0, .int .i64 0, .bool false, .int .u64 0, .int .u64 0]) (sz := 6) (e := 66) (cs' := (inssV [⟨3, 1, 0, (false, 0)⟩]).map .val) (by kernel_rfl) rfl rfl rfl rfl rfl rfl .plain <| kas rfl <| RunK.nil <| LWP.seq <| rgD mixed <| K.loadAll rfl rfl rfl .plain ?_; refine K.loadAll rfl rfl rfl .plain ?_; refine K.loadAll rfl rfl rfl .plain ?_; refine kca rfl rfl q1 <| keq rfl rfl (r := true) rfl <| kmv rfl <| K.fieldAddr rfl rfl (.taken rfl rfl) ?_; refine K.loadOne rfl rfl rfl (.taken rfl rfl) ?_; refine K.lenX rfl SliceT.h rfl (.taken rfl rfl) ?_; refine K.eql rfl rfl (r := true) rfl (.taken rfl rfl) ?_; refine kpt rfl rfl <| kmv rfl <| K.fieldAddr rfl rfl (.taken rfl rfl) ?_; refine K.loadOne rfl rfl rfl (.taken rfl rfl) ?_; refine K.indexX rfl rfl SliceT.h (by decide) rfl (.taken rfl rfl) ?_; refine K.fieldAddrX rfl rfl (.taken rfl rfl) ?_); (refine K.loadX rfl hPX rfl p2 (.taken rfl rfl) ?_; refine K.eql rfl rfl (r := true) rfl (.taken rfl rfl) ?_; refine kpt rfl rfl <| kmv rfl <| K.fieldAddr rfl rfl (.taken rfl rfl) ?_; refine K.loadOne rfl rfl rfl (.taken rfl rfl) ?_; refine K.indexX rfl rfl SliceT.h (by decide) rfl (.taken rfl rfl) ?_; refine K.loadXagg rfl hAX (by kernel_rfl) hAz hAc (.taken rfl rfl) ?_; refine K.fieldAddr rfl rfl (.taken rfl rfl) ?_; refine K.loadOne rfl rfl rfl (.taken rfl rfl) ?_; refine K.indexX rfl rfl SliceT.h (by decide) rfl (.taken rfl rfl) ?_; refine K.fieldAddrX rfl rfl (.taken rfl rfl) ?_; refine K.loadX rfl hBX rfl b3 (.taken rfl rfl) ?_; refine K.indexX rfl rfl SliceT.h (by decide) rfl (.taken rfl rfl) ?_); (refine K.loadXagg rfl hFX (by kernel_rfl) hFz hFc (.taken rfl rfl) ?_; refine gmv rfl rfl rfl <| K.callL [13] rfl rfl rfl (m1 _ rfl) (.taken rfl rfl) ?_; refine K.eql rfl rfl (r := true) rfl (.taken rfl rfl) ?_; refine kpt rfl rfl <| kmv rfl <| K.fieldAddr rfl rfl (.taken rfl rfl) ?_; refine K.loadOne rfl rfl rfl (.taken rfl rfl) ?_; refine K.indexX rfl rfl SliceT.h (by decide) rfl (.taken rfl rfl) ?_; refine K.loadXagg rfl hAX (by kernel_rfl) hAz hAc (.taken rfl rfl) ?_; refine K.fieldAddr rfl rfl (.taken rfl rfl) ?_; refine K.loadOne rfl rfl rfl (.taken rfl rfl) ?_; refine K.indexX rfl rfl SliceT.h (by decide) rfl (.taken rfl rfl) ?_; refine K.fieldAddrX rfl rfl (.taken rfl rfl) ?_; refine K.loadX rfl hBX rfl b3 (.taken rfl rfl) ?_); (refine K.indexX rfl rfl SliceT.h (by decide) rfl (.taken rfl rfl) ?_; refine K.loadXagg rfl hFX (by kernel_rfl) hFz hFc (.taken rfl rfl) ?_; refine K.build rfl rfl (by exact rfl) (by exact nl6 rfl rfl rfl rfl rfl rfl rfl) (.taken rfl rfl) ?_; refine K.buildSlc (zs := [.int .i64 0, .int .i64 0, .int .i64 0, .bool false, .int .u64 0, .int .u64 0]) (sz := 6) (e := 66) (cs' := (inssV [⟨3, 2, 0, (false, 0)⟩]).map .val) (by kernel_rfl) rfl rfl rfl rfl rfl rfl (.taken rfl rfl) ?_; refine K.callL [62] rfl rfl rfl (m2 _ rfl) (.taken rfl rfl) ?_; refine K.eql rfl rfl (r := true) rfl (.taken rfl rfl) ?_; refine kpt rfl rfl <| kmv rfl <| K.loadAll rfl rfl rfl (.taken rfl rfl) ?_; refine K.loadAll rfl rfl rfl (.taken rfl rfl) ?_; refine K.loadAll rfl rfl rfl (.taken rfl rfl) ?_; refine gca rfl rfl q2 rfl rfl <| K.eql rfl rfl (r := true) rfl (.taken rfl rfl) ?_; refine kpt rfl rfl <| kmv rfl <| K.loadAll rfl rfl rfl (.taken rfl rfl) ?_; refine K.loadAll rfl rfl rfl (.taken rfl rfl) ?_); (refine K.build rfl rfl (by exact rfl) (by exact nl3 rfl rfl rfl rfl) (.taken rfl rfl) ?_; refine gca rfl rfl q3 rfl rfl <| K.eql rfl rfl (r := true) rfl (.taken rfl rfl) ?_; refine kpt rfl rfl <| kas rfl <| RunK.nil <| rgA ?_; refine LWP.ret ?_))
  exact ⟨[_], ⟨rfl, trivial⟩, rfl⟩
end Go.Proofs.YtnfbccfghgmfiaaGreat
end
section
namespace Go.Proofs.YtnfbccfghgmfiaaGreat
open Go Go.Lg Go.Lg.Fml Go.Lg.Fld Go.Lg.Arith
set_option maxRecDepth 100000
theorem RulesIn.take {X : Nat → Option Obj} {ad : Option Addr} {rs : List Rl} (h : RulesIn X ad rs) (n : Nat) : RulesIn X ad (rs.take n) := by
  refine ⟨fun i c hc => ?_, fun r hr => h.small r (List.mem_of_mem_take hr)⟩
  rw [List.getElem?_take] at hc
  split at hc
  · exact h.at_ i c hc
  · cases hc
theorem plainR_ex (a : Sc) (c : Cp) : (plainR a c).ex.length ≤ c.fs.length ∧ ∀ q ∈ (plainR a c).ex, q.length = 1 := by
  unfold plainR
  split
  · exact ⟨Nat.zero_le _, fun q hq => by cases hq⟩
  · refine ⟨by simp, fun q hq => ?_⟩
    obtain ⟨f, _, rfl⟩ := List.mem_map.1 hq
    rfl
theorem plain_sizes {a b : Sc} {m : Nat} (h : ∀ c ∈ b.cs, c.fs.length ≤ m) : ∀ r ∈ (plainP a b).rs, r.ex.length ≤ m ∧ ∀ q ∈ r.ex, q.length = 1 := fun r hr => by
  obtain ⟨c, hc, rfl⟩ := List.mem_map.1 hr
  obtain ⟨h1, h2⟩ := plainR_ex a c
  exact ⟨Nat.le_trans h1 (h c hc), h2⟩
theorem plain_len (a b : Sc) : (plainP a b).rs.length = b.cs.length := by unfold plainP; rw [List.length_map]
variable (X : Nat → Option Obj)
abbrev plSt (a b : Sc) (ad1 ad2 pd : Option Addr) (cap1 cap2 pc : Nat) (Y : Nat → Option Obj) : St := ⟨[(2, Lp 2), (3, Lp 3), (5, Lp 5)], [v3B 35 5 a.ver b.ver pd b.cs.length pc, sxB 3 b.ver ad2 b.cs.length cap2, sxB 2 a.ver ad1 a.cs.length cap1], Y⟩
set_option maxHeartbeats 12800000 in
theorem checkPlain_law (a b : Sc) (ad1 ad2 : Option Addr) (cap1 cap2 : Nat) (ha : CompsIn X ad1 a.cs) (hb : CompsIn X ad2 b.cs) (na : NamesIn a.cs) (nb : NamesIn b.cs) (sa : scBig a.cs) (sb : scBig b.cs) :
    PSpec Tryz.prog X 4 [Sx a.ver ad1 a.cs.length cap1, Sx b.ver ad2 b.cs.length cap2] (Lb true) := by
  have hW := awake13_spec X
  have hP := cPlain X a b ad1 ad2 cap1 cap2 ha hb na nb sa sb
  refine PSpec.intro Tryz.func4 rfl (by kernel_rfl) rfl rfl ?_
  intro C
  (refine LWP.seq <| rgN <| K.box rfl rfl rfl .plain <| K.box rfl rfl rfl .plain <| kas rfl <| RunK.nil <| LWP.seq <| LWP.seq <| rgN <| kca rfl rfl (hW) <| K.not rfl rfl .plain <| RunK.nil <| LWP.condF rfl ?_; refine LWP.skip ?_; refine LWP.seq ?_)
  repeat refine LWP.seq ?_
  refine LWP.meetL (fun σ => ∃ (Y : Nat → Option Obj) (pd : Option Addr) (pc : Nat), (∀ b o, X b = some o → Y b = some o) ∧ RulesIn Y pd (plainP a b).rs ∧ b.cs.length ≤ pc ∧ σ = plSt a b ad1 ad2 pd cap1 cap2 pc Y) ?_ ?_
  · rcases hP with ⟨h0, hP⟩ | hP
    · have hl : b.cs.length = 0 := by rw [h0]; rfl
      have hr : (plainP a b).rs = [] := by unfold plainP; rw [h0]; rfl
      (refine rgN <| K.loadAll rfl rfl rfl .plain ?_; refine K.loadAll rfl rfl rfl .plain ?_; refine kca rfl rfl hP <| K.alloc rfl .plain ?_; refine K.storeAll rfl rfl rfl rfl rfl rfl .plain ?_; refine RunK.nil ?_)
      exact Leads.here (σ' := ⟨[(2, Lp 2), (3, Lp 3), (5, Lp 5)], [v3B 35 5 a.ver b.ver none 0 0, sxB 3 b.ver ad2 b.cs.length cap2, sxB 2 a.ver ad1 a.cs.length cap1], X⟩) (Le.of (by exact ⟨rfl, rfl, rfl, trivial⟩) (by exact ⟨rfl, rfl, rfl, trivial⟩) (by exact rfl) (by exact rfl) (by repeat' (first | refine all_cons_true ?_ ?_ | rfl | exact bytes_inUse | exact vals_inUse | exact mid_inUse rfl))) ⟨X, none, 0, fun _ _ h => h, by rw [hr]; exact RulesIn.nil, by omega, by unfold plSt; rw [hl]⟩
    · (refine rgN <| K.loadAll rfl rfl rfl .plain ?_; refine K.loadAll rfl rfl rfl .plain ?_; refine K.callMp [(1000001, 601)] (.sv (.agg [.val (.int .i64 a.ver), .val (.int .i64 b.ver), .slc 601 0 b.cs.length 3])) [rlB 27 601 (plainP a b).rs] (hP) rfl rfl (by exact trivial) rfl rfl rfl rfl rfl (by exact (.box rfl rfl .nil)) .plain <| K.alloc rfl .plain ?_; refine K.storeAll rfl rfl rfl rfl rfl rfl .plain ?_; refine RunK.nil ?_)
      refine Leads.le (σ' := ⟨[(2, Lp 2), (3, Lp 3), (5, Lp 5)], [(5, some ⟨35, [.val (.int .i64 a.ver), .val (.int .i64 b.ver)] ++ .slc 601 0 b.cs.length 3 :: [], false⟩), rlB 27 601 (plainP a b).rs, sxB 3 b.ver ad2 b.cs.length cap2, sxB 2 a.ver ad1 a.cs.length cap1], X⟩) (Le.of (by exact ⟨rfl, rfl, rfl, trivial⟩) (by exact ⟨rfl, rfl, rfl, rfl, trivial⟩) (by exact rfl) (by exact rfl) (by repeat' (first | refine all_cons_true ?_ ?_ | rfl | exact bytes_inUse | exact vals_inUse | exact mid_inUse rfl))) ?_
      refine Leads.fixCell rfl rfl rfl rfl rfl rfl fun ρ H pc hR hO hc _ => ?_
      exact Leads.le (Le.of (by exact ⟨rfl, rfl, rfl, trivial⟩) (by exact ⟨rfl, rfl, rfl, trivial⟩) (by exact rfl) (by exact rfl) (by repeat' (first | refine all_cons_true ?_ ?_ | rfl | exact bytes_inUse | exact vals_inUse | exact mid_inUse rfl))) (Leads.done ⟨joinM X H, some ⟨ρ.1, 0, none⟩, pc, fun _ _ h => joinM_has hO h, hR.2.mono fun b o h => joinM_in h, hc, rfl⟩)
  rintro σ ⟨Y, pd, pc, hY, hp, hpc, rfl⟩
  replace ha := ha.mono hY
  replace hb := hb.mono hY
  have hsz := plain_sizes (a := a) sb.2
  have hpl := plain_len a b
  have hG := fun r hr => great13_spec Y a.ver b.ver a.ver b.ver ad1 ad2 pd cap1 cap2 pc a.cs b.cs (plainP a b).rs ha hb hp (fun r hr => ⟨by have := (hsz r hr).1; omega, fun c hc => by rw [(hsz r hr).2 c hc]; decide⟩) (by have := sa.1; omega) (by have := sb.1; omega) (by rw [hpl]; have := sb.1; omega) (fun c hc => by have := sa.2 c hc; omega) (fun c hc => by have := sb.2 c hc; omega) r hr
  rw [hpl] at hG
  cases hg : grt13 a.cs b.cs (plainP a b).rs with
  | true =>
    have hG := hG true hg
    (refine LWP.seq <| LWP.seq <| rgN <| K.loadAll rfl rfl rfl .plain ?_; refine K.loadAll rfl rfl rfl .plain ?_; refine K.loadAll rfl rfl rfl .plain ?_; refine kca rfl rfl hG <| kmv rfl <| RunK.passed rfl rfl rfl <| RunK.passed rfl rfl rfl <| RunK.passed rfl rfl rfl <| kpt rfl rfl <| kmv rfl <| RunK.passed rfl rfl rfl <| RunK.passed rfl rfl rfl <| RunK.passed rfl rfl rfl <| kpt rfl rfl <| RunK.nil <| LWP.condT rfl ?_; refine LWP.seq <| rgN <| kas rfl <| RunK.nil <| LWP.ret ?_)
    exact ⟨[_], ⟨rfl, trivial⟩, rfl⟩
  | false =>
  have hG := hG false hg
  obtain ⟨o1, o2, o3⟩ := grt13_false hg
  have oa : scOk a.cs := o1
  have ob : scOk b.cs := o2
  have hA := pCheckBig Y a ad1 cap1 ha (by have := sa.1; omega) (oa.names na) _ rfl
  have hB := pCheckBig Y b ad2 cap2 hb (by have := sb.1; omega) (ob.names nb) _ rfl
  by_cases ea : chkE a = 0
  case neg =>
    generalize chkE a = e at *
    (refine LWP.seq <| LWP.seq <| rgN <| K.loadAll rfl rfl rfl .plain ?_; refine K.loadAll rfl rfl rfl .plain ?_; refine K.loadAll rfl rfl rfl .plain ?_; refine kca rfl rfl hG <| kmv rfl <| K.loadAll rfl rfl rfl (.taken rfl rfl) ?_; refine gca rfl rfl hA rfl rfl <| K.neq rfl rfl (r := true) (bne_iff_ne.2 ea) (.taken rfl rfl) ?_; refine kpf rfl rfl <| kmv rfl <| RunK.passed rfl rfl rfl <| RunK.passed rfl rfl rfl <| RunK.passed rfl rfl rfl <| kpt rfl rfl <| RunK.nil <| LWP.condT rfl ?_; refine LWP.seq <| rgN <| kas rfl <| RunK.nil <| LWP.ret ?_)
    exact ⟨[_], ⟨rfl, trivial⟩, rfl⟩
  by_cases eb : chkE b = 0
  case neg =>
    rw [ea] at hA
    generalize chkE b = e at *
    (refine LWP.seq <| LWP.seq <| rgN <| K.loadAll rfl rfl rfl .plain ?_; refine K.loadAll rfl rfl rfl .plain ?_; refine K.loadAll rfl rfl rfl .plain ?_; refine kca rfl rfl hG <| kmv rfl <| K.loadAll rfl rfl rfl (.taken rfl rfl) ?_; refine gca rfl rfl hA rfl rfl <| K.neq rfl rfl (r := false) rfl (.taken rfl rfl) ?_; refine kpf rfl rfl <| kmv rfl <| K.loadAll rfl rfl rfl (.taken rfl rfl) ?_; refine gca rfl rfl hB rfl rfl <| K.neq rfl rfl (r := true) (bne_iff_ne.2 eb) (.taken rfl rfl) ?_; refine kpf rfl rfl <| RunK.nil <| LWP.condT rfl ?_; refine LWP.seq <| rgN <| kas rfl <| RunK.nil <| LWP.ret ?_)
    exact ⟨[_], ⟨rfl, trivial⟩, rfl⟩
  rw [ea] at hA
  rw [eb] at hB
  have hC := cCheck Y a b (plainP a b) ad1 ad2 pd cap1 cap2 pc ha hb hp na nb oa ob o3
  rw [hpl] at hC
  by_cases hv : b.ver ≤ a.ver
  · rw [plain_state ea eb hv] at hC
    (refine LWP.seq <| LWP.seq <| rgN <| K.loadAll rfl rfl rfl .plain ?_; refine K.loadAll rfl rfl rfl .plain ?_; refine K.loadAll rfl rfl rfl .plain ?_; refine kca rfl rfl hG <| kmv rfl <| K.loadAll rfl rfl rfl (.taken rfl rfl) ?_; refine gca rfl rfl hA rfl rfl <| K.neq rfl rfl (r := false) rfl (.taken rfl rfl) ?_; refine kpf rfl rfl <| kmv rfl <| K.loadAll rfl rfl rfl (.taken rfl rfl) ?_; refine gca rfl rfl hB rfl rfl <| K.neq rfl rfl (r := false) rfl (.taken rfl rfl) ?_; refine kpf rfl rfl <| RunK.nil <| LWP.condF rfl ?_; refine LWP.skip ?_; refine LWP.seq <| LWP.seq <| rgN <| kfa rfl rfl ?_; refine kl1 rfl rfl rfl <| kfa rfl rfl ?_; refine kl1 rfl rfl rfl <| K.geq rfl rfl (decide_eq_true hv) .plain <| RunK.nil <| LWP.condT rfl ?_; refine LWP.seq <| rgN <| K.loadAll rfl rfl rfl .plain ?_; refine K.loadAll rfl rfl rfl .plain ?_; refine K.loadAll rfl rfl rfl .plain ?_; refine kca rfl rfl hC <| keq rfl rfl (r := true) rfl <| kas rfl <| RunK.nil <| LWP.ret ?_)
    exact ⟨[_], ⟨rfl, trivial⟩, rfl⟩
  rw [plain_ok ea eb (by omega)] at hC
  by_cases hn : b.cs.length = 0
  · ((refine LWP.seq <| LWP.seq <| rgN <| K.loadAll rfl rfl rfl .plain ?_; refine K.loadAll rfl rfl rfl .plain ?_; refine K.loadAll rfl rfl rfl .plain ?_; refine kca rfl rfl hG <| kmv rfl <| K.loadAll rfl rfl rfl (.taken rfl rfl) ?_; refine gca rfl rfl hA rfl rfl <| K.neq rfl rfl (r := false) rfl (.taken rfl rfl) ?_; refine kpf rfl rfl <| kmv rfl <| K.loadAll rfl rfl rfl (.taken rfl rfl) ?_; refine gca rfl rfl hB rfl rfl <| K.neq rfl rfl (r := false) rfl (.taken rfl rfl) ?_; refine kpf rfl rfl <| RunK.nil <| LWP.condF rfl ?_; refine LWP.skip ?_; refine LWP.seq <| LWP.seq <| rgN <| kfa rfl rfl ?_; refine kl1 rfl rfl rfl <| kfa rfl rfl ?_; refine kl1 rfl rfl rfl <| K.geq rfl rfl (decide_eq_false hv) .plain <| RunK.nil <| LWP.condF rfl ?_); (refine LWP.skip ?_; refine LWP.seq <| LWP.seq <| rgN <| K.loadAll rfl rfl rfl .plain ?_; refine K.loadAll rfl rfl rfl .plain ?_; refine K.loadAll rfl rfl rfl .plain ?_; refine kca rfl rfl hC <| kne rfl rfl (r := false) rfl <| RunK.nil <| LWP.condF rfl ?_; refine LWP.skip ?_; refine LWP.seq <| LWP.seq <| rgN <| kfa rfl rfl ?_; refine kl1 rfl rfl rfl <| K.lenX rfl SliceT.h rfl .plain ?_; refine keq rfl rfl (r := true) (beq_iff_eq.2 (by omega)) <| RunK.nil <| LWP.condT rfl ?_; refine LWP.seq <| rgN <| kfa rfl rfl ?_; refine kl1 rfl rfl rfl <| K.lenX rfl SliceT.h rfl .plain ?_; refine keq rfl rfl (r := true) (beq_iff_eq.2 (by omega)) <| kas rfl <| RunK.nil <| LWP.ret ?_))
    exact ⟨[_], ⟨rfl, trivial⟩, rfl⟩
  obtain ⟨r0, hr0⟩ : ∃ r, (plainP a b).rs[0]? = some r := ⟨_, List.getElem?_eq_getElem (by omega)⟩
  obtain ⟨pb, po, parr, pel, pfr, _, _, rfl, _, _⟩ := hp.get hr0
  have hlt : b.cs.length - 1 < b.cs.length := by omega
  have hC2 := cCheck Y a b ⟨a.ver, b.ver, (plainP a b).rs.take (b.cs.length - 1)⟩ ad1 ad2 (some ⟨pb, po, none⟩) cap1 cap2 pc ha hb (hp.take _) na nb oa ob ⟨by rw [List.length_take]; have := o3.1; omega, fun r hr => o3.2 r (List.mem_of_mem_take hr)⟩
  rw [plain_less ea eb (by omega) hlt] at hC2
  have htl : ((plainP a b).rs.take (b.cs.length - 1)).length = b.cs.length - 1 := by rw [List.length_take, hpl]; omega
  simp only [htl] at hC2
  have hsub : IntKind.i64.wrap (((b.cs.length : Nat) : Int) - 1) = ((b.cs.length - 1 : Nat) : Int) := by rw [wrap_i64 (by have := sb.1; omega)]; omega
  ((refine LWP.seq <| LWP.seq <| rgN <| K.loadAll rfl rfl rfl .plain ?_; refine K.loadAll rfl rfl rfl .plain ?_; refine K.loadAll rfl rfl rfl .plain ?_; refine kca rfl rfl hG <| kmv rfl <| K.loadAll rfl rfl rfl (.taken rfl rfl) ?_; refine gca rfl rfl hA rfl rfl <| K.neq rfl rfl (r := false) rfl (.taken rfl rfl) ?_; refine kpf rfl rfl <| kmv rfl <| K.loadAll rfl rfl rfl (.taken rfl rfl) ?_; refine gca rfl rfl hB rfl rfl <| K.neq rfl rfl (r := false) rfl (.taken rfl rfl) ?_; refine kpf rfl rfl <| RunK.nil <| LWP.condF rfl ?_; refine LWP.skip ?_; refine LWP.seq <| LWP.seq <| rgN <| kfa rfl rfl ?_; refine kl1 rfl rfl rfl <| kfa rfl rfl ?_; refine kl1 rfl rfl rfl <| K.geq rfl rfl (decide_eq_false hv) .plain <| RunK.nil <| LWP.condF rfl ?_); (refine LWP.skip ?_; refine LWP.seq <| LWP.seq <| rgN <| K.loadAll rfl rfl rfl .plain ?_; refine K.loadAll rfl rfl rfl .plain ?_; refine K.loadAll rfl rfl rfl .plain ?_; refine kca rfl rfl hC <| kne rfl rfl (r := false) rfl <| RunK.nil <| LWP.condF rfl ?_; refine LWP.skip ?_; refine LWP.seq <| LWP.seq <| rgN <| kfa rfl rfl ?_; refine kl1 rfl rfl rfl <| K.lenX rfl SliceT.h rfl .plain ?_; refine keq rfl rfl (r := false) (beq_eq_false_iff_ne.2 (by omega)) <| RunK.nil <| LWP.condF rfl ?_; refine LWP.skip ?_; refine LWP.seq <| rgN <| kfa rfl rfl ?_; refine kl1 rfl rfl rfl <| kfa rfl rfl ?_); (refine kl1 rfl rfl rfl <| K.lenX rfl SliceT.h rfl .plain ?_; refine K.sub rfl rfl hsub .plain <| K.cutX rfl rfl SliceT.h (by omega) hpc .plain ?_; refine kfa rfl rfl ?_; refine K.storeOne rfl rfl rfl rfl rfl (nl3 rfl rfl rfl rfl) .plain <| RunK.nil <| LWP.seq <| rgN <| K.loadAll rfl rfl rfl .plain ?_; refine K.loadAll rfl rfl rfl .plain ?_; refine K.loadAll rfl rfl rfl .plain ?_; refine kca rfl rfl hC2 <| keq rfl rfl (r := true) rfl <| kas rfl <| RunK.nil <| LWP.ret ?_))
  exact ⟨[_], ⟨rfl, trivial⟩, rfl⟩
end Go.Proofs.YtnfbccfghgmfiaaGreat
end
