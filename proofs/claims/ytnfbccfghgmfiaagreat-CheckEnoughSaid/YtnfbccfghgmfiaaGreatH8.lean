/- A piece of a proof over this program: contracts of its functions, and a logic to prove them by. -/
import Derived.Test.YtnfbccfghgmfiaaGreatH6
import Derived.Test.YtnfbccfghgmfiaaGreatH7
section
namespace Go.Proofs.YtnfbccfghgmfiaaGreat
open Go Go.Lg Go.Lg.Fml Go.Lg.Fld Go.Lg.Arith
set_option maxRecDepth 100000
theorem fl_small (l : List Fl) (h : (l.all fun f => decide (-1000 ≤ f.kind ∧ f.kind ≤ 1000 ∧ -1000 ≤ f.count ∧ f.count ≤ 1000)) = true) : ∀ f ∈ l, (-9223372036854775808 ≤ f.kind ∧ f.kind < 9223372036854775808) ∧ (-9223372036854775808 ≤ f.count ∧ f.count < 9223372036854775808) := fun f hf => by
  have := of_decide_eq_true (List.all_eq_true.1 h f hf)
  omega
theorem sm13a : ∀ f ∈ fl13a, (-9223372036854775808 ≤ f.kind ∧ f.kind < 9223372036854775808) ∧ (-9223372036854775808 ≤ f.count ∧ f.count < 9223372036854775808) := fl_small _ (by decide)
theorem sm13b : ∀ f ∈ fl13b, (-9223372036854775808 ≤ f.kind ∧ f.kind < 9223372036854775808) ∧ (-9223372036854775808 ≤ f.count ∧ f.count < 9223372036854775808) := fl_small _ (by decide)
theorem id13a : ∀ c ∈ sc13a.cs, -9223372036854775808 ≤ c.id ∧ c.id < 9223372036854775808 := by
  intro c hc
  simp only [sc13a, List.mem_cons, List.not_mem_nil, or_false] at hc
  subst hc; exact ⟨by decide, by decide⟩
theorem id13b : ∀ c ∈ sc13b.cs, -9223372036854775808 ≤ c.id ∧ c.id < 9223372036854775808 := by
  intro c hc
  simp only [sc13b, List.mem_cons, List.not_mem_nil, or_false] at hc
  rcases hc with rfl | rfl <;> exact ⟨by decide, by decide⟩
theorem nm13a : NamesIn sc13a.cs := by
  intro c hc
  simp only [sc13a, List.mem_cons, List.not_mem_nil, or_false] at hc
  subst hc
  refine ⟨by decide, fun f hf => ?_⟩
  simp only [fl13a, List.mem_cons, List.not_mem_nil, or_false] at hf
  rcases hf with rfl | rfl <;> decide
theorem nm13b : NamesIn sc13b.cs := by
  intro c hc
  simp only [sc13b, List.mem_cons, List.not_mem_nil, or_false] at hc
  rcases hc with rfl | rfl
  · refine ⟨by decide, fun f hf => ?_⟩
    simp only [fl13b, List.mem_cons, List.not_mem_nil, or_false] at hf
    rcases hf with rfl; decide
  · exact ⟨by decide, fun f hf => by cases hf⟩
theorem so13a : scOk sc13a.cs := ⟨by decide, fun c hc => by
  simp only [sc13a, List.mem_cons, List.not_mem_nil, or_false] at hc
  subst hc; decide⟩
theorem so13b : scOk sc13b.cs := ⟨by decide, fun c hc => by
  simp only [sc13b, List.mem_cons, List.not_mem_nil, or_false] at hc
  rcases hc with rfl | rfl <;> decide⟩
theorem po13 : (plainP sc13a sc13b).rs.length ≤ 30 ∧ ∀ r ∈ (plainP sc13a sc13b).rs, r.ex.length ≤ 12 ∧ ∀ c ∈ r.ex, c.length ≤ 80 := by
  rw [plain13]
  refine ⟨by decide, fun r hr => ?_⟩
  simp only [List.mem_cons, List.not_mem_nil, or_false] at hr
  rcases hr with rfl | rfl
  · exact ⟨by decide, fun c hc => by
      simp only [List.mem_cons, List.not_mem_nil, or_false] at hc
      subst hc; decide⟩
  · exact ⟨by decide, fun c hc => by cases hc⟩
theorem smI (l : List Ins) (h : (l.all fun x => decide ((-1000 ≤ x.op ∧ x.op ≤ 1000) ∧ (-1000 ≤ x.a ∧ x.a ≤ 1000) ∧ (-1000 ≤ x.b ∧ x.b ≤ 1000) ∧ (0 ≤ x.k.2 ∧ x.k.2 ≤ 1000))) = true) : ∀ x ∈ l, smallI x := fun x hx => by
  have := of_decide_eq_true (List.all_eq_true.1 h x hx)
  exact ⟨by omega, by omega, by omega, by show 0 ≤ _ ∧ _; omega⟩
variable (X : Nat → Option Obj)
set_option maxHeartbeats 12800000 in
theorem awake13_spec : PSpec Tryz.prog X 6 [] (Lb true) := by
  have h2 := two13_spec X
  refine PSpec.intro Tryz.func6 rfl (by kernel_rfl) rfl rfl ?_
  intro C
  (refine LWP.seq <| rgN <| kas rfl <| RunK.nil <| LWP.seq <| rgN <| K.callMp [(1000001, 701), (1000002, 702), (1000003, 703), (1000004, 704)] (.tup [.agg [.val (.int .i64 1), .slc 701 0 1 3], .agg [.val (.int .i64 2), .slc 703 0 2 3]]) [(701, some ⟨24, c13a (.slc 702 0 2 3), false⟩), (702, some ⟨49, (flV fl13a).map .val, false⟩), (703, some ⟨24, c13b (.slc 704 0 1 3), false⟩), (704, some ⟨49, (flV fl13b).map .val, false⟩)] (h2) rfl rfl (by exact trivial) rfl rfl rfl rfl rfl (by exact (.box rfl rfl (.box rfl rfl (.box rfl rfl (.box rfl rfl .nil))))) .plain <| kmv rfl <| kex rfl rfl <| kex rfl rfl <| K.alloc rfl .plain ?_; refine K.alloc rfl .plain ?_; refine K.storeAll rfl rfl rfl rfl rfl rfl .plain ?_; refine K.storeAll rfl rfl rfl rfl rfl rfl .plain ?_; refine RunK.nil <| LWP.seq ?_)
  refine LWP.le (σ' := ⟨[(1, Lp 1), (2, Lp 2)], [(701, some ⟨24, [.val (.int .i64 1), .val (.string ⟨#[97]⟩)] ++ .slc 702 0 2 3 :: [], false⟩), (702, some ⟨49, (flV fl13a).map .val, false⟩), (1, some ⟨32, [.val (.int .i64 1), .slc 701 0 1 3], false⟩), (2, some ⟨32, [.val (.int .i64 2), .slc 703 0 2 3], false⟩), (703, some ⟨24, c13b (.slc 704 0 1 3), false⟩), (704, some ⟨49, (flV fl13b).map .val, false⟩)], X⟩) (Le.of (by exact ⟨rfl, rfl, trivial⟩) (by exact ⟨rfl, rfl, rfl, rfl, rfl, rfl, trivial⟩) (by exact rfl) (by exact rfl) (by repeat' (first | refine all_cons_true ?_ ?_ | rfl | exact bytes_inUse | exact vals_inUse | exact mid_inUse rfl))) ?_
  refine LWP.freezeCell rfl rfl rfl rfl rfl rfl fun k1 cp1 arr1 fr1 hn1 _ _ _ hv1 => ?_
  refine LWP.le (σ' := ⟨[(1, Lp 1), (2, Lp 2)], [(1, some ⟨32, [.val (.int .i64 1)] ++ .slc 701 0 1 3 :: [], false⟩), (701, some ⟨24, (rowsZ sc13a.cs [.slice (some ⟨k1, 0, none⟩) 2 cp1]).map .val, false⟩), (2, some ⟨32, [.val (.int .i64 2), .slc 703 0 2 3], false⟩), (703, some ⟨24, c13b (.slc 704 0 1 3), false⟩), (704, some ⟨49, (flV fl13b).map .val, false⟩)], _⟩) (Le.of (by exact ⟨rfl, rfl, trivial⟩) (by exact ⟨rfl, rfl, rfl, rfl, rfl, trivial⟩) (by exact rfl) (by exact rfl) (by repeat' (first | refine all_cons_true ?_ ?_ | rfl | exact bytes_inUse | exact vals_inUse | exact mid_inUse rfl))) ?_
  refine LWP.freezeCell rfl rfl rfl rfl rfl rfl fun k2 cp2 arr2 fr2 hn2 _ _ _ hv2 => ?_
  have hFa : FieldsIn (withBlock X k1 (.cells arr1 49 fr1)) (some ⟨k1, 0, none⟩) fl13a := by
    obtain ⟨sp, hv⟩ := hv1
    exact fields_block (withBlock_at _ _ _) hv sm13a
  have hA : CompsIn (withBlock (withBlock X k1 (.cells arr1 49 fr1)) k2 (.cells arr2 24 fr2)) (some ⟨k2, 0, none⟩) sc13a.cs := by
    obtain ⟨sp, hv⟩ := hv2
    refine comps_lit (withBlock_at _ _ _) hv rfl id13a fun i c v hc hvv => ?_
    match i, hc, hvv with
    | 0, hc, hvv =>
      simp only [sc13a, List.getElem?_cons_zero, Option.some.injEq] at hc hvv
      subst hc hvv
      exact ⟨_, cp1, rfl, hFa.mono (withBlock_old hn2)⟩
  have hXY : ∀ b o, X b = some o → withBlock (withBlock X k1 (.cells arr1 49 fr1)) k2 (.cells arr2 24 fr2) b = some o := fun b o h => withBlock_old hn2 b o (withBlock_old hn1 b o h)
  clear hFa hv1 hv2 hn1 hn2
  generalize withBlock (withBlock X k1 (.cells arr1 49 fr1)) k2 (.cells arr2 24 fr2) = Y at *
  generalize (some ⟨k2, 0, none⟩ : Option Addr) = ad1 at *
  refine LWP.le (σ' := ⟨[(1, Lp 1), (2, Lp 2)], [(703, some ⟨24, [.val (.int .i64 1), .val (.string ⟨#[97]⟩)] ++ .slc 704 0 1 3 :: [.val (.int .i64 2), .val (.string ⟨#[98]⟩), .val (.slice none 0 0)], false⟩), (704, some ⟨49, (flV fl13b).map .val, false⟩), (2, some ⟨32, [.val (.int .i64 2), .slc 703 0 2 3], false⟩), sxB 1 1 ad1 1 cp2], Y⟩) (Le.of (by exact ⟨rfl, rfl, trivial⟩) (by exact ⟨rfl, rfl, rfl, rfl, trivial⟩) (by exact rfl) (by exact rfl) (by repeat' (first | refine all_cons_true ?_ ?_ | rfl | exact bytes_inUse | exact vals_inUse | exact mid_inUse rfl))) ?_
  refine LWP.freezeCell rfl rfl rfl rfl rfl rfl fun k3 cp3 arr3 fr3 hn3 _ _ _ hv3 => ?_
  refine LWP.le (σ' := ⟨[(1, Lp 1), (2, Lp 2)], [(2, some ⟨32, [.val (.int .i64 2)] ++ .slc 703 0 2 3 :: [], false⟩), (703, some ⟨24, (rowsZ sc13b.cs [.slice (some ⟨k3, 0, none⟩) 1 cp3, .slice none 0 0]).map .val, false⟩), sxB 1 1 ad1 1 cp2], _⟩) (Le.of (by exact ⟨rfl, rfl, trivial⟩) (by exact ⟨rfl, rfl, rfl, trivial⟩) (by exact rfl) (by exact rfl) (by repeat' (first | refine all_cons_true ?_ ?_ | rfl | exact bytes_inUse | exact vals_inUse | exact mid_inUse rfl))) ?_
  refine LWP.freezeCell rfl rfl rfl rfl rfl rfl fun k4 cp4 arr4 fr4 hn4 _ _ _ hv4 => ?_
  have hFb : FieldsIn (withBlock Y k3 (.cells arr3 49 fr3)) (some ⟨k3, 0, none⟩) fl13b := by
    obtain ⟨sp, hv⟩ := hv3
    exact fields_block (withBlock_at _ _ _) hv sm13b
  have hB : CompsIn (withBlock (withBlock Y k3 (.cells arr3 49 fr3)) k4 (.cells arr4 24 fr4)) (some ⟨k4, 0, none⟩) sc13b.cs := by
    obtain ⟨sp, hv⟩ := hv4
    refine comps_lit (withBlock_at _ _ _) hv rfl id13b fun i c v hc hvv => ?_
    match i, hc, hvv with
    | 0, hc, hvv =>
      simp only [sc13b, List.getElem?_cons_zero, Option.some.injEq] at hc hvv
      subst hc hvv
      exact ⟨_, cp3, rfl, hFb.mono (withBlock_old hn4)⟩
    | 1, hc, hvv =>
      simp only [sc13b, List.getElem?_cons_succ, List.getElem?_cons_zero, Option.some.injEq] at hc hvv
      subst hc hvv
      exact ⟨none, 0, rfl, fun i r h => by simp at h, fun f hf => by cases hf⟩
  have hYZ : ∀ b o, Y b = some o → withBlock (withBlock Y k3 (.cells arr3 49 fr3)) k4 (.cells arr4 24 fr4) b = some o := fun b o h => withBlock_old hn4 b o (withBlock_old hn3 b o h)
  replace hA := hA.mono hYZ
  clear hFb hv3 hv4 hn3 hn4 hYZ hXY
  generalize withBlock (withBlock Y k3 (.cells arr3 49 fr3)) k4 (.cells arr4 24 fr4) = Z at *
  generalize (some ⟨k4, 0, none⟩ : Option Addr) = ad2 at *
  have hP := cPlain Z sc13a sc13b ad1 ad2 cp2 cp4 hA hB nm13a nm13b so13a.big so13b.big
  rcases hP with ⟨h0, _⟩ | hP
  · cases h0
  (refine rgN <| K.loadAll rfl rfl rfl .plain ?_; refine K.loadAll rfl rfl rfl .plain ?_; refine K.callMp [(1000001, 601)] (.sv (.agg [.val (.int .i64 1), .val (.int .i64 2), .slc 601 0 2 3])) [rlB 27 601 (plainP sc13a sc13b).rs] (hP) rfl rfl (by exact trivial) rfl rfl rfl rfl rfl (by exact (.box rfl rfl .nil)) .plain <| K.alloc rfl .plain ?_; refine K.storeAll rfl rfl rfl rfl rfl rfl .plain ?_; refine RunK.nil <| LWP.seq ?_)
  refine LWP.le (σ' := ⟨[(1, Lp 1), (2, Lp 2), (3, Lp 3)], [(3, some ⟨35, [.val (.int .i64 1), .val (.int .i64 2)] ++ .slc 601 0 2 3 :: [], false⟩), rlB 27 601 (plainP sc13a sc13b).rs, sxB 2 2 ad2 2 cp4, sxB 1 1 ad1 1 cp2], Z⟩) (Le.of (by exact ⟨rfl, rfl, rfl, trivial⟩) (by exact ⟨rfl, rfl, rfl, rfl, trivial⟩) (by exact rfl) (by exact rfl) (by repeat' (first | refine all_cons_true ?_ ?_ | rfl | exact bytes_inUse | exact vals_inUse | exact mid_inUse rfl))) ?_
  refine LWP.fixCell rfl rfl rfl rfl rfl rfl fun ρ H pc hR hO _ _ => ?_
  have hp := hR.2.mono fun b o h => joinM_in (X := Z) h
  replace hA := hA.mono (fun _ _ h => joinM_has hO h)
  replace hB := hB.mono (fun _ _ h => joinM_has hO h)
  clear hR hO hP
  generalize joinM Z H = Z2 at *
  generalize (some ⟨ρ.1, 0, none⟩ : Option Addr) = pd at *
  have q1 := cCheck Z2 sc13a sc13b (plainP sc13a sc13b) ad1 ad2 pd cp2 cp4 pc hA hB hp nm13a nm13b so13a so13b po13
  have q2 := cCheck Z2 sc13b sc13a (plainP sc13a sc13b) ad2 ad1 pd cp4 cp2 pc hB hA hp nm13b nm13a so13b so13a po13
  have q3 := cCheck Z2 sc13a sc13b ⟨1, 2, []⟩ ad1 ad2 none cp2 cp4 0 hA hB RulesIn.nil nm13a nm13b so13a so13b ⟨by decide, fun r hr => by cases hr⟩
  rw [ck13] at q1
  rw [ck13b] at q2
  rw [ck13n] at q3
  obtain ⟨ab, ao, aarr, ael, afr, afd, afc, rfl, hAX, hAz, hAc, _, _, _, hFa⟩ := hA.get (i := 0) (c := ⟨1, [97], fl13a⟩) rfl
  obtain ⟨bb, bo, barr, bel, bfr, bfd, bfc, rfl, hBX, _, _, _, _, b3, hFb⟩ := hB.get (i := 0) (c := ⟨1, [97], fl13b⟩) rfl
  obtain ⟨fb, fo, farr, fel, ffr, rfl, hFX, hFz, hFc, _⟩ := hFb.cells (i := 0) (f := ⟨[120], 4, 1⟩) rfl
  rw [plain13] at hp
  obtain ⟨pb, po, parr, pel, pfr, _, _, rfl, hPX, _, _, _, p2, _, _⟩ := hp.get (i := 1) (r := ⟨2, 0, []⟩) rfl
  have m1 := fun (S : Nat → Option (Option Box)) (hk : S 13 = some (some ⟨66, (inssV [⟨3, 1, 0, (false, 0)⟩]).map .val, false⟩)) => formula_lent Z2 (S := S) (c := ⟨1, [97], fl13a⟩) (f := ⟨[120], 4, 1⟩) (l := [⟨3, 1, 0, (false, 0)⟩]) (ccap := afc) (k := 13) (t := 0) hFa (smI _ (by decide)) (by decide) (by decide) fm13a hk
  have m2 := fun (S : Nat → Option (Option Box)) (hk : S 62 = some (some ⟨66, (inssV [⟨3, 2, 0, (false, 0)⟩]).map .val, false⟩)) => formula_lent Z2 (S := S) (c := ⟨1, [97], fl13a⟩) (f := ⟨[120], 4, 1⟩) (l := [⟨3, 2, 0, (false, 0)⟩]) (ccap := afc) (k := 62) (t := 0) hFa (smI _ (by decide)) (by decide) (by decide) fm13b hk
  ((refine rgN <| K.build rfl rfl (by exact rfl) (by exact nl6 rfl rfl rfl rfl rfl rfl rfl) .plain ?_; refine K.buildSlc (zs := [.int .i64 0, .int .i64 0, .int .i64 0, .bool false, .int .u64 0, .int .u64 0]) (sz := 6) (e := 66) (cs' := (inssV [⟨3, 1, 0, (false, 0)⟩]).map .val) (by kernel_rfl) rfl rfl rfl rfl rfl rfl .plain <| kas rfl <| RunK.nil <| LWP.seq <| rgD mixed <| K.loadAll rfl rfl rfl .plain ?_; refine K.loadAll rfl rfl rfl .plain ?_; refine K.loadAll rfl rfl rfl .plain ?_; refine kca rfl rfl q1 <| keq rfl rfl (r := true) rfl <| kmv rfl <| K.fieldAddr rfl rfl (.taken rfl rfl) ?_; refine K.loadOne rfl rfl rfl (.taken rfl rfl) ?_; refine K.lenX rfl SliceT.h rfl (.taken rfl rfl) ?_; refine K.eql rfl rfl (r := true) rfl (.taken rfl rfl) ?_; refine kpt rfl rfl <| kmv rfl <| K.fieldAddr rfl rfl (.taken rfl rfl) ?_; refine K.loadOne rfl rfl rfl (.taken rfl rfl) ?_; refine K.indexX rfl rfl SliceT.h (by decide) rfl (.taken rfl rfl) ?_; refine K.fieldAddrX rfl rfl (.taken rfl rfl) ?_); (refine K.loadX rfl hPX rfl p2 (.taken rfl rfl) ?_; refine K.eql rfl rfl (r := true) rfl (.taken rfl rfl) ?_; refine kpt rfl rfl <| kmv rfl <| K.fieldAddr rfl rfl (.taken rfl rfl) ?_; refine K.loadOne rfl rfl rfl (.taken rfl rfl) ?_; refine K.indexX rfl rfl SliceT.h (by decide) rfl (.taken rfl rfl) ?_; refine K.loadXagg rfl hAX (by kernel_rfl) hAz hAc (.taken rfl rfl) ?_; refine K.fieldAddr rfl rfl (.taken rfl rfl) ?_; refine K.loadOne rfl rfl rfl (.taken rfl rfl) ?_; refine K.indexX rfl rfl SliceT.h (by decide) rfl (.taken rfl rfl) ?_; refine K.fieldAddrX rfl rfl (.taken rfl rfl) ?_; refine K.loadX rfl hBX rfl b3 (.taken rfl rfl) ?_; refine K.indexX rfl rfl SliceT.h (by decide) rfl (.taken rfl rfl) ?_); (refine K.loadXagg rfl hFX (by kernel_rfl) hFz hFc (.taken rfl rfl) ?_; refine gmv rfl rfl rfl <| K.callL [13] rfl rfl rfl (m1 _ rfl) (.taken rfl rfl) ?_; refine K.eql rfl rfl (r := true) rfl (.taken rfl rfl) ?_; refine kpt rfl rfl <| kmv rfl <| K.fieldAddr rfl rfl (.taken rfl rfl) ?_; refine K.loadOne rfl rfl rfl (.taken rfl rfl) ?_; refine K.indexX rfl rfl SliceT.h (by decide) rfl (.taken rfl rfl) ?_; refine K.loadXagg rfl hAX (by kernel_rfl) hAz hAc (.taken rfl rfl) ?_; refine K.fieldAddr rfl rfl (.taken rfl rfl) ?_; refine K.loadOne rfl rfl rfl (.taken rfl rfl) ?_; refine K.indexX rfl rfl SliceT.h (by decide) rfl (.taken rfl rfl) ?_; refine K.fieldAddrX rfl rfl (.taken rfl rfl) ?_; refine K.loadX rfl hBX rfl b3 (.taken rfl rfl) ?_); (refine K.indexX rfl rfl SliceT.h (by decide) rfl (.taken rfl rfl) ?_; refine K.loadXagg rfl hFX (by kernel_rfl) hFz hFc (.taken rfl rfl) ?_; refine K.build rfl rfl (by exact rfl) (by exact nl6 rfl rfl rfl rfl rfl rfl rfl) (.taken rfl rfl) ?_; refine K.buildSlc (zs := [.int .i64 0, .int .i64 0, .int .i64 0, .bool false, .int .u64 0, .int .u64 0]) (sz := 6) (e := 66) (cs' := (inssV [⟨3, 2, 0, (false, 0)⟩]).map .val) (by kernel_rfl) rfl rfl rfl rfl rfl rfl (.taken rfl rfl) ?_; refine K.callL [62] rfl rfl rfl (m2 _ rfl) (.taken rfl rfl) ?_; refine K.eql rfl rfl (r := true) rfl (.taken rfl rfl) ?_; refine kpt rfl rfl <| kmv rfl <| K.loadAll rfl rfl rfl (.taken rfl rfl) ?_; refine K.loadAll rfl rfl rfl (.taken rfl rfl) ?_; refine K.loadAll rfl rfl rfl (.taken rfl rfl) ?_; refine gca rfl rfl q2 rfl rfl <| K.eql rfl rfl (r := true) rfl (.taken rfl rfl) ?_; refine kpt rfl rfl <| kmv rfl <| K.loadAll rfl rfl rfl (.taken rfl rfl) ?_; refine K.loadAll rfl rfl rfl (.taken rfl rfl) ?_); (refine K.build rfl rfl (by exact rfl) (by exact nl3 rfl rfl rfl rfl) (.taken rfl rfl) ?_; refine gca rfl rfl q3 rfl rfl <| K.eql rfl rfl (r := true) rfl (.taken rfl rfl) ?_; refine kpt rfl rfl <| kas rfl <| RunK.nil <| rgA ?_; refine LWP.ret ?_))
  exact ⟨[_], ⟨rfl, trivial⟩, rfl⟩
end Go.Proofs.YtnfbccfghgmfiaaGreat
end
section
namespace Go.Proofs.YtnfbccfghgmfiaaGreat
open Go Go.Lg Go.Lg.Fml Go.Lg.Fld Go.Lg.Arith
def noughtF (fs : List Fl) : List (List Nm) := fs.map fun g => List.replicate g.count.toNat (false, 0)
def Gd (v : Nm) : Prop := gd v = true ∧ 0 ≤ v.2
def Fine (r : Except Int Nm) : Prop := (∃ v, r = .ok v ∧ Gd v) ∨ r = .error 9
theorem gd0 : gd (false, 0) = true := by decide +kernel
theorem gd_truth2 (b : Bool) : gd (truth b) = true := by cases b <;> decide +kernel
theorem gd_R {v : Nm} (h : gd v = true) (h2 : 0 ≤ v.2) : R127 (zz v) := by
  unfold gd formB at h
  rw [Bool.and_eq_true] at h
  have h1 := of_decide_eq_true h.1
  unfold R127 zz zv
  split <;> omega
theorem gd_neg {v : Nm} (h : gd v = true) (h2 : 0 ≤ v.2) : gd (qn (-(zz v))) = true := by
  have hR := gd_R h h2
  have : R127 (-(zz v)) := by unfold R127 at *; omega
  exact formB_q this
theorem elem_nought {fs : List Fl} {g : Fl} {a b : Int} (hg : fs[a.toNat]? = some g) (ha : 0 ≤ a) (hb : 0 ≤ b) (h : b < g.count) : elemX (noughtF fs) a b = .ok (false, 0) := by
  unfold elemX noughtF
  rw [if_neg (by omega), List.getElem?_map, hg]
  simp only [Option.map_some]
  rw [List.getElem?_replicate, if_pos (by omega)]
theorem Gd0 : Gd (false, 0) := ⟨gd0, by decide⟩
theorem Gd_truth (b : Bool) : Gd (truth b) := ⟨gd_truth2 b, by cases b <;> decide⟩
theorem Gd_nat {n : Int} (h : 0 ≤ n ∧ n < 8) : Gd (false, n) := ⟨by unfold gd formB; simp; omega, h.1⟩
theorem Gd_neg {v : Nm} (h : Gd v) : Gd (qn (-(zz v))) := ⟨gd_neg h.1 h.2, by unfold qn; exact mg_nonneg _⟩
theorem Gd_if {c : Prop} [Decidable c] {u v : Nm} (h1 : Gd u) (h2 : Gd v) : Gd (if c then u else v) := by split <;> assumption
theorem leaf_fine {fs : List Fl} {f : Fl} {x : Ins} {at_ : Int} (hx : okI x = true) (h0 : takes x.op = 0) (hk : 0 ≤ x.k.2) (hf : findE fs f x = 0) (hat : 0 ≤ at_ ∧ at_ < f.count) (hc : f.count ≤ 8) : Fine (oneX (noughtF fs) at_ x []) := by
  obtain ⟨h1, h2, h3, h4⟩ := okI_facts hx
  unfold oneX
  rw [if_pos h0]
  unfold leafX
  by_cases e1 : x.op = 1
  · rw [if_pos e1]; exact .inl ⟨_, rfl, h2, hk⟩
  rw [if_neg e1]
  by_cases e4 : x.op = 4
  · rw [if_pos e4, if_neg (by omega)]; exact .inl ⟨_, rfl, Gd_nat (by omega)⟩
  rw [if_neg e4]
  have e23 : x.op = 2 ∨ x.op = 3 := by
    unfold takes at h0
    split at h0
    · omega
    · split at h0
      · omega
      · split at h0 <;> omega
  unfold findE at hf
  rw [if_pos e23] at hf
  cases hg : fs[x.a.toNat]? with
  | none => rw [hg] at hf; cases hf
  | some g =>
    rw [hg] at hf
    simp only at hf
    by_cases hb : (x.op = 2 ∧ g.count ≤ x.b) ∨ (x.op = 3 ∧ g.count < f.count)
    · rw [if_pos hb] at hf; cases hf
    · rcases e23 with e | e
      · rw [if_neg (by omega), elem_nought hg h3.1 h4.1 (by omega)]; exact .inl ⟨_, rfl, Gd0⟩
      · rw [if_pos e, elem_nought hg h3.1 hat.1 (by omega)]; exact .inl ⟨_, rfl, Gd0⟩
theorem node1_fine {op : Int} {u : Nm} (hu : Gd u) : Fine (nodeX op [u]) := by
  show Fine (if gd u = false then .error 1 else if op = 10 then .ok (qn (-(zz u))) else .ok (truth (decide (u = (false, 0)))))
  rw [if_neg (by rw [hu.1]; decide)]
  split
  · exact .inl ⟨_, rfl, Gd_neg hu⟩
  · exact .inl ⟨_, rfl, Gd_truth _⟩
theorem node2_fine {op : Int} {u v : Nm} (hop : ¬(5 ≤ op ∧ op ≤ 9)) (hu : Gd u) (hv : Gd v) : Fine (nodeX op [u, v]) := by
  unfold nodeX
  have hb : ¬(gd u && gd v) = false := by rw [hu.1, hv.1]; decide
  have hv1 : ¬gd v = false := by rw [hv.1]; decide
  simp only [if_neg hop, if_neg hb, if_neg hv1]
  by_cases h17 : op = 17
  · rw [if_pos h17]
    by_cases h0 : v = (false, 0)
    · rw [if_pos h0]; exact .inr rfl
    · rw [if_neg h0]; exact .inl ⟨_, rfl, hu⟩
  rw [if_neg h17]
  by_cases h11 : op = 11
  · rw [if_pos h11]; exact .inl ⟨_, rfl, Gd_if hv hu⟩
  rw [if_neg h11]
  by_cases h12 : op = 12
  · rw [if_pos h12]; exact .inl ⟨_, rfl, Gd_if hv hu⟩
  rw [if_neg h12]
  by_cases h13 : op = 13
  · rw [if_pos h13]; exact .inl ⟨_, rfl, Gd_truth _⟩
  rw [if_neg h13]; exact .inl ⟨_, rfl, Gd_truth _⟩
theorem node3_fine {op : Int} {u v w : Nm} (hu : Gd u) (hv : Gd v) (hw : Gd w) : Fine (nodeX op [u, v, w]) := by
  show Fine (if gd u = false then .error 1 else .ok (if u = (false, 0) then w else v))
  rw [if_neg (by rw [hu.1]; decide)]
  exact .inl ⟨_, rfl, Gd_if hw hv⟩
theorem one_node {fs : List (List Nm)} {at_ : Int} {x : Ins} {a : List Nm} (h : takes x.op ≠ 0) : oneX fs at_ x a = nodeX x.op a := if_neg h
section
variable {fs : List Fl} {f : Fl} {at_ : Int} (hat : 0 ≤ at_ ∧ at_ < f.count) (hc : f.count ≤ 8)
def RightI (fs : List Fl) (f : Fl) (x : Ins) : Prop := okI x = true ∧ 0 ≤ x.k.2 ∧ findE fs f x = 0 ∧ ¬(5 ≤ x.op ∧ x.op ≤ 9)
include hat hc
theorem tree_fine : ∀ {t : Tr}, t.ok → (∀ x ∈ t.flat, RightI fs f x) → Fine (t.ev (oneX (noughtF fs) at_))
  | .n0 x, hk, h => by
    obtain ⟨h1, h2, h3, _⟩ := h x (List.mem_singleton.2 rfl)
    exact leaf_fine h1 hk h2 h3 hat hc
  | .n1 x a, hk, h => by
    have ha := tree_fine hk.2 fun y hy => h y (List.mem_append_left _ hy)
    simp only [Tr.ev]
    rcases ha with ⟨u, e, hu⟩ | e
    · rw [e]; simp only; rw [one_node (by rw [hk.1]; decide)]; exact node1_fine hu
    · rw [e]; exact .inr rfl
  | .n2 x a b, hk, h => by
    have ha := tree_fine hk.2.1 fun y hy => h y (List.mem_append_left _ hy)
    have hb := tree_fine hk.2.2 fun y hy => h y (List.mem_append_right _ (List.mem_append_left _ hy))
    have hx := h x (List.mem_append_right _ (List.mem_append_right _ (List.mem_singleton.2 rfl)))
    simp only [Tr.ev]
    rcases ha with ⟨u, e, hu⟩ | e
    · rw [e]
      simp only
      rcases hb with ⟨v, e, hv⟩ | e
      · rw [e]; simp only; rw [one_node (by rw [hk.1]; decide)]; exact node2_fine hx.2.2.2 hu hv
      · rw [e]; exact .inr rfl
    · rw [e]; exact .inr rfl
  | .n3 x a b c, hk, h => by
    have ha := tree_fine hk.2.1 fun y hy => h y (List.mem_append_left _ hy)
    have hb := tree_fine hk.2.2.1 fun y hy => h y (List.mem_append_right _ (List.mem_append_left _ hy))
    have hcc := tree_fine hk.2.2.2 fun y hy => h y (List.mem_append_right _ (List.mem_append_right _ (List.mem_append_left _ hy)))
    simp only [Tr.ev]
    rcases ha with ⟨u, e, hu⟩ | e
    · rw [e]
      simp only
      rcases hb with ⟨v, e, hv⟩ | e
      · rw [e]
        simp only
        rcases hcc with ⟨w, e, hw⟩ | e
        · rw [e]; simp only; rw [one_node (by rw [hk.1]; decide)]; exact node3_fine hu hv hw
        · rw [e]; exact .inr rfl
      · rw [e]; exact .inr rfl
    · rw [e]; exact .inr rfl
theorem enough {l : List Ins} (hl : fmE fs f l = 0) (hk : ∀ x ∈ l, 0 ≤ x.k.2) (hop : ∀ x ∈ l, ¬(5 ≤ x.op ∧ x.op ≤ 9)) : Fine (evX l (noughtF fs) at_) := by
  unfold fmE at hl
  by_cases h1 : chkX l = 0
  · rw [if_pos h1] at hl
    by_cases h2 : seqE (findE fs f) l = 0
    · obtain ⟨t, ht, hf⟩ := parse (chkX_zero h1).2
      have := tree_fine hat hc ht fun x hx => by
        rw [hf] at hx
        exact ⟨chkX_ok h1 x hx, hk x hx, seqE_zero h2 x hx, hop x hx⟩
      rw [evX_tree h1 ht hf]
      rcases this with ⟨v, e, hv⟩ | e
      · rw [e]; simp only; rw [if_pos hv.1]; exact .inl ⟨v, rfl, hv⟩
      · rw [e]; exact .inr rfl
    · rw [if_neg h2] at hl; exact absurd hl h2
  · rw [if_neg h1] at hl; exact absurd hl h1
end
end Go.Proofs.YtnfbccfghgmfiaaGreat
end
section
namespace Go.Proofs.YtnfbccfghgmfiaaGreat
open Go Go.Lg Go.Lg.Fml Go.Lg.Fld Go.Lg.Arith
set_option maxRecDepth 100000
theorem nought_snoc {fs : List Fl} {i cnt : Nat} {g : Fl} (hg : fs[i]? = some g) (hc : g.count = (cnt : Nat)) : noughtF (fs.take (i + 1)) = noughtF (fs.take i) ++ [List.replicate cnt (false, 0)] := by
  unfold noughtF
  rw [take_snoc hg, List.map_append]
  simp [hc]
theorem nmsV_rep (n : Nat) : nmsV (List.replicate n (false, 0)) = (List.replicate n [Value.bool false, .int .u64 0, .int .u64 0]).flatten := by
  unfold nmsV
  rw [List.map_replicate]
  rfl
theorem evX_fine {r : Except Int Nm} (h : Fine r) : exE r = 0 ∨ exE r = 9 := by
  rcases h with ⟨v, e, _⟩ | e
  · rw [e]; exact .inl rfl
  · rw [e]; exact .inr rfl
variable (X : Nat → Option Obj)
set_option maxHeartbeats 12800000 in
theorem checkEnough_law (a : Cp) (f : Fl) (l : List Ins) (aad ad : Option Addr) (acap cap : Nat) (hA : FieldsIn X aad a.fs) (hin : InsIn X ad l) (hfl : a.fs.length < 4611686018427387904) (hl : l.length < 1152921504606846976) :
    PSpec Tryz.prog X 5 [Cx a aad acap, Fx f, Lx ad l.length cap] (Lb true) := by
  have hW := awake13_spec X
  have hF := cFormula X a f l aad ad acap cap hA hin hl hfl
  refine PSpec.intro Tryz.func5 rfl (by kernel_rfl) rfl rfl ?_
  intro C
  by_cases c1 : 12 < a.fs.length
  · (refine LWP.seq <| rgN <| K.box rfl rfl rfl .plain <| K.box rfl rfl rfl .plain <| kas rfl <| RunK.nil <| LWP.seq <| LWP.seq <| rgN <| kca rfl rfl (hW) <| K.not rfl rfl .plain <| RunK.nil <| LWP.condF rfl ?_; refine LWP.skip ?_; refine LWP.seq <| LWP.seq <| rgN <| kfa rfl rfl ?_; refine kl1 rfl rfl rfl <| K.lenX rfl SliceT.h rfl .plain ?_; refine K.gtr rfl rfl (decide_eq_true (by omega)) .plain <| kmv rfl <| RunK.passed rfl rfl rfl <| RunK.passed rfl rfl rfl <| RunK.passed rfl rfl rfl <| kpt rfl rfl <| kmv rfl <| RunK.passed rfl rfl rfl <| RunK.passed rfl rfl rfl <| RunK.passed rfl rfl rfl <| kpt rfl rfl <| kmv rfl <| RunK.passed rfl rfl rfl <| RunK.passed rfl rfl rfl ?_; refine RunK.passed rfl rfl rfl <| RunK.passed rfl rfl rfl <| RunK.passed rfl rfl rfl <| kpt rfl rfl <| RunK.nil <| LWP.condT rfl ?_; refine LWP.seq <| rgN <| kas rfl <| RunK.nil <| LWP.ret ?_)
    exact ⟨[_], ⟨rfl, trivial⟩, rfl⟩
  by_cases c2 : f.count < 1
  · (refine LWP.seq <| rgN <| K.box rfl rfl rfl .plain <| K.box rfl rfl rfl .plain <| kas rfl <| RunK.nil <| LWP.seq <| LWP.seq <| rgN <| kca rfl rfl (hW) <| K.not rfl rfl .plain <| RunK.nil <| LWP.condF rfl ?_; refine LWP.skip ?_; refine LWP.seq <| LWP.seq <| rgN <| kfa rfl rfl ?_; refine kl1 rfl rfl rfl <| K.lenX rfl SliceT.h rfl .plain ?_; refine K.gtr rfl rfl (decide_eq_false (by omega)) .plain <| kmv rfl <| K.fieldAddr rfl rfl (.taken rfl rfl) ?_; refine K.loadOne rfl rfl rfl (.taken rfl rfl) ?_; refine K.lss rfl rfl (decide_eq_true c2) (.taken rfl rfl) ?_; refine kpf rfl rfl <| kmv rfl <| RunK.passed rfl rfl rfl <| RunK.passed rfl rfl rfl <| RunK.passed rfl rfl rfl <| kpt rfl rfl <| kmv rfl <| RunK.passed rfl rfl rfl <| RunK.passed rfl rfl rfl <| RunK.passed rfl rfl rfl <| RunK.passed rfl rfl rfl <| RunK.passed rfl rfl rfl <| kpt rfl rfl <| RunK.nil ?_; refine LWP.condT rfl ?_; refine LWP.seq <| rgN <| kas rfl <| RunK.nil <| LWP.ret ?_)
    exact ⟨[_], ⟨rfl, trivial⟩, rfl⟩
  by_cases c3 : 8 < f.count
  · (refine LWP.seq <| rgN <| K.box rfl rfl rfl .plain <| K.box rfl rfl rfl .plain <| kas rfl <| RunK.nil <| LWP.seq <| LWP.seq <| rgN <| kca rfl rfl (hW) <| K.not rfl rfl .plain <| RunK.nil <| LWP.condF rfl ?_; refine LWP.skip ?_; refine LWP.seq <| LWP.seq <| rgN <| kfa rfl rfl ?_; refine kl1 rfl rfl rfl <| K.lenX rfl SliceT.h rfl .plain ?_; refine K.gtr rfl rfl (decide_eq_false (by omega)) .plain <| kmv rfl <| K.fieldAddr rfl rfl (.taken rfl rfl) ?_; refine K.loadOne rfl rfl rfl (.taken rfl rfl) ?_; refine K.lss rfl rfl (decide_eq_false c2) (.taken rfl rfl) ?_; refine kpf rfl rfl <| kmv rfl <| K.fieldAddr rfl rfl (.taken rfl rfl) ?_; refine K.loadOne rfl rfl rfl (.taken rfl rfl) ?_; refine K.gtr rfl rfl (decide_eq_true c3) (.taken rfl rfl) ?_; refine kpf rfl rfl <| kmv rfl <| RunK.passed rfl rfl rfl <| RunK.passed rfl rfl rfl <| RunK.passed rfl rfl rfl <| RunK.passed rfl rfl rfl <| RunK.passed rfl rfl rfl <| kpt rfl rfl <| RunK.nil <| LWP.condT rfl ?_; refine LWP.seq <| rgN <| kas rfl <| RunK.nil <| LWP.ret ?_)
    exact ⟨[_], ⟨rfl, trivial⟩, rfl⟩
  by_cases c4 : fmE a.fs f l = 0
  case neg =>
    generalize fmE a.fs f l = e at *
    (refine LWP.seq <| rgN <| K.box rfl rfl rfl .plain <| K.box rfl rfl rfl .plain <| kas rfl <| RunK.nil <| LWP.seq <| LWP.seq <| rgN <| kca rfl rfl (hW) <| K.not rfl rfl .plain <| RunK.nil <| LWP.condF rfl ?_; refine LWP.skip ?_; refine LWP.seq <| LWP.seq <| rgN <| kfa rfl rfl ?_; refine kl1 rfl rfl rfl <| K.lenX rfl SliceT.h rfl .plain ?_; refine K.gtr rfl rfl (decide_eq_false (by omega)) .plain <| kmv rfl <| K.fieldAddr rfl rfl (.taken rfl rfl) ?_; refine K.loadOne rfl rfl rfl (.taken rfl rfl) ?_; refine K.lss rfl rfl (decide_eq_false c2) (.taken rfl rfl) ?_; refine kpf rfl rfl <| kmv rfl <| K.fieldAddr rfl rfl (.taken rfl rfl) ?_; refine K.loadOne rfl rfl rfl (.taken rfl rfl) ?_; refine K.gtr rfl rfl (decide_eq_false c3) (.taken rfl rfl) ?_; refine kpf rfl rfl <| kmv rfl <| K.loadAll rfl rfl rfl (.taken rfl rfl) ?_; refine K.loadAll rfl rfl rfl (.taken rfl rfl) ?_; refine gmv rfl rfl rfl <| gca rfl rfl hF rfl rfl <| K.neq rfl rfl (r := true) (bne_iff_ne.2 c4) (.taken rfl rfl) ?_; refine kpf rfl rfl <| RunK.nil <| LWP.condT rfl ?_; refine LWP.seq <| rgN <| kas rfl <| RunK.nil <| LWP.ret ?_)
    exact ⟨[_], ⟨rfl, trivial⟩, rfl⟩
  rw [c4] at hF
  (refine LWP.seq <| rgN <| K.box rfl rfl rfl .plain <| K.box rfl rfl rfl .plain <| kas rfl <| RunK.nil <| LWP.seq <| LWP.seq <| rgN <| kca rfl rfl (hW) <| K.not rfl rfl .plain <| RunK.nil <| LWP.condF rfl ?_; refine LWP.skip ?_; refine LWP.seq <| LWP.seq <| rgN <| kfa rfl rfl ?_; refine kl1 rfl rfl rfl <| K.lenX rfl SliceT.h rfl .plain ?_; refine K.gtr rfl rfl (decide_eq_false (by omega)) .plain <| kmv rfl <| K.fieldAddr rfl rfl (.taken rfl rfl) ?_; refine K.loadOne rfl rfl rfl (.taken rfl rfl) ?_; refine K.lss rfl rfl (decide_eq_false c2) (.taken rfl rfl) ?_; refine kpf rfl rfl <| kmv rfl <| K.fieldAddr rfl rfl (.taken rfl rfl) ?_; refine K.loadOne rfl rfl rfl (.taken rfl rfl) ?_; refine K.gtr rfl rfl (decide_eq_false c3) (.taken rfl rfl) ?_; refine kpf rfl rfl <| kmv rfl <| K.loadAll rfl rfl rfl (.taken rfl rfl) ?_; refine K.loadAll rfl rfl rfl (.taken rfl rfl) ?_; refine gmv rfl rfl rfl <| gca rfl rfl hF rfl rfl <| K.neq rfl rfl (r := false) rfl (.taken rfl rfl) ?_; refine kpf rfl rfl <| RunK.nil <| LWP.condF rfl ?_; refine LWP.skip ?_; refine LWP.seq <| rgN <| K.build rfl rfl (by exact rfl) (by exact nl2 rfl rfl rfl) .plain ?_; refine K.alloc rfl .plain ?_; refine K.storeAll rfl rfl rfl rfl rfl rfl .plain ?_; refine RunK.nil <| LWP.seq <| LWP.seq <| rgN <| kas rfl <| RunK.nil <| LWP.block ?_)
  refine LWP.meetBQ (fun σ => ∃ (Y : Nat → Option Obj) (ead : Option Addr) (ecap : Nat), (∀ b o, X b = some o → Y b = some o) ∧ FssIn Y ead (noughtF a.fs) ∧ (∀ g ∈ a.fs, 0 ≤ g.count ∧ g.count ≤ 8) ∧ σ = ⟨[(2, Lx ad l.length cap), (4, Lp 4), (7, Lp 7)], [(7, some ⟨60, [.val (.slice ead a.fs.length ecap), .val (.int .i64 0)], false⟩), flB 4 f], Y⟩) ?_ ?_
  · refine LWP.loopL (fun m σ => ∃ (i : Nat) (vs : List Value) (Y : Nat → Option Obj), i ≤ a.fs.length ∧ m = a.fs.length - i ∧ (∀ b o, X b = some o → Y b = some o) ∧ RowV Y vs (noughtF (a.fs.take i)) ∧ (∀ g ∈ a.fs.take i, 0 ≤ g.count ∧ g.count ≤ 8) ∧ ((i = 0 ∧ σ = ⟨[(2, Lx ad l.length cap), (3, Lp 3), (4, Lp 4), (7, Lp 7), (8, Ln .i64 (i : Nat))], [(7, some ⟨60, [.val (.slice none 0 0), .val (.int .i64 0)], false⟩), flB 4 f, cpB 3 a aad acap], Y⟩) ∨ (0 < i ∧ σ = ⟨[(2, Lx ad l.length cap), (3, Lp 3), (4, Lp 4), (7, Lp 7), (8, Ln .i64 (i : Nat))], [(600, some ⟨61, vs.map .val, true⟩), (7, some ⟨60, [.slc 600 0 (i) 1, .val (.int .i64 0)], false⟩), flB 4 f, cpB 3 a aad acap], Y⟩))) a.fs.length
      (Leads.le (σ' := ⟨[(2, Lx ad l.length cap), (3, Lp 3), (4, Lp 4), (7, Lp 7), (8, Ln .i64 (0 : Nat))], [(7, some ⟨60, [.val (.slice none 0 0), .val (.int .i64 0)], false⟩), flB 4 f, cpB 3 a aad acap], X⟩) (Le.of (by exact ⟨rfl, rfl, rfl, rfl, rfl, trivial⟩) (by exact ⟨rfl, rfl, rfl, trivial⟩) (by exact rfl) (by exact rfl) (by repeat' (first | refine all_cons_true ?_ ?_ | rfl | exact bytes_inUse | exact vals_inUse | exact mid_inUse rfl))) (Leads.done ⟨0, [], X, by omega, rfl, fun _ _ h => h, RowV.nil, fun g hg => (by cases hg), .inl ⟨rfl, rfl⟩⟩)) ?_
    rintro m σ ⟨i, vs, Y, hi, rfl, hXY, hv, hgood, hst⟩
    by_cases hlt : i < a.fs.length
    case neg =>
      have e : i = a.fs.length := by omega
      subst e
      rw [List.take_length] at hv hgood
      rcases hst with ⟨hi0, rfl⟩ | ⟨hi0, rfl⟩
      · (refine LWP.seq <| LWP.seq <| rgN <| kmv rfl <| kfa rfl rfl ?_; refine kl1 rfl rfl rfl <| K.lenX rfl SliceT.h rfl .plain ?_; refine klt rfl rfl (decide_eq_false (by omega)) <| RunK.nil <| LWP.condF rfl ?_; refine LWP.exit ?_)
        refine Leads.le (σ' := ⟨[(2, Lx ad l.length cap), (4, Lp 4), (7, Lp 7)], [(7, some ⟨60, [.val (.slice none 0 0), .val (.int .i64 0)], false⟩), flB 4 f], Y⟩) (Le.of (by exact ⟨rfl, rfl, rfl, trivial⟩) (by exact ⟨rfl, rfl, trivial⟩) (by exact rfl) (by exact rfl) (by repeat' (first | refine all_cons_true ?_ ?_ | rfl | exact bytes_inUse | exact vals_inUse | exact mid_inUse rfl))) (Leads.done ⟨Y, none, 0, hXY, ?_, hgood, by rw [hi0]⟩)
        rw [show a.fs = [] from List.eq_nil_of_length_eq_zero hi0]
        exact ⟨fun i r hr => by simp [noughtF] at hr⟩
      · (refine LWP.seq <| LWP.seq <| rgN <| kmv rfl <| kfa rfl rfl ?_; refine kl1 rfl rfl rfl <| K.lenX rfl SliceT.h rfl .plain ?_; refine klt rfl rfl (decide_eq_false (by omega)) <| RunK.nil <| LWP.condF rfl ?_; refine LWP.exit ?_)
        refine Leads.le (σ' := ⟨[(2, Lx ad l.length cap), (4, Lp 4), (7, Lp 7)], [(7, some ⟨60, ([] : List CV) ++ .slc 600 0 a.fs.length 1 :: [.val (.int .i64 0)], false⟩), (600, some ⟨61, vs.map .val, true⟩), flB 4 f], Y⟩) (Le.of (by exact ⟨rfl, rfl, rfl, trivial⟩) (by exact ⟨rfl, rfl, rfl, trivial⟩) (by exact rfl) (by exact rfl) (by repeat' (first | refine all_cons_true ?_ ?_ | rfl | exact bytes_inUse | exact vals_inUse | exact mid_inUse rfl))) ?_
        refine Leads.freezeCell rfl rfl rfl rfl rfl rfl fun blk c2 arr fr hn _ _ _ hsp => Leads.done ⟨withBlock Y blk (.cells arr 61 fr), some ⟨blk, 0, none⟩, c2, fun b o h => withBlock_old hn b o (hXY b o h), ?_, hgood, rfl⟩
        exact (hv.mono (withBlock_old hn)).frozen (withBlock_at _ _ _) hsp
    obtain ⟨g, hg⟩ : ∃ g, a.fs[i]? = some g := ⟨_, List.getElem?_eq_getElem hlt⟩
    obtain ⟨fb, fo, farr, fel, ffr, rfl, hFX0, hFz, hFc, _, _, hFn⟩ := hA.cells hg
    have hFX := hXY _ _ hFX0
    have hio : fo + Int.toNat (i : Int) * 3 = fo + i * 3 := by simp
    by_cases b1 : g.count < 0
    · rcases hst with ⟨_, rfl⟩ | ⟨_, rfl⟩
      · (refine LWP.seq <| LWP.seq <| rgN <| kmv rfl <| kfa rfl rfl ?_; refine kl1 rfl rfl rfl <| K.lenX rfl SliceT.h rfl .plain ?_; refine klt rfl rfl (decide_eq_true (by omega)) <| RunK.nil <| LWP.condT rfl ?_; refine LWP.skip ?_; refine LWP.seq <| LWP.block <| LWP.seq <| LWP.seq <| rgN <| kfa rfl rfl ?_; refine kl1 rfl rfl rfl <| kmv rfl <| K.indexX rfl rfl SliceT.h (by omega) hio .plain <| K.fieldAddrX rfl rfl .plain ?_; refine K.loadX rfl hFX rfl hFn .plain <| klt rfl rfl (decide_eq_true b1) <| kmv rfl <| RunK.passed rfl rfl rfl <| RunK.passed rfl rfl rfl <| RunK.passed rfl rfl rfl <| RunK.passed rfl rfl rfl <| RunK.passed rfl rfl rfl <| RunK.passed rfl rfl rfl <| RunK.passed rfl rfl rfl <| kpt rfl rfl <| RunK.nil <| LWP.condT rfl ?_; refine LWP.seq <| rgN <| kas rfl <| RunK.nil <| LWP.ret ?_)
        exact ⟨[_], ⟨rfl, trivial⟩, rfl⟩
      · (refine LWP.seq <| LWP.seq <| rgN <| kmv rfl <| kfa rfl rfl ?_; refine kl1 rfl rfl rfl <| K.lenX rfl SliceT.h rfl .plain ?_; refine klt rfl rfl (decide_eq_true (by omega)) <| RunK.nil <| LWP.condT rfl ?_; refine LWP.skip ?_; refine LWP.seq <| LWP.block <| LWP.seq <| LWP.seq <| rgN <| kfa rfl rfl ?_; refine kl1 rfl rfl rfl <| kmv rfl <| K.indexX rfl rfl SliceT.h (by omega) hio .plain <| K.fieldAddrX rfl rfl .plain ?_; refine K.loadX rfl hFX rfl hFn .plain <| klt rfl rfl (decide_eq_true b1) <| kmv rfl <| RunK.passed rfl rfl rfl <| RunK.passed rfl rfl rfl <| RunK.passed rfl rfl rfl <| RunK.passed rfl rfl rfl <| RunK.passed rfl rfl rfl <| RunK.passed rfl rfl rfl <| RunK.passed rfl rfl rfl <| kpt rfl rfl <| RunK.nil <| LWP.condT rfl ?_; refine LWP.seq <| rgN <| kas rfl <| RunK.nil <| LWP.ret ?_)
        exact ⟨[_], ⟨rfl, trivial⟩, rfl⟩
    by_cases b2 : 8 < g.count
    · rcases hst with ⟨_, rfl⟩ | ⟨_, rfl⟩
      · (refine LWP.seq <| LWP.seq <| rgN <| kmv rfl <| kfa rfl rfl ?_; refine kl1 rfl rfl rfl <| K.lenX rfl SliceT.h rfl .plain ?_; refine klt rfl rfl (decide_eq_true (by omega)) <| RunK.nil <| LWP.condT rfl ?_; refine LWP.skip ?_; refine LWP.seq <| LWP.block <| LWP.seq <| LWP.seq <| rgN <| kfa rfl rfl ?_; refine kl1 rfl rfl rfl <| kmv rfl <| K.indexX rfl rfl SliceT.h (by omega) hio .plain <| K.fieldAddrX rfl rfl .plain ?_; refine K.loadX rfl hFX rfl hFn .plain <| klt rfl rfl (decide_eq_false b1) <| kmv rfl <| K.fieldAddr rfl rfl (.taken rfl rfl) ?_; refine K.loadOne rfl rfl rfl (.taken rfl rfl) ?_; refine gmv rfl rfl rfl <| K.indexX rfl rfl SliceT.h (by omega) hio (.taken rfl rfl) ?_; refine K.fieldAddrX rfl rfl (.taken rfl rfl) ?_; refine K.loadX rfl hFX rfl hFn (.taken rfl rfl) ?_; refine K.gtr rfl rfl (decide_eq_true b2) (.taken rfl rfl) ?_; refine kpf rfl rfl <| RunK.nil <| LWP.condT rfl ?_; refine LWP.seq <| rgN <| kas rfl <| RunK.nil <| LWP.ret ?_)
        exact ⟨[_], ⟨rfl, trivial⟩, rfl⟩
      · (refine LWP.seq <| LWP.seq <| rgN <| kmv rfl <| kfa rfl rfl ?_; refine kl1 rfl rfl rfl <| K.lenX rfl SliceT.h rfl .plain ?_; refine klt rfl rfl (decide_eq_true (by omega)) <| RunK.nil <| LWP.condT rfl ?_; refine LWP.skip ?_; refine LWP.seq <| LWP.block <| LWP.seq <| LWP.seq <| rgN <| kfa rfl rfl ?_; refine kl1 rfl rfl rfl <| kmv rfl <| K.indexX rfl rfl SliceT.h (by omega) hio .plain <| K.fieldAddrX rfl rfl .plain ?_; refine K.loadX rfl hFX rfl hFn .plain <| klt rfl rfl (decide_eq_false b1) <| kmv rfl <| K.fieldAddr rfl rfl (.taken rfl rfl) ?_; refine K.loadOne rfl rfl rfl (.taken rfl rfl) ?_; refine gmv rfl rfl rfl <| K.indexX rfl rfl SliceT.h (by omega) hio (.taken rfl rfl) ?_; refine K.fieldAddrX rfl rfl (.taken rfl rfl) ?_; refine K.loadX rfl hFX rfl hFn (.taken rfl rfl) ?_; refine K.gtr rfl rfl (decide_eq_true b2) (.taken rfl rfl) ?_; refine kpf rfl rfl <| RunK.nil <| LWP.condT rfl ?_; refine LWP.seq <| rgN <| kas rfl <| RunK.nil <| LWP.ret ?_)
        exact ⟨[_], ⟨rfl, trivial⟩, rfl⟩
    obtain ⟨cnt, hcnt⟩ : ∃ n : Nat, g.count = (n : Nat) := ⟨g.count.toNat, by omega⟩
    have hgood' : ∀ g ∈ a.fs.take (i + 1), 0 ≤ g.count ∧ g.count ≤ 8 := fun q hq => by
      rw [take_snoc hg] at hq
      rcases List.mem_append.1 hq with hq | hq
      · exact hgood q hq
      · rw [List.mem_singleton.1 hq]; omega
    have hadd : IntKind.i64.wrap ((i : Int) + 1) = ((i + 1 : Nat) : Int) := by rw [wrap_i64 (by omega)]; omega
    have hmk : slcBuild Tryz.prog 61 cnt = some (nmsV (List.replicate cnt (false, 0)), 3, 64) := by
      rw [nmsV_rep]
      exact slcBuild_many (z := #[.bool false, .int .u64 0, .int .u64 0]) (by kernel_rfl) (by kernel_rfl) rfl (by omega)
    have hvl : (vs.map CV.val).length = i * 1 := by rw [List.length_map, hv.1]; unfold noughtF; rw [List.length_map, List.length_take]; omega
    rw [hcnt] at hFn
    rw [hcnt] at b1 b2
    rcases hst with ⟨hi0, rfl⟩ | ⟨hi0, rfl⟩
    · as_aux_lemma =>
        ((refine LWP.seq <| LWP.seq <| rgN <| kmv rfl <| kfa rfl rfl ?_; refine kl1 rfl rfl rfl <| K.lenX rfl SliceT.h rfl .plain ?_; refine klt rfl rfl (decide_eq_true (by omega)) <| RunK.nil <| LWP.condT rfl ?_; refine LWP.skip ?_; refine LWP.seq <| LWP.block <| LWP.seq <| LWP.seq <| rgN <| kfa rfl rfl ?_; refine kl1 rfl rfl rfl <| kmv rfl <| K.indexX rfl rfl SliceT.h (by omega) hio .plain <| K.fieldAddrX rfl rfl .plain ?_; refine K.loadX rfl hFX rfl hFn .plain <| klt rfl rfl (decide_eq_false (by omega)) <| kmv rfl <| K.fieldAddr rfl rfl (.taken rfl rfl) ?_; refine K.loadOne rfl rfl rfl (.taken rfl rfl) ?_; refine gmv rfl rfl rfl <| K.indexX rfl rfl SliceT.h (by omega) hio (.taken rfl rfl) ?_; refine K.fieldAddrX rfl rfl (.taken rfl rfl) ?_; refine K.loadX rfl hFX rfl hFn (.taken rfl rfl) ?_; refine K.gtr rfl rfl (decide_eq_false (by omega)) (.taken rfl rfl) ?_); (refine kpf rfl rfl <| RunK.nil <| LWP.condF rfl ?_; refine LWP.skip ?_; refine rgD mixed <| kfa rfl rfl ?_; refine kl1 rfl rfl rfl <| kfa rfl rfl ?_; refine kl1 rfl rfl rfl <| kmv rfl <| K.indexX rfl rfl SliceT.h (by omega) hio .plain <| K.fieldAddrX rfl rfl .plain ?_; refine K.loadX rfl hFX rfl hFn .plain <| K.makeSlc (m := cnt) (bytes := 24) rfl rfl hmk (by kernel_rfl) (by omega) rfl rfl .plain <| K.buildSlc (zs := [.slice none 0 0]) (sz := 1) (e := 61) (cs' := [.slc 68 0 cnt 3]) (by kernel_rfl) rfl rfl rfl rfl rfl rfl .plain <| K.appendNil (by_ := 24) (e := 61) (e2 := 61) (l2 := [.slc 68 0 cnt 3]) rfl rfl rfl (Nat.le_refl _) rfl rfl (by decide) (by kernel_rfl) (by kernel_rfl) (by omega) (by omega) rfl .plain ?_; refine kfa rfl rfl ?_; refine K.storeOne rfl rfl rfl rfl rfl (nl2 rfl rfl rfl) .plain <| RunK.nil <| rgA ?_; refine rgN <| kmv rfl <| kad rfl rfl hadd <| kas rfl <| RunK.nil ?_))
        refine Leads.le (σ' := ⟨[(2, Lx ad l.length cap), (3, Lp 3), (4, Lp 4), (7, Lp 7), (8, Ln .i64 (i + 1 : Nat))], [(600, some ⟨61, vs.map .val ++ .slc 68 0 cnt 3 :: ([] : List Value).map .val, true⟩), (68, some ⟨64, (nmsV (List.replicate cnt (false, 0))).map .val, false⟩), (7, some ⟨60, [.slc 600 0 (i + 1) 1, .val (.int .i64 0)], false⟩), flB 4 f, cpB 3 a (some ⟨fb, fo, none⟩) acap], Y⟩) ?_ ?_
        · rw [show vs = [] from List.eq_nil_of_length_eq_zero (by have := hv.1; rw [hi0] at this; exact this)]
          subst hi0
          exact Le.ofR [(600, 70)] (by exact ⟨rfl, rfl, rfl, rfl, rfl, trivial⟩) (by repeat' (first | exact trivial | refine And.intro ⟨_, rfl, ?_⟩ ?_ | refine And.intro ⟨_, rfl⟩ ?_ | rfl | exact Box.ren_bytes _ _ _ _ | exact Box.ren_vals _ _ _ _ | exact Box.ren_mid rfl)) (by exact rfl) (by exact rfl) (by repeat' (first | refine all_cons_true ?_ ?_ | rfl | exact bytes_inUse | exact vals_inUse | exact mid_inUse rfl)) (by exact rfl) (by exact rfl)
        refine Leads.freezeCell rfl vals_inUse rfl (by repeat' (first | refine all_cons_true ?_ ?_ | rfl | exact vals_inUse)) rfl rfl fun blk c2 arr fr hn _ _ _ hsp => Leads.done ⟨a.fs.length - (i + 1), by omega, i + 1, vs ++ [.slice (some ⟨blk, 0, none⟩) cnt c2], withBlock Y blk (.cells arr 64 fr), by omega, rfl, fun b o h => withBlock_old hn b o (hXY b o h), ?_, hgood', .inr ⟨by omega, ?_⟩⟩
        · rw [nought_snoc hg hcnt]
          refine (hv.mono (withBlock_old hn)).append ?_
          have hN : NumsIn (withBlock Y blk (.cells arr 64 fr)) (some ⟨blk, 0, none⟩) (List.replicate cnt (false, 0)) := nms_in (withBlock_at _ _ _) (fun u hu => by rw [(List.mem_replicate.1 hu).2]; exact ⟨by decide, by decide⟩) hsp
          have h1 := RowV.one (cap := c2) hN
          rw [List.length_replicate] at h1
          exact h1
        · rw [List.map_append]
          rfl
    · as_aux_lemma =>
        (refine LWP.seq <| LWP.seq <| rgN <| kmv rfl <| kfa rfl rfl ?_; refine kl1 rfl rfl rfl <| K.lenX rfl SliceT.h rfl .plain ?_; refine klt rfl rfl (decide_eq_true (by omega)) <| RunK.nil <| LWP.condT rfl ?_; refine LWP.skip ?_; refine LWP.seq <| LWP.block <| LWP.seq <| LWP.seq <| rgN <| kfa rfl rfl ?_; refine kl1 rfl rfl rfl <| kmv rfl <| K.indexX rfl rfl SliceT.h (by omega) hio .plain <| K.fieldAddrX rfl rfl .plain ?_; refine K.loadX rfl hFX rfl hFn .plain <| klt rfl rfl (decide_eq_false (by omega)) <| kmv rfl <| K.fieldAddr rfl rfl (.taken rfl rfl) ?_; refine K.loadOne rfl rfl rfl (.taken rfl rfl) ?_; refine gmv rfl rfl rfl <| K.indexX rfl rfl SliceT.h (by omega) hio (.taken rfl rfl) ?_; refine K.fieldAddrX rfl rfl (.taken rfl rfl) ?_; refine K.loadX rfl hFX rfl hFn (.taken rfl rfl) ?_; refine K.gtr rfl rfl (decide_eq_false (by omega)) (.taken rfl rfl) ?_; refine kpf rfl rfl <| RunK.nil <| LWP.condF rfl ?_; refine LWP.skip ?_; refine rgD mixed <| kfa rfl rfl ?_; refine kl1 rfl rfl rfl <| kfa rfl rfl ?_; refine kl1 rfl rfl rfl <| kmv rfl <| K.indexX rfl rfl SliceT.h (by omega) hio .plain <| K.fieldAddrX rfl rfl .plain ?_; refine K.loadX rfl hFX rfl hFn .plain <| K.makeSlc (m := cnt) (bytes := 24) rfl rfl hmk (by kernel_rfl) (by omega) rfl rfl .plain <| K.buildSlc (zs := [.slice none 0 0]) (sz := 1) (e := 61) (cs' := [.slc 68 0 cnt 3]) (by kernel_rfl) rfl rfl rfl rfl rfl rfl .plain <| K.appendSlc (by_ := 24) (e2 := 61) (l2 := [.slc 68 0 cnt 3]) (nl := i + 1) (nc := vs.map .val ++ [.slc 68 0 cnt 3]) rfl rfl hvl rfl rfl (Nat.le_refl _) rfl rfl (by kernel_rfl) (by kernel_rfl) (by omega) (by omega) rfl rfl rfl .plain <| kfa rfl rfl ?_; refine K.storeOne rfl rfl rfl rfl rfl (nl2 rfl rfl rfl) .plain <| RunK.nil <| rgA ?_; refine rgN <| kmv rfl <| kad rfl rfl hadd <| kas rfl <| RunK.nil ?_)
        refine Leads.le (σ' := ⟨[(2, Lx ad l.length cap), (3, Lp 3), (4, Lp 4), (7, Lp 7), (8, Ln .i64 (i + 1 : Nat))], [(600, some ⟨61, vs.map .val ++ .slc 68 0 cnt 3 :: ([] : List Value).map .val, true⟩), (68, some ⟨64, (nmsV (List.replicate cnt (false, 0))).map .val, false⟩), (7, some ⟨60, [.slc 600 0 (i + 1) 1, .val (.int .i64 0)], false⟩), flB 4 f, cpB 3 a (some ⟨fb, fo, none⟩) acap], Y⟩) ?_ ?_
        · exact Le.ofR [(600, 70)] (by exact ⟨rfl, rfl, rfl, rfl, rfl, trivial⟩) (by repeat' (first | exact trivial | refine And.intro ⟨_, rfl, ?_⟩ ?_ | refine And.intro ⟨_, rfl⟩ ?_ | rfl | exact Box.ren_bytes _ _ _ _ | exact Box.ren_vals _ _ _ _ | exact Box.ren_mid rfl)) (by exact rfl) (by exact rfl) (by repeat' (first | refine all_cons_true ?_ ?_ | rfl | exact bytes_inUse | exact vals_inUse | exact mid_inUse rfl)) (by exact rfl) (by exact rfl)
        refine Leads.freezeCell rfl vals_inUse rfl (by repeat' (first | refine all_cons_true ?_ ?_ | rfl | exact vals_inUse)) rfl rfl fun blk c2 arr fr hn _ _ _ hsp => Leads.done ⟨a.fs.length - (i + 1), by omega, i + 1, vs ++ [.slice (some ⟨blk, 0, none⟩) cnt c2], withBlock Y blk (.cells arr 64 fr), by omega, rfl, fun b o h => withBlock_old hn b o (hXY b o h), ?_, hgood', .inr ⟨by omega, ?_⟩⟩
        · rw [nought_snoc hg hcnt]
          refine (hv.mono (withBlock_old hn)).append ?_
          have hN : NumsIn (withBlock Y blk (.cells arr 64 fr)) (some ⟨blk, 0, none⟩) (List.replicate cnt (false, 0)) := nms_in (withBlock_at _ _ _) (fun u hu => by rw [(List.mem_replicate.1 hu).2]; exact ⟨by decide, by decide⟩) hsp
          have h1 := RowV.one (cap := c2) hN
          rw [List.length_replicate] at h1
          exact h1
        · rw [List.map_append]
          rfl
  rintro σ ⟨Y, ead, ecap, hXY, hE, hgood, rfl⟩
  replace hin := hin.mono hXY
  (refine LWP.seq <| LWP.seq <| rgN <| kas rfl <| RunK.nil <| LWP.block ?_)
  refine LWP.loop (fun m σ => ∃ i : Nat, i ≤ l.length ∧ m = l.length - i ∧ (∀ x ∈ l.take i, ¬(5 ≤ x.op ∧ x.op ≤ 9)) ∧ σ = ⟨[(2, Lx ad l.length cap), (4, Lp 4), (7, Lp 7), (9, Ln .i64 (i : Nat))], [(7, some ⟨60, [.val (.slice ead a.fs.length ecap), .val (.int .i64 0)], false⟩), flB 4 f], Y⟩) l.length
    ⟨_, Le.of (by exact ⟨rfl, rfl, rfl, rfl, trivial⟩) (by exact ⟨rfl, rfl, trivial⟩) (by exact rfl) (by exact rfl) (by repeat' (first | refine all_cons_true ?_ ?_ | rfl | exact bytes_inUse | exact vals_inUse | exact mid_inUse rfl)), 0, by omega, by omega, fun x hx => (by cases hx), rfl⟩ ?_
  rintro m σ ⟨i, hi, rfl, hpre, rfl⟩
  by_cases hlt : i < l.length
  case pos =>
    obtain ⟨x, hx⟩ : ∃ x, l[i]? = some x := ⟨_, List.getElem?_eq_getElem hlt⟩
    obtain ⟨blk, off, arr, el, fr, rfl, hX, hsz, hcs, g0⟩ := hin.at hx
    have hio : off + Int.toNat (i : Int) * 6 = off + i * 6 := by simp
    have hadd : IntKind.i64.wrap ((i : Int) + 1) = ((i + 1 : Nat) : Int) := by rw [wrap_i64 (by omega)]; omega
    have nx : ¬(5 ≤ x.op ∧ x.op ≤ 9) → ∀ y ∈ l.take (i + 1), ¬(5 ≤ y.op ∧ y.op ≤ 9) := fun h y hy => by
      rw [take_snoc hx] at hy
      rcases List.mem_append.1 hy with hy | hy
      · exact hpre y hy
      · rw [List.mem_singleton.1 hy]; exact h
    by_cases d1 : 5 ≤ x.op
    case neg =>
      (refine LWP.seq <| LWP.seq <| rgN <| kmv rfl <| kmv rfl <| K.lenX rfl SliceT.h rfl .plain ?_; refine klt rfl rfl (decide_eq_true (by omega)) <| RunK.nil <| LWP.condT rfl ?_; refine LWP.skip ?_; refine LWP.seq <| LWP.block <| LWP.seq <| rgN <| kmv rfl <| kmv rfl <| K.indexX rfl rfl SliceT.h (by omega) hio .plain <| K.fieldAddrX rfl rfl .plain ?_; refine K.loadX rfl hX rfl g0 .plain <| K.geq rfl rfl (decide_eq_false (by omega)) .plain <| kmv rfl <| RunK.passed rfl rfl rfl <| RunK.passed rfl rfl rfl <| RunK.passed rfl rfl rfl <| RunK.passed rfl rfl rfl <| RunK.passed rfl rfl rfl <| RunK.passed rfl rfl rfl <| kpf rfl rfl <| RunK.nil <| LWP.condF rfl ?_; refine LWP.skip ?_; refine rgN <| kmv rfl <| kad rfl rfl hadd <| kas rfl <| RunK.nil ?_)
      exact ⟨_, _, by omega, Le.of (by exact ⟨rfl, rfl, rfl, rfl, trivial⟩) (by exact ⟨rfl, rfl, trivial⟩) (by exact rfl) (by exact rfl) (by repeat' (first | refine all_cons_true ?_ ?_ | rfl | exact bytes_inUse | exact vals_inUse | exact mid_inUse rfl)), i + 1, by omega, rfl, nx (fun h => d1 h.1), rfl⟩
    by_cases d2 : x.op ≤ 9
    · (refine LWP.seq <| LWP.seq <| rgN <| kmv rfl <| kmv rfl <| K.lenX rfl SliceT.h rfl .plain ?_; refine klt rfl rfl (decide_eq_true (by omega)) <| RunK.nil <| LWP.condT rfl ?_; refine LWP.skip ?_; refine LWP.seq <| LWP.block <| LWP.seq <| rgN <| kmv rfl <| kmv rfl <| K.indexX rfl rfl SliceT.h (by omega) hio .plain <| K.fieldAddrX rfl rfl .plain ?_; refine K.loadX rfl hX rfl g0 .plain <| K.geq rfl rfl (decide_eq_true (by omega)) .plain <| kmv rfl <| gmv rfl rfl rfl <| gmv rfl rfl rfl <| K.indexX rfl rfl SliceT.h (by omega) hio (.taken rfl rfl) ?_; refine K.fieldAddrX rfl rfl (.taken rfl rfl) ?_; refine K.loadX rfl hX rfl g0 (.taken rfl rfl) ?_; refine K.leq rfl rfl (decide_eq_true d2) (.taken rfl rfl) ?_; refine kpt rfl rfl <| RunK.nil <| LWP.condT rfl ?_; refine LWP.seq <| rgN <| kas rfl <| RunK.nil <| LWP.ret ?_)
      exact ⟨[_], ⟨rfl, trivial⟩, rfl⟩
    · (refine LWP.seq <| LWP.seq <| rgN <| kmv rfl <| kmv rfl <| K.lenX rfl SliceT.h rfl .plain ?_; refine klt rfl rfl (decide_eq_true (by omega)) <| RunK.nil <| LWP.condT rfl ?_; refine LWP.skip ?_; refine LWP.seq <| LWP.block <| LWP.seq <| rgN <| kmv rfl <| kmv rfl <| K.indexX rfl rfl SliceT.h (by omega) hio .plain <| K.fieldAddrX rfl rfl .plain ?_; refine K.loadX rfl hX rfl g0 .plain <| K.geq rfl rfl (decide_eq_true (by omega)) .plain <| kmv rfl <| gmv rfl rfl rfl <| gmv rfl rfl rfl <| K.indexX rfl rfl SliceT.h (by omega) hio (.taken rfl rfl) ?_; refine K.fieldAddrX rfl rfl (.taken rfl rfl) ?_; refine K.loadX rfl hX rfl g0 (.taken rfl rfl) ?_; refine K.leq rfl rfl (decide_eq_false d2) (.taken rfl rfl) ?_; refine kpt rfl rfl <| RunK.nil <| LWP.condF rfl ?_; refine LWP.skip ?_; refine rgN <| kmv rfl <| kad rfl rfl hadd <| kas rfl <| RunK.nil ?_)
      exact ⟨_, _, by omega, Le.of (by exact ⟨rfl, rfl, rfl, rfl, trivial⟩) (by exact ⟨rfl, rfl, trivial⟩) (by exact rfl) (by exact rfl) (by repeat' (first | refine all_cons_true ?_ ?_ | rfl | exact bytes_inUse | exact vals_inUse | exact mid_inUse rfl)), i + 1, by omega, rfl, nx (fun h => d2 h.2), rfl⟩
  have e : i = l.length := by omega
  subst e
  rw [List.take_length] at hpre
  obtain ⟨fn, hfn⟩ : ∃ n : Nat, f.count = (n : Nat) := ⟨f.count.toNat, by omega⟩
  (refine LWP.seq <| LWP.seq <| rgN <| kmv rfl <| kmv rfl <| K.lenX rfl SliceT.h rfl .plain ?_; refine klt rfl rfl (decide_eq_false (by omega)) <| RunK.nil <| LWP.condF rfl ?_; refine LWP.exit <| LWP.seq <| LWP.seq <| rgN <| kas rfl <| RunK.nil <| LWP.block ?_)
  refine LWP.loop (fun m σ => ∃ (i : Nat) (v : Int), i ≤ fn ∧ m = fn - i ∧ σ = ⟨[(2, Lx ad l.length cap), (4, Lp 4), (7, Lp 7), (10, Ln .i64 (i : Nat))], [(7, some ⟨60, [.val (.slice ead a.fs.length ecap), .val (.int .i64 v)], false⟩), flB 4 f], Y⟩) fn
    ⟨_, Le.of (by exact ⟨rfl, rfl, rfl, rfl, trivial⟩) (by exact ⟨rfl, rfl, trivial⟩) (by exact rfl) (by exact rfl) (by repeat' (first | refine all_cons_true ?_ ?_ | rfl | exact bytes_inUse | exact vals_inUse | exact mid_inUse rfl)), 0, 0, by omega, by omega, rfl⟩ ?_
  rintro m σ ⟨i, v, hi, rfl, rfl⟩
  by_cases hlt : i < fn
  case neg =>
    (refine LWP.seq <| LWP.seq <| rgN <| kmv rfl <| kfa rfl rfl ?_; refine kl1 rfl rfl rfl <| klt rfl rfl (decide_eq_false (by omega)) <| RunK.nil <| LWP.condF rfl ?_; refine LWP.exit <| LWP.seq <| rgN <| kas rfl <| RunK.nil <| LWP.ret ?_)
    exact ⟨[_], ⟨rfl, trivial⟩, rfl⟩
  have hadd : IntKind.i64.wrap ((i : Int) + 1) = ((i + 1 : Nat) : Int) := by rw [wrap_i64 (by omega)]; omega
  have hEv := gEval Y l ad cap hin (by omega) ead ecap (noughtF a.fs) hE (by unfold noughtF; rw [List.length_map]; omega) (fun r hr => by
    obtain ⟨g, hg, rfl⟩ := List.mem_map.1 hr
    have := hgood g hg
    rw [List.length_replicate]; omega) (fun r hr u hu => by
    obtain ⟨g, hg, rfl⟩ := List.mem_map.1 hr
    rw [(List.mem_replicate.1 hu).2]; exact ⟨by decide, by decide⟩) (i : Nat) (by omega)
  have hfine := evX_fine (enough (fs := a.fs) (f := f) (at_ := (i : Nat)) (l := l) (by omega) (by omega) c4 (fun x hx => (hin.small x hx).2.2.2.1) hpre)
  rw [exR_eq] at hEv
  rw [show (noughtF a.fs).length = a.fs.length by unfold noughtF; rw [List.length_map]] at hEv
  generalize exV (evX l (noughtF a.fs) (i : Nat)) = w at *
  generalize exE (evX l (noughtF a.fs) (i : Nat)) = e at *
  obtain ⟨wb, wN⟩ := w
  rcases hfine with rfl | rfl
  · (refine LWP.seq <| LWP.seq <| rgN <| kmv rfl <| kfa rfl rfl ?_; refine kl1 rfl rfl rfl <| klt rfl rfl (decide_eq_true (by omega)) <| RunK.nil <| LWP.condT rfl ?_; refine LWP.skip ?_; refine LWP.seq <| LWP.block <| LWP.seq <| rgN <| kmv rfl <| kfa rfl rfl ?_; refine K.storeOne rfl rfl rfl rfl rfl (nl2 rfl rfl rfl) .plain <| RunK.nil <| LWP.seq <| rgN <| kmv rfl <| K.loadAll rfl rfl rfl .plain ?_; refine kca rfl rfl hEv <| kmv rfl <| kex rfl rfl <| kex rfl rfl <| K.alloc rfl .plain ?_; refine K.storeAll rfl rfl rfl rfl rfl rfl .plain ?_; refine kas rfl <| RunK.nil <| LWP.seq <| rgN <| kmv rfl <| kne rfl rfl (r := false) rfl <| kmv rfl <| RunK.passed rfl rfl rfl <| RunK.passed rfl rfl rfl <| kpf rfl rfl <| RunK.nil <| LWP.condF rfl ?_; refine LWP.skip ?_; refine rgN <| kmv rfl <| kad rfl rfl hadd <| kas rfl <| RunK.nil ?_)
    exact ⟨_, _, by omega, Le.of (by exact ⟨rfl, rfl, rfl, rfl, trivial⟩) (by exact ⟨rfl, rfl, trivial⟩) (by exact rfl) (by exact rfl) (by repeat' (first | refine all_cons_true ?_ ?_ | rfl | exact bytes_inUse | exact vals_inUse | exact mid_inUse rfl)), i + 1, (i : Nat), by omega, rfl, rfl⟩
  · (refine LWP.seq <| LWP.seq <| rgN <| kmv rfl <| kfa rfl rfl ?_; refine kl1 rfl rfl rfl <| klt rfl rfl (decide_eq_true (by omega)) <| RunK.nil <| LWP.condT rfl ?_; refine LWP.skip ?_; refine LWP.seq <| LWP.block <| LWP.seq <| rgN <| kmv rfl <| kfa rfl rfl ?_; refine K.storeOne rfl rfl rfl rfl rfl (nl2 rfl rfl rfl) .plain <| RunK.nil <| LWP.seq <| rgN <| kmv rfl <| K.loadAll rfl rfl rfl .plain ?_; refine kca rfl rfl hEv <| kmv rfl <| kex rfl rfl <| kex rfl rfl <| K.alloc rfl .plain ?_; refine K.storeAll rfl rfl rfl rfl rfl rfl .plain ?_; refine kas rfl <| RunK.nil <| LWP.seq <| rgN <| kmv rfl <| kne rfl rfl (r := true) rfl <| kmv rfl <| gmv rfl rfl rfl <| K.neq rfl rfl (r := false) rfl (.taken rfl rfl) ?_; refine kpt rfl rfl <| RunK.nil <| LWP.condF rfl ?_; refine LWP.skip ?_; refine rgN <| kmv rfl <| kad rfl rfl hadd <| kas rfl <| RunK.nil ?_)
    exact ⟨_, _, by omega, Le.of (by exact ⟨rfl, rfl, rfl, rfl, trivial⟩) (by exact ⟨rfl, rfl, trivial⟩) (by exact rfl) (by exact rfl) (by repeat' (first | refine all_cons_true ?_ ?_ | rfl | exact bytes_inUse | exact vals_inUse | exact mid_inUse rfl)), i + 1, (i : Nat), by omega, rfl, rfl⟩
end Go.Proofs.YtnfbccfghgmfiaaGreat
end
