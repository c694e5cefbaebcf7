/- A piece of a proof over this program: contracts of its functions, and a logic to prove them by. -/
import Derived.Test.YtkdbkgfdggbhkaaP2
import Derived.Test.YtkdbkgfdggbhkaaP3
import Derived.Test.YtkdbkgfdggbhkaaP5
import Derived.Test.YtkdbkgfdggbhkaaRows
section
namespace Go.Proofs.Ytkdbkgfdggbhkaa
open Go Go.Lg
set_option maxRecDepth 100000
structure Dd where
  kind : Int
  i : Int
  e : Nat
def Dd.vals (d : Dd) : List Value := [.int .i64 d.kind, .int .i64 d.i, .int .u64 (d.e : Nat)]
structure DdsIn (X : Nat → Option Obj) (ad : Option Addr) (ds : List Dd) : Prop where
  rows : Go.Lg.RowsIn X ad 3 (ds.map Dd.vals)
  small : ∀ d ∈ ds, (-9223372036854775808 ≤ d.kind ∧ d.kind < 9223372036854775808) ∧ (-9223372036854775808 ≤ d.i ∧ d.i < 9223372036854775808) ∧ d.e < 18446744073709551616
theorem DdsIn.at {X : Nat → Option Obj} {ad : Option Addr} {ds : List Dd} (h : DdsIn X ad ds) {i : Nat} {d : Dd} (hf : ds[i]? = some d) :
    ∃ (blk off : Nat) (arr : Array Value) (el : TypeId) (fr : Nat × Nat), ad = some ⟨blk, off, none⟩ ∧ X blk = some (.cells arr el fr) ∧ off + i * 3 + 3 ≤ arr.size ∧ ((arr.toList.drop (off + i * 3)).take 3).map CV.val = [.val (.int .i64 d.kind), .val (.int .i64 d.i), .val (.int .u64 (d.e : Nat))] := by
  obtain ⟨blk, off, arr, el, fr, h1, h2, h3, h4⟩ := h.rows i d.vals (by rw [List.getElem?_map, hf]; rfl)
  exact ⟨blk, off, arr, el, fr, h1, h2, h3, by rw [h4]; rfl⟩
theorem alN_pos {l : List Ei} {h : Nat} : decide (((alN l h : Nat) : Int) > 0) = aliveB l h := by
  unfold alN
  cases ha : aliveB l h with
  | false => rfl
  | true =>
    obtain ⟨i, gen, h1, _⟩ := alive_at ha
    rw [if_pos rfl, h1, decide_eq_true (by omega)]
variable (X : Nat → Option Obj)
set_option maxHeartbeats 3200000 in
theorem ents_spec (l m : List Nat) (ad ad2 : Option Addr) (cap cap2 : Nat) (ha : EntsIn X ad l) (hb : EntsIn X ad2 m) (hbig : l.length < 4611686018427387904) (r : Bool) (hr : decide (l = m) = r) :
    PSpec Try.prog X 23 [.sv (.one (.val (.slice ad l.length cap))), .sv (.one (.val (.slice ad2 m.length cap2)))] (Lb r) := by
  subst hr
  refine PSpec.intro Try.func23 rfl (by kernel_rfl) rfl rfl ?_
  intro C
  by_cases hl : l.length = m.length
  · (refine LWP.seq <| LWP.region (by kernel_rfl) <| kas rfl <| RunK.nil <| LWP.seq <| LWP.seq <| LWP.region (by kernel_rfl) <| kmv rfl <| K.lenX rfl SliceT.h rfl .plain ?_; refine kmv rfl <| K.lenX rfl SliceT.h rfl .plain ?_; refine kne rfl rfl (r := false) (by rw [hl]; simp) <| RunK.nil <| LWP.condF rfl ?_; refine LWP.skip ?_; refine LWP.seq <| LWP.seq <| LWP.region (by kernel_rfl) <| kas rfl <| RunK.nil <| LWP.block ?_)
    refine LWP.loop (fun q σ => ∃ i : Nat, i ≤ l.length ∧ q = l.length - i ∧ l.take i = m.take i ∧ σ = ⟨[(0, .sv (.one (.val (.slice ad l.length cap)))), (1, .sv (.one (.val (.slice ad2 m.length cap2)))), (5, Ln .i64 (i : Nat))], [], X⟩) l.length
      ⟨_, Le.of (by exact ⟨rfl, rfl, rfl, trivial⟩) (by exact trivial) (by exact rfl) (by exact rfl) (by exact rfl), 0, by omega, rfl, rfl, rfl⟩ ?_
    rintro q σ ⟨i, hi, rfl, hpre, rfl⟩
    by_cases hlt : i < l.length
    · obtain ⟨f, hf⟩ : ∃ v, l[i]? = some v := ⟨_, List.getElem?_eq_getElem hlt⟩
      obtain ⟨f', hf'⟩ : ∃ v, m[i]? = some v := ⟨_, List.getElem?_eq_getElem (by omega)⟩
      obtain ⟨blk, off, arr, el, fr, rfl, hX, hcells⟩ := ha.at_ i f hf
      obtain ⟨blk', off', arr', el', fr', rfl, hX', hcells'⟩ := hb.at_ i f' hf'
      have hio : off + Int.toNat (i : Int) * 1 = off + i * 1 := by simp
      have hio' : off' + Int.toNat (i : Int) * 1 = off' + i * 1 := by simp
      have hadd : IntKind.i64.wrap (((i : Nat) : Int) + 1) = ((i + 1 : Nat) : Int) := by rw [wrap_i64 (by omega)]; omega
      by_cases hq : f = f'
      · (refine LWP.seq <| LWP.seq <| LWP.region (by kernel_rfl) <| kmv rfl <| kmv rfl <| K.lenX rfl SliceT.h rfl .plain ?_; refine klt rfl rfl (decide_eq_true (by omega)) <| RunK.nil <| LWP.condT rfl ?_; refine LWP.skip ?_; refine LWP.seq <| LWP.block <| LWP.seq <| LWP.draws mixed (by kernel_rfl) <| kmv rfl <| kmv rfl <| K.indexX rfl rfl SliceT.h (by omega) hio .plain <| K.loadX rfl hX rfl hcells .plain <| kmv rfl <| kmv rfl <| K.indexX rfl rfl SliceT.h (by omega) hio' .plain <| K.loadX rfl hX' rfl hcells' .plain <| kne rfl rfl (r := false) (bne_eq_false_iff_eq.2 (by omega)) <| RunK.nil ?_; refine And.intro (by kernel_rfl) ?_; refine LWP.condF rfl ?_; refine LWP.skip ?_; refine LWP.region (by kernel_rfl) <| kmv rfl <| kad rfl rfl hadd <| kas rfl <| RunK.nil ?_)
        exact ⟨_, _, by omega, Le.of (by exact ⟨rfl, rfl, rfl, trivial⟩) (by exact trivial) (by exact rfl) (by exact rfl) (by exact rfl), i + 1, by omega, rfl, by rw [tk_snoc hf, tk_snoc hf', hpre, hq], rfl⟩
      · rw [decide_eq_false (show ¬l = m from fun e => hq (by rw [e, hf'] at hf; exact (Option.some.inj hf).symm))]
        (refine LWP.seq <| LWP.seq <| LWP.region (by kernel_rfl) <| kmv rfl <| kmv rfl <| K.lenX rfl SliceT.h rfl .plain ?_; refine klt rfl rfl (decide_eq_true (by omega)) <| RunK.nil <| LWP.condT rfl ?_; refine LWP.skip ?_; refine LWP.seq <| LWP.block <| LWP.seq <| LWP.draws mixed (by kernel_rfl) <| kmv rfl <| kmv rfl <| K.indexX rfl rfl SliceT.h (by omega) hio .plain <| K.loadX rfl hX rfl hcells .plain <| kmv rfl <| kmv rfl <| K.indexX rfl rfl SliceT.h (by omega) hio' .plain <| K.loadX rfl hX' rfl hcells' .plain <| kne rfl rfl (r := true) (bne_iff_ne.2 (by omega)) <| RunK.nil ?_; refine And.intro (by kernel_rfl) ?_; refine LWP.condT rfl ?_; refine LWP.seq <| LWP.region (by kernel_rfl) <| kas rfl <| RunK.nil <| LWP.ret ?_)
        exact ⟨[_], ⟨rfl, trivial⟩, rfl⟩
    · have e : i = l.length := by omega
      subst e
      rw [List.take_length, List.take_of_length_le (by omega)] at hpre
      rw [decide_eq_true hpre]
      (refine LWP.seq <| LWP.seq <| LWP.region (by kernel_rfl) <| kmv rfl <| kmv rfl <| K.lenX rfl SliceT.h rfl .plain ?_; refine klt rfl rfl (decide_eq_false (by omega)) <| RunK.nil <| LWP.condF rfl ?_; refine LWP.exit <| LWP.seq <| LWP.region (by kernel_rfl) <| kas rfl <| RunK.nil <| LWP.ret ?_)
      exact ⟨[_], ⟨rfl, trivial⟩, rfl⟩
  · rw [decide_eq_false (show ¬l = m from fun e => hl (by rw [e]))]
    (refine LWP.seq <| LWP.region (by kernel_rfl) <| kas rfl <| RunK.nil <| LWP.seq <| LWP.seq <| LWP.region (by kernel_rfl) <| kmv rfl <| K.lenX rfl SliceT.h rfl .plain ?_; refine kmv rfl <| K.lenX rfl SliceT.h rfl .plain ?_; refine kne rfl rfl (r := true) (by rw [bne_iff_ne]; omega) <| RunK.nil <| LWP.condT rfl ?_; refine LWP.seq <| LWP.region (by kernel_rfl) <| kas rfl <| RunK.nil <| LWP.ret ?_)
    exact ⟨[_], ⟨rfl, trivial⟩, rfl⟩
theorem ents_lent {S : Nat → Option (Option Box)} {l m : List Nat} {j k n1 n2 : Nat} {e1 e2 : TypeId} {row1 row2 : Bool} {r : Bool} (hbig : l.length < 4611686018427387904) (hr : decide (l = m) = r) (h1 : n1 = l.length) (h2 : n2 = m.length) (hj : S j = some (some ⟨e1, (u64V l).map .val, row1⟩)) (hk : S k = some (some ⟨e2, (u64V m).map .val, row2⟩)) :
    ∀ (Y : Nat → Option Obj) (us : List Value), (∀ b o, X b = some o → Y b = some o) → LentLs S Y [.sv (.one (.slc j 0 n1)), .sv (.one (.slc k 0 n2))] us → PSpec Try.prog Y 23 (us.map toLV) (Lb r) := by
  subst h1 h2
  intro Y us hY hL
  obtain ⟨u1, us1, rfl, g1, u2, us2, rfl, g2, rfl⟩ := hL
  obtain ⟨b1, blk1, cap1, m1, hq1, rfl, hc1, hf1, hB1⟩ := g1
  obtain ⟨b2, blk2, cap2, m2, hq2, rfl, hc2, hf2, hB2⟩ := g2
  rw [hj] at hq1
  rw [hk] at hq2
  simp only [Option.some.injEq] at hq1 hq2
  subst hq1 hq2
  obtain ⟨arr1, fr1, us1', sp1, hY1, hsz1, harr1, hv1⟩ := hB1
  obtain ⟨arr2, fr2, us2', sp2, hY2, hsz2, harr2, hv2⟩ := hB2
  have := hv1 (u64V l) rfl
  subst this
  have := hv2 (u64V m) rfl
  subst this
  exact ents_spec Y l m (some ⟨blk1, 0, none⟩) (some ⟨blk2, 0, none⟩) cap1 cap2 (ents_block hY1 ⟨sp1, harr1⟩) (ents_block hY2 ⟨sp2, harr2⟩) hbig r hr
theorem ents_lent0 {S : Nat → Option (Option Box)} {k n2 : Nat} {e2 : TypeId} {row2 : Bool} (h2 : n2 = 0) (hk : S k = some (some ⟨e2, (u64V []).map .val, row2⟩)) :
    ∀ (Y : Nat → Option Obj) (us : List Value), (∀ b o, X b = some o → Y b = some o) → LentLs S Y [.sv (.one (.val (.slice none 0 0))), .sv (.one (.slc k 0 n2))] us → PSpec Try.prog Y 23 (us.map toLV) (Lb true) := by
  subst h2
  intro Y us hY hL
  obtain ⟨u1, us1, rfl, g1, u2, us2, rfl, g2, rfl⟩ := hL
  have g1 : u1 = .slice none 0 0 := g1
  subst g1
  obtain ⟨b2, blk2, cap2, m2, hq2, rfl, hc2, hf2, hB2⟩ := g2
  rw [hk] at hq2
  simp only [Option.some.injEq] at hq2
  subst hq2
  obtain ⟨arr2, fr2, us2', sp2, hY2, hsz2, harr2, hv2⟩ := hB2
  have := hv2 (u64V []) rfl
  subst this
  exact ents_spec Y [] [] none (some ⟨blk2, 0, none⟩) 0 cap2 EntsIn.nil (ents_block hY2 ⟨sp2, harr2⟩) (by decide) true rfl
end Go.Proofs.Ytkdbkgfdggbhkaa
end
section
namespace Go.Proofs.Ytkdbkgfdggbhkaa
open Go Go.Lg Go.RowKit Go.ChangeShapes Go.WideShapes Go.Joins
set_option maxRecDepth 100000
section
variable {H : Type} {enc : TypeId × Value → H} {w : World}
theorem open_acts {r : Reach} {b0 : Nat} {v : Value} {d : DataW H} {p : List MemPlace} (hv : Value.okWide Try.prog w r b0 22 v) (h : DataW.Trod enc Try.prog w 0 (fun _ => true) true 22 v d p) :
    ∃ (ad : Option Addr) (cap : Nat) (ds : List Dd), v = .slice ad ds.length cap ∧ ds.length ≤ cap ∧ cap ≤ maxLen ∧ DdsIn (fun b => w.heap[b]?) ad ds := by
  obtain ⟨ad, cap, rows, rfl, h1, h2, h3, h4, _⟩ := open_rows (e := 47) (sz := 3) (by kernel_rfl) (by kernel_rfl) (by decide) hv h
  obtain ⟨ds, rfl, h5⟩ := map_of (f := Dd.vals) (q := fun d => (-9223372036854775808 ≤ d.kind ∧ d.kind < 9223372036854775808) ∧ (-9223372036854775808 ≤ d.i ∧ d.i < 9223372036854775808) ∧ d.e < 18446744073709551616) (vs := rows) (fun u hu => by
    obtain ⟨hlen, n, x, hx⟩ := h4 u hu
    obtain ⟨y0, y1, y2, n', _, _, g0, g1, g2⟩ := Deep.trod_struct3 (t := 47) Try.underlying47 hx
    obtain ⟨c0, c1, c2, rfl⟩ : ∃ c0 c1 c2, u = [c0, c1, c2] := by
      match u, hlen with
      | [c0, c1, c2], _ => exact ⟨c0, c1, c2, rfl⟩
    obtain ⟨k, e0, _, w0⟩ := DataW.trod_int (k := .i64) (by kernel_rfl) g0
    obtain ⟨c, e1, _, w1⟩ := DataW.trod_int (k := .i64) (by kernel_rfl) g1
    obtain ⟨s, e2, _, w2⟩ := DataW.trod_int (k := .u64) (by kernel_rfl) g2
    have q0 : c0 = .int .i64 k := by simpa using (show ([c0, c1, c2].drop 0).take 1 = [.int .i64 k] from e0)
    have q1 : c1 = .int .i64 c := by simpa using (show ([c0, c1, c2].drop 1).take 1 = [.int .i64 c] from e1)
    have q2 : c2 = .int .u64 s := by simpa using (show ([c0, c1, c2].drop 2).take 1 = [.int .u64 s] from e2)
    subst q0 q1 q2
    have b0 := bounds_i64 w0
    have b1 := bounds_i64 w1
    have b2 := bounds_u64 w2
    obtain ⟨s', rfl⟩ : ∃ s' : Nat, s = (s' : Int) := ⟨s.toNat, by omega⟩
    exact ⟨⟨k, c, s'⟩, rfl, by show (-9223372036854775808 ≤ k ∧ k < 9223372036854775808) ∧ (-9223372036854775808 ≤ c ∧ c < 9223372036854775808) ∧ s' < 18446744073709551616; omega⟩)
  exact ⟨ad, cap, ds, by rw [List.length_map], by rw [List.length_map] at h1; exact h1, h2, h3, h5⟩
end
end Go.Proofs.Ytkdbkgfdggbhkaa
end
section
namespace Go.Proofs.Ytkdbkgfdggbhkaa
open Go Go.Lg
set_option maxRecDepth 100000
theorem rest_u {v : Int} (k : Nat) (hk : 0 < k) (hk2 : k < 9223372036854775808) : ∃ r : Nat, r < k ∧ (IntKind.u64.wrap v).tmod (k : Int) = (r : Nat) := by
  have h0 : 0 ≤ IntKind.u64.wrap v ∧ IntKind.u64.wrap v < 18446744073709551616 := by
    simp only [IntKind.wrap, IntKind.bits, IntKind.signed]
    simp
    omega
  refine ⟨((IntKind.u64.wrap v).tmod (k : Int)).toNat, ?_, ?_⟩
  · have := Int.tmod_lt_of_pos (IntKind.u64.wrap v) (show (0 : Int) < (k : Int) by omega)
    have := Int.tmod_nonneg (k : Int) h0.1
    omega
  · have := Int.tmod_nonneg (k : Int) h0.1
    omega
theorem least_ok {g : Nat} {l : List Ei} (hk : OkX g l) {k : Nat} {x : Ei} (hx : l[k]? = some x) (hf : freeE x = false) : (x.2 = 1 ∧ givE x = x.1 ∧ aliveB l (hdl (k + 1) (givE x)) = true) ∨ (x.2 = 2 ∧ givE x = g ∧ aliveB l (hdl (k + 1) (givE x)) = false) := by
  have hl := hk.ids
  have hi := (List.getElem?_eq_some_iff.1 hx).1
  obtain ⟨h1, h2, h3⟩ := hk.ok x (List.mem_of_getElem? hx)
  obtain ⟨gen, st⟩ := x
  have h1 : 1 ≤ gen ∧ gen ≤ g := h1
  have h2 : st ≤ 2 := h2
  have h3 : st = 2 → gen = g := h3
  have hP : ∀ q, aliveB l (hdl (k + 1) q) = (st == 1 && gen == q) := fun q => by
    rw [aliveB_hdl (by omega)]; unfold aliveP; rw [who_suc, hx]; rfl
  rcases (show st = 0 ∨ st = 1 ∨ st = 2 by omega) with rfl | rfl | rfl
  · cases hf
  · have e : givE (gen, 1) = gen := by show gen - 1 + 1 = gen; omega
    exact .inl ⟨rfl, e, by rw [hP, e]; simp⟩
  · have e : givE (gen, 2) = gen := by show gen - 1 + 1 = gen; omega
    exact .inr ⟨rfl, e.trans (h3 rfl), by rw [hP]; rfl⟩
theorem ret_given {g : Nat} {l : List Ei} (hk : OkX g l) {k : Nat} {x : Ei} (hx : l[k]? = some x) : (x.2 = 2 → givE x = g ∧ aliveB l (hdl (k + 1) g) = false) ∧ (x.2 ≠ 2 → givE x = g → aliveB l (hdl (k + 1) g) = true) := by
  have hl := hk.ids
  have hg := hk.gens
  have hi := (List.getElem?_eq_some_iff.1 hx).1
  obtain ⟨h1, h2, h3⟩ := hk.ok x (List.mem_of_getElem? hx)
  obtain ⟨gen, st⟩ := x
  have h1 : 1 ≤ gen ∧ gen ≤ g := h1
  have h2 : st ≤ 2 := h2
  have h3 : st = 2 → gen = g := h3
  have hP : ∀ q, aliveB l (hdl (k + 1) q) = (st == 1 && gen == q) := fun q => by
    rw [aliveB_hdl (by omega)]; unfold aliveP; rw [who_suc, hx]; rfl
  rcases (show st = 0 ∨ st = 1 ∨ st = 2 by omega) with rfl | rfl | rfl
  · refine ⟨fun e => ?_, fun _ e => ?_⟩
    · cases e
    · have e : gen - 1 + 0 = g := e
      omega
  · refine ⟨fun e => ?_, fun _ e => ?_⟩
    · cases e
    · have e : gen - 1 + 1 = g := e
      rw [hP, show gen = g by omega]; simp
  · refine ⟨fun _ => ⟨?_, by rw [hP]; rfl⟩, fun e => absurd rfl e⟩
    have := h3 rfl
    show gen - 1 + 1 = g
    omega
theorem ofH_hdl {i gen : Nat} (h1 : 1 ≤ i) (h2 : i < 4294967296) (h3 : 1 ≤ gen) (h4 : gen < 4294967296) : ofH (i : Nat) (gen : Nat) = hdl i gen := if_pos (by omega)
instance : ArrB Try.prog 64 (List.replicate 10 (.int .i64 0)) 1 := ⟨by kernel_rfl⟩
variable (X : Nat → Option Obj)
set_option maxHeartbeats 25600000 in
theorem entityLeast_law (ids gens : Int) (ts : List Int) (tad : Option Addr) (tcap : Nat) (hT : TurnsIn X tad ts) (hb : ts.length < 9223372036854775808) :
    PSpec Try.prog X 6 [Ln .i64 ids, Ln .i64 gens, .sv (.one (.val (.slice tad ts.length tcap)))] (Lb true) := by
  have hW := awake15_spec X
  refine PSpec.intro Try.func6 rfl (by kernel_rfl) rfl rfl ?_
  intro C
  obtain ⟨p, hp8, hp⟩ := rest_u (v := ids) 8 (by decide) (by decide)
  obtain ⟨q, hq4, hq⟩ := rest_u (v := gens) 4 (by decide) (by decide)
  have hpw : IntKind.i64.wrap ((p : Nat) : Int) = ((p : Nat) : Int) := wrap_i64 (by omega)
  have hqw : IntKind.i64.wrap ((q : Nat) : Int) = ((q : Nat) : Int) := wrap_i64 (by omega)
  have hpa : IntKind.i64.wrap (1 + ((p : Nat) : Int)) = ((p + 1 : Nat) : Int) := by rw [wrap_i64 (by omega)]; omega
  have hqa : IntKind.i64.wrap (1 + ((q : Nat) : Int)) = ((q + 1 : Nat) : Int) := by rw [wrap_i64 (by omega)]; omega
  have hN := iNew X (p + 1) (q + 1) (by omega) (by omega)
  have hbuild : ∃ cs : List CV, cs = (gvV (newE (p + 1))).map .val ∧ cs = List.replicate 10 (.val (.int .i64 0)) := ⟨_, rfl, by rw [gv_new (by omega), List.map_replicate]⟩
  (refine LWP.seq <| LWP.region (by kernel_rfl) <| kas rfl <| RunK.nil <| LWP.seq <| LWP.seq <| LWP.region (by kernel_rfl) <| kca rfl rfl (hW) <| K.not rfl rfl .plain <| RunK.nil <| LWP.condF rfl ?_; refine LWP.skip ?_; refine LWP.seq <| LWP.region (by kernel_rfl) <| kmv rfl <| kcv rfl rfl ?_; refine K.rem rfl rfl (by decide) hp .plain <| kcv rfl hpw ?_; refine kad rfl rfl hpa <| kas rfl <| RunK.nil <| LWP.seq <| LWP.region (by kernel_rfl) <| kmv rfl <| kcv rfl rfl ?_; refine K.rem rfl rfl (by decide) hq .plain <| kcv rfl hqw ?_; refine kad rfl rfl hqa <| kas rfl <| RunK.nil <| LWP.seq <| LWP.region (by kernel_rfl) <| kmv rfl <| kmv rfl <| K.callMp [(1000001, 500)] (Lp 500) [xB 500 (q + 1) (newE (p + 1))] (hN) rfl rfl (by exact trivial) rfl rfl rfl rfl rfl (by exact (.box rfl rfl .nil)) .plain <| kas rfl <| RunK.nil <| LWP.seq <| LWP.region (by kernel_rfl) <| K.buildArr rfl rfl (by exact rfl) rfl .plain ?_; refine K.alloc rfl .plain ?_; refine K.storeAll rfl rfl rfl rfl rfl rfl .plain ?_; refine RunK.nil <| LWP.seq <| LWP.seq <| LWP.region (by kernel_rfl) <| kas rfl <| RunK.nil <| LWP.block ?_)
  have hOk : OkX (q + 1) (newE (p + 1)) := OkX.new (by omega) (by omega)
  have hnl : (newE (p + 1)).length = p + 1 := by unfold newE; rw [List.length_replicate]
  refine LWP.le (σ' := ⟨[(2, .sv (.one (.val (.slice tad ts.length tcap)))), (7, Ln .i64 (p + 1 : Nat)), (8, Ln .i64 (q + 1 : Nat)), (9, Lp 500), (10, Lp 10), (11, Ln .i64 (0 : Nat))], [xB 500 (q + 1) (newE (p + 1)), (10, some ⟨64, (gvV (newE (p + 1))).map .val, false⟩)], X⟩) ?_ ?_
  · obtain ⟨cs, h1, h2⟩ := hbuild
    rw [← h1, h2]
    exact Le.of (by exact ⟨rfl, rfl, rfl, rfl, rfl, rfl, trivial⟩) (by exact ⟨rfl, rfl, trivial⟩) (by exact rfl) (by exact rfl) (by repeat' (first | refine all_cons_true ?_ ?_ | rfl | exact bytes_inUse | exact vals_inUse | exact mid_inUse rfl))
  clear hN hp hq hpw hqw hpa hqa hW hbuild
  have hnn : p + 1 ≤ 8 := by omega
  have hgg : q + 1 ≤ 4 := by omega
  generalize newE (p + 1) = l at *
  generalize q + 1 = g at *
  generalize p + 1 = n at *
  clear hp8 hq4
  repeat refine LWP.seq ?_
  refine LWP.meetB (fun σ => ∃ l : List Ei, OkX g l ∧ l.length = n ∧ σ = ⟨[(7, Ln .i64 (n : Nat)), (8, Ln .i64 (g : Nat)), (9, Lp 500), (10, Lp 10)], [xB 500 g (l), (10, some ⟨64, (gvV (l)).map .val, false⟩)], X⟩) ?_ ?_
  · refine LWP.loopL (fun m σ => ∃ (i : Nat) (l : List Ei), i ≤ ts.length ∧ i ≤ 300 ∧ m = ts.length - i ∧ OkX g l ∧ l.length = n ∧ σ = ⟨[(2, .sv (.one (.val (.slice tad ts.length tcap)))), (7, Ln .i64 (n : Nat)), (8, Ln .i64 (g : Nat)), (9, Lp 500), (10, Lp 10), (11, Ln .i64 (i : Nat))], [xB 500 g (l), (10, some ⟨64, (gvV (l)).map .val, false⟩)], X⟩) ts.length
      (Leads.le (σ' := ⟨[(2, .sv (.one (.val (.slice tad ts.length tcap)))), (7, Ln .i64 (n : Nat)), (8, Ln .i64 (g : Nat)), (9, Lp 500), (10, Lp 10), (11, Ln .i64 (0 : Nat))], [xB 500 g (l), (10, some ⟨64, (gvV (l)).map .val, false⟩)], X⟩) (Le.of (by exact ⟨rfl, rfl, rfl, rfl, rfl, rfl, trivial⟩) (by exact ⟨rfl, rfl, trivial⟩) (by exact rfl) (by exact rfl) (by repeat' (first | refine all_cons_true ?_ ?_ | rfl | exact bytes_inUse | exact vals_inUse | exact mid_inUse rfl))) (Leads.done ⟨0, l, by omega, by omega, by omega, hOk, hnl, rfl⟩)) ?_
    clear hOk hnl
    clear l
    rintro m σ ⟨i, l, hi, hi3, rfl, hOk, hnl, rfl⟩
    by_cases hlt : i < ts.length
    case neg =>
      (refine LWP.seq <| LWP.seq <| LWP.region (by kernel_rfl) <| kmv rfl <| kmv rfl <| K.lenX rfl SliceT.h rfl .plain ?_; refine klt rfl rfl (decide_eq_false (by omega)) <| kmv rfl <| RunK.passed rfl rfl rfl <| RunK.passed rfl rfl rfl <| kpf rfl rfl <| RunK.nil <| LWP.condF rfl ?_; refine LWP.exit ?_)
      exact Leads.le (σ' := ⟨[(7, Ln .i64 (n : Nat)), (8, Ln .i64 (g : Nat)), (9, Lp 500), (10, Lp 10)], [xB 500 g (l), (10, some ⟨64, (gvV (l)).map .val, false⟩)], X⟩) (Le.of (by exact ⟨rfl, rfl, rfl, rfl, trivial⟩) (by exact ⟨rfl, rfl, trivial⟩) (by exact rfl) (by exact rfl) (by repeat' (first | refine all_cons_true ?_ ?_ | rfl | exact bytes_inUse | exact vals_inUse | exact mid_inUse rfl))) (Leads.done ⟨l, hOk, hnl, rfl⟩)
    by_cases hl3 : i < 300
    case neg =>
      (refine LWP.seq <| LWP.seq <| LWP.region (by kernel_rfl) <| kmv rfl <| kmv rfl <| K.lenX rfl SliceT.h rfl .plain ?_; refine klt rfl rfl (decide_eq_true (by omega)) <| kmv rfl <| gmv rfl rfl rfl <| K.lss rfl rfl (decide_eq_false (by omega)) (.taken rfl rfl) ?_; refine kpt rfl rfl <| RunK.nil <| LWP.condF rfl ?_; refine LWP.exit ?_)
      exact Leads.le (σ' := ⟨[(7, Ln .i64 (n : Nat)), (8, Ln .i64 (g : Nat)), (9, Lp 500), (10, Lp 10)], [xB 500 g (l), (10, some ⟨64, (gvV (l)).map .val, false⟩)], X⟩) (Le.of (by exact ⟨rfl, rfl, rfl, rfl, trivial⟩) (by exact ⟨rfl, rfl, trivial⟩) (by exact rfl) (by exact rfl) (by repeat' (first | refine all_cons_true ?_ ?_ | rfl | exact bytes_inUse | exact vals_inUse | exact mid_inUse rfl))) (Leads.done ⟨l, hOk, hnl, rfl⟩)
    (refine LWP.seq <| LWP.seq <| LWP.region (by kernel_rfl) <| kmv rfl <| kmv rfl <| K.lenX rfl SliceT.h rfl .plain ?_; refine klt rfl rfl (decide_eq_true (by omega)) <| kmv rfl <| gmv rfl rfl rfl <| K.lss rfl rfl (decide_eq_true (by omega)) (.taken rfl rfl) ?_; refine kpt rfl rfl <| RunK.nil <| LWP.condT rfl ?_; refine LWP.skip ?_; refine LWP.seq <| LWP.block <| LWP.seq ?_)
    refine LWP.le (σ' := ⟨[(2, .sv (.one (.val (.slice tad ts.length tcap)))), (7, Ln .i64 (n : Nat)), (8, Ln .i64 (g : Nat)), (9, Lp 500), (10, Lp 10), (11, Ln .i64 (i : Nat))], [xB 500 g (l), (10, some ⟨64, (gvV (l)).map .val, false⟩)], X⟩) (Le.of (by exact ⟨rfl, rfl, rfl, rfl, rfl, rfl, trivial⟩) (by exact ⟨rfl, rfl, trivial⟩) (by exact rfl) (by exact rfl) (by repeat' (first | refine all_cons_true ?_ ?_ | rfl | exact bytes_inUse | exact vals_inUse | exact mid_inUse rfl))) ?_
    repeat refine LWP.seq ?_
    refine LWP.meetL (fun σ => ∃ (Y : Nat → Option Obj) (lad : Option Addr) (lcap : Nat), (∀ b o, X b = some o → Y b = some o) ∧ EntsIn Y lad (liveL l) ∧ σ = ⟨[(12, .sv (.one (.val (.slice lad (liveL l).length lcap)))), (2, .sv (.one (.val (.slice tad ts.length tcap)))), (7, Ln .i64 (n : Nat)), (8, Ln .i64 (g : Nat)), (9, Lp 500), (10, Lp 10), (11, Ln .i64 (i : Nat))], [xB 500 g (l), (10, some ⟨64, (gvV (l)).map .val, false⟩)], Y⟩) ?_ ?_
    · cases hm : lvMade (liveL l) with
      | false =>
        have hL := iLive_none X g l hOk hm
        have hz := lvMade_nil hm
        (refine LWP.region (by kernel_rfl) <| kmv rfl <| K.callM [(1000000, 500)] [xB 500 g l] (hL) rfl rfl (by exact (And.intro ⟨_, rfl, rfl⟩ trivial)) (by exact (all_cons_true rfl rfl)) rfl rfl rfl rfl (by exact (.box rfl rfl .nil)) .plain <| kas rfl <| RunK.nil ?_)
        exact Leads.here (σ' := ⟨[(12, .sv (.one (.val (.slice none 0 0)))), (2, .sv (.one (.val (.slice tad ts.length tcap)))), (7, Ln .i64 (n : Nat)), (8, Ln .i64 (g : Nat)), (9, Lp 500), (10, Lp 10), (11, Ln .i64 (i : Nat))], [xB 500 g (l), (10, some ⟨64, (gvV (l)).map .val, false⟩)], X⟩) (Le.of (by exact ⟨rfl, rfl, rfl, rfl, rfl, rfl, rfl, trivial⟩) (by exact ⟨rfl, rfl, trivial⟩) (by exact rfl) (by exact rfl) (by repeat' (first | refine all_cons_true ?_ ?_ | rfl | exact bytes_inUse | exact vals_inUse | exact mid_inUse rfl))) ⟨X, none, 0, fun _ _ h => h, by rw [hz]; exact EntsIn.nil, by rw [hz]; rfl⟩
      | true =>
        have hL := iLive X g l hOk hm
        (refine LWP.region (by kernel_rfl) <| kmv rfl <| K.callMp [(1000000, 500), (1000001, 601)] (.sv (.one (.slc 601 0 (liveL l).length 1))) [xB 500 g l, lvB 601 (liveL l)] (hL) rfl rfl (by exact (And.intro ⟨_, rfl, rfl⟩ trivial)) (by exact (all_cons_true rfl rfl)) rfl rfl rfl rfl (by exact (.box rfl rfl (.box rfl (Box.ren_vals _ _ _ _) .nil))) .plain <| kas rfl <| RunK.nil ?_)
        refine Leads.le (σ' := ⟨[(12, .sv (.one (.slc 601 0 (liveL l).length 1))), (2, .sv (.one (.val (.slice tad ts.length tcap)))), (7, Ln .i64 (n : Nat)), (8, Ln .i64 (g : Nat)), (9, Lp 500), (10, Lp 10), (11, Ln .i64 (i : Nat))], [lvB 601 (liveL l), xB 500 g (l), (10, some ⟨64, (gvV (l)).map .val, false⟩)], X⟩) (Le.of (by exact ⟨rfl, rfl, rfl, rfl, rfl, rfl, rfl, trivial⟩) (by exact ⟨rfl, rfl, rfl, trivial⟩) (by exact rfl) (by exact rfl) (by repeat' (first | refine all_cons_true ?_ ?_ | rfl | exact bytes_inUse | exact vals_inUse | exact mid_inUse rfl))) ?_
        refine Leads.freeze rfl (by repeat' (first | refine all_cons_true ?_ ?_ | rfl | exact vals_inUse)) rfl fun blk c2 arr fr hn _ _ _ hsp => ?_
        exact Leads.done ⟨_, some ⟨blk, 0, none⟩, c2, withBlock_old hn, ents_block (withBlock_at _ _ _) hsp, rfl⟩
    rintro σ ⟨Y, lad, lcap, hY, hE, rfl⟩
    have hTY := hT.mono hY
    obtain ⟨v, hv⟩ : ∃ v, ts[i]? = some v := ⟨_, List.getElem?_eq_getElem hlt⟩
    obtain ⟨tb, to, tarr, tel, tfr, rfl, hTX, hTa⟩ := hTY.at hv
    have hio : to + Int.toNat (i : Int) * 1 = to + i * 1 := by simp
    have hadd : IntKind.i64.wrap (((i : Nat) : Int) + 1) = ((i + 1 : Nat) : Int) := by rw [wrap_i64 (by omega)]; omega
    have hl256 : l.length ≤ 256 := by omega
    have hll := live_le l 0
    have hlL : (liveL l).length ≤ 8 := by unfold liveL; omega
    have hsm : ∀ h ∈ liveL l, h < 18446744073709551616 := fun h hh => by
      obtain ⟨i', gen, g1, rfl, _⟩ := live_alive hl256 hh
      have := (List.getElem?_eq_some_iff.1 g1).1
      exact hdl_lt (by omega) (hOk.gen _ (List.mem_of_getElem? g1))
    (refine LWP.seq <| LWP.seq <| LWP.region (by kernel_rfl) <| kas rfl <| RunK.nil <| LWP.block ?_)
    refine LWP.loopL (fun m σ => ∃ k : Nat, (k = 0 ∨ k + 1 ≤ (liveL l).length) ∧ m = (liveL l).length - k ∧ σ = ⟨[(13, Ln .i64 (k + 1 : Nat)), (12, .sv (.one (.val (.slice lad (liveL l).length lcap)))), (2, .sv (.one (.val (.slice (some ⟨tb, to, none⟩) ts.length tcap)))), (7, Ln .i64 (n : Nat)), (8, Ln .i64 (g : Nat)), (9, Lp 500), (10, Lp 10), (11, Ln .i64 (i : Nat))], [xB 500 g (l), (10, some ⟨64, (gvV (l)).map .val, false⟩)], Y⟩) (liveL l).length
      (Leads.le (σ' := ⟨[(13, Ln .i64 (0 + 1 : Nat)), (12, .sv (.one (.val (.slice lad (liveL l).length lcap)))), (2, .sv (.one (.val (.slice (some ⟨tb, to, none⟩) ts.length tcap)))), (7, Ln .i64 (n : Nat)), (8, Ln .i64 (g : Nat)), (9, Lp 500), (10, Lp 10), (11, Ln .i64 (i : Nat))], [xB 500 g (l), (10, some ⟨64, (gvV (l)).map .val, false⟩)], Y⟩) (Le.of (by exact ⟨rfl, rfl, rfl, rfl, rfl, rfl, rfl, rfl, trivial⟩) (by exact ⟨rfl, rfl, trivial⟩) (by exact rfl) (by exact rfl) (by repeat' (first | refine all_cons_true ?_ ?_ | rfl | exact bytes_inUse | exact vals_inUse | exact mid_inUse rfl))) (Leads.done ⟨0, .inl rfl, by omega, rfl⟩)) ?_
    rintro m σ ⟨k, hk, rfl, rfl⟩
    by_cases hkl : k + 1 < (liveL l).length
    · obtain ⟨a, ha⟩ : ∃ a, (liveL l)[k]? = some a := ⟨_, List.getElem?_eq_getElem (by omega)⟩
      obtain ⟨b, hb2⟩ : ∃ b, (liveL l)[k + 1]? = some b := ⟨_, List.getElem?_eq_getElem hkl⟩
      have hrise := live_next hl256 ha hb2
      obtain ⟨lb, lo, larr, lel, lfr, rfl, hLX, hLa⟩ := hE.at_ k a ha
      obtain ⟨_, _, larr2, lel2, lfr2, e2, hLX2, hLb⟩ := hE.at_ (k + 1) b hb2
      cases e2
      have ho1 : lo + Int.toNat (k : Int) * 1 = lo + k * 1 := by simp
      have ho2 : lo + Int.toNat ((k + 1 : Nat) : Int) * 1 = lo + (k + 1) * 1 := by simp
      have hsub : IntKind.i64.wrap (((k + 1 : Nat) : Int) - 1) = ((k : Nat) : Int) := by rw [wrap_i64 (by omega)]; omega
      have haddk : IntKind.i64.wrap (((k + 1 : Nat) : Int) + 1) = ((k + 1 + 1 : Nat) : Int) := by rw [wrap_i64 (by omega)]; omega
      have hA := iId Y a (hsm a (List.mem_of_getElem? ha))
      have hB := iId Y b (hsm b (List.mem_of_getElem? hb2))
      generalize a % 4294967296 = p at *
      generalize b % 4294967296 = q at *
      (refine LWP.seq <| LWP.seq <| LWP.region (by kernel_rfl) <| kmv rfl <| kmv rfl <| K.lenX rfl SliceT.h rfl .plain ?_; refine klt rfl rfl (decide_eq_true (by omega)) <| RunK.nil <| LWP.condT rfl ?_; refine LWP.skip ?_; refine LWP.seq <| LWP.block <| LWP.seq <| LWP.draws mixed (by kernel_rfl) <| kmv rfl <| kmv rfl <| K.sub rfl rfl hsub .plain <| K.indexX rfl rfl SliceT.h (by omega) ho1 .plain <| K.loadX rfl hLX rfl hLa .plain <| kca rfl rfl hA <| kmv rfl <| kmv rfl <| K.indexX rfl rfl SliceT.h (by omega) ho2 .plain <| K.loadX rfl hLX2 rfl hLb .plain ?_; refine kca rfl rfl hB <| K.geq rfl rfl (decide_eq_false (by omega)) .plain <| RunK.nil <| And.intro (by kernel_rfl) ?_; refine LWP.condF rfl ?_; refine LWP.skip ?_; refine LWP.region (by kernel_rfl) <| kmv rfl <| kad rfl rfl haddk <| kas rfl <| RunK.nil ?_)
      exact Leads.le (σ' := ⟨[(13, Ln .i64 (k + 1 + 1 : Nat)), (12, .sv (.one (.val (.slice (some ⟨lb, lo, none⟩) (liveL l).length lcap)))), (2, .sv (.one (.val (.slice (some ⟨tb, to, none⟩) ts.length tcap)))), (7, Ln .i64 (n : Nat)), (8, Ln .i64 (g : Nat)), (9, Lp 500), (10, Lp 10), (11, Ln .i64 (i : Nat))], [xB 500 g (l), (10, some ⟨64, (gvV (l)).map .val, false⟩)], Y⟩) (Le.of (by exact ⟨rfl, rfl, rfl, rfl, rfl, rfl, rfl, rfl, trivial⟩) (by exact ⟨rfl, rfl, trivial⟩) (by exact rfl) (by exact rfl) (by repeat' (first | refine all_cons_true ?_ ?_ | rfl | exact bytes_inUse | exact vals_inUse | exact mid_inUse rfl))) (Leads.done ⟨(liveL l).length - (k + 1), by omega, k + 1, .inr (by omega), rfl, rfl⟩)
    (refine LWP.seq <| LWP.seq <| LWP.region (by kernel_rfl) <| kmv rfl <| kmv rfl <| K.lenX rfl SliceT.h rfl .plain ?_; refine klt rfl rfl (decide_eq_false (by omega)) <| RunK.nil <| LWP.condF rfl ?_; refine LWP.exit <| LWP.seq <| LWP.seq ?_)
    refine LWP.le (σ' := ⟨[(12, .sv (.one (.val (.slice lad (liveL l).length lcap)))), (2, .sv (.one (.val (.slice (some ⟨tb, to, none⟩) ts.length tcap)))), (7, Ln .i64 (n : Nat)), (8, Ln .i64 (g : Nat)), (9, Lp 500), (10, Lp 10), (11, Ln .i64 (i : Nat))], [xB 500 g (l), (10, some ⟨64, (gvV (l)).map .val, false⟩)], Y⟩) (Le.of (by exact ⟨rfl, rfl, rfl, rfl, rfl, rfl, rfl, trivial⟩) (by exact ⟨rfl, rfl, trivial⟩) (by exact rfl) (by exact rfl) (by repeat' (first | refine all_cons_true ?_ ?_ | rfl | exact bytes_inUse | exact vals_inUse | exact mid_inUse rfl))) ?_
    by_cases c1 : v.tmod 3 = 0
    case neg =>
      (refine LWP.region (by kernel_rfl) <| kmv rfl <| kmv rfl <| K.indexX rfl rfl SliceT.h (by omega) hio .plain <| K.loadX rfl hTX rfl hTa .plain <| K.rem rfl rfl (by decide) rfl .plain <| keq rfl rfl (r := false) (beq_eq_false_iff_ne.2 c1) <| kmv rfl <| RunK.passed rfl rfl rfl <| RunK.passed rfl rfl rfl <| RunK.passed rfl rfl rfl <| kpf rfl rfl <| RunK.nil <| LWP.condF rfl ?_; refine LWP.skip ?_; refine LWP.seq ?_)
      refine LWP.le (σ' := ⟨[(12, .sv (.one (.val (.slice lad (liveL l).length lcap)))), (2, .sv (.one (.val (.slice (some ⟨tb, to, none⟩) ts.length tcap)))), (7, Ln .i64 (n : Nat)), (8, Ln .i64 (g : Nat)), (9, Lp 500), (10, Lp 10), (11, Ln .i64 (i : Nat))], [xB 500 g (l), (10, some ⟨64, (gvV (l)).map .val, false⟩)], Y⟩) (Le.of (by exact ⟨rfl, rfl, rfl, rfl, rfl, rfl, rfl, trivial⟩) (by exact ⟨rfl, rfl, trivial⟩) (by exact rfl) (by exact rfl) (by repeat' (first | refine all_cons_true ?_ ?_ | rfl | exact bytes_inUse | exact vals_inUse | exact mid_inUse rfl))) ?_
      cases hnx : nextE l with
      | none =>
        have hSp := iSpawn_no Y g l hOk hnx
        (refine LWP.region (by kernel_rfl) <| kmv rfl <| K.callM [(1000000, 500)] [xB 500 g l] (hSp) rfl rfl (by exact (And.intro ⟨_, rfl, rfl⟩ trivial)) (by exact (all_cons_true rfl rfl)) rfl rfl rfl rfl (by exact (.box rfl rfl .nil)) .plain <| kmv rfl <| kex rfl rfl <| kex rfl rfl <| kas rfl <| kas rfl <| RunK.nil <| LWP.seq <| LWP.seq <| LWP.region (by kernel_rfl) <| kmv rfl <| kne rfl rfl (r := true) rfl ?_; refine RunK.nil <| LWP.condT rfl ?_; refine LWP.exit <| LWP.region (by kernel_rfl) <| kmv rfl <| kad rfl rfl hadd <| kas rfl <| RunK.nil ?_)
        refine Leads.le (σ' := ⟨[(2, .sv (.one (.val (.slice (some ⟨tb, to, none⟩) ts.length tcap)))), (7, Ln .i64 (n : Nat)), (8, Ln .i64 (g : Nat)), (9, Lp 500), (10, Lp 10), (11, Ln .i64 (i + 1 : Nat))], [xB 500 g (l), (10, some ⟨64, (gvV (l)).map .val, false⟩)], Y⟩) (Le.of (by exact ⟨rfl, rfl, rfl, rfl, rfl, rfl, trivial⟩) (by exact ⟨rfl, rfl, trivial⟩) (by exact rfl) (by exact rfl) (by repeat' (first | refine all_cons_true ?_ ?_ | rfl | exact bytes_inUse | exact vals_inUse | exact mid_inUse rfl))) ?_
        exact Leads.le (Le.drop hY) (Leads.done ⟨ts.length - (i + 1), by omega, i + 1, l, by omega, by omega, rfl, hOk, hnl, rfl⟩)
      | some i' =>
      obtain ⟨gen, hx, hlow⟩ := next_at hnx
      have hi' := (List.getElem?_eq_some_iff.1 hx).1
      have hgen := (hOk.ok _ (List.mem_of_getElem? hx)).1
      have hgen : 1 ≤ gen ∧ gen ≤ g := hgen
      have hSp := iSpawn Y g l hOk hnx hx
      have hh64 := hdl_lt (i := i' + 1) (gen := gen) (by omega) (by omega)
      have hI := iId Y (hdl (i' + 1) gen) hh64
      have hG := iGen Y (hdl (i' + 1) gen) hh64
      rw [hdl_id (by omega)] at hI
      rw [hdl_gen (by omega)] at hG
      have hOk2 := hOk.spawn hx
      have hgv := gv_at hx
      have hgl : ((gvV l).map CV.val).length = 10 := gv_len (by omega)
      have hix : 0 + Int.toNat ((i' + 1 : Nat) : Int) * 1 = 0 + (i' + 1) * 1 := by simp
      have hge0 : givE (gen, 0) = gen - 1 := rfl
      have hge1 : givE (gen, 1) = gen := by show gen - 1 + 1 = gen; omega
      have hinc : IntKind.i64.wrap (((givE (gen, 0) : Nat) : Int) + 1) = ((gen : Nat) : Int) := by rw [hge0, wrap_i64 (by omega)]; omega
      have hset := gv_set hx (gen, 1)
      rw [hge1] at hset
      have hroom : Nat.blt (0 + (i' + 1) * 1) ((gvV l).map CV.val).length = true := by rw [hgl, Nat.blt_eq]; omega
      generalize hdl (i' + 1) gen = h at *
      (refine LWP.region (by kernel_rfl) <| kmv rfl <| K.callM [(1000000, 500)] [xB 500 g (l.set i' (gen, 1))] (hSp) rfl rfl (by exact (And.intro ⟨_, rfl, rfl⟩ trivial)) (by exact (all_cons_true rfl rfl)) rfl rfl rfl rfl (by exact (.box rfl rfl .nil)) .plain <| kmv rfl <| kex rfl rfl <| kex rfl rfl <| kas rfl <| kas rfl <| RunK.nil <| LWP.seq <| LWP.seq <| LWP.region (by kernel_rfl) <| kmv rfl <| kne rfl rfl (r := false) rfl ?_; refine RunK.nil <| LWP.condF rfl ?_; refine LWP.skip ?_; refine LWP.seq <| LWP.region (by kernel_rfl) <| kmv rfl <| kca rfl rfl hI <| kas rfl <| RunK.nil <| LWP.seq <| LWP.seq <| LWP.draws mixed (by kernel_rfl) <| kmv rfl <| klt rfl rfl (decide_eq_false (by omega)) <| kmv rfl <| gmv rfl rfl rfl <| gmv rfl rfl rfl ?_; refine K.gtr rfl rfl (decide_eq_false (by omega)) (.taken rfl rfl) ?_; refine kpf rfl rfl <| kmv rfl <| gmv rfl rfl rfl <| gca rfl rfl hG rfl rfl <| gmv rfl rfl rfl <| K.indexArr rfl rfl (by omega) hix (.taken rfl rfl) ?_; refine K.loadOne rfl rfl hgv (.taken rfl rfl) ?_; refine K.add rfl rfl hinc (.taken rfl rfl) ?_; refine K.neq rfl rfl (r := false) (bne_eq_false_iff_eq.2 rfl) (.taken rfl rfl) ?_; refine kpf rfl rfl <| kmv rfl <| gmv rfl rfl rfl <| gca rfl rfl hG rfl rfl <| gmv rfl rfl rfl <| K.gtr rfl rfl (decide_eq_false (by omega)) (.taken rfl rfl) ?_; refine kpf rfl rfl <| RunK.nil <| And.intro (by kernel_rfl) ?_; refine LWP.condF rfl ?_; refine LWP.skip ?_; refine LWP.seq <| LWP.region (by kernel_rfl) <| kmv rfl <| K.indexArr rfl rfl (by omega) hix .plain ?_; refine kl1 rfl rfl hgv <| kad rfl rfl hinc <| K.indexArr rfl rfl (by omega) hix .plain ?_; refine K.storeOne rfl rfl rfl rfl hroom hset .plain <| RunK.nil <| LWP.seq <| LWP.region (by kernel_rfl) <| kas rfl <| RunK.nil <| LWP.block ?_)
      refine LWP.loopL (fun m σ => ∃ k : Nat, k ≤ i' ∧ m = i' - k ∧ σ = ⟨[(16, Ln .i64 (i' + 1 : Nat)), (17, Ln .i64 (k + 1 : Nat)), (2, .sv (.one (.val (.slice (some ⟨tb, to, none⟩) ts.length tcap)))), (7, Ln .i64 (n : Nat)), (8, Ln .i64 (g : Nat)), (9, Lp 500), (10, Lp 10), (11, Ln .i64 (i : Nat))], [xB 500 g (l.set i' (gen, 1)), (10, some ⟨64, (gvV (l.set i' (gen, 1))).map .val, false⟩)], Y⟩) i'
        (Leads.le (σ' := ⟨[(16, Ln .i64 (i' + 1 : Nat)), (17, Ln .i64 (0 + 1 : Nat)), (2, .sv (.one (.val (.slice (some ⟨tb, to, none⟩) ts.length tcap)))), (7, Ln .i64 (n : Nat)), (8, Ln .i64 (g : Nat)), (9, Lp 500), (10, Lp 10), (11, Ln .i64 (i : Nat))], [xB 500 g (l.set i' (gen, 1)), (10, some ⟨64, (gvV (l.set i' (gen, 1))).map .val, false⟩)], Y⟩) (Le.of (by exact ⟨rfl, rfl, rfl, rfl, rfl, rfl, rfl, rfl, trivial⟩) (by exact ⟨rfl, rfl, trivial⟩) (by exact rfl) (by exact rfl) (by repeat' (first | refine all_cons_true ?_ ?_ | rfl | exact bytes_inUse | exact vals_inUse | exact mid_inUse rfl))) (Leads.done ⟨0, by omega, by omega, rfl⟩)) ?_
      rintro m σ ⟨k, hk, rfl, rfl⟩
      by_cases hkl : k < i'
      case neg =>
        (refine LWP.seq <| LWP.seq <| LWP.region (by kernel_rfl) <| kmv rfl <| kmv rfl <| klt rfl rfl (decide_eq_false (by omega)) <| RunK.nil <| LWP.condF rfl ?_; refine LWP.exit <| LWP.region (by kernel_rfl) <| kmv rfl <| kad rfl rfl hadd <| kas rfl <| RunK.nil ?_)
        refine Leads.le (σ' := ⟨[(2, .sv (.one (.val (.slice (some ⟨tb, to, none⟩) ts.length tcap)))), (7, Ln .i64 (n : Nat)), (8, Ln .i64 (g : Nat)), (9, Lp 500), (10, Lp 10), (11, Ln .i64 (i + 1 : Nat))], [xB 500 g (l.set i' (gen, 1)), (10, some ⟨64, (gvV (l.set i' (gen, 1))).map .val, false⟩)], Y⟩) (Le.of (by exact ⟨rfl, rfl, rfl, rfl, rfl, rfl, trivial⟩) (by exact ⟨rfl, rfl, trivial⟩) (by exact rfl) (by exact rfl) (by repeat' (first | refine all_cons_true ?_ ?_ | rfl | exact bytes_inUse | exact vals_inUse | exact mid_inUse rfl))) ?_
        exact Leads.le (Le.drop hY) (Leads.done ⟨ts.length - (i + 1), by omega, i + 1, l.set i' (gen, 1), by omega, by omega, rfl, hOk2, by rw [List.length_set]; exact hnl, rfl⟩)
      obtain ⟨x, hkx⟩ : ∃ x, l[k]? = some x := ⟨_, List.getElem?_eq_getElem (by omega)⟩
      have hkx2 : (l.set i' (gen, 1))[k]? = some x := by rw [List.getElem?_set_ne (by omega)]; exact hkx
      have hgk := gv_at hkx2
      have hxk := (hOk.ok _ (List.mem_of_getElem? hkx)).1
      have hok : 0 + Int.toNat ((k + 1 : Nat) : Int) * 1 = 0 + (k + 1) * 1 := by simp
      have haddk : IntKind.i64.wrap (((k + 1 : Nat) : Int) + 1) = ((k + 1 + 1 : Nat) : Int) := by rw [wrap_i64 (by omega)]; omega
      have hO := iOf Y (k + 1 : Nat) (givE x : Nat)
      rcases least_ok hOk2 hkx2 (hlow k x hkl hkx) with ⟨s1, s2, s3⟩ | ⟨s1, s2, s3⟩
      · rw [ofH_hdl (by omega) (by omega) (by omega) (by omega)] at hO
        have hA := iAlive Y g (l.set i' (gen, 1)) hOk2 (hdl (k + 1) (givE x)) (hdl_lt (by omega) (by omega))
        rw [s3] at hA
        generalize hdl (k + 1) (givE x) = h2 at *
        (refine LWP.seq <| LWP.seq <| LWP.region (by kernel_rfl) <| kmv rfl <| kmv rfl <| klt rfl rfl (decide_eq_true (by omega)) <| RunK.nil <| LWP.condT rfl ?_; refine LWP.skip ?_; refine LWP.seq <| LWP.block <| LWP.seq <| LWP.region (by kernel_rfl) <| kmv rfl <| kmv rfl <| kmv rfl <| K.indexArr rfl rfl (by omega) hok .plain ?_; refine kl1 rfl rfl hgk <| kca rfl rfl hO <| K.callM [(1000000, 500)] [xB 500 g (l.set i' (gen, 1))] (hA) rfl rfl (by exact (And.intro ⟨_, rfl, rfl⟩ trivial)) (by exact (all_cons_true rfl rfl)) rfl rfl rfl rfl (by exact (.box rfl rfl .nil)) .plain <| K.not rfl rfl .plain <| kmv rfl <| RunK.passed rfl rfl rfl <| RunK.passed rfl rfl rfl <| RunK.passed rfl rfl rfl <| RunK.passed rfl rfl rfl <| RunK.passed rfl rfl rfl <| kpf rfl rfl <| RunK.nil <| LWP.condF rfl ?_; refine LWP.skip ?_; refine LWP.region (by kernel_rfl) <| kmv rfl <| kad rfl rfl haddk <| kas rfl <| RunK.nil ?_)
        exact Leads.le (σ' := ⟨[(16, Ln .i64 (i' + 1 : Nat)), (17, Ln .i64 (k + 1 + 1 : Nat)), (2, .sv (.one (.val (.slice (some ⟨tb, to, none⟩) ts.length tcap)))), (7, Ln .i64 (n : Nat)), (8, Ln .i64 (g : Nat)), (9, Lp 500), (10, Lp 10), (11, Ln .i64 (i : Nat))], [xB 500 g (l.set i' (gen, 1)), (10, some ⟨64, (gvV (l.set i' (gen, 1))).map .val, false⟩)], Y⟩) (Le.of (by exact ⟨rfl, rfl, rfl, rfl, rfl, rfl, rfl, rfl, trivial⟩) (by exact ⟨rfl, rfl, trivial⟩) (by exact rfl) (by exact rfl) (by repeat' (first | refine all_cons_true ?_ ?_ | rfl | exact bytes_inUse | exact vals_inUse | exact mid_inUse rfl))) (Leads.done ⟨i' - (k + 1), by omega, k + 1, by omega, rfl, rfl⟩)
      · have hgb := hOk.gens
        rw [ofH_hdl (by omega) (by omega) (by omega) (by omega)] at hO
        have hA := iAlive Y g (l.set i' (gen, 1)) hOk2 (hdl (k + 1) (givE x)) (hdl_lt (by omega) (by omega))
        rw [s3] at hA
        generalize hdl (k + 1) (givE x) = h2 at *
        (refine LWP.seq <| LWP.seq <| LWP.region (by kernel_rfl) <| kmv rfl <| kmv rfl <| klt rfl rfl (decide_eq_true (by omega)) <| RunK.nil <| LWP.condT rfl ?_; refine LWP.skip ?_; refine LWP.seq <| LWP.block <| LWP.seq <| LWP.region (by kernel_rfl) <| kmv rfl <| kmv rfl <| kmv rfl <| K.indexArr rfl rfl (by omega) hok .plain ?_; refine kl1 rfl rfl hgk <| kca rfl rfl hO <| K.callM [(1000000, 500)] [xB 500 g (l.set i' (gen, 1))] (hA) rfl rfl (by exact (And.intro ⟨_, rfl, rfl⟩ trivial)) (by exact (all_cons_true rfl rfl)) rfl rfl rfl rfl (by exact (.box rfl rfl .nil)) .plain <| K.not rfl rfl .plain <| kmv rfl <| gmv rfl rfl rfl <| K.indexArr rfl rfl (by omega) hok (.taken rfl rfl) ?_; refine K.loadOne rfl rfl hgk (.taken rfl rfl) ?_; refine gmv rfl rfl rfl <| K.lss rfl rfl (decide_eq_false (by omega)) (.taken rfl rfl) ?_; refine kpt rfl rfl <| RunK.nil <| LWP.condF rfl ?_; refine LWP.skip ?_; refine LWP.region (by kernel_rfl) <| kmv rfl <| kad rfl rfl haddk <| kas rfl <| RunK.nil ?_)
        exact Leads.le (σ' := ⟨[(16, Ln .i64 (i' + 1 : Nat)), (17, Ln .i64 (k + 1 + 1 : Nat)), (2, .sv (.one (.val (.slice (some ⟨tb, to, none⟩) ts.length tcap)))), (7, Ln .i64 (n : Nat)), (8, Ln .i64 (g : Nat)), (9, Lp 500), (10, Lp 10), (11, Ln .i64 (i : Nat))], [xB 500 g (l.set i' (gen, 1)), (10, some ⟨64, (gvV (l.set i' (gen, 1))).map .val, false⟩)], Y⟩) (Le.of (by exact ⟨rfl, rfl, rfl, rfl, rfl, rfl, rfl, rfl, trivial⟩) (by exact ⟨rfl, rfl, trivial⟩) (by exact rfl) (by exact rfl) (by repeat' (first | refine all_cons_true ?_ ?_ | rfl | exact bytes_inUse | exact vals_inUse | exact mid_inUse rfl))) (Leads.done ⟨i' - (k + 1), by omega, k + 1, by omega, rfl, rfl⟩)
    by_cases c2 : 0 < (liveL l).length
    case neg =>
      (refine LWP.region (by kernel_rfl) <| kmv rfl <| kmv rfl <| K.indexX rfl rfl SliceT.h (by omega) hio .plain <| K.loadX rfl hTX rfl hTa .plain <| K.rem rfl rfl (by decide) rfl .plain <| keq rfl rfl (r := true) (beq_iff_eq.2 c1) <| kmv rfl <| gmv rfl rfl rfl <| K.lenX rfl SliceT.h rfl (.taken rfl rfl) ?_; refine K.gtr rfl rfl (decide_eq_false (by omega)) (.taken rfl rfl) ?_; refine kpt rfl rfl <| RunK.nil <| LWP.condF rfl ?_; refine LWP.skip ?_; refine LWP.seq ?_)
      refine LWP.le (σ' := ⟨[(12, .sv (.one (.val (.slice lad (liveL l).length lcap)))), (2, .sv (.one (.val (.slice (some ⟨tb, to, none⟩) ts.length tcap)))), (7, Ln .i64 (n : Nat)), (8, Ln .i64 (g : Nat)), (9, Lp 500), (10, Lp 10), (11, Ln .i64 (i : Nat))], [xB 500 g (l), (10, some ⟨64, (gvV (l)).map .val, false⟩)], Y⟩) (Le.of (by exact ⟨rfl, rfl, rfl, rfl, rfl, rfl, rfl, trivial⟩) (by exact ⟨rfl, rfl, trivial⟩) (by exact rfl) (by exact rfl) (by repeat' (first | refine all_cons_true ?_ ?_ | rfl | exact bytes_inUse | exact vals_inUse | exact mid_inUse rfl))) ?_
      cases hnx : nextE l with
      | none =>
        have hSp := iSpawn_no Y g l hOk hnx
        (refine LWP.region (by kernel_rfl) <| kmv rfl <| K.callM [(1000000, 500)] [xB 500 g l] (hSp) rfl rfl (by exact (And.intro ⟨_, rfl, rfl⟩ trivial)) (by exact (all_cons_true rfl rfl)) rfl rfl rfl rfl (by exact (.box rfl rfl .nil)) .plain <| kmv rfl <| kex rfl rfl <| kex rfl rfl <| kas rfl <| kas rfl <| RunK.nil <| LWP.seq <| LWP.seq <| LWP.region (by kernel_rfl) <| kmv rfl <| kne rfl rfl (r := true) rfl ?_; refine RunK.nil <| LWP.condT rfl ?_; refine LWP.exit <| LWP.region (by kernel_rfl) <| kmv rfl <| kad rfl rfl hadd <| kas rfl <| RunK.nil ?_)
        refine Leads.le (σ' := ⟨[(2, .sv (.one (.val (.slice (some ⟨tb, to, none⟩) ts.length tcap)))), (7, Ln .i64 (n : Nat)), (8, Ln .i64 (g : Nat)), (9, Lp 500), (10, Lp 10), (11, Ln .i64 (i + 1 : Nat))], [xB 500 g (l), (10, some ⟨64, (gvV (l)).map .val, false⟩)], Y⟩) (Le.of (by exact ⟨rfl, rfl, rfl, rfl, rfl, rfl, trivial⟩) (by exact ⟨rfl, rfl, trivial⟩) (by exact rfl) (by exact rfl) (by repeat' (first | refine all_cons_true ?_ ?_ | rfl | exact bytes_inUse | exact vals_inUse | exact mid_inUse rfl))) ?_
        exact Leads.le (Le.drop hY) (Leads.done ⟨ts.length - (i + 1), by omega, i + 1, l, by omega, by omega, rfl, hOk, hnl, rfl⟩)
      | some i' =>
      obtain ⟨gen, hx, hlow⟩ := next_at hnx
      have hi' := (List.getElem?_eq_some_iff.1 hx).1
      have hgen := (hOk.ok _ (List.mem_of_getElem? hx)).1
      have hgen : 1 ≤ gen ∧ gen ≤ g := hgen
      have hSp := iSpawn Y g l hOk hnx hx
      have hh64 := hdl_lt (i := i' + 1) (gen := gen) (by omega) (by omega)
      have hI := iId Y (hdl (i' + 1) gen) hh64
      have hG := iGen Y (hdl (i' + 1) gen) hh64
      rw [hdl_id (by omega)] at hI
      rw [hdl_gen (by omega)] at hG
      have hOk2 := hOk.spawn hx
      have hgv := gv_at hx
      have hgl : ((gvV l).map CV.val).length = 10 := gv_len (by omega)
      have hix : 0 + Int.toNat ((i' + 1 : Nat) : Int) * 1 = 0 + (i' + 1) * 1 := by simp
      have hge0 : givE (gen, 0) = gen - 1 := rfl
      have hge1 : givE (gen, 1) = gen := by show gen - 1 + 1 = gen; omega
      have hinc : IntKind.i64.wrap (((givE (gen, 0) : Nat) : Int) + 1) = ((gen : Nat) : Int) := by rw [hge0, wrap_i64 (by omega)]; omega
      have hset := gv_set hx (gen, 1)
      rw [hge1] at hset
      have hroom : Nat.blt (0 + (i' + 1) * 1) ((gvV l).map CV.val).length = true := by rw [hgl, Nat.blt_eq]; omega
      generalize hdl (i' + 1) gen = h at *
      (refine LWP.region (by kernel_rfl) <| kmv rfl <| K.callM [(1000000, 500)] [xB 500 g (l.set i' (gen, 1))] (hSp) rfl rfl (by exact (And.intro ⟨_, rfl, rfl⟩ trivial)) (by exact (all_cons_true rfl rfl)) rfl rfl rfl rfl (by exact (.box rfl rfl .nil)) .plain <| kmv rfl <| kex rfl rfl <| kex rfl rfl <| kas rfl <| kas rfl <| RunK.nil <| LWP.seq <| LWP.seq <| LWP.region (by kernel_rfl) <| kmv rfl <| kne rfl rfl (r := false) rfl ?_; refine RunK.nil <| LWP.condF rfl ?_; refine LWP.skip ?_; refine LWP.seq <| LWP.region (by kernel_rfl) <| kmv rfl <| kca rfl rfl hI <| kas rfl <| RunK.nil <| LWP.seq <| LWP.seq <| LWP.draws mixed (by kernel_rfl) <| kmv rfl <| klt rfl rfl (decide_eq_false (by omega)) <| kmv rfl <| gmv rfl rfl rfl <| gmv rfl rfl rfl ?_; refine K.gtr rfl rfl (decide_eq_false (by omega)) (.taken rfl rfl) ?_; refine kpf rfl rfl <| kmv rfl <| gmv rfl rfl rfl <| gca rfl rfl hG rfl rfl <| gmv rfl rfl rfl <| K.indexArr rfl rfl (by omega) hix (.taken rfl rfl) ?_; refine K.loadOne rfl rfl hgv (.taken rfl rfl) ?_; refine K.add rfl rfl hinc (.taken rfl rfl) ?_; refine K.neq rfl rfl (r := false) (bne_eq_false_iff_eq.2 rfl) (.taken rfl rfl) ?_; refine kpf rfl rfl <| kmv rfl <| gmv rfl rfl rfl <| gca rfl rfl hG rfl rfl <| gmv rfl rfl rfl <| K.gtr rfl rfl (decide_eq_false (by omega)) (.taken rfl rfl) ?_; refine kpf rfl rfl <| RunK.nil <| And.intro (by kernel_rfl) ?_; refine LWP.condF rfl ?_; refine LWP.skip ?_; refine LWP.seq <| LWP.region (by kernel_rfl) <| kmv rfl <| K.indexArr rfl rfl (by omega) hix .plain ?_; refine kl1 rfl rfl hgv <| kad rfl rfl hinc <| K.indexArr rfl rfl (by omega) hix .plain ?_; refine K.storeOne rfl rfl rfl rfl hroom hset .plain <| RunK.nil <| LWP.seq <| LWP.region (by kernel_rfl) <| kas rfl <| RunK.nil <| LWP.block ?_)
      refine LWP.loopL (fun m σ => ∃ k : Nat, k ≤ i' ∧ m = i' - k ∧ σ = ⟨[(16, Ln .i64 (i' + 1 : Nat)), (17, Ln .i64 (k + 1 : Nat)), (2, .sv (.one (.val (.slice (some ⟨tb, to, none⟩) ts.length tcap)))), (7, Ln .i64 (n : Nat)), (8, Ln .i64 (g : Nat)), (9, Lp 500), (10, Lp 10), (11, Ln .i64 (i : Nat))], [xB 500 g (l.set i' (gen, 1)), (10, some ⟨64, (gvV (l.set i' (gen, 1))).map .val, false⟩)], Y⟩) i'
        (Leads.le (σ' := ⟨[(16, Ln .i64 (i' + 1 : Nat)), (17, Ln .i64 (0 + 1 : Nat)), (2, .sv (.one (.val (.slice (some ⟨tb, to, none⟩) ts.length tcap)))), (7, Ln .i64 (n : Nat)), (8, Ln .i64 (g : Nat)), (9, Lp 500), (10, Lp 10), (11, Ln .i64 (i : Nat))], [xB 500 g (l.set i' (gen, 1)), (10, some ⟨64, (gvV (l.set i' (gen, 1))).map .val, false⟩)], Y⟩) (Le.of (by exact ⟨rfl, rfl, rfl, rfl, rfl, rfl, rfl, rfl, trivial⟩) (by exact ⟨rfl, rfl, trivial⟩) (by exact rfl) (by exact rfl) (by repeat' (first | refine all_cons_true ?_ ?_ | rfl | exact bytes_inUse | exact vals_inUse | exact mid_inUse rfl))) (Leads.done ⟨0, by omega, by omega, rfl⟩)) ?_
      rintro m σ ⟨k, hk, rfl, rfl⟩
      by_cases hkl : k < i'
      case neg =>
        (refine LWP.seq <| LWP.seq <| LWP.region (by kernel_rfl) <| kmv rfl <| kmv rfl <| klt rfl rfl (decide_eq_false (by omega)) <| RunK.nil <| LWP.condF rfl ?_; refine LWP.exit <| LWP.region (by kernel_rfl) <| kmv rfl <| kad rfl rfl hadd <| kas rfl <| RunK.nil ?_)
        refine Leads.le (σ' := ⟨[(2, .sv (.one (.val (.slice (some ⟨tb, to, none⟩) ts.length tcap)))), (7, Ln .i64 (n : Nat)), (8, Ln .i64 (g : Nat)), (9, Lp 500), (10, Lp 10), (11, Ln .i64 (i + 1 : Nat))], [xB 500 g (l.set i' (gen, 1)), (10, some ⟨64, (gvV (l.set i' (gen, 1))).map .val, false⟩)], Y⟩) (Le.of (by exact ⟨rfl, rfl, rfl, rfl, rfl, rfl, trivial⟩) (by exact ⟨rfl, rfl, trivial⟩) (by exact rfl) (by exact rfl) (by repeat' (first | refine all_cons_true ?_ ?_ | rfl | exact bytes_inUse | exact vals_inUse | exact mid_inUse rfl))) ?_
        exact Leads.le (Le.drop hY) (Leads.done ⟨ts.length - (i + 1), by omega, i + 1, l.set i' (gen, 1), by omega, by omega, rfl, hOk2, by rw [List.length_set]; exact hnl, rfl⟩)
      obtain ⟨x, hkx⟩ : ∃ x, l[k]? = some x := ⟨_, List.getElem?_eq_getElem (by omega)⟩
      have hkx2 : (l.set i' (gen, 1))[k]? = some x := by rw [List.getElem?_set_ne (by omega)]; exact hkx
      have hgk := gv_at hkx2
      have hxk := (hOk.ok _ (List.mem_of_getElem? hkx)).1
      have hok : 0 + Int.toNat ((k + 1 : Nat) : Int) * 1 = 0 + (k + 1) * 1 := by simp
      have haddk : IntKind.i64.wrap (((k + 1 : Nat) : Int) + 1) = ((k + 1 + 1 : Nat) : Int) := by rw [wrap_i64 (by omega)]; omega
      have hO := iOf Y (k + 1 : Nat) (givE x : Nat)
      rcases least_ok hOk2 hkx2 (hlow k x hkl hkx) with ⟨s1, s2, s3⟩ | ⟨s1, s2, s3⟩
      · rw [ofH_hdl (by omega) (by omega) (by omega) (by omega)] at hO
        have hA := iAlive Y g (l.set i' (gen, 1)) hOk2 (hdl (k + 1) (givE x)) (hdl_lt (by omega) (by omega))
        rw [s3] at hA
        generalize hdl (k + 1) (givE x) = h2 at *
        (refine LWP.seq <| LWP.seq <| LWP.region (by kernel_rfl) <| kmv rfl <| kmv rfl <| klt rfl rfl (decide_eq_true (by omega)) <| RunK.nil <| LWP.condT rfl ?_; refine LWP.skip ?_; refine LWP.seq <| LWP.block <| LWP.seq <| LWP.region (by kernel_rfl) <| kmv rfl <| kmv rfl <| kmv rfl <| K.indexArr rfl rfl (by omega) hok .plain ?_; refine kl1 rfl rfl hgk <| kca rfl rfl hO <| K.callM [(1000000, 500)] [xB 500 g (l.set i' (gen, 1))] (hA) rfl rfl (by exact (And.intro ⟨_, rfl, rfl⟩ trivial)) (by exact (all_cons_true rfl rfl)) rfl rfl rfl rfl (by exact (.box rfl rfl .nil)) .plain <| K.not rfl rfl .plain <| kmv rfl <| RunK.passed rfl rfl rfl <| RunK.passed rfl rfl rfl <| RunK.passed rfl rfl rfl <| RunK.passed rfl rfl rfl <| RunK.passed rfl rfl rfl <| kpf rfl rfl <| RunK.nil <| LWP.condF rfl ?_; refine LWP.skip ?_; refine LWP.region (by kernel_rfl) <| kmv rfl <| kad rfl rfl haddk <| kas rfl <| RunK.nil ?_)
        exact Leads.le (σ' := ⟨[(16, Ln .i64 (i' + 1 : Nat)), (17, Ln .i64 (k + 1 + 1 : Nat)), (2, .sv (.one (.val (.slice (some ⟨tb, to, none⟩) ts.length tcap)))), (7, Ln .i64 (n : Nat)), (8, Ln .i64 (g : Nat)), (9, Lp 500), (10, Lp 10), (11, Ln .i64 (i : Nat))], [xB 500 g (l.set i' (gen, 1)), (10, some ⟨64, (gvV (l.set i' (gen, 1))).map .val, false⟩)], Y⟩) (Le.of (by exact ⟨rfl, rfl, rfl, rfl, rfl, rfl, rfl, rfl, trivial⟩) (by exact ⟨rfl, rfl, trivial⟩) (by exact rfl) (by exact rfl) (by repeat' (first | refine all_cons_true ?_ ?_ | rfl | exact bytes_inUse | exact vals_inUse | exact mid_inUse rfl))) (Leads.done ⟨i' - (k + 1), by omega, k + 1, by omega, rfl, rfl⟩)
      · have hgb := hOk.gens
        rw [ofH_hdl (by omega) (by omega) (by omega) (by omega)] at hO
        have hA := iAlive Y g (l.set i' (gen, 1)) hOk2 (hdl (k + 1) (givE x)) (hdl_lt (by omega) (by omega))
        rw [s3] at hA
        generalize hdl (k + 1) (givE x) = h2 at *
        (refine LWP.seq <| LWP.seq <| LWP.region (by kernel_rfl) <| kmv rfl <| kmv rfl <| klt rfl rfl (decide_eq_true (by omega)) <| RunK.nil <| LWP.condT rfl ?_; refine LWP.skip ?_; refine LWP.seq <| LWP.block <| LWP.seq <| LWP.region (by kernel_rfl) <| kmv rfl <| kmv rfl <| kmv rfl <| K.indexArr rfl rfl (by omega) hok .plain ?_; refine kl1 rfl rfl hgk <| kca rfl rfl hO <| K.callM [(1000000, 500)] [xB 500 g (l.set i' (gen, 1))] (hA) rfl rfl (by exact (And.intro ⟨_, rfl, rfl⟩ trivial)) (by exact (all_cons_true rfl rfl)) rfl rfl rfl rfl (by exact (.box rfl rfl .nil)) .plain <| K.not rfl rfl .plain <| kmv rfl <| gmv rfl rfl rfl <| K.indexArr rfl rfl (by omega) hok (.taken rfl rfl) ?_; refine K.loadOne rfl rfl hgk (.taken rfl rfl) ?_; refine gmv rfl rfl rfl <| K.lss rfl rfl (decide_eq_false (by omega)) (.taken rfl rfl) ?_; refine kpt rfl rfl <| RunK.nil <| LWP.condF rfl ?_; refine LWP.skip ?_; refine LWP.region (by kernel_rfl) <| kmv rfl <| kad rfl rfl haddk <| kas rfl <| RunK.nil ?_)
        exact Leads.le (σ' := ⟨[(16, Ln .i64 (i' + 1 : Nat)), (17, Ln .i64 (k + 1 + 1 : Nat)), (2, .sv (.one (.val (.slice (some ⟨tb, to, none⟩) ts.length tcap)))), (7, Ln .i64 (n : Nat)), (8, Ln .i64 (g : Nat)), (9, Lp 500), (10, Lp 10), (11, Ln .i64 (i : Nat))], [xB 500 g (l.set i' (gen, 1)), (10, some ⟨64, (gvV (l.set i' (gen, 1))).map .val, false⟩)], Y⟩) (Le.of (by exact ⟨rfl, rfl, rfl, rfl, rfl, rfl, rfl, rfl, trivial⟩) (by exact ⟨rfl, rfl, trivial⟩) (by exact rfl) (by exact rfl) (by repeat' (first | refine all_cons_true ?_ ?_ | rfl | exact bytes_inUse | exact vals_inUse | exact mid_inUse rfl))) (Leads.done ⟨i' - (k + 1), by omega, k + 1, by omega, rfl, rfl⟩)
    obtain ⟨r, hr, hru⟩ := rest_u (v := v) (liveL l).length c2 (by omega)
    obtain ⟨h, hh⟩ : ∃ h, (liveL l)[r]? = some h := ⟨_, List.getElem?_eq_getElem hr⟩
    have hm := List.mem_of_getElem? hh
    obtain ⟨i', gen, g1, g2, g3, g4⟩ := live_alive hl256 hm
    obtain ⟨lb, lo, larr, lel, lfr, rfl, hLX, hLa⟩ := hE.at_ r h hh
    have hor : lo + Int.toNat (r : Int) * 1 = lo + r * 1 := by simp
    have hw1 : IntKind.u64.wrap (((liveL l).length : Nat) : Int) = (((liveL l).length : Nat) : Int) := wrap_u64 (by omega)
    have hw2 : IntKind.i64.wrap ((r : Nat) : Int) = ((r : Nat) : Int) := wrap_i64 (by omega)
    have hK := iKill Y g l hOk h (hsm h hm) g4 g3 g1
    have hg1 := (hOk.ok _ (List.mem_of_getElem? g1)).1.1
    have hgv := gv_kill (g := g) g1 hg1
    (refine LWP.region (by kernel_rfl) <| kmv rfl <| kmv rfl <| K.indexX rfl rfl SliceT.h (by omega) hio .plain <| K.loadX rfl hTX rfl hTa .plain <| K.rem rfl rfl (by decide) rfl .plain <| keq rfl rfl (r := true) (beq_iff_eq.2 c1) <| kmv rfl <| gmv rfl rfl rfl <| K.lenX rfl SliceT.h rfl (.taken rfl rfl) ?_; refine K.gtr rfl rfl (decide_eq_true (by omega)) (.taken rfl rfl) ?_; refine kpt rfl rfl <| RunK.nil <| LWP.condT rfl ?_; refine LWP.seq <| LWP.region (by kernel_rfl) <| kmv rfl <| kmv rfl <| kmv rfl <| kmv rfl <| K.indexX rfl rfl SliceT.h (by omega) hio .plain <| K.loadX rfl hTX rfl hTa .plain <| kcv rfl rfl ?_; refine kmv rfl <| K.lenX rfl SliceT.h rfl .plain ?_; refine kcv rfl hw1 ?_; refine K.rem rfl rfl (by omega) hru .plain <| kcv rfl hw2 ?_; refine K.indexX rfl rfl SliceT.h (by omega) hor .plain <| K.loadX rfl hLX rfl hLa .plain <| K.callM [(1000000, 500)] [xB 500 g (l.set i' (killE g (gen, 1)))] (hK) rfl rfl (by exact (And.intro ⟨_, rfl, rfl⟩ trivial)) (by exact (all_cons_true rfl rfl)) rfl rfl rfl rfl (by exact (.box rfl rfl .nil)) .plain <| RunK.nil <| LWP.exit <| LWP.region (by kernel_rfl) <| kmv rfl <| kad rfl rfl hadd <| kas rfl <| RunK.nil ?_)
    refine Leads.le (σ' := ⟨[(2, .sv (.one (.val (.slice (some ⟨tb, to, none⟩) ts.length tcap)))), (7, Ln .i64 (n : Nat)), (8, Ln .i64 (g : Nat)), (9, Lp 500), (10, Lp 10), (11, Ln .i64 (i + 1 : Nat))], [xB 500 g (l.set i' (killE g (gen, 1))), (10, some ⟨64, (gvV (l.set i' (killE g (gen, 1)))).map .val, false⟩)], Y⟩) (by rw [hgv]; exact Le.of (by exact ⟨rfl, rfl, rfl, rfl, rfl, rfl, trivial⟩) (by exact ⟨rfl, rfl, trivial⟩) (by exact rfl) (by exact rfl) (by repeat' (first | refine all_cons_true ?_ ?_ | rfl | exact bytes_inUse | exact vals_inUse | exact mid_inUse rfl))) ?_
    exact Leads.le (Le.drop hY) (Leads.done ⟨ts.length - (i + 1), by omega, i + 1, l.set i' (killE g (gen, 1)), by omega, by omega, rfl, hOk.kill g1, by rw [List.length_set]; exact hnl, rfl⟩)
  clear hOk hnl
  clear l
  rintro σ ⟨l, hOk, hnl, rfl⟩
  have hl256 : l.length ≤ 256 := by omega
  (refine LWP.seq <| LWP.region (by kernel_rfl) <| kas rfl <| RunK.nil <| LWP.seq <| LWP.seq <| LWP.region (by kernel_rfl) <| kas rfl <| RunK.nil <| LWP.block ?_)
  refine LWP.loop (fun m σ => ∃ k : Nat, k ≤ n ∧ m = n - k ∧ σ = ⟨[(7, Ln .i64 (n : Nat)), (8, Ln .i64 (g : Nat)), (9, Lp 500), (10, Lp 10), (18, Ln .i64 (retE (l.take k) : Nat)), (19, Ln .i64 (k + 1 : Nat))], [xB 500 g (l), (10, some ⟨64, (gvV (l)).map .val, false⟩)], X⟩) n
    ⟨⟨[(7, Ln .i64 (n : Nat)), (8, Ln .i64 (g : Nat)), (9, Lp 500), (10, Lp 10), (18, Ln .i64 (0 : Nat)), (19, Ln .i64 (0 + 1 : Nat))], [xB 500 g (l), (10, some ⟨64, (gvV (l)).map .val, false⟩)], X⟩, Le.of (by exact ⟨rfl, rfl, rfl, rfl, rfl, rfl, trivial⟩) (by exact ⟨rfl, rfl, trivial⟩) (by exact rfl) (by exact rfl) (by repeat' (first | refine all_cons_true ?_ ?_ | rfl | exact bytes_inUse | exact vals_inUse | exact mid_inUse rfl)), 0, by omega, by omega, rfl⟩ ?_
  rintro m σ ⟨k, hk, rfl, rfl⟩
  by_cases hkl : k < n
  case neg =>
    have e : k = l.length := by omega
    subst e
    rw [List.take_length]
    have hC := iCount X g l hOk
    have hF := iFree X g l hOk
    have hall := all_counts hOk.st
    have hr1 : retE l ≤ l.length := List.countP_le_length
    have a1 : IntKind.i64.wrap (((cntE l : Nat) : Int) + ((freE l : Nat) : Int)) = ((cntE l + freE l : Nat) : Int) := by rw [wrap_i64 (by omega)]; omega
    have a2 : IntKind.i64.wrap (((cntE l + freE l : Nat) : Int) + ((retE l : Nat) : Int)) = ((l.length : Nat) : Int) := by rw [wrap_i64 (by omega)]; omega
    (refine LWP.seq <| LWP.seq <| LWP.region (by kernel_rfl) <| kmv rfl <| kmv rfl <| K.leq rfl rfl (decide_eq_false (by omega)) .plain <| RunK.nil <| LWP.condF rfl ?_; refine LWP.exit <| LWP.seq <| LWP.region (by kernel_rfl) <| kmv rfl <| K.callM [(1000000, 500)] [xB 500 g l] (hC) rfl rfl (by exact (And.intro ⟨_, rfl, rfl⟩ trivial)) (by exact (all_cons_true rfl rfl)) rfl rfl rfl rfl (by exact (.box rfl rfl .nil)) .plain <| kmv rfl <| K.callM [(1000000, 500)] [xB 500 g l] (hF) rfl rfl (by exact (And.intro ⟨_, rfl, rfl⟩ trivial)) (by exact (all_cons_true rfl rfl)) rfl rfl rfl rfl (by exact (.box rfl rfl .nil)) .plain <| kad rfl rfl a1 <| kmv rfl <| kad rfl rfl a2 <| kmv rfl <| keq rfl rfl (r := true) (beq_iff_eq.2 (by omega)) <| kas rfl <| RunK.nil ?_; refine LWP.ret ?_)
    exact ⟨[_], ⟨rfl, trivial⟩, rfl⟩
  obtain ⟨x, hx⟩ : ∃ x, l[k]? = some x := ⟨_, List.getElem?_eq_getElem (by omega)⟩
  have hgk := gv_at hx
  have hok : 0 + Int.toNat ((k + 1 : Nat) : Int) * 1 = 0 + (k + 1) * 1 := by simp
  have haddk : IntKind.i64.wrap (((k + 1 : Nat) : Int) + 1) = ((k + 1 + 1 : Nat) : Int) := by rw [wrap_i64 (by omega)]; omega
  have hsn := ret_snoc hx
  have hrl := ret_le l k
  have hgb := hOk.gens
  obtain ⟨q1, q2⟩ := ret_given hOk hx
  have hst2 : ∀ q : Nat, retE (l.take (k + 1)) = q → (⟨[(7, Ln .i64 (n : Nat)), (8, Ln .i64 (g : Nat)), (9, Lp 500), (10, Lp 10), (18, Ln .i64 (q : Nat)), (19, Ln .i64 (k + 1 + 1 : Nat))], [xB 500 g (l), (10, some ⟨64, (gvV (l)).map .val, false⟩)], X⟩ : St) = ⟨[(7, Ln .i64 (n : Nat)), (8, Ln .i64 (g : Nat)), (9, Lp 500), (10, Lp 10), (18, Ln .i64 (retE (l.take (k + 1)) : Nat)), (19, Ln .i64 (k + 1 + 1 : Nat))], [xB 500 g (l), (10, some ⟨64, (gvV (l)).map .val, false⟩)], X⟩ := fun q h => by rw [h]
  generalize retE (l.take k) = c at *
  have hO := iOf X (k + 1 : Nat) (g : Nat)
  rw [ofH_hdl (by omega) (by omega) (by omega) (by omega)] at hO
  have hA := iAlive X g l hOk (hdl (k + 1) g) (hdl_lt (by omega) (by omega))
  by_cases c1 : givE x = g
  case neg =>
    rw [if_neg (fun h => c1 (q1 h).1)] at hsn
    (refine LWP.seq <| LWP.seq <| LWP.region (by kernel_rfl) <| kmv rfl <| kmv rfl <| K.leq rfl rfl (decide_eq_true (by omega)) .plain <| RunK.nil <| LWP.condT rfl ?_; refine LWP.skip ?_; refine LWP.seq <| LWP.block <| LWP.seq <| LWP.region (by kernel_rfl) <| kmv rfl <| K.indexArr rfl rfl (by omega) hok .plain ?_; refine kl1 rfl rfl hgk <| kmv rfl <| keq rfl rfl (r := false) (beq_eq_false_iff_ne.2 (by omega)) <| kmv rfl <| RunK.passed rfl rfl rfl <| RunK.passed rfl rfl rfl <| RunK.passed rfl rfl rfl <| RunK.passed rfl rfl rfl <| RunK.passed rfl rfl rfl <| RunK.passed rfl rfl rfl <| kpf rfl rfl <| RunK.nil <| LWP.condF rfl ?_; refine LWP.skip ?_; refine LWP.region (by kernel_rfl) <| kmv rfl <| kad rfl rfl haddk <| kas rfl <| RunK.nil ?_)
    exact ⟨_, ⟨[(7, Ln .i64 (n : Nat)), (8, Ln .i64 (g : Nat)), (9, Lp 500), (10, Lp 10), (18, Ln .i64 (c : Nat)), (19, Ln .i64 (k + 1 + 1 : Nat))], [xB 500 g (l), (10, some ⟨64, (gvV (l)).map .val, false⟩)], X⟩, by omega, Le.of (by exact ⟨rfl, rfl, rfl, rfl, rfl, rfl, trivial⟩) (by exact ⟨rfl, rfl, trivial⟩) (by exact rfl) (by exact rfl) (by repeat' (first | refine all_cons_true ?_ ?_ | rfl | exact bytes_inUse | exact vals_inUse | exact mid_inUse rfl)), k + 1, by omega, rfl, hst2 _ hsn⟩
  by_cases c2 : x.2 = 2
  · rw [(q1 c2).2] at hA
    rw [if_pos c2] at hsn
    have haddc : IntKind.i64.wrap (((c : Nat) : Int) + 1) = ((c + 1 : Nat) : Int) := by rw [wrap_i64 (by omega)]; omega
    generalize hdl (k + 1) g = h2 at *
    (refine LWP.seq <| LWP.seq <| LWP.region (by kernel_rfl) <| kmv rfl <| kmv rfl <| K.leq rfl rfl (decide_eq_true (by omega)) .plain <| RunK.nil <| LWP.condT rfl ?_; refine LWP.skip ?_; refine LWP.seq <| LWP.block <| LWP.seq <| LWP.region (by kernel_rfl) <| kmv rfl <| K.indexArr rfl rfl (by omega) hok .plain ?_; refine kl1 rfl rfl hgk <| kmv rfl <| keq rfl rfl (r := true) (beq_iff_eq.2 (by omega)) <| kmv rfl <| gmv rfl rfl rfl <| gmv rfl rfl rfl <| gmv rfl rfl rfl <| gca rfl rfl hO rfl rfl <| K.callM [(1000000, 500)] [xB 500 g l] (hA) rfl rfl (by exact (And.intro ⟨_, rfl, rfl⟩ trivial)) (by exact (all_cons_true rfl rfl)) rfl rfl rfl rfl (by exact (.box rfl rfl .nil)) (.taken rfl rfl) ?_; refine K.not rfl rfl (.taken rfl rfl) ?_; refine kpt rfl rfl <| RunK.nil <| LWP.condT rfl ?_; refine LWP.region (by kernel_rfl) <| kmv rfl <| kad rfl rfl haddc <| kas rfl <| RunK.nil <| LWP.region (by kernel_rfl) <| kmv rfl <| kad rfl rfl haddk <| kas rfl <| RunK.nil ?_)
    exact ⟨_, ⟨[(7, Ln .i64 (n : Nat)), (8, Ln .i64 (g : Nat)), (9, Lp 500), (10, Lp 10), (18, Ln .i64 (c + 1 : Nat)), (19, Ln .i64 (k + 1 + 1 : Nat))], [xB 500 g (l), (10, some ⟨64, (gvV (l)).map .val, false⟩)], X⟩, by omega, Le.of (by exact ⟨rfl, rfl, rfl, rfl, rfl, rfl, trivial⟩) (by exact ⟨rfl, rfl, trivial⟩) (by exact rfl) (by exact rfl) (by repeat' (first | refine all_cons_true ?_ ?_ | rfl | exact bytes_inUse | exact vals_inUse | exact mid_inUse rfl)), k + 1, by omega, rfl, hst2 _ hsn⟩
  · rw [q2 c2 c1] at hA
    rw [if_neg c2] at hsn
    generalize hdl (k + 1) g = h2 at *
    (refine LWP.seq <| LWP.seq <| LWP.region (by kernel_rfl) <| kmv rfl <| kmv rfl <| K.leq rfl rfl (decide_eq_true (by omega)) .plain <| RunK.nil <| LWP.condT rfl ?_; refine LWP.skip ?_; refine LWP.seq <| LWP.block <| LWP.seq <| LWP.region (by kernel_rfl) <| kmv rfl <| K.indexArr rfl rfl (by omega) hok .plain ?_; refine kl1 rfl rfl hgk <| kmv rfl <| keq rfl rfl (r := true) (beq_iff_eq.2 (by omega)) <| kmv rfl <| gmv rfl rfl rfl <| gmv rfl rfl rfl <| gmv rfl rfl rfl <| gca rfl rfl hO rfl rfl <| K.callM [(1000000, 500)] [xB 500 g l] (hA) rfl rfl (by exact (And.intro ⟨_, rfl, rfl⟩ trivial)) (by exact (all_cons_true rfl rfl)) rfl rfl rfl rfl (by exact (.box rfl rfl .nil)) (.taken rfl rfl) ?_; refine K.not rfl rfl (.taken rfl rfl) ?_; refine kpt rfl rfl <| RunK.nil <| LWP.condF rfl ?_; refine LWP.skip ?_; refine LWP.region (by kernel_rfl) <| kmv rfl <| kad rfl rfl haddk <| kas rfl <| RunK.nil ?_)
    exact ⟨_, ⟨[(7, Ln .i64 (n : Nat)), (8, Ln .i64 (g : Nat)), (9, Lp 500), (10, Lp 10), (18, Ln .i64 (c : Nat)), (19, Ln .i64 (k + 1 + 1 : Nat))], [xB 500 g (l), (10, some ⟨64, (gvV (l)).map .val, false⟩)], X⟩, by omega, Le.of (by exact ⟨rfl, rfl, rfl, rfl, rfl, rfl, trivial⟩) (by exact ⟨rfl, rfl, trivial⟩) (by exact rfl) (by exact rfl) (by repeat' (first | refine all_cons_true ?_ ?_ | rfl | exact bytes_inUse | exact vals_inUse | exact mid_inUse rfl)), k + 1, by omega, rfl, hst2 _ hsn⟩
end Go.Proofs.Ytkdbkgfdggbhkaa
end
section
namespace Go.Proofs.Ytkdbkgfdggbhkaa
open Go Go.Lg
set_option maxRecDepth 100000
theorem rI_use (g : Nat) (l : List Ei) : ([rI g l] : List LV).all (LV.inUse []) = true := by
  show (((refV g l).map CV.val).all (CV.inUse []) && true) = true
  rw [vals_inUse]; rfl
theorem rI_ren (f : Nat → Nat) (g : Nat) (l : List Ei) : ([rI g l] : List LV).map (LV.ren f) = [rI g l] := by
  show [LV.sv (.agg (((refV g l).map CV.val).map (CV.ren f)))] = _
  rw [ren_vals]
variable (X : Nat → Option Obj)
set_option maxHeartbeats 51200000 in
theorem EntityExact_yes (n g : Nat) (hn : 1 ≤ n ∧ n ≤ 256) (hg : 1 ≤ g ∧ g ≤ 65535) (ds : List Dd) (ad : Option Addr) (cap : Nat) (hD : DdsIn X ad ds) (hb : ds.length < 9223372036854775808) :
    PSpec Try.prog X 3 [Ln .i64 (n : Nat), Ln .i64 (g : Nat), .sv (.one (.val (.slice ad ds.length cap)))] (Lb true) := by
  have hW := awake15_spec X
  have hN := iNew X n g hn hg
  have hR := rNew X n g hn.2 (by omega)
  have hOk0 : OkX g (newE n) := OkX.new hn hg
  have hnl0 : (newE n).length = n := by unfold newE; rw [List.length_replicate]
  have hl0 : (newE n).length ≤ 256 := by omega
  refine PSpec.intro Try.func3 rfl (by kernel_rfl) rfl rfl ?_
  intro C
  (refine LWP.seq <| LWP.region (by kernel_rfl) <| kas rfl <| RunK.nil <| LWP.seq <| LWP.seq <| LWP.region (by kernel_rfl) <| kca rfl rfl (hW) <| K.not rfl rfl .plain <| RunK.nil <| LWP.condF rfl ?_; refine LWP.skip ?_; refine LWP.seq <| LWP.region (by kernel_rfl) <| kmv rfl <| kmv rfl <| K.callMp [(1000001, 500)] (Lp 500) [xB 500 g (newE n)] (hN) rfl rfl (by exact trivial) rfl rfl rfl rfl rfl (by exact (.box rfl rfl .nil)) .plain <| kas rfl <| RunK.nil <| LWP.seq <| LWP.seq <| LWP.region (by kernel_rfl) <| kmv rfl <| klt rfl rfl (decide_eq_false (by omega)) <| kmv rfl <| gmv rfl rfl rfl ?_; refine K.gtr rfl rfl (decide_eq_false (by omega)) (.taken rfl rfl) ?_; refine kpf rfl rfl <| kmv rfl <| gmv rfl rfl rfl <| K.lss rfl rfl (decide_eq_false (by omega)) (.taken rfl rfl) ?_; refine kpf rfl rfl <| kmv rfl <| gmv rfl rfl rfl <| K.gtr rfl rfl (decide_eq_false (by omega)) (.taken rfl rfl) ?_; refine kpf rfl rfl <| RunK.nil <| LWP.condF rfl ?_; refine LWP.skip ?_; refine LWP.seq <| LWP.region (by kernel_rfl) <| kmv rfl <| kmv rfl <| kca rfl rfl hR <| K.alloc rfl .plain ?_; refine K.storeAll rfl rfl rfl (refC_solid g _) (refC_len hl0).symm ((refC_len hl0).trans refZ_len.symm) .plain ?_; refine RunK.nil <| LWP.seq <| LWP.region (by kernel_rfl) <| K.buildSlc (zs := []) (sz := 1) (e := 26) (by kernel_rfl) rfl rfl rfl rfl rfl rfl .plain <| kas rfl <| RunK.nil <| LWP.seq <| LWP.seq <| LWP.region (by kernel_rfl) <| kas rfl <| RunK.nil <| LWP.block ?_)
  clear hN hR hW
  refine LWP.loop (fun m σ => ∃ (i : Nat) (l : List Ei) (L : List Nat), i ≤ ds.length ∧ i ≤ 200 ∧ m = ds.length - i ∧ OkX g l ∧ l.length = n ∧ L.length ≤ i ∧ (∀ w ∈ L, w < 18446744073709551616) ∧ σ = ⟨[(2, .sv (.one (.val (.slice ad ds.length cap)))), (7, Lp 500), (10, Lp 10), (11, .sv (.one (.slc 501 0 (L).length 1))), (12, Ln .i64 (i : Nat))], [xB 500 g (l), rfB 10 g (l), (501, some ⟨26, (u64V (L)).map .val, Nat.blt 0 (L).length⟩)], X⟩) ds.length
    ⟨⟨[(2, .sv (.one (.val (.slice ad ds.length cap)))), (7, Lp 500), (10, Lp 10), (11, .sv (.one (.slc 501 0 0 1))), (12, Ln .i64 (0 : Nat))], [xB 500 g (newE n), rfB 10 g (newE n), (501, some ⟨26, (u64V ([])).map .val, false⟩)], X⟩, Le.ofR [(501, 98)] (by exact ⟨rfl, rfl, rfl, rfl, rfl, trivial⟩) (by repeat' (first | exact trivial | refine And.intro ⟨_, rfl, ?_⟩ ?_ | refine And.intro ⟨_, rfl⟩ ?_ | rfl | exact Box.ren_bytes _ _ _ _ | exact Box.ren_vals _ _ _ _ | exact Box.ren_mid rfl)) (by exact rfl) (by exact rfl) (by repeat' (first | refine all_cons_true ?_ ?_ | rfl | exact bytes_inUse | exact vals_inUse | exact mid_inUse rfl)) (by exact rfl) (by exact rfl), 0, newE n, [], by omega, by omega, by omega, hOk0, hnl0, Nat.le_refl _, fun w hw => absurd hw (by simp), rfl⟩ ?_
  clear hOk0 hnl0 hl0
  rintro m σ ⟨i, l, L, hi, hi2, rfl, hOk, hnl, hLi, hLs, rfl⟩
  have hl : l.length ≤ 256 := by omega
  by_cases hlt : i < ds.length
  case neg =>
    (refine LWP.seq <| LWP.seq <| LWP.region (by kernel_rfl) <| kmv rfl <| kmv rfl <| K.lenX rfl SliceT.h rfl .plain ?_; refine klt rfl rfl (decide_eq_false (by omega)) <| kmv rfl <| RunK.passed rfl rfl rfl <| RunK.passed rfl rfl rfl <| kpf rfl rfl <| RunK.nil <| LWP.condF rfl ?_; refine LWP.exit <| LWP.seq <| LWP.region (by kernel_rfl) <| kas rfl <| RunK.nil <| LWP.ret ?_)
    exact ⟨[_], ⟨rfl, trivial⟩, rfl⟩
  by_cases hl3 : i < 200
  case neg =>
    (refine LWP.seq <| LWP.seq <| LWP.region (by kernel_rfl) <| kmv rfl <| kmv rfl <| K.lenX rfl SliceT.h rfl .plain ?_; refine klt rfl rfl (decide_eq_true (by omega)) <| kmv rfl <| gmv rfl rfl rfl <| K.lss rfl rfl (decide_eq_false (by omega)) (.taken rfl rfl) ?_; refine kpt rfl rfl <| RunK.nil <| LWP.condF rfl ?_; refine LWP.exit <| LWP.seq <| LWP.region (by kernel_rfl) <| kas rfl <| RunK.nil <| LWP.ret ?_)
    exact ⟨[_], ⟨rfl, trivial⟩, rfl⟩
  obtain ⟨d, hd⟩ : ∃ d, ds[i]? = some d := ⟨_, List.getElem?_eq_getElem hlt⟩
  obtain ⟨blk, off, arr, el, fr, rfl, hX, hsz, hcells⟩ := hD.at hd
  obtain ⟨_, hii, hev⟩ := hD.small d (List.mem_of_getElem? hd)
  have hio : off + Int.toNat (i : Int) * 3 = off + i * 3 := by simp
  have hadd : IntKind.i64.wrap (((i : Nat) : Int) + 1) = ((i + 1 : Nat) : Int) := by rw [wrap_i64 (by omega)]; omega
  generalize d.kind = kd at *
  generalize d.i = ii at *
  generalize d.e = ev at *
  (refine LWP.seq <| LWP.seq <| LWP.region (by kernel_rfl) <| kmv rfl <| kmv rfl <| K.lenX rfl SliceT.h rfl .plain ?_; refine klt rfl rfl (decide_eq_true (by omega)) <| kmv rfl <| gmv rfl rfl rfl <| K.lss rfl rfl (decide_eq_true (by omega)) (.taken rfl rfl) ?_; refine kpt rfl rfl <| RunK.nil <| LWP.condT rfl ?_; refine LWP.skip ?_; refine LWP.seq <| LWP.block <| LWP.seq <| LWP.region (by kernel_rfl) <| kmv rfl <| kmv rfl <| K.indexX rfl rfl SliceT.h (by omega) hio .plain <| K.loadXagg rfl hX (by kernel_rfl) hsz hcells .plain <| K.alloc rfl .plain ?_; refine K.storeAll rfl rfl rfl rfl rfl rfl .plain ?_; refine RunK.nil <| LWP.seq <| LWP.region (by kernel_rfl) <| kfa rfl rfl ?_; refine kl1 rfl rfl rfl <| kas rfl <| RunK.nil <| LWP.seq <| LWP.seq ?_)
  refine LWP.cutL (fun σ => ∃ h : Nat, h < 18446744073709551616 ∧ σ = ⟨[(13, Lp 13), (14, Ln .u64 (h : Nat)), (2, .sv (.one (.val (.slice (some ⟨blk, off, none⟩) ds.length cap)))), (7, Lp 500), (10, Lp 10), (11, .sv (.one (.slc 501 0 (L).length 1))), (12, Ln .i64 (i : Nat))], [(13, some ⟨47, [.val (.int .i64 kd), .val (.int .i64 ii), .val (.int .u64 (ev : Nat))], false⟩), xB 500 g (l), rfB 10 g (l), (501, some ⟨26, (u64V (L)).map .val, Nat.blt 0 (L).length⟩)], X⟩) ?_ ?_
  · by_cases c1 : 0 < L.length
    case neg =>
      (refine LWP.region (by kernel_rfl) <| kmv rfl <| K.lenSlc rfl SliceT.h rfl .plain ?_; refine K.gtr rfl rfl (decide_eq_false (by omega)) .plain <| kmv rfl <| RunK.passed rfl rfl rfl <| RunK.passed rfl rfl rfl <| RunK.passed rfl rfl rfl <| kpf rfl rfl <| RunK.nil <| LWP.condF rfl ?_; refine LWP.skip ?_)
      exact Leads.here (σ' := ⟨[(13, Lp 13), (14, Ln .u64 (ev : Nat)), (2, .sv (.one (.val (.slice (some ⟨blk, off, none⟩) ds.length cap)))), (7, Lp 500), (10, Lp 10), (11, .sv (.one (.slc 501 0 (L).length 1))), (12, Ln .i64 (i : Nat))], [(13, some ⟨47, [.val (.int .i64 kd), .val (.int .i64 ii), .val (.int .u64 (ev : Nat))], false⟩), xB 500 g (l), rfB 10 g (l), (501, some ⟨26, (u64V (L)).map .val, Nat.blt 0 (L).length⟩)], X⟩) (Le.of (by exact ⟨rfl, rfl, rfl, rfl, rfl, rfl, rfl, trivial⟩) (by exact ⟨rfl, rfl, rfl, rfl, trivial⟩) (by exact rfl) (by exact rfl) (by repeat' (first | refine all_cons_true ?_ ?_ | rfl | exact bytes_inUse | exact vals_inUse | exact mid_inUse rfl))) ⟨ev, hev, rfl⟩
    by_cases c2 : kd = 4
    case neg =>
      (refine LWP.region (by kernel_rfl) <| kmv rfl <| K.lenSlc rfl SliceT.h rfl .plain ?_; refine K.gtr rfl rfl (decide_eq_true (by omega)) .plain <| kmv rfl <| K.fieldAddr rfl rfl (.taken rfl rfl) ?_; refine K.loadOne rfl rfl rfl (.taken rfl rfl) ?_; refine K.eql rfl rfl (r := false) (beq_eq_false_iff_ne.2 c2) (.taken rfl rfl) ?_; refine kpt rfl rfl <| RunK.nil <| LWP.condF rfl ?_; refine LWP.skip ?_)
      exact Leads.here (σ' := ⟨[(13, Lp 13), (14, Ln .u64 (ev : Nat)), (2, .sv (.one (.val (.slice (some ⟨blk, off, none⟩) ds.length cap)))), (7, Lp 500), (10, Lp 10), (11, .sv (.one (.slc 501 0 (L).length 1))), (12, Ln .i64 (i : Nat))], [(13, some ⟨47, [.val (.int .i64 kd), .val (.int .i64 ii), .val (.int .u64 (ev : Nat))], false⟩), xB 500 g (l), rfB 10 g (l), (501, some ⟨26, (u64V (L)).map .val, Nat.blt 0 (L).length⟩)], X⟩) (Le.of (by exact ⟨rfl, rfl, rfl, rfl, rfl, rfl, rfl, trivial⟩) (by exact ⟨rfl, rfl, rfl, rfl, trivial⟩) (by exact rfl) (by exact rfl) (by repeat' (first | refine all_cons_true ?_ ?_ | rfl | exact bytes_inUse | exact vals_inUse | exact mid_inUse rfl))) ⟨ev, hev, rfl⟩
    obtain ⟨r, hr, hru⟩ := rest_u (v := ii) L.length c1 (by omega)
    obtain ⟨h, hh⟩ : ∃ h, L[r]? = some h := ⟨_, List.getElem?_eq_getElem hr⟩
    have hLr : ((u64V L).map CV.val)[r]? = some (.val (.int .u64 (h : Nat))) := by unfold u64V; rw [List.getElem?_map, List.getElem?_map, hh]; rfl
    have hor : 0 + Int.toNat (r : Int) * 1 = r := by simp
    have hw1 : IntKind.u64.wrap ((L.length : Nat) : Int) = ((L.length : Nat) : Int) := wrap_u64 (by omega)
    have hw2 : IntKind.i64.wrap ((r : Nat) : Int) = ((r : Nat) : Int) := wrap_i64 (by omega)
    (refine LWP.region (by kernel_rfl) <| kmv rfl <| K.lenSlc rfl SliceT.h rfl .plain ?_; refine K.gtr rfl rfl (decide_eq_true (by omega)) .plain <| kmv rfl <| K.fieldAddr rfl rfl (.taken rfl rfl) ?_; refine K.loadOne rfl rfl rfl (.taken rfl rfl) ?_; refine K.eql rfl rfl (r := true) (beq_iff_eq.2 c2) (.taken rfl rfl) ?_; refine kpt rfl rfl <| RunK.nil <| LWP.condT rfl ?_; refine LWP.region (by kernel_rfl) <| kmv rfl <| kfa rfl rfl ?_; refine kl1 rfl rfl rfl <| kcv rfl rfl ?_; refine kmv rfl <| K.lenSlc rfl SliceT.h rfl .plain ?_; refine kcv rfl hw1 ?_; refine K.rem rfl rfl (by omega) hru .plain <| kcv rfl hw2 ?_; refine K.indexSlc rfl rfl (by omega) hor .plain ?_; refine kl1 rfl rfl hLr <| kas rfl <| RunK.nil ?_)
    exact Leads.here (σ' := ⟨[(13, Lp 13), (14, Ln .u64 (h : Nat)), (2, .sv (.one (.val (.slice (some ⟨blk, off, none⟩) ds.length cap)))), (7, Lp 500), (10, Lp 10), (11, .sv (.one (.slc 501 0 (L).length 1))), (12, Ln .i64 (i : Nat))], [(13, some ⟨47, [.val (.int .i64 kd), .val (.int .i64 ii), .val (.int .u64 (ev : Nat))], false⟩), xB 500 g (l), rfB 10 g (l), (501, some ⟨26, (u64V (L)).map .val, Nat.blt 0 (L).length⟩)], X⟩) (Le.of (by exact ⟨rfl, rfl, rfl, rfl, rfl, rfl, rfl, trivial⟩) (by exact ⟨rfl, rfl, rfl, rfl, trivial⟩) (by exact rfl) (by exact rfl) (by repeat' (first | refine all_cons_true ?_ ?_ | rfl | exact bytes_inUse | exact vals_inUse | exact mid_inUse rfl))) ⟨h, hLs h (List.mem_of_getElem? hh), rfl⟩
  rintro σ ⟨h, hh, rfl⟩
  (refine LWP.seq <| LWP.region (by kernel_rfl) <| K.loadAll rfl rfl (refC_len hl).symm .plain ?_; refine K.alloc rfl .plain ?_; refine K.storeAll rfl rfl rfl (refC_solid g _) (refC_len hl).symm ((refC_len hl).trans refZ_len.symm) .plain ?_; refine RunK.nil <| LWP.seq <| LWP.seq ?_)
  refine LWP.cutL (fun σ => ∃ (l' : List Ei) (L' : List Nat), OkX g l' ∧ l'.length = n ∧ L'.length ≤ i + 1 ∧ (∀ w ∈ L', w < 18446744073709551616) ∧ σ = ⟨[(13, Lp 13), (14, Ln .u64 (h : Nat)), (15, Lp 15), (2, .sv (.one (.val (.slice (some ⟨blk, off, none⟩) ds.length cap)))), (7, Lp 500), (10, Lp 10), (11, .sv (.one (.slc 501 0 (L').length 1))), (12, Ln .i64 (i : Nat))], [(13, some ⟨47, [.val (.int .i64 kd), .val (.int .i64 ii), .val (.int .u64 (ev : Nat))], false⟩), rfB 15 g l, xB 500 g (l'), rfB 10 g (l'), (501, some ⟨26, (u64V (L')).map .val, Nat.blt 0 (L').length⟩)], X⟩) ?_ ?_
  · have hcase : kd = 1 ∨ kd = 2 ∨ kd = 3 ∨ kd = 4 ∨ kd = 5 ∨ kd = 6 ∨ kd = 7 ∨ (kd ≠ 1 ∧ kd ≠ 2 ∧ kd ≠ 3 ∧ kd ≠ 4 ∧ kd ≠ 5 ∧ kd ≠ 6 ∧ kd ≠ 7) := by omega
    rcases hcase with hk | hk | hk | hk | hk | hk | hk | hk
    · cases hnx : nextE l with
      | none =>
        have hSp := iSpawn_no X g l hOk hnx
        have hS2 := rSpawn_no X g l hl hOk.st hnx
        (refine LWP.region (by kernel_rfl) <| kfa rfl rfl ?_; refine kl1 rfl rfl rfl <| RunK.nil <| LWP.block <| LWP.seq <| LWP.seq <| LWP.region (by kernel_rfl) <| keq rfl rfl (r := true) (beq_iff_eq.2 hk) <| kas rfl <| RunK.nil <| LWP.condT rfl ?_; refine LWP.skip ?_; refine LWP.condT rfl ?_; refine LWP.seq <| LWP.region (by kernel_rfl) <| kmv rfl <| K.callM [(1000000, 500)] [xB 500 g l] (hSp) rfl rfl (by exact (And.intro ⟨_, rfl, rfl⟩ trivial)) (by exact (all_cons_true rfl rfl)) rfl rfl rfl rfl (by exact (.box rfl rfl .nil)) .plain <| kmv rfl <| kex rfl rfl <| kex rfl rfl <| kas rfl <| kas rfl <| RunK.nil <| LWP.seq <| LWP.region (by kernel_rfl) <| K.loadAll rfl rfl (refC_len hl).symm .plain ?_; refine kca rfl (rI_closed g l) hS2 <| kmv rfl <| kex rfl rfl <| kex rfl rfl <| K.alloc rfl .plain ?_; refine K.storeAll rfl rfl rfl (refC_solid g _) (refC_len hl).symm ((refC_len hl).trans refZ_len.symm) .plain ?_; refine kas rfl <| RunK.nil <| LWP.seq <| LWP.seq <| LWP.region (by kernel_rfl) <| kmv rfl <| kmv rfl <| kne rfl rfl (r := false) rfl <| kmv rfl <| gmv rfl rfl rfl <| K.eql rfl rfl (r := false) rfl (.taken rfl rfl) ?_; refine gmv rfl rfl rfl <| K.neq rfl rfl (r := false) rfl (.taken rfl rfl) ?_; refine K.neqB rfl rfl rfl (.taken rfl rfl) ?_; refine kpf rfl rfl <| kmv rfl <| gmv rfl rfl rfl <| K.eql rfl rfl (r := true) rfl (.taken rfl rfl) ?_; refine gmv rfl rfl rfl <| gmv rfl rfl rfl <| K.neq rfl rfl (r := false) rfl (.taken rfl rfl) ?_; refine K.pickT rfl rfl (.taken rfl rfl) ?_; refine kpf rfl rfl <| RunK.nil <| LWP.condF rfl ?_; refine LWP.skip ?_; refine LWP.seq <| LWP.region (by kernel_rfl) <| K.loadAll rfl rfl (refC_len hl).symm .plain ?_; refine K.storeAll rfl rfl rfl (refC_solid g _) (refC_len hl).symm ((refC_len hl).trans (refC_len hl).symm) .plain ?_; refine RunK.nil <| LWP.seq <| LWP.region (by kernel_rfl) <| kmv rfl <| kne rfl rfl (r := false) rfl <| RunK.nil <| LWP.condF rfl ?_; refine LWP.skip ?_)
        exact Leads.here (σ' := ⟨[(13, Lp 13), (14, Ln .u64 (h : Nat)), (15, Lp 15), (2, .sv (.one (.val (.slice (some ⟨blk, off, none⟩) ds.length cap)))), (7, Lp 500), (10, Lp 10), (11, .sv (.one (.slc 501 0 (L).length 1))), (12, Ln .i64 (i : Nat))], [(13, some ⟨47, [.val (.int .i64 kd), .val (.int .i64 ii), .val (.int .u64 (ev : Nat))], false⟩), rfB 15 g l, xB 500 g (l), rfB 10 g (l), (501, some ⟨26, (u64V (L)).map .val, Nat.blt 0 (L).length⟩)], X⟩) (Le.of (by exact ⟨rfl, rfl, rfl, rfl, rfl, rfl, rfl, rfl, trivial⟩) (by exact ⟨rfl, rfl, rfl, rfl, rfl, trivial⟩) (by exact rfl) (by exact rfl) (by repeat' (first | refine all_cons_true ?_ ?_ | rfl | exact bytes_inUse | exact vals_inUse | exact mid_inUse rfl))) ⟨l, L, hOk, hnl, by omega, hLs, rfl⟩
      | some i' =>
        obtain ⟨gen, hx, _⟩ := next_at hnx
        have hgn := okN hOk hx
        have hi' := (List.getElem?_eq_some_iff.1 hx).1
        have hSp := iSpawn X g l hOk hnx hx
        have hS2 := rSpawn X g l hl hOk.st hnx hx (by omega)
        have hh64 := hdl_lt (i := i' + 1) (gen := gen) (by omega) (by omega)
        have hpos : 1 ≤ hdl (i' + 1) gen := by unfold hdl; omega
        have hl2 : (l.set i' (gen, 1)).length ≤ 256 := by rw [List.length_set]; exact hl
        have hOk2 := hOk.spawn hx
        generalize hdl (i' + 1) gen = w at *
        have hcl := u64V_len L
        have hnc := u64V_snoc L w
        have hnL : L.length + 1 = (L ++ [w]).length := by rw [List.length_append]; rfl
        have hrow : Nat.blt 0 (L ++ [w]).length = true := by rw [List.length_append]; simp
        (refine LWP.region (by kernel_rfl) <| kfa rfl rfl ?_; refine kl1 rfl rfl rfl <| RunK.nil <| LWP.block <| LWP.seq <| LWP.seq <| LWP.region (by kernel_rfl) <| keq rfl rfl (r := true) (beq_iff_eq.2 hk) <| kas rfl <| RunK.nil <| LWP.condT rfl ?_; refine LWP.skip ?_; refine LWP.condT rfl ?_; refine LWP.seq <| LWP.region (by kernel_rfl) <| kmv rfl <| K.callM [(1000000, 500)] [xB 500 g (l.set i' (gen, 1))] (hSp) rfl rfl (by exact (And.intro ⟨_, rfl, rfl⟩ trivial)) (by exact (all_cons_true rfl rfl)) rfl rfl rfl rfl (by exact (.box rfl rfl .nil)) .plain <| kmv rfl <| kex rfl rfl <| kex rfl rfl <| kas rfl <| kas rfl <| RunK.nil <| LWP.seq <| LWP.region (by kernel_rfl) <| K.loadAll rfl rfl (refC_len hl).symm .plain ?_; refine kca rfl (rI_closed g l) hS2 <| kmv rfl <| kex rfl rfl <| kex rfl rfl <| K.alloc rfl .plain ?_; refine K.storeAll rfl rfl rfl (refC_solid g _) (refC_len hl2).symm ((refC_len hl2).trans refZ_len.symm) .plain ?_; refine kas rfl <| RunK.nil <| LWP.seq <| LWP.seq <| LWP.region (by kernel_rfl) <| kmv rfl <| kmv rfl <| kne rfl rfl (r := false) (bne_eq_false_iff_eq.2 rfl) <| kmv rfl <| gmv rfl rfl rfl <| K.eql rfl rfl (r := true) rfl (.taken rfl rfl) ?_; refine gmv rfl rfl rfl <| K.neq rfl rfl (r := true) (bne_iff_ne.2 (by omega)) (.taken rfl rfl) ?_; refine K.neqB rfl rfl rfl (.taken rfl rfl) ?_; refine kpf rfl rfl <| kmv rfl <| gmv rfl rfl rfl <| K.eql rfl rfl (r := false) (beq_eq_false_iff_ne.2 (by omega)) (.taken rfl rfl) ?_; refine gmv rfl rfl rfl <| RunK.passed rfl rfl rfl <| RunK.passed rfl rfl rfl <| K.pickF rfl rfl (.taken rfl rfl) ?_; refine kpf rfl rfl <| RunK.nil <| LWP.condF rfl ?_; refine LWP.skip ?_; refine LWP.seq <| LWP.region (by kernel_rfl) <| K.loadAll rfl rfl (refC_len hl2).symm .plain ?_; refine K.storeAll rfl rfl rfl (refC_solid g _) (refC_len hl2).symm ((refC_len hl2).trans (refC_len hl).symm) .plain ?_; refine RunK.nil <| LWP.seq <| LWP.region (by kernel_rfl) <| kmv rfl <| kne rfl rfl (r := true) (bne_iff_ne.2 (by omega)) <| RunK.nil <| LWP.condT rfl ?_; refine LWP.region (by kernel_rfl) <| kmv rfl <| kmv rfl <| K.buildSlc (zs := [.int .u64 0]) (sz := 1) (e := 26) (cs' := [.val (.int .u64 (w : Nat))]) (by kernel_rfl) rfl rfl rfl rfl rfl rfl .plain <| K.appendSlc (by_ := 8) (e2 := 26) (l2 := [.val (.int .u64 (w : Nat))]) (nl := (L ++ [w]).length) (nc := (u64V (L ++ [w])).map .val) rfl rfl hcl rfl rfl (Nat.le_refl _) rfl rfl (by kernel_rfl) (by kernel_rfl) (by omega) (by omega) rfl hnL hnc .plain <| kas rfl <| RunK.nil ?_)
        exact Leads.here (σ' := ⟨[(13, Lp 13), (14, Ln .u64 (h : Nat)), (15, Lp 15), (2, .sv (.one (.val (.slice (some ⟨blk, off, none⟩) ds.length cap)))), (7, Lp 500), (10, Lp 10), (11, .sv (.one (.slc 501 0 (L ++ [w]).length 1))), (12, Ln .i64 (i : Nat))], [(13, some ⟨47, [.val (.int .i64 kd), .val (.int .i64 ii), .val (.int .u64 (ev : Nat))], false⟩), rfB 15 g l, xB 500 g (l.set i' (gen, 1)), rfB 10 g (l.set i' (gen, 1)), (501, some ⟨26, (u64V (L ++ [w])).map .val, Nat.blt 0 (L ++ [w]).length⟩)], X⟩) (by rw [hrow]; exact Le.ofR [(501, 175)] (by exact ⟨rfl, rfl, rfl, rfl, rfl, rfl, rfl, rfl, trivial⟩) (by repeat' (first | exact trivial | refine And.intro ⟨_, rfl, ?_⟩ ?_ | refine And.intro ⟨_, rfl⟩ ?_ | rfl | exact Box.ren_bytes _ _ _ _ | exact Box.ren_vals _ _ _ _ | exact Box.ren_mid rfl)) (by exact rfl) (by exact rfl) (by repeat' (first | refine all_cons_true ?_ ?_ | rfl | exact bytes_inUse | exact vals_inUse | exact mid_inUse rfl)) (by exact rfl) (by exact rfl)) ⟨l.set i' (gen, 1), L ++ [w], hOk2, by rw [List.length_set]; exact hnl, by rw [← hnL]; omega, fun y hy => (List.mem_append.1 hy).elim (hLs y) fun h => by rw [List.mem_singleton.1 h]; exact hh64, rfl⟩
    · cases hnx : nextE l with
      | none =>
        have hSp := iSpawn_no X g l hOk hnx
        have hS2 := rSpawn_no X g l hl hOk.st hnx
        (refine LWP.region (by kernel_rfl) <| kfa rfl rfl ?_; refine kl1 rfl rfl rfl <| RunK.nil <| LWP.block <| LWP.seq <| LWP.seq <| LWP.region (by kernel_rfl) <| keq rfl rfl (r := false) (beq_eq_false_iff_ne.2 (by omega)) <| kas rfl <| RunK.nil <| LWP.condF rfl ?_; refine LWP.seq <| LWP.region (by kernel_rfl) <| keq rfl rfl (r := true) (beq_iff_eq.2 hk) <| kas rfl <| RunK.nil <| LWP.condT rfl ?_; refine LWP.skip ?_; refine LWP.condT rfl ?_; refine LWP.seq <| LWP.region (by kernel_rfl) <| kmv rfl <| K.callM [(1000000, 500)] [xB 500 g l] (hSp) rfl rfl (by exact (And.intro ⟨_, rfl, rfl⟩ trivial)) (by exact (all_cons_true rfl rfl)) rfl rfl rfl rfl (by exact (.box rfl rfl .nil)) .plain <| kmv rfl <| kex rfl rfl <| kex rfl rfl <| kas rfl <| kas rfl <| RunK.nil <| LWP.seq <| LWP.region (by kernel_rfl) <| K.loadAll rfl rfl (refC_len hl).symm .plain ?_; refine kca rfl (rI_closed g l) hS2 <| kmv rfl <| kex rfl rfl <| kex rfl rfl <| K.alloc rfl .plain ?_; refine K.storeAll rfl rfl rfl (refC_solid g _) (refC_len hl).symm ((refC_len hl).trans refZ_len.symm) .plain ?_; refine kas rfl <| RunK.nil <| LWP.seq <| LWP.seq <| LWP.region (by kernel_rfl) <| kmv rfl <| kmv rfl <| kne rfl rfl (r := false) rfl <| kmv rfl <| gmv rfl rfl rfl <| K.eql rfl rfl (r := false) rfl (.taken rfl rfl) ?_; refine gmv rfl rfl rfl <| K.neq rfl rfl (r := false) rfl (.taken rfl rfl) ?_; refine K.neqB rfl rfl rfl (.taken rfl rfl) ?_; refine kpf rfl rfl <| kmv rfl <| gmv rfl rfl rfl <| K.eql rfl rfl (r := true) rfl (.taken rfl rfl) ?_; refine gmv rfl rfl rfl <| gmv rfl rfl rfl <| K.neq rfl rfl (r := false) rfl (.taken rfl rfl) ?_; refine K.pickT rfl rfl (.taken rfl rfl) ?_; refine kpf rfl rfl <| RunK.nil <| LWP.condF rfl ?_; refine LWP.skip ?_; refine LWP.seq <| LWP.region (by kernel_rfl) <| K.loadAll rfl rfl (refC_len hl).symm .plain ?_; refine K.storeAll rfl rfl rfl (refC_solid g _) (refC_len hl).symm ((refC_len hl).trans (refC_len hl).symm) .plain ?_; refine RunK.nil <| LWP.seq <| LWP.region (by kernel_rfl) <| kmv rfl <| kne rfl rfl (r := false) rfl <| RunK.nil <| LWP.condF rfl ?_; refine LWP.skip ?_)
        exact Leads.here (σ' := ⟨[(13, Lp 13), (14, Ln .u64 (h : Nat)), (15, Lp 15), (2, .sv (.one (.val (.slice (some ⟨blk, off, none⟩) ds.length cap)))), (7, Lp 500), (10, Lp 10), (11, .sv (.one (.slc 501 0 (L).length 1))), (12, Ln .i64 (i : Nat))], [(13, some ⟨47, [.val (.int .i64 kd), .val (.int .i64 ii), .val (.int .u64 (ev : Nat))], false⟩), rfB 15 g l, xB 500 g (l), rfB 10 g (l), (501, some ⟨26, (u64V (L)).map .val, Nat.blt 0 (L).length⟩)], X⟩) (Le.of (by exact ⟨rfl, rfl, rfl, rfl, rfl, rfl, rfl, rfl, trivial⟩) (by exact ⟨rfl, rfl, rfl, rfl, rfl, trivial⟩) (by exact rfl) (by exact rfl) (by repeat' (first | refine all_cons_true ?_ ?_ | rfl | exact bytes_inUse | exact vals_inUse | exact mid_inUse rfl))) ⟨l, L, hOk, hnl, by omega, hLs, rfl⟩
      | some i' =>
        obtain ⟨gen, hx, _⟩ := next_at hnx
        have hgn := okN hOk hx
        have hi' := (List.getElem?_eq_some_iff.1 hx).1
        have hSp := iSpawn X g l hOk hnx hx
        have hS2 := rSpawn X g l hl hOk.st hnx hx (by omega)
        have hh64 := hdl_lt (i := i' + 1) (gen := gen) (by omega) (by omega)
        have hpos : 1 ≤ hdl (i' + 1) gen := by unfold hdl; omega
        have hl2 : (l.set i' (gen, 1)).length ≤ 256 := by rw [List.length_set]; exact hl
        have hOk2 := hOk.spawn hx
        generalize hdl (i' + 1) gen = w at *
        have hcl := u64V_len L
        have hnc := u64V_snoc L w
        have hnL : L.length + 1 = (L ++ [w]).length := by rw [List.length_append]; rfl
        have hrow : Nat.blt 0 (L ++ [w]).length = true := by rw [List.length_append]; simp
        (refine LWP.region (by kernel_rfl) <| kfa rfl rfl ?_; refine kl1 rfl rfl rfl <| RunK.nil <| LWP.block <| LWP.seq <| LWP.seq <| LWP.region (by kernel_rfl) <| keq rfl rfl (r := false) (beq_eq_false_iff_ne.2 (by omega)) <| kas rfl <| RunK.nil <| LWP.condF rfl ?_; refine LWP.seq <| LWP.region (by kernel_rfl) <| keq rfl rfl (r := true) (beq_iff_eq.2 hk) <| kas rfl <| RunK.nil <| LWP.condT rfl ?_; refine LWP.skip ?_; refine LWP.condT rfl ?_; refine LWP.seq <| LWP.region (by kernel_rfl) <| kmv rfl <| K.callM [(1000000, 500)] [xB 500 g (l.set i' (gen, 1))] (hSp) rfl rfl (by exact (And.intro ⟨_, rfl, rfl⟩ trivial)) (by exact (all_cons_true rfl rfl)) rfl rfl rfl rfl (by exact (.box rfl rfl .nil)) .plain <| kmv rfl <| kex rfl rfl <| kex rfl rfl <| kas rfl <| kas rfl <| RunK.nil <| LWP.seq <| LWP.region (by kernel_rfl) <| K.loadAll rfl rfl (refC_len hl).symm .plain ?_; refine kca rfl (rI_closed g l) hS2 <| kmv rfl <| kex rfl rfl <| kex rfl rfl <| K.alloc rfl .plain ?_; refine K.storeAll rfl rfl rfl (refC_solid g _) (refC_len hl2).symm ((refC_len hl2).trans refZ_len.symm) .plain ?_; refine kas rfl <| RunK.nil <| LWP.seq <| LWP.seq <| LWP.region (by kernel_rfl) <| kmv rfl <| kmv rfl <| kne rfl rfl (r := false) (bne_eq_false_iff_eq.2 rfl) <| kmv rfl <| gmv rfl rfl rfl <| K.eql rfl rfl (r := true) rfl (.taken rfl rfl) ?_; refine gmv rfl rfl rfl <| K.neq rfl rfl (r := true) (bne_iff_ne.2 (by omega)) (.taken rfl rfl) ?_; refine K.neqB rfl rfl rfl (.taken rfl rfl) ?_; refine kpf rfl rfl <| kmv rfl <| gmv rfl rfl rfl <| K.eql rfl rfl (r := false) (beq_eq_false_iff_ne.2 (by omega)) (.taken rfl rfl) ?_; refine gmv rfl rfl rfl <| RunK.passed rfl rfl rfl <| RunK.passed rfl rfl rfl <| K.pickF rfl rfl (.taken rfl rfl) ?_; refine kpf rfl rfl <| RunK.nil <| LWP.condF rfl ?_; refine LWP.skip ?_; refine LWP.seq <| LWP.region (by kernel_rfl) <| K.loadAll rfl rfl (refC_len hl2).symm .plain ?_; refine K.storeAll rfl rfl rfl (refC_solid g _) (refC_len hl2).symm ((refC_len hl2).trans (refC_len hl).symm) .plain ?_; refine RunK.nil <| LWP.seq <| LWP.region (by kernel_rfl) <| kmv rfl <| kne rfl rfl (r := true) (bne_iff_ne.2 (by omega)) <| RunK.nil <| LWP.condT rfl ?_; refine LWP.region (by kernel_rfl) <| kmv rfl <| kmv rfl <| K.buildSlc (zs := [.int .u64 0]) (sz := 1) (e := 26) (cs' := [.val (.int .u64 (w : Nat))]) (by kernel_rfl) rfl rfl rfl rfl rfl rfl .plain <| K.appendSlc (by_ := 8) (e2 := 26) (l2 := [.val (.int .u64 (w : Nat))]) (nl := (L ++ [w]).length) (nc := (u64V (L ++ [w])).map .val) rfl rfl hcl rfl rfl (Nat.le_refl _) rfl rfl (by kernel_rfl) (by kernel_rfl) (by omega) (by omega) rfl hnL hnc .plain <| kas rfl <| RunK.nil ?_)
        exact Leads.here (σ' := ⟨[(13, Lp 13), (14, Ln .u64 (h : Nat)), (15, Lp 15), (2, .sv (.one (.val (.slice (some ⟨blk, off, none⟩) ds.length cap)))), (7, Lp 500), (10, Lp 10), (11, .sv (.one (.slc 501 0 (L ++ [w]).length 1))), (12, Ln .i64 (i : Nat))], [(13, some ⟨47, [.val (.int .i64 kd), .val (.int .i64 ii), .val (.int .u64 (ev : Nat))], false⟩), rfB 15 g l, xB 500 g (l.set i' (gen, 1)), rfB 10 g (l.set i' (gen, 1)), (501, some ⟨26, (u64V (L ++ [w])).map .val, Nat.blt 0 (L ++ [w]).length⟩)], X⟩) (by rw [hrow]; exact Le.ofR [(501, 175)] (by exact ⟨rfl, rfl, rfl, rfl, rfl, rfl, rfl, rfl, trivial⟩) (by repeat' (first | exact trivial | refine And.intro ⟨_, rfl, ?_⟩ ?_ | refine And.intro ⟨_, rfl⟩ ?_ | rfl | exact Box.ren_bytes _ _ _ _ | exact Box.ren_vals _ _ _ _ | exact Box.ren_mid rfl)) (by exact rfl) (by exact rfl) (by repeat' (first | refine all_cons_true ?_ ?_ | rfl | exact bytes_inUse | exact vals_inUse | exact mid_inUse rfl)) (by exact rfl) (by exact rfl)) ⟨l.set i' (gen, 1), L ++ [w], hOk2, by rw [List.length_set]; exact hnl, by rw [← hnL]; omega, fun y hy => (List.mem_append.1 hy).elim (hLs y) fun h => by rw [List.mem_singleton.1 h]; exact hh64, rfl⟩
    · cases hnx : nextE l with
      | none =>
        have hSp := iSpawn_no X g l hOk hnx
        have hS2 := rSpawn_no X g l hl hOk.st hnx
        (refine LWP.region (by kernel_rfl) <| kfa rfl rfl ?_; refine kl1 rfl rfl rfl <| RunK.nil <| LWP.block <| LWP.seq <| LWP.seq <| LWP.region (by kernel_rfl) <| keq rfl rfl (r := false) (beq_eq_false_iff_ne.2 (by omega)) <| kas rfl <| RunK.nil <| LWP.condF rfl ?_; refine LWP.seq <| LWP.region (by kernel_rfl) <| keq rfl rfl (r := false) (beq_eq_false_iff_ne.2 (by omega)) <| kas rfl <| RunK.nil <| LWP.condF rfl ?_; refine LWP.region (by kernel_rfl) <| keq rfl rfl (r := true) (beq_iff_eq.2 hk) <| kas rfl <| RunK.nil <| LWP.condT rfl ?_; refine LWP.seq <| LWP.region (by kernel_rfl) <| kmv rfl <| K.callM [(1000000, 500)] [xB 500 g l] (hSp) rfl rfl (by exact (And.intro ⟨_, rfl, rfl⟩ trivial)) (by exact (all_cons_true rfl rfl)) rfl rfl rfl rfl (by exact (.box rfl rfl .nil)) .plain <| kmv rfl <| kex rfl rfl <| kex rfl rfl <| kas rfl <| kas rfl <| RunK.nil <| LWP.seq <| LWP.region (by kernel_rfl) <| K.loadAll rfl rfl (refC_len hl).symm .plain ?_; refine kca rfl (rI_closed g l) hS2 <| kmv rfl <| kex rfl rfl <| kex rfl rfl <| K.alloc rfl .plain ?_; refine K.storeAll rfl rfl rfl (refC_solid g _) (refC_len hl).symm ((refC_len hl).trans refZ_len.symm) .plain ?_; refine kas rfl <| RunK.nil <| LWP.seq <| LWP.seq <| LWP.region (by kernel_rfl) <| kmv rfl <| kmv rfl <| kne rfl rfl (r := false) rfl <| kmv rfl <| gmv rfl rfl rfl <| K.eql rfl rfl (r := false) rfl (.taken rfl rfl) ?_; refine gmv rfl rfl rfl <| K.neq rfl rfl (r := false) rfl (.taken rfl rfl) ?_; refine K.neqB rfl rfl rfl (.taken rfl rfl) ?_; refine kpf rfl rfl <| kmv rfl <| gmv rfl rfl rfl <| K.eql rfl rfl (r := true) rfl (.taken rfl rfl) ?_; refine gmv rfl rfl rfl <| gmv rfl rfl rfl <| K.neq rfl rfl (r := false) rfl (.taken rfl rfl) ?_; refine K.pickT rfl rfl (.taken rfl rfl) ?_; refine kpf rfl rfl <| RunK.nil <| LWP.condF rfl ?_; refine LWP.skip ?_; refine LWP.seq <| LWP.region (by kernel_rfl) <| K.loadAll rfl rfl (refC_len hl).symm .plain ?_; refine K.storeAll rfl rfl rfl (refC_solid g _) (refC_len hl).symm ((refC_len hl).trans (refC_len hl).symm) .plain ?_; refine RunK.nil <| LWP.seq <| LWP.region (by kernel_rfl) <| kmv rfl <| kne rfl rfl (r := false) rfl <| RunK.nil <| LWP.condF rfl ?_; refine LWP.skip ?_)
        exact Leads.here (σ' := ⟨[(13, Lp 13), (14, Ln .u64 (h : Nat)), (15, Lp 15), (2, .sv (.one (.val (.slice (some ⟨blk, off, none⟩) ds.length cap)))), (7, Lp 500), (10, Lp 10), (11, .sv (.one (.slc 501 0 (L).length 1))), (12, Ln .i64 (i : Nat))], [(13, some ⟨47, [.val (.int .i64 kd), .val (.int .i64 ii), .val (.int .u64 (ev : Nat))], false⟩), rfB 15 g l, xB 500 g (l), rfB 10 g (l), (501, some ⟨26, (u64V (L)).map .val, Nat.blt 0 (L).length⟩)], X⟩) (Le.of (by exact ⟨rfl, rfl, rfl, rfl, rfl, rfl, rfl, rfl, trivial⟩) (by exact ⟨rfl, rfl, rfl, rfl, rfl, trivial⟩) (by exact rfl) (by exact rfl) (by repeat' (first | refine all_cons_true ?_ ?_ | rfl | exact bytes_inUse | exact vals_inUse | exact mid_inUse rfl))) ⟨l, L, hOk, hnl, by omega, hLs, rfl⟩
      | some i' =>
        obtain ⟨gen, hx, _⟩ := next_at hnx
        have hgn := okN hOk hx
        have hi' := (List.getElem?_eq_some_iff.1 hx).1
        have hSp := iSpawn X g l hOk hnx hx
        have hS2 := rSpawn X g l hl hOk.st hnx hx (by omega)
        have hh64 := hdl_lt (i := i' + 1) (gen := gen) (by omega) (by omega)
        have hpos : 1 ≤ hdl (i' + 1) gen := by unfold hdl; omega
        have hl2 : (l.set i' (gen, 1)).length ≤ 256 := by rw [List.length_set]; exact hl
        have hOk2 := hOk.spawn hx
        generalize hdl (i' + 1) gen = w at *
        have hcl := u64V_len L
        have hnc := u64V_snoc L w
        have hnL : L.length + 1 = (L ++ [w]).length := by rw [List.length_append]; rfl
        have hrow : Nat.blt 0 (L ++ [w]).length = true := by rw [List.length_append]; simp
        (refine LWP.region (by kernel_rfl) <| kfa rfl rfl ?_; refine kl1 rfl rfl rfl <| RunK.nil <| LWP.block <| LWP.seq <| LWP.seq <| LWP.region (by kernel_rfl) <| keq rfl rfl (r := false) (beq_eq_false_iff_ne.2 (by omega)) <| kas rfl <| RunK.nil <| LWP.condF rfl ?_; refine LWP.seq <| LWP.region (by kernel_rfl) <| keq rfl rfl (r := false) (beq_eq_false_iff_ne.2 (by omega)) <| kas rfl <| RunK.nil <| LWP.condF rfl ?_; refine LWP.region (by kernel_rfl) <| keq rfl rfl (r := true) (beq_iff_eq.2 hk) <| kas rfl <| RunK.nil <| LWP.condT rfl ?_; refine LWP.seq <| LWP.region (by kernel_rfl) <| kmv rfl <| K.callM [(1000000, 500)] [xB 500 g (l.set i' (gen, 1))] (hSp) rfl rfl (by exact (And.intro ⟨_, rfl, rfl⟩ trivial)) (by exact (all_cons_true rfl rfl)) rfl rfl rfl rfl (by exact (.box rfl rfl .nil)) .plain <| kmv rfl <| kex rfl rfl <| kex rfl rfl <| kas rfl <| kas rfl <| RunK.nil <| LWP.seq <| LWP.region (by kernel_rfl) <| K.loadAll rfl rfl (refC_len hl).symm .plain ?_; refine kca rfl (rI_closed g l) hS2 <| kmv rfl <| kex rfl rfl <| kex rfl rfl <| K.alloc rfl .plain ?_; refine K.storeAll rfl rfl rfl (refC_solid g _) (refC_len hl2).symm ((refC_len hl2).trans refZ_len.symm) .plain ?_; refine kas rfl <| RunK.nil <| LWP.seq <| LWP.seq <| LWP.region (by kernel_rfl) <| kmv rfl <| kmv rfl <| kne rfl rfl (r := false) (bne_eq_false_iff_eq.2 rfl) <| kmv rfl <| gmv rfl rfl rfl <| K.eql rfl rfl (r := true) rfl (.taken rfl rfl) ?_; refine gmv rfl rfl rfl <| K.neq rfl rfl (r := true) (bne_iff_ne.2 (by omega)) (.taken rfl rfl) ?_; refine K.neqB rfl rfl rfl (.taken rfl rfl) ?_; refine kpf rfl rfl <| kmv rfl <| gmv rfl rfl rfl <| K.eql rfl rfl (r := false) (beq_eq_false_iff_ne.2 (by omega)) (.taken rfl rfl) ?_; refine gmv rfl rfl rfl <| RunK.passed rfl rfl rfl <| RunK.passed rfl rfl rfl <| K.pickF rfl rfl (.taken rfl rfl) ?_; refine kpf rfl rfl <| RunK.nil <| LWP.condF rfl ?_; refine LWP.skip ?_; refine LWP.seq <| LWP.region (by kernel_rfl) <| K.loadAll rfl rfl (refC_len hl2).symm .plain ?_; refine K.storeAll rfl rfl rfl (refC_solid g _) (refC_len hl2).symm ((refC_len hl2).trans (refC_len hl).symm) .plain ?_; refine RunK.nil <| LWP.seq <| LWP.region (by kernel_rfl) <| kmv rfl <| kne rfl rfl (r := true) (bne_iff_ne.2 (by omega)) <| RunK.nil <| LWP.condT rfl ?_; refine LWP.region (by kernel_rfl) <| kmv rfl <| kmv rfl <| K.buildSlc (zs := [.int .u64 0]) (sz := 1) (e := 26) (cs' := [.val (.int .u64 (w : Nat))]) (by kernel_rfl) rfl rfl rfl rfl rfl rfl .plain <| K.appendSlc (by_ := 8) (e2 := 26) (l2 := [.val (.int .u64 (w : Nat))]) (nl := (L ++ [w]).length) (nc := (u64V (L ++ [w])).map .val) rfl rfl hcl rfl rfl (Nat.le_refl _) rfl rfl (by kernel_rfl) (by kernel_rfl) (by omega) (by omega) rfl hnL hnc .plain <| kas rfl <| RunK.nil ?_)
        exact Leads.here (σ' := ⟨[(13, Lp 13), (14, Ln .u64 (h : Nat)), (15, Lp 15), (2, .sv (.one (.val (.slice (some ⟨blk, off, none⟩) ds.length cap)))), (7, Lp 500), (10, Lp 10), (11, .sv (.one (.slc 501 0 (L ++ [w]).length 1))), (12, Ln .i64 (i : Nat))], [(13, some ⟨47, [.val (.int .i64 kd), .val (.int .i64 ii), .val (.int .u64 (ev : Nat))], false⟩), rfB 15 g l, xB 500 g (l.set i' (gen, 1)), rfB 10 g (l.set i' (gen, 1)), (501, some ⟨26, (u64V (L ++ [w])).map .val, Nat.blt 0 (L ++ [w]).length⟩)], X⟩) (by rw [hrow]; exact Le.ofR [(501, 175)] (by exact ⟨rfl, rfl, rfl, rfl, rfl, rfl, rfl, rfl, trivial⟩) (by repeat' (first | exact trivial | refine And.intro ⟨_, rfl, ?_⟩ ?_ | refine And.intro ⟨_, rfl⟩ ?_ | rfl | exact Box.ren_bytes _ _ _ _ | exact Box.ren_vals _ _ _ _ | exact Box.ren_mid rfl)) (by exact rfl) (by exact rfl) (by repeat' (first | refine all_cons_true ?_ ?_ | rfl | exact bytes_inUse | exact vals_inUse | exact mid_inUse rfl)) (by exact rfl) (by exact rfl)) ⟨l.set i' (gen, 1), L ++ [w], hOk2, by rw [List.length_set]; exact hnl, by rw [← hnL]; omega, fun y hy => (List.mem_append.1 hy).elim (hLs y) fun h => by rw [List.mem_singleton.1 h]; exact hh64, rfl⟩
    · cases ha : aliveB l h with
      | false =>
        have hK := iKill_no X g l hOk h hh ha
        have hK2 := rKill_no X g l h hl hh hOk.gen ha
        (refine LWP.region (by kernel_rfl) <| kfa rfl rfl ?_; refine kl1 rfl rfl rfl <| RunK.nil <| LWP.block <| LWP.seq <| LWP.seq <| LWP.region (by kernel_rfl) <| keq rfl rfl (r := false) (beq_eq_false_iff_ne.2 (by omega)) <| kas rfl <| RunK.nil <| LWP.condF rfl ?_; refine LWP.seq <| LWP.region (by kernel_rfl) <| keq rfl rfl (r := false) (beq_eq_false_iff_ne.2 (by omega)) <| kas rfl <| RunK.nil <| LWP.condF rfl ?_; refine LWP.region (by kernel_rfl) <| keq rfl rfl (r := false) (beq_eq_false_iff_ne.2 (by omega)) <| kas rfl <| RunK.nil <| LWP.condF rfl ?_; refine LWP.seq <| LWP.seq <| LWP.region (by kernel_rfl) <| keq rfl rfl (r := true) (beq_iff_eq.2 hk) <| kas rfl <| RunK.nil <| LWP.condT rfl ?_; refine LWP.skip ?_; refine LWP.condT rfl ?_; refine LWP.seq <| LWP.region (by kernel_rfl) <| kmv rfl <| kmv rfl <| K.callM [(1000000, 500)] [xB 500 g l] (hK) rfl rfl (by exact (And.intro ⟨_, rfl, rfl⟩ trivial)) (by exact (all_cons_true rfl rfl)) rfl rfl rfl rfl (by exact (.box rfl rfl .nil)) .plain <| kas rfl <| RunK.nil <| LWP.seq <| LWP.region (by kernel_rfl) <| K.loadAll rfl rfl (refC_len hl).symm .plain ?_; refine kmv rfl <| kca rfl (rI_closed2 g l _) hK2 <| kmv rfl <| kex rfl rfl <| kex rfl rfl <| K.alloc rfl .plain ?_; refine K.storeAll rfl rfl rfl (refC_solid g _) (refC_len hl).symm ((refC_len hl).trans refZ_len.symm) .plain ?_; refine kas rfl <| RunK.nil <| LWP.seq <| LWP.seq <| LWP.region (by kernel_rfl) <| kmv rfl <| kmv rfl <| keq rfl rfl (r := false) rfl <| K.neqB rfl rfl rfl .plain <| kmv rfl <| gmv rfl rfl rfl <| K.not rfl rfl (.taken rfl rfl) ?_; refine gmv rfl rfl rfl <| gmv rfl rfl rfl <| K.neq rfl rfl (r := false) rfl (.taken rfl rfl) ?_; refine K.pickT rfl rfl (.taken rfl rfl) ?_; refine kpf rfl rfl <| RunK.nil <| LWP.condF rfl ?_; refine LWP.skip ?_; refine LWP.region (by kernel_rfl) <| K.loadAll rfl rfl (refC_len hl).symm .plain ?_; refine K.storeAll rfl rfl rfl (refC_solid g _) (refC_len hl).symm ((refC_len hl).trans (refC_len hl).symm) .plain ?_; refine RunK.nil ?_)
        exact Leads.here (σ' := ⟨[(13, Lp 13), (14, Ln .u64 (h : Nat)), (15, Lp 15), (2, .sv (.one (.val (.slice (some ⟨blk, off, none⟩) ds.length cap)))), (7, Lp 500), (10, Lp 10), (11, .sv (.one (.slc 501 0 (L).length 1))), (12, Ln .i64 (i : Nat))], [(13, some ⟨47, [.val (.int .i64 kd), .val (.int .i64 ii), .val (.int .u64 (ev : Nat))], false⟩), rfB 15 g l, xB 500 g (l), rfB 10 g (l), (501, some ⟨26, (u64V (L)).map .val, Nat.blt 0 (L).length⟩)], X⟩) (Le.of (by exact ⟨rfl, rfl, rfl, rfl, rfl, rfl, rfl, rfl, trivial⟩) (by exact ⟨rfl, rfl, rfl, rfl, rfl, trivial⟩) (by exact rfl) (by exact rfl) (by repeat' (first | refine all_cons_true ?_ ?_ | rfl | exact bytes_inUse | exact vals_inUse | exact mid_inUse rfl))) ⟨l, L, hOk, hnl, by omega, hLs, rfl⟩
      | true =>
        obtain ⟨i', gen, q1, q2, hx⟩ := alive_at ha
        have hK := iKill X g l hOk h hh ha q1 hx
        have hK2 := rKill X g l h hl hh hOk.gen ha q1 hx
        have hOk2 := hOk.kill hx
        have hl2 : (l.set i' (killE g (gen, 1))).length ≤ 256 := by rw [List.length_set]; exact hl
        (refine LWP.region (by kernel_rfl) <| kfa rfl rfl ?_; refine kl1 rfl rfl rfl <| RunK.nil <| LWP.block <| LWP.seq <| LWP.seq <| LWP.region (by kernel_rfl) <| keq rfl rfl (r := false) (beq_eq_false_iff_ne.2 (by omega)) <| kas rfl <| RunK.nil <| LWP.condF rfl ?_; refine LWP.seq <| LWP.region (by kernel_rfl) <| keq rfl rfl (r := false) (beq_eq_false_iff_ne.2 (by omega)) <| kas rfl <| RunK.nil <| LWP.condF rfl ?_; refine LWP.region (by kernel_rfl) <| keq rfl rfl (r := false) (beq_eq_false_iff_ne.2 (by omega)) <| kas rfl <| RunK.nil <| LWP.condF rfl ?_; refine LWP.seq <| LWP.seq <| LWP.region (by kernel_rfl) <| keq rfl rfl (r := true) (beq_iff_eq.2 hk) <| kas rfl <| RunK.nil <| LWP.condT rfl ?_; refine LWP.skip ?_; refine LWP.condT rfl ?_; refine LWP.seq <| LWP.region (by kernel_rfl) <| kmv rfl <| kmv rfl <| K.callM [(1000000, 500)] [xB 500 g (l.set i' (killE g (gen, 1)))] (hK) rfl rfl (by exact (And.intro ⟨_, rfl, rfl⟩ trivial)) (by exact (all_cons_true rfl rfl)) rfl rfl rfl rfl (by exact (.box rfl rfl .nil)) .plain <| kas rfl <| RunK.nil <| LWP.seq <| LWP.region (by kernel_rfl) <| K.loadAll rfl rfl (refC_len hl).symm .plain ?_; refine kmv rfl <| kca rfl (rI_closed2 g l _) hK2 <| kmv rfl <| kex rfl rfl <| kex rfl rfl <| K.alloc rfl .plain ?_; refine K.storeAll rfl rfl rfl (refC_solid g _) (refC_len hl2).symm ((refC_len hl2).trans refZ_len.symm) .plain ?_; refine kas rfl <| RunK.nil <| LWP.seq <| LWP.seq <| LWP.region (by kernel_rfl) <| kmv rfl <| kmv rfl <| keq rfl rfl (r := true) rfl <| K.neqB rfl rfl rfl .plain <| kmv rfl <| gmv rfl rfl rfl <| K.not rfl rfl (.taken rfl rfl) ?_; refine gmv rfl rfl rfl <| RunK.passed rfl rfl rfl <| RunK.passed rfl rfl rfl <| K.pickF rfl rfl (.taken rfl rfl) ?_; refine kpf rfl rfl <| RunK.nil <| LWP.condF rfl ?_; refine LWP.skip ?_; refine LWP.region (by kernel_rfl) <| K.loadAll rfl rfl (refC_len hl2).symm .plain ?_; refine K.storeAll rfl rfl rfl (refC_solid g _) (refC_len hl2).symm ((refC_len hl2).trans (refC_len hl).symm) .plain ?_; refine RunK.nil ?_)
        exact Leads.here (σ' := ⟨[(13, Lp 13), (14, Ln .u64 (h : Nat)), (15, Lp 15), (2, .sv (.one (.val (.slice (some ⟨blk, off, none⟩) ds.length cap)))), (7, Lp 500), (10, Lp 10), (11, .sv (.one (.slc 501 0 (L).length 1))), (12, Ln .i64 (i : Nat))], [(13, some ⟨47, [.val (.int .i64 kd), .val (.int .i64 ii), .val (.int .u64 (ev : Nat))], false⟩), rfB 15 g l, xB 500 g (l.set i' (killE g (gen, 1))), rfB 10 g (l.set i' (killE g (gen, 1))), (501, some ⟨26, (u64V (L)).map .val, Nat.blt 0 (L).length⟩)], X⟩) (Le.of (by exact ⟨rfl, rfl, rfl, rfl, rfl, rfl, rfl, rfl, trivial⟩) (by exact ⟨rfl, rfl, rfl, rfl, rfl, trivial⟩) (by exact rfl) (by exact rfl) (by repeat' (first | refine all_cons_true ?_ ?_ | rfl | exact bytes_inUse | exact vals_inUse | exact mid_inUse rfl))) ⟨l.set i' (killE g (gen, 1)), L, hOk2, by rw [List.length_set]; exact hnl, by omega, hLs, rfl⟩
    · cases ha : aliveB l h with
      | false =>
        have hK := iKill_no X g l hOk h hh ha
        have hK2 := rKill_no X g l h hl hh hOk.gen ha
        (refine LWP.region (by kernel_rfl) <| kfa rfl rfl ?_; refine kl1 rfl rfl rfl <| RunK.nil <| LWP.block <| LWP.seq <| LWP.seq <| LWP.region (by kernel_rfl) <| keq rfl rfl (r := false) (beq_eq_false_iff_ne.2 (by omega)) <| kas rfl <| RunK.nil <| LWP.condF rfl ?_; refine LWP.seq <| LWP.region (by kernel_rfl) <| keq rfl rfl (r := false) (beq_eq_false_iff_ne.2 (by omega)) <| kas rfl <| RunK.nil <| LWP.condF rfl ?_; refine LWP.region (by kernel_rfl) <| keq rfl rfl (r := false) (beq_eq_false_iff_ne.2 (by omega)) <| kas rfl <| RunK.nil <| LWP.condF rfl ?_; refine LWP.seq <| LWP.seq <| LWP.region (by kernel_rfl) <| keq rfl rfl (r := false) (beq_eq_false_iff_ne.2 (by omega)) <| kas rfl <| RunK.nil <| LWP.condF rfl ?_; refine LWP.region (by kernel_rfl) <| keq rfl rfl (r := true) (beq_iff_eq.2 hk) <| kas rfl <| RunK.nil <| LWP.condT rfl ?_; refine LWP.seq <| LWP.region (by kernel_rfl) <| kmv rfl <| kmv rfl <| K.callM [(1000000, 500)] [xB 500 g l] (hK) rfl rfl (by exact (And.intro ⟨_, rfl, rfl⟩ trivial)) (by exact (all_cons_true rfl rfl)) rfl rfl rfl rfl (by exact (.box rfl rfl .nil)) .plain <| kas rfl <| RunK.nil <| LWP.seq <| LWP.region (by kernel_rfl) <| K.loadAll rfl rfl (refC_len hl).symm .plain ?_; refine kmv rfl <| kca rfl (rI_closed2 g l _) hK2 <| kmv rfl <| kex rfl rfl <| kex rfl rfl <| K.alloc rfl .plain ?_; refine K.storeAll rfl rfl rfl (refC_solid g _) (refC_len hl).symm ((refC_len hl).trans refZ_len.symm) .plain ?_; refine kas rfl <| RunK.nil <| LWP.seq <| LWP.seq <| LWP.region (by kernel_rfl) <| kmv rfl <| kmv rfl <| keq rfl rfl (r := false) rfl <| K.neqB rfl rfl rfl .plain <| kmv rfl <| gmv rfl rfl rfl <| K.not rfl rfl (.taken rfl rfl) ?_; refine gmv rfl rfl rfl <| gmv rfl rfl rfl <| K.neq rfl rfl (r := false) rfl (.taken rfl rfl) ?_; refine K.pickT rfl rfl (.taken rfl rfl) ?_; refine kpf rfl rfl <| RunK.nil <| LWP.condF rfl ?_; refine LWP.skip ?_; refine LWP.region (by kernel_rfl) <| K.loadAll rfl rfl (refC_len hl).symm .plain ?_; refine K.storeAll rfl rfl rfl (refC_solid g _) (refC_len hl).symm ((refC_len hl).trans (refC_len hl).symm) .plain ?_; refine RunK.nil ?_)
        exact Leads.here (σ' := ⟨[(13, Lp 13), (14, Ln .u64 (h : Nat)), (15, Lp 15), (2, .sv (.one (.val (.slice (some ⟨blk, off, none⟩) ds.length cap)))), (7, Lp 500), (10, Lp 10), (11, .sv (.one (.slc 501 0 (L).length 1))), (12, Ln .i64 (i : Nat))], [(13, some ⟨47, [.val (.int .i64 kd), .val (.int .i64 ii), .val (.int .u64 (ev : Nat))], false⟩), rfB 15 g l, xB 500 g (l), rfB 10 g (l), (501, some ⟨26, (u64V (L)).map .val, Nat.blt 0 (L).length⟩)], X⟩) (Le.of (by exact ⟨rfl, rfl, rfl, rfl, rfl, rfl, rfl, rfl, trivial⟩) (by exact ⟨rfl, rfl, rfl, rfl, rfl, trivial⟩) (by exact rfl) (by exact rfl) (by repeat' (first | refine all_cons_true ?_ ?_ | rfl | exact bytes_inUse | exact vals_inUse | exact mid_inUse rfl))) ⟨l, L, hOk, hnl, by omega, hLs, rfl⟩
      | true =>
        obtain ⟨i', gen, q1, q2, hx⟩ := alive_at ha
        have hK := iKill X g l hOk h hh ha q1 hx
        have hK2 := rKill X g l h hl hh hOk.gen ha q1 hx
        have hOk2 := hOk.kill hx
        have hl2 : (l.set i' (killE g (gen, 1))).length ≤ 256 := by rw [List.length_set]; exact hl
        (refine LWP.region (by kernel_rfl) <| kfa rfl rfl ?_; refine kl1 rfl rfl rfl <| RunK.nil <| LWP.block <| LWP.seq <| LWP.seq <| LWP.region (by kernel_rfl) <| keq rfl rfl (r := false) (beq_eq_false_iff_ne.2 (by omega)) <| kas rfl <| RunK.nil <| LWP.condF rfl ?_; refine LWP.seq <| LWP.region (by kernel_rfl) <| keq rfl rfl (r := false) (beq_eq_false_iff_ne.2 (by omega)) <| kas rfl <| RunK.nil <| LWP.condF rfl ?_; refine LWP.region (by kernel_rfl) <| keq rfl rfl (r := false) (beq_eq_false_iff_ne.2 (by omega)) <| kas rfl <| RunK.nil <| LWP.condF rfl ?_; refine LWP.seq <| LWP.seq <| LWP.region (by kernel_rfl) <| keq rfl rfl (r := false) (beq_eq_false_iff_ne.2 (by omega)) <| kas rfl <| RunK.nil <| LWP.condF rfl ?_; refine LWP.region (by kernel_rfl) <| keq rfl rfl (r := true) (beq_iff_eq.2 hk) <| kas rfl <| RunK.nil <| LWP.condT rfl ?_; refine LWP.seq <| LWP.region (by kernel_rfl) <| kmv rfl <| kmv rfl <| K.callM [(1000000, 500)] [xB 500 g (l.set i' (killE g (gen, 1)))] (hK) rfl rfl (by exact (And.intro ⟨_, rfl, rfl⟩ trivial)) (by exact (all_cons_true rfl rfl)) rfl rfl rfl rfl (by exact (.box rfl rfl .nil)) .plain <| kas rfl <| RunK.nil <| LWP.seq <| LWP.region (by kernel_rfl) <| K.loadAll rfl rfl (refC_len hl).symm .plain ?_; refine kmv rfl <| kca rfl (rI_closed2 g l _) hK2 <| kmv rfl <| kex rfl rfl <| kex rfl rfl <| K.alloc rfl .plain ?_; refine K.storeAll rfl rfl rfl (refC_solid g _) (refC_len hl2).symm ((refC_len hl2).trans refZ_len.symm) .plain ?_; refine kas rfl <| RunK.nil <| LWP.seq <| LWP.seq <| LWP.region (by kernel_rfl) <| kmv rfl <| kmv rfl <| keq rfl rfl (r := true) rfl <| K.neqB rfl rfl rfl .plain <| kmv rfl <| gmv rfl rfl rfl <| K.not rfl rfl (.taken rfl rfl) ?_; refine gmv rfl rfl rfl <| RunK.passed rfl rfl rfl <| RunK.passed rfl rfl rfl <| K.pickF rfl rfl (.taken rfl rfl) ?_; refine kpf rfl rfl <| RunK.nil <| LWP.condF rfl ?_; refine LWP.skip ?_; refine LWP.region (by kernel_rfl) <| K.loadAll rfl rfl (refC_len hl2).symm .plain ?_; refine K.storeAll rfl rfl rfl (refC_solid g _) (refC_len hl2).symm ((refC_len hl2).trans (refC_len hl).symm) .plain ?_; refine RunK.nil ?_)
        exact Leads.here (σ' := ⟨[(13, Lp 13), (14, Ln .u64 (h : Nat)), (15, Lp 15), (2, .sv (.one (.val (.slice (some ⟨blk, off, none⟩) ds.length cap)))), (7, Lp 500), (10, Lp 10), (11, .sv (.one (.slc 501 0 (L).length 1))), (12, Ln .i64 (i : Nat))], [(13, some ⟨47, [.val (.int .i64 kd), .val (.int .i64 ii), .val (.int .u64 (ev : Nat))], false⟩), rfB 15 g l, xB 500 g (l.set i' (killE g (gen, 1))), rfB 10 g (l.set i' (killE g (gen, 1))), (501, some ⟨26, (u64V (L)).map .val, Nat.blt 0 (L).length⟩)], X⟩) (Le.of (by exact ⟨rfl, rfl, rfl, rfl, rfl, rfl, rfl, rfl, trivial⟩) (by exact ⟨rfl, rfl, rfl, rfl, rfl, trivial⟩) (by exact rfl) (by exact rfl) (by repeat' (first | refine all_cons_true ?_ ?_ | rfl | exact bytes_inUse | exact vals_inUse | exact mid_inUse rfl))) ⟨l.set i' (killE g (gen, 1)), L, hOk2, by rw [List.length_set]; exact hnl, by omega, hLs, rfl⟩
    · have hC := iClone X g l hOk
      have hSm := iSame X g g l l hOk hOk
      rw [same_self] at hSm
      (refine LWP.region (by kernel_rfl) <| kfa rfl rfl ?_; refine kl1 rfl rfl rfl <| RunK.nil <| LWP.block <| LWP.seq <| LWP.seq <| LWP.region (by kernel_rfl) <| keq rfl rfl (r := false) (beq_eq_false_iff_ne.2 (by omega)) <| kas rfl <| RunK.nil <| LWP.condF rfl ?_; refine LWP.seq <| LWP.region (by kernel_rfl) <| keq rfl rfl (r := false) (beq_eq_false_iff_ne.2 (by omega)) <| kas rfl <| RunK.nil <| LWP.condF rfl ?_; refine LWP.region (by kernel_rfl) <| keq rfl rfl (r := false) (beq_eq_false_iff_ne.2 (by omega)) <| kas rfl <| RunK.nil <| LWP.condF rfl ?_; refine LWP.seq <| LWP.seq <| LWP.region (by kernel_rfl) <| keq rfl rfl (r := false) (beq_eq_false_iff_ne.2 (by omega)) <| kas rfl <| RunK.nil <| LWP.condF rfl ?_; refine LWP.region (by kernel_rfl) <| keq rfl rfl (r := false) (beq_eq_false_iff_ne.2 (by omega)) <| kas rfl <| RunK.nil <| LWP.condF rfl ?_; refine LWP.seq <| LWP.region (by kernel_rfl) <| keq rfl rfl (r := true) (beq_iff_eq.2 hk) <| kas rfl <| RunK.nil <| LWP.condT rfl ?_; refine LWP.seq <| LWP.region (by kernel_rfl) <| kmv rfl <| K.callMp [(1000000, 500), (1000001, 502)] (Lp 502) [xB 500 g l, xB 502 g l] (hC) rfl rfl (by exact (And.intro ⟨_, rfl, rfl⟩ trivial)) (by exact (all_cons_true rfl rfl)) rfl rfl rfl rfl (by exact (.box rfl rfl (.box rfl rfl .nil))) .plain <| kas rfl <| RunK.nil <| LWP.seq <| LWP.seq <| LWP.region (by kernel_rfl) <| kmv rfl <| kmv rfl <| K.callM [(1000000, 500), (1000001, 502)] [xB 500 g l, xB 502 g l] (hSm) rfl rfl (by exact (And.intro ⟨_, rfl, rfl⟩ (And.intro ⟨_, rfl, rfl⟩ trivial))) (by exact (all_cons_true rfl (all_cons_true rfl rfl))) rfl rfl rfl rfl (by exact (.box rfl rfl (.box rfl rfl .nil))) .plain <| K.not rfl rfl .plain <| RunK.nil ?_; refine LWP.condF rfl ?_; refine LWP.skip ?_; refine LWP.region (by kernel_rfl) <| kmv rfl <| kas rfl <| RunK.nil ?_)
      exact Leads.here (σ' := ⟨[(13, Lp 13), (14, Ln .u64 (h : Nat)), (15, Lp 15), (2, .sv (.one (.val (.slice (some ⟨blk, off, none⟩) ds.length cap)))), (7, Lp 500), (10, Lp 10), (11, .sv (.one (.slc 501 0 (L).length 1))), (12, Ln .i64 (i : Nat))], [(13, some ⟨47, [.val (.int .i64 kd), .val (.int .i64 ii), .val (.int .u64 (ev : Nat))], false⟩), rfB 15 g l, xB 500 g (l), rfB 10 g (l), (501, some ⟨26, (u64V (L)).map .val, Nat.blt 0 (L).length⟩)], X⟩) (Le.ofR [(500, 502)] (by exact ⟨rfl, rfl, rfl, rfl, rfl, rfl, rfl, rfl, trivial⟩) (by repeat' (first | exact trivial | refine And.intro ⟨_, rfl, ?_⟩ ?_ | refine And.intro ⟨_, rfl⟩ ?_ | rfl | exact Box.ren_bytes _ _ _ _ | exact Box.ren_vals _ _ _ _ | exact Box.ren_mid rfl)) (by exact rfl) (by exact rfl) (by repeat' (first | refine all_cons_true ?_ ?_ | rfl | exact bytes_inUse | exact vals_inUse | exact mid_inUse rfl)) (by exact rfl) (by exact rfl)) ⟨l, L, hOk, hnl, by omega, hLs, rfl⟩
    · have hC := iClone X g l hOk
      cases hnx : nextE l with
      | none =>
        have hSp := iSpawn_no X g l hOk hnx
        have hSm := iSame X g g l l hOk hOk
        have hS1 := iSame_one X g l hOk
        rw [same_self] at hSm
        (refine LWP.region (by kernel_rfl) <| kfa rfl rfl ?_; refine kl1 rfl rfl rfl <| RunK.nil <| LWP.block <| LWP.seq <| LWP.seq <| LWP.region (by kernel_rfl) <| keq rfl rfl (r := false) (beq_eq_false_iff_ne.2 (by omega)) <| kas rfl <| RunK.nil <| LWP.condF rfl ?_; refine LWP.seq <| LWP.region (by kernel_rfl) <| keq rfl rfl (r := false) (beq_eq_false_iff_ne.2 (by omega)) <| kas rfl <| RunK.nil <| LWP.condF rfl ?_; refine LWP.region (by kernel_rfl) <| keq rfl rfl (r := false) (beq_eq_false_iff_ne.2 (by omega)) <| kas rfl <| RunK.nil <| LWP.condF rfl ?_; refine LWP.seq <| LWP.seq <| LWP.region (by kernel_rfl) <| keq rfl rfl (r := false) (beq_eq_false_iff_ne.2 (by omega)) <| kas rfl <| RunK.nil <| LWP.condF rfl ?_; refine LWP.region (by kernel_rfl) <| keq rfl rfl (r := false) (beq_eq_false_iff_ne.2 (by omega)) <| kas rfl <| RunK.nil <| LWP.condF rfl ?_; refine LWP.seq <| LWP.region (by kernel_rfl) <| keq rfl rfl (r := false) (beq_eq_false_iff_ne.2 (by omega)) <| kas rfl <| RunK.nil <| LWP.condF rfl ?_; refine LWP.seq <| LWP.region (by kernel_rfl) <| keq rfl rfl (r := true) (beq_iff_eq.2 hk) <| kas rfl <| RunK.nil <| LWP.condT rfl ?_; refine LWP.seq <| LWP.region (by kernel_rfl) <| kmv rfl <| K.callMp [(1000000, 500), (1000001, 502)] (Lp 502) [xB 500 g l, xB 502 g l] (hC) rfl rfl (by exact (And.intro ⟨_, rfl, rfl⟩ trivial)) (by exact (all_cons_true rfl rfl)) rfl rfl rfl rfl (by exact (.box rfl rfl (.box rfl rfl .nil))) .plain <| kas rfl <| RunK.nil <| LWP.seq <| LWP.region (by kernel_rfl) <| kmv rfl <| K.callM [(1000000, 502)] [xB 502 g l] (hSp) rfl rfl (by exact (And.intro ⟨_, rfl, rfl⟩ trivial)) (by exact (all_cons_true rfl rfl)) rfl rfl rfl rfl (by exact (.box rfl rfl .nil)) .plain <| kmv rfl <| kex rfl rfl <| kex rfl rfl <| kas rfl ?_; refine kas rfl <| RunK.nil <| LWP.seq <| LWP.region (by kernel_rfl) <| kmv rfl <| kmv rfl <| K.callM [(1000000, 500), (1000001, 502)] [xB 500 g l, xB 502 g l] (hSm) rfl rfl (by exact (And.intro ⟨_, rfl, rfl⟩ (And.intro ⟨_, rfl, rfl⟩ trivial))) (by exact (all_cons_true rfl (all_cons_true rfl rfl))) rfl rfl rfl rfl (by exact (.box rfl rfl (.box rfl rfl .nil))) .plain <| kmv rfl <| kne rfl rfl (r := true) rfl <| K.neqB rfl rfl rfl .plain <| kmv rfl <| gmv rfl rfl rfl <| K.callM [(1000000, 502)] [xB 502 g l] (hS1) rfl rfl (by exact (And.intro ⟨_, rfl, rfl⟩ trivial)) (by exact (all_cons_true rfl rfl)) rfl rfl rfl rfl (by exact (.box rfl rfl .nil)) (.taken rfl rfl) ?_; refine kpf rfl rfl <| RunK.nil <| LWP.condF rfl ?_; refine LWP.skip ?_)
        exact Leads.here (σ' := ⟨[(13, Lp 13), (14, Ln .u64 (h : Nat)), (15, Lp 15), (2, .sv (.one (.val (.slice (some ⟨blk, off, none⟩) ds.length cap)))), (7, Lp 500), (10, Lp 10), (11, .sv (.one (.slc 501 0 (L).length 1))), (12, Ln .i64 (i : Nat))], [(13, some ⟨47, [.val (.int .i64 kd), .val (.int .i64 ii), .val (.int .u64 (ev : Nat))], false⟩), rfB 15 g l, xB 500 g (l), rfB 10 g (l), (501, some ⟨26, (u64V (L)).map .val, Nat.blt 0 (L).length⟩)], X⟩) (Le.of (by exact ⟨rfl, rfl, rfl, rfl, rfl, rfl, rfl, rfl, trivial⟩) (by exact ⟨rfl, rfl, rfl, rfl, rfl, trivial⟩) (by exact rfl) (by exact rfl) (by repeat' (first | refine all_cons_true ?_ ?_ | rfl | exact bytes_inUse | exact vals_inUse | exact mid_inUse rfl))) ⟨l, L, hOk, hnl, by omega, hLs, rfl⟩
      | some i' =>
        obtain ⟨gen, hx, _⟩ := next_at hnx
        have hSp := iSpawn X g l hOk hnx hx
        have hOk2 := hOk.spawn hx
        have hSm := iSame X g g l (l.set i' (gen, 1)) hOk hOk2
        have hS1 := iSame_one X g (l.set i' (gen, 1)) hOk2
        rw [same_spawn hx] at hSm
        (refine LWP.region (by kernel_rfl) <| kfa rfl rfl ?_; refine kl1 rfl rfl rfl <| RunK.nil <| LWP.block <| LWP.seq <| LWP.seq <| LWP.region (by kernel_rfl) <| keq rfl rfl (r := false) (beq_eq_false_iff_ne.2 (by omega)) <| kas rfl <| RunK.nil <| LWP.condF rfl ?_; refine LWP.seq <| LWP.region (by kernel_rfl) <| keq rfl rfl (r := false) (beq_eq_false_iff_ne.2 (by omega)) <| kas rfl <| RunK.nil <| LWP.condF rfl ?_; refine LWP.region (by kernel_rfl) <| keq rfl rfl (r := false) (beq_eq_false_iff_ne.2 (by omega)) <| kas rfl <| RunK.nil <| LWP.condF rfl ?_; refine LWP.seq <| LWP.seq <| LWP.region (by kernel_rfl) <| keq rfl rfl (r := false) (beq_eq_false_iff_ne.2 (by omega)) <| kas rfl <| RunK.nil <| LWP.condF rfl ?_; refine LWP.region (by kernel_rfl) <| keq rfl rfl (r := false) (beq_eq_false_iff_ne.2 (by omega)) <| kas rfl <| RunK.nil <| LWP.condF rfl ?_; refine LWP.seq <| LWP.region (by kernel_rfl) <| keq rfl rfl (r := false) (beq_eq_false_iff_ne.2 (by omega)) <| kas rfl <| RunK.nil <| LWP.condF rfl ?_; refine LWP.seq <| LWP.region (by kernel_rfl) <| keq rfl rfl (r := true) (beq_iff_eq.2 hk) <| kas rfl <| RunK.nil <| LWP.condT rfl ?_; refine LWP.seq <| LWP.region (by kernel_rfl) <| kmv rfl <| K.callMp [(1000000, 500), (1000001, 502)] (Lp 502) [xB 500 g l, xB 502 g l] (hC) rfl rfl (by exact (And.intro ⟨_, rfl, rfl⟩ trivial)) (by exact (all_cons_true rfl rfl)) rfl rfl rfl rfl (by exact (.box rfl rfl (.box rfl rfl .nil))) .plain <| kas rfl <| RunK.nil <| LWP.seq <| LWP.region (by kernel_rfl) <| kmv rfl <| K.callM [(1000000, 502)] [xB 502 g (l.set i' (gen, 1))] (hSp) rfl rfl (by exact (And.intro ⟨_, rfl, rfl⟩ trivial)) (by exact (all_cons_true rfl rfl)) rfl rfl rfl rfl (by exact (.box rfl rfl .nil)) .plain <| kmv rfl <| kex rfl rfl <| kex rfl rfl <| kas rfl ?_; refine kas rfl <| RunK.nil <| LWP.seq <| LWP.region (by kernel_rfl) <| kmv rfl <| kmv rfl <| K.callM [(1000000, 500), (1000001, 502)] [xB 500 g l, xB 502 g (l.set i' (gen, 1))] (hSm) rfl rfl (by exact (And.intro ⟨_, rfl, rfl⟩ (And.intro ⟨_, rfl, rfl⟩ trivial))) (by exact (all_cons_true rfl (all_cons_true rfl rfl))) rfl rfl rfl rfl (by exact (.box rfl rfl (.box rfl rfl .nil))) .plain <| kmv rfl <| kne rfl rfl (r := false) rfl <| K.neqB rfl rfl rfl .plain <| kmv rfl <| gmv rfl rfl rfl <| K.callM [(1000000, 502)] [xB 502 g (l.set i' (gen, 1))] (hS1) rfl rfl (by exact (And.intro ⟨_, rfl, rfl⟩ trivial)) (by exact (all_cons_true rfl rfl)) rfl rfl rfl rfl (by exact (.box rfl rfl .nil)) (.taken rfl rfl) ?_; refine kpf rfl rfl <| RunK.nil <| LWP.condF rfl ?_; refine LWP.skip ?_)
        exact Leads.here (σ' := ⟨[(13, Lp 13), (14, Ln .u64 (h : Nat)), (15, Lp 15), (2, .sv (.one (.val (.slice (some ⟨blk, off, none⟩) ds.length cap)))), (7, Lp 500), (10, Lp 10), (11, .sv (.one (.slc 501 0 (L).length 1))), (12, Ln .i64 (i : Nat))], [(13, some ⟨47, [.val (.int .i64 kd), .val (.int .i64 ii), .val (.int .u64 (ev : Nat))], false⟩), rfB 15 g l, xB 500 g (l), rfB 10 g (l), (501, some ⟨26, (u64V (L)).map .val, Nat.blt 0 (L).length⟩)], X⟩) (Le.of (by exact ⟨rfl, rfl, rfl, rfl, rfl, rfl, rfl, rfl, trivial⟩) (by exact ⟨rfl, rfl, rfl, rfl, rfl, trivial⟩) (by exact rfl) (by exact rfl) (by repeat' (first | refine all_cons_true ?_ ?_ | rfl | exact bytes_inUse | exact vals_inUse | exact mid_inUse rfl))) ⟨l, L, hOk, hnl, by omega, hLs, rfl⟩
    · obtain ⟨z1, z2, z3, z4, z5, z6, z7⟩ := hk
      (refine LWP.region (by kernel_rfl) <| kfa rfl rfl ?_; refine kl1 rfl rfl rfl <| RunK.nil <| LWP.block <| LWP.seq <| LWP.seq <| LWP.region (by kernel_rfl) <| keq rfl rfl (r := false) (beq_eq_false_iff_ne.2 (by omega)) <| kas rfl <| RunK.nil <| LWP.condF rfl ?_; refine LWP.seq <| LWP.region (by kernel_rfl) <| keq rfl rfl (r := false) (beq_eq_false_iff_ne.2 (by omega)) <| kas rfl <| RunK.nil <| LWP.condF rfl ?_; refine LWP.region (by kernel_rfl) <| keq rfl rfl (r := false) (beq_eq_false_iff_ne.2 (by omega)) <| kas rfl <| RunK.nil <| LWP.condF rfl ?_; refine LWP.seq <| LWP.seq <| LWP.region (by kernel_rfl) <| keq rfl rfl (r := false) (beq_eq_false_iff_ne.2 (by omega)) <| kas rfl <| RunK.nil <| LWP.condF rfl ?_; refine LWP.region (by kernel_rfl) <| keq rfl rfl (r := false) (beq_eq_false_iff_ne.2 (by omega)) <| kas rfl <| RunK.nil <| LWP.condF rfl ?_; refine LWP.seq <| LWP.region (by kernel_rfl) <| keq rfl rfl (r := false) (beq_eq_false_iff_ne.2 (by omega)) <| kas rfl <| RunK.nil <| LWP.condF rfl ?_; refine LWP.seq <| LWP.region (by kernel_rfl) <| keq rfl rfl (r := false) (beq_eq_false_iff_ne.2 (by omega)) <| kas rfl <| RunK.nil <| LWP.condF rfl ?_; refine LWP.skip ?_)
      exact Leads.here (σ' := ⟨[(13, Lp 13), (14, Ln .u64 (h : Nat)), (15, Lp 15), (2, .sv (.one (.val (.slice (some ⟨blk, off, none⟩) ds.length cap)))), (7, Lp 500), (10, Lp 10), (11, .sv (.one (.slc 501 0 (L).length 1))), (12, Ln .i64 (i : Nat))], [(13, some ⟨47, [.val (.int .i64 kd), .val (.int .i64 ii), .val (.int .u64 (ev : Nat))], false⟩), rfB 15 g l, xB 500 g (l), rfB 10 g (l), (501, some ⟨26, (u64V (L)).map .val, Nat.blt 0 (L).length⟩)], X⟩) (Le.of (by exact ⟨rfl, rfl, rfl, rfl, rfl, rfl, rfl, rfl, trivial⟩) (by exact ⟨rfl, rfl, rfl, rfl, rfl, trivial⟩) (by exact rfl) (by exact rfl) (by repeat' (first | refine all_cons_true ?_ ?_ | rfl | exact bytes_inUse | exact vals_inUse | exact mid_inUse rfl))) ⟨l, L, hOk, hnl, by omega, hLs, rfl⟩
  rintro σ ⟨l', L', hOk', hnl', hLi', hLs', rfl⟩
  have hl' : l'.length ≤ 256 := by omega
  have hNx2 := rNext X g l' hl' hOk'.st
  (refine LWP.seq <| LWP.region (by kernel_rfl) <| kas rfl <| RunK.nil <| LWP.seq <| LWP.seq <| LWP.region (by kernel_rfl) <| K.loadAll rfl rfl (refC_len hl').symm .plain ?_; refine kca rfl (rI_closed g l') hNx2 <| kas rfl <| RunK.nil <| LWP.seq ?_)
  refine LWP.cutL (fun σ => σ = ⟨[(13, Lp 13), (14, Ln .u64 (h : Nat)), (15, Lp 15), (27, Ln .u64 (nextH l' : Nat)), (2, .sv (.one (.val (.slice (some ⟨blk, off, none⟩) ds.length cap)))), (7, Lp 500), (10, Lp 10), (11, .sv (.one (.slc 501 0 (L').length 1))), (12, Ln .i64 (i : Nat))], [(13, some ⟨47, [.val (.int .i64 kd), .val (.int .i64 ii), .val (.int .u64 (ev : Nat))], false⟩), rfB 15 g l, xB 500 g (l'), rfB 10 g (l'), (501, some ⟨26, (u64V (L')).map .val, Nat.blt 0 (L').length⟩)], X⟩) ?_ ?_
  · cases hnx : nextE l' with
    | none =>
      rw [show nxN l' = 0 by unfold nxN; rw [hnx], nextH_none hnx]
      (refine LWP.region (by kernel_rfl) <| kmv rfl <| K.gtr rfl rfl (r := false) rfl .plain <| RunK.nil <| LWP.condF rfl ?_; refine LWP.skip ?_)
      exact Leads.here (σ' := ⟨[(13, Lp 13), (14, Ln .u64 (h : Nat)), (15, Lp 15), (27, Ln .u64 (0 : Nat)), (2, .sv (.one (.val (.slice (some ⟨blk, off, none⟩) ds.length cap)))), (7, Lp 500), (10, Lp 10), (11, .sv (.one (.slc 501 0 (L').length 1))), (12, Ln .i64 (i : Nat))], [(13, some ⟨47, [.val (.int .i64 kd), .val (.int .i64 ii), .val (.int .u64 (ev : Nat))], false⟩), rfB 15 g l, xB 500 g (l'), rfB 10 g (l'), (501, some ⟨26, (u64V (L')).map .val, Nat.blt 0 (L').length⟩)], X⟩) (Le.of (by exact ⟨rfl, rfl, rfl, rfl, rfl, rfl, rfl, rfl, rfl, trivial⟩) (by exact ⟨rfl, rfl, rfl, rfl, rfl, trivial⟩) (by exact rfl) (by exact rfl) (by repeat' (first | refine all_cons_true ?_ ?_ | rfl | exact bytes_inUse | exact vals_inUse | exact mid_inUse rfl))) rfl
    | some i' =>
      obtain ⟨gen, hx, _⟩ := next_at hnx
      have hgn := okN hOk' hx
      have hi' := (List.getElem?_eq_some_iff.1 hx).1
      rw [show nxN l' = i' + 1 by unfold nxN; rw [hnx], nextH_some hnx hx]
      have hix : 1 + Int.toNat ((i' + 1 : Nat) : Int) * 3 = 1 + (i' + 1) * 3 := by simp
      have hgg := ref_gen (g := g) hx hl'
      have hH := rHandle X (i' + 1) gen (by omega) (by omega)
      (refine LWP.region (by kernel_rfl) <| kmv rfl <| K.gtr rfl rfl (decide_eq_true (by omega)) .plain <| RunK.nil <| LWP.condT rfl ?_; refine LWP.region (by kernel_rfl) <| kmv rfl <| kmv rfl <| kfa rfl rfl ?_; refine K.indexArr rfl rfl (by omega) hix .plain ?_; refine kfa rfl rfl ?_; refine kl1 rfl rfl hgg <| kca rfl rfl hH <| kas rfl <| RunK.nil ?_)
      exact Leads.here (σ' := ⟨[(13, Lp 13), (14, Ln .u64 (h : Nat)), (15, Lp 15), (27, Ln .u64 (hdl (i' + 1) gen : Nat)), (2, .sv (.one (.val (.slice (some ⟨blk, off, none⟩) ds.length cap)))), (7, Lp 500), (10, Lp 10), (11, .sv (.one (.slc 501 0 (L').length 1))), (12, Ln .i64 (i : Nat))], [(13, some ⟨47, [.val (.int .i64 kd), .val (.int .i64 ii), .val (.int .u64 (ev : Nat))], false⟩), rfB 15 g l, xB 500 g (l'), rfB 10 g (l'), (501, some ⟨26, (u64V (L')).map .val, Nat.blt 0 (L').length⟩)], X⟩) (Le.of (by exact ⟨rfl, rfl, rfl, rfl, rfl, rfl, rfl, rfl, rfl, trivial⟩) (by exact ⟨rfl, rfl, rfl, rfl, rfl, trivial⟩) (by exact rfl) (by exact rfl) (by repeat' (first | refine all_cons_true ?_ ?_ | rfl | exact bytes_inUse | exact vals_inUse | exact mid_inUse rfl))) rfl
  rintro σ rfl
  have hRL := rLive X g l' hl' hOk'.gen
  have hC := iCount X g l' hOk'
  have hF := iFree X g l' hOk'
  have hRF := rFree X g l' hl' hOk'.st
  have hNx := iNext X g l' hOk'
  have hA1 := iAlive X g l' hOk' ev hev
  have hR1 := rAlive X g l' ev hl' hev hOk'.gen
  have hA2 := iAlive X g l' hOk' h hh
  have hR2 := rAlive X g l' h hl' hh hOk'.gen
  have hcnt : ((((cntE l' : Nat) : Int)) != (((liveL l').length : Nat) : Int)) = false := by
    rw [show (liveL l').length = cntE l' from live_len l' 0]
    exact bne_eq_false_iff_eq.2 rfl
  have hll := live_le l' 0
  have hbl : (liveL l').length < 4611686018427387904 := by unfold liveL; omega
  cases hm : lvMade (liveL l') with
  | false =>
    have hL := iLive_none X g l' hOk' hm
    have hz := lvMade_nil hm
    rw [hz] at hRL hcnt
    have hE := fun S hk => ents_lent0 X (S := S) (k := 602) (n2 := 0) (e2 := 26) (row2 := false) rfl hk
    ((refine LWP.seq <| LWP.draws mixed (by kernel_rfl) <| kmv rfl <| K.callM [(1000000, 500)] [xB 500 g l'] (hL) rfl rfl (by exact (And.intro ⟨_, rfl, rfl⟩ trivial)) (by exact (all_cons_true rfl rfl)) rfl rfl rfl rfl (by exact (.box rfl rfl .nil)) .plain <| K.loadAll rfl rfl (refC_len hl').symm .plain ?_; refine K.callMp [(1000001, 602)] (.sv (.one (.slc 602 0 0 1))) [(602, some ⟨26, (u64V []).map .val, false⟩)] hRL (by rw [rI_ren]; rfl) (rI_use g l') (by exact trivial) rfl rfl rfl rfl rfl (by exact (.box rfl (Box.ren_vals _ _ _ _) .nil)) .plain <| K.callL [602] rfl rfl rfl (hE _ rfl) .plain ?_; refine K.not rfl rfl .plain <| kmv rfl <| gmv rfl rfl rfl <| K.callM [(1000000, 500)] [xB 500 g l'] (hC) rfl rfl (by exact (And.intro ⟨_, rfl, rfl⟩ trivial)) (by exact (all_cons_true rfl rfl)) rfl rfl rfl rfl (by exact (.box rfl rfl .nil)) (.taken rfl rfl) ?_; refine K.loadAll rfl rfl (refC_len hl').symm (.taken rfl rfl) ?_; refine K.callMp [(1000001, 603)] (.sv (.one (.slc 603 0 0 1))) [(603, some ⟨26, (u64V []).map .val, false⟩)] hRL (by rw [rI_ren]; rfl) (rI_use g l') (by exact trivial) rfl rfl rfl rfl rfl (by exact (.box rfl (Box.ren_vals _ _ _ _) .nil)) (.taken rfl rfl) ?_; refine K.lenSlc rfl SliceT.h rfl (.taken rfl rfl) ?_; refine K.neq rfl rfl (r := false) hcnt (.taken rfl rfl) ?_; refine kpf rfl rfl <| kmv rfl <| gmv rfl rfl rfl <| K.callM [(1000000, 500)] [xB 500 g l'] (hF) rfl rfl (by exact (And.intro ⟨_, rfl, rfl⟩ trivial)) (by exact (all_cons_true rfl rfl)) rfl rfl rfl rfl (by exact (.box rfl rfl .nil)) (.taken rfl rfl) ?_; refine K.loadAll rfl rfl (refC_len hl').symm (.taken rfl rfl) ?_; refine gca rfl (rI_closed g l') hRF rfl rfl <| K.neq rfl rfl (r := false) (bne_eq_false_iff_eq.2 rfl) (.taken rfl rfl) ?_; refine kpf rfl rfl <| kmv rfl <| gmv rfl rfl rfl <| K.callM [(1000000, 500)] [xB 500 g l'] (hNx) rfl rfl (by exact (And.intro ⟨_, rfl, rfl⟩ trivial)) (by exact (all_cons_true rfl rfl)) rfl rfl rfl rfl (by exact (.box rfl rfl .nil)) (.taken rfl rfl) ?_; refine gmv rfl rfl rfl <| K.neq rfl rfl (r := false) (bne_eq_false_iff_eq.2 rfl) (.taken rfl rfl) ?_); (refine kpf rfl rfl <| kmv rfl <| gmv rfl rfl rfl <| K.fieldAddr rfl rfl (.taken rfl rfl) ?_; refine K.loadOne rfl rfl rfl (.taken rfl rfl) ?_; refine K.callM [(1000000, 500)] [xB 500 g l'] (hA1) rfl rfl (by exact (And.intro ⟨_, rfl, rfl⟩ trivial)) (by exact (all_cons_true rfl rfl)) rfl rfl rfl rfl (by exact (.box rfl rfl .nil)) (.taken rfl rfl) ?_; refine K.loadAll rfl rfl (refC_len hl').symm (.taken rfl rfl) ?_; refine K.fieldAddr rfl rfl (.taken rfl rfl) ?_; refine K.loadOne rfl rfl rfl (.taken rfl rfl) ?_; refine gca rfl (rI_closed2 g l' _) hR1 rfl rfl <| K.gtr rfl rfl alN_pos (.taken rfl rfl) ?_; refine K.neqB rfl rfl (bne_self_eq_false _) (.taken rfl rfl) ?_; refine kpf rfl rfl <| kmv rfl <| gmv rfl rfl rfl <| gmv rfl rfl rfl <| K.callM [(1000000, 500)] [xB 500 g l'] (hA2) rfl rfl (by exact (And.intro ⟨_, rfl, rfl⟩ trivial)) (by exact (all_cons_true rfl rfl)) rfl rfl rfl rfl (by exact (.box rfl rfl .nil)) (.taken rfl rfl) ?_; refine K.loadAll rfl rfl (refC_len hl').symm (.taken rfl rfl) ?_; refine gmv rfl rfl rfl <| gca rfl (rI_closed2 g l' _) hR2 rfl rfl <| K.gtr rfl rfl alN_pos (.taken rfl rfl) ?_; refine K.neqB rfl rfl (bne_self_eq_false _) (.taken rfl rfl) ?_); (refine kpf rfl rfl <| kmv rfl <| K.fieldAddr rfl rfl (.taken rfl rfl) ?_; refine K.loadOne rfl rfl (ref_n hl) (.taken rfl rfl) ?_; refine K.fieldAddr rfl rfl (.taken rfl rfl) ?_; refine K.loadOne rfl rfl (ref_n hl') (.taken rfl rfl) ?_; refine K.neq rfl rfl (r := false) (bne_eq_false_iff_eq.2 (by omega)) (.taken rfl rfl) ?_; refine kpf rfl rfl <| RunK.nil <| And.intro (by kernel_rfl) ?_; refine LWP.condF rfl ?_; refine LWP.skip ?_; refine LWP.region (by kernel_rfl) <| kmv rfl <| kad rfl rfl hadd <| kas rfl <| RunK.nil ?_))
    exact ⟨_, ⟨[(2, .sv (.one (.val (.slice (some ⟨blk, off, none⟩) ds.length cap)))), (7, Lp 500), (10, Lp 10), (11, .sv (.one (.slc 501 0 (L').length 1))), (12, Ln .i64 (i + 1 : Nat))], [xB 500 g (l'), rfB 10 g (l'), (501, some ⟨26, (u64V (L')).map .val, Nat.blt 0 (L').length⟩)], X⟩, by omega, Le.of (by exact ⟨rfl, rfl, rfl, rfl, rfl, trivial⟩) (by exact ⟨rfl, rfl, rfl, trivial⟩) (by exact rfl) (by exact rfl) (by repeat' (first | refine all_cons_true ?_ ?_ | rfl | exact bytes_inUse | exact vals_inUse | exact mid_inUse rfl)), i + 1, l', L', by omega, by omega, rfl, hOk', hnl', hLi', hLs', rfl⟩
  | true =>
    have hL := iLive X g l' hOk' hm
    have hE := fun S hj hk => ents_lent X (S := S) (l := liveL l') (m := liveL l') (j := 601) (k := 602) (e1 := 27) (e2 := 26) (row1 := true) (row2 := Nat.blt 0 (liveL l').length) (r := true) hbl (decide_eq_true rfl) rfl rfl hj hk
    ((refine LWP.seq <| LWP.draws mixed (by kernel_rfl) <| kmv rfl <| K.callMp [(1000000, 500), (1000001, 601)] (.sv (.one (.slc 601 0 (liveL l').length 1))) [xB 500 g l', lvB 601 (liveL l')] (hL) rfl rfl (by exact (And.intro ⟨_, rfl, rfl⟩ trivial)) (by exact (all_cons_true rfl rfl)) rfl rfl rfl rfl (by exact (.box rfl rfl (.box rfl (Box.ren_vals _ _ _ _) .nil))) .plain <| K.loadAll rfl rfl (refC_len hl').symm .plain ?_; refine K.callMp [(1000001, 602)] (.sv (.one (.slc 602 0 (liveL l').length 1))) [(602, some ⟨26, (u64V (liveL l')).map .val, Nat.blt 0 (liveL l').length⟩)] hRL (by rw [rI_ren]; rfl) (rI_use g l') (by exact trivial) rfl rfl rfl rfl rfl (by exact (.box rfl (Box.ren_vals _ _ _ _) .nil)) .plain <| K.callL [601, 602] rfl rfl rfl (hE _ rfl rfl) .plain ?_; refine K.not rfl rfl .plain <| kmv rfl <| gmv rfl rfl rfl <| K.callM [(1000000, 500)] [xB 500 g l'] (hC) rfl rfl (by exact (And.intro ⟨_, rfl, rfl⟩ trivial)) (by exact (all_cons_true rfl rfl)) rfl rfl rfl rfl (by exact (.box rfl rfl .nil)) (.taken rfl rfl) ?_; refine K.loadAll rfl rfl (refC_len hl').symm (.taken rfl rfl) ?_; refine K.callMp [(1000001, 603)] (.sv (.one (.slc 603 0 (liveL l').length 1))) [(603, some ⟨26, (u64V (liveL l')).map .val, Nat.blt 0 (liveL l').length⟩)] hRL (by rw [rI_ren]; rfl) (rI_use g l') (by exact trivial) rfl rfl rfl rfl rfl (by exact (.box rfl (Box.ren_vals _ _ _ _) .nil)) (.taken rfl rfl) ?_; refine K.lenSlc rfl SliceT.h rfl (.taken rfl rfl) ?_; refine K.neq rfl rfl (r := false) hcnt (.taken rfl rfl) ?_; refine kpf rfl rfl <| kmv rfl <| gmv rfl rfl rfl <| K.callM [(1000000, 500)] [xB 500 g l'] (hF) rfl rfl (by exact (And.intro ⟨_, rfl, rfl⟩ trivial)) (by exact (all_cons_true rfl rfl)) rfl rfl rfl rfl (by exact (.box rfl rfl .nil)) (.taken rfl rfl) ?_; refine K.loadAll rfl rfl (refC_len hl').symm (.taken rfl rfl) ?_; refine gca rfl (rI_closed g l') hRF rfl rfl <| K.neq rfl rfl (r := false) (bne_eq_false_iff_eq.2 rfl) (.taken rfl rfl) ?_; refine kpf rfl rfl <| kmv rfl <| gmv rfl rfl rfl <| K.callM [(1000000, 500)] [xB 500 g l'] (hNx) rfl rfl (by exact (And.intro ⟨_, rfl, rfl⟩ trivial)) (by exact (all_cons_true rfl rfl)) rfl rfl rfl rfl (by exact (.box rfl rfl .nil)) (.taken rfl rfl) ?_; refine gmv rfl rfl rfl <| K.neq rfl rfl (r := false) (bne_eq_false_iff_eq.2 rfl) (.taken rfl rfl) ?_); (refine kpf rfl rfl <| kmv rfl <| gmv rfl rfl rfl <| K.fieldAddr rfl rfl (.taken rfl rfl) ?_; refine K.loadOne rfl rfl rfl (.taken rfl rfl) ?_; refine K.callM [(1000000, 500)] [xB 500 g l'] (hA1) rfl rfl (by exact (And.intro ⟨_, rfl, rfl⟩ trivial)) (by exact (all_cons_true rfl rfl)) rfl rfl rfl rfl (by exact (.box rfl rfl .nil)) (.taken rfl rfl) ?_; refine K.loadAll rfl rfl (refC_len hl').symm (.taken rfl rfl) ?_; refine K.fieldAddr rfl rfl (.taken rfl rfl) ?_; refine K.loadOne rfl rfl rfl (.taken rfl rfl) ?_; refine gca rfl (rI_closed2 g l' _) hR1 rfl rfl <| K.gtr rfl rfl alN_pos (.taken rfl rfl) ?_; refine K.neqB rfl rfl (bne_self_eq_false _) (.taken rfl rfl) ?_; refine kpf rfl rfl <| kmv rfl <| gmv rfl rfl rfl <| gmv rfl rfl rfl <| K.callM [(1000000, 500)] [xB 500 g l'] (hA2) rfl rfl (by exact (And.intro ⟨_, rfl, rfl⟩ trivial)) (by exact (all_cons_true rfl rfl)) rfl rfl rfl rfl (by exact (.box rfl rfl .nil)) (.taken rfl rfl) ?_; refine K.loadAll rfl rfl (refC_len hl').symm (.taken rfl rfl) ?_; refine gmv rfl rfl rfl <| gca rfl (rI_closed2 g l' _) hR2 rfl rfl <| K.gtr rfl rfl alN_pos (.taken rfl rfl) ?_; refine K.neqB rfl rfl (bne_self_eq_false _) (.taken rfl rfl) ?_); (refine kpf rfl rfl <| kmv rfl <| K.fieldAddr rfl rfl (.taken rfl rfl) ?_; refine K.loadOne rfl rfl (ref_n hl) (.taken rfl rfl) ?_; refine K.fieldAddr rfl rfl (.taken rfl rfl) ?_; refine K.loadOne rfl rfl (ref_n hl') (.taken rfl rfl) ?_; refine K.neq rfl rfl (r := false) (bne_eq_false_iff_eq.2 (by omega)) (.taken rfl rfl) ?_; refine kpf rfl rfl <| RunK.nil <| And.intro (by kernel_rfl) ?_; refine LWP.condF rfl ?_; refine LWP.skip ?_; refine LWP.region (by kernel_rfl) <| kmv rfl <| kad rfl rfl hadd <| kas rfl <| RunK.nil ?_))
    exact ⟨_, ⟨[(2, .sv (.one (.val (.slice (some ⟨blk, off, none⟩) ds.length cap)))), (7, Lp 500), (10, Lp 10), (11, .sv (.one (.slc 501 0 (L').length 1))), (12, Ln .i64 (i + 1 : Nat))], [xB 500 g (l'), rfB 10 g (l'), (501, some ⟨26, (u64V (L')).map .val, Nat.blt 0 (L').length⟩)], X⟩, by omega, Le.of (by exact ⟨rfl, rfl, rfl, rfl, rfl, trivial⟩) (by exact ⟨rfl, rfl, rfl, trivial⟩) (by exact rfl) (by exact rfl) (by repeat' (first | refine all_cons_true ?_ ?_ | rfl | exact bytes_inUse | exact vals_inUse | exact mid_inUse rfl)), i + 1, l', L', by omega, by omega, rfl, hOk', hnl', hLi', hLs', rfl⟩
end Go.Proofs.Ytkdbkgfdggbhkaa
end
section
namespace Go.Proofs.Ytkdbkgfdggbhkaa
open Go Go.Lg
set_option maxRecDepth 100000
variable (X : Nat → Option Obj)
set_option maxHeartbeats 12800000 in
theorem EntityExact_no (ids gens : Int) (ad : Option Addr) (n cap : Nat) (hno : ids < 1 ∨ 256 < ids ∨ gens < 1 ∨ 65535 < gens) :
    PSpec Try.prog X 3 [Ln .i64 ids, Ln .i64 gens, .sv (.one (.val (.slice ad n cap)))] (Lb true) := by
  have hW := awake15_spec X
  refine PSpec.intro Try.func3 rfl (by kernel_rfl) rfl rfl ?_
  intro C
  by_cases c1 : ids < 1
  · (refine LWP.seq <| LWP.region (by kernel_rfl) <| kas rfl <| RunK.nil <| LWP.seq <| LWP.seq <| LWP.region (by kernel_rfl) <| kca rfl rfl (hW) <| K.not rfl rfl .plain <| RunK.nil <| LWP.condF rfl ?_; refine LWP.skip ?_; refine LWP.seq <| LWP.region (by kernel_rfl) <| kmv rfl <| kmv rfl <| kca rfl rfl (iNew_no X ids gens hno) <| kas rfl <| RunK.nil <| LWP.seq <| LWP.seq <| LWP.region (by kernel_rfl) <| kmv rfl <| klt rfl rfl (decide_eq_true (by omega)) <| kmv rfl <| RunK.passed rfl rfl rfl ?_; refine RunK.passed rfl rfl rfl <| kpt rfl rfl <| kmv rfl <| RunK.passed rfl rfl rfl <| RunK.passed rfl rfl rfl <| kpt rfl rfl <| kmv rfl <| RunK.passed rfl rfl rfl <| RunK.passed rfl rfl rfl <| kpt rfl rfl <| RunK.nil <| LWP.condT rfl ?_; refine LWP.seq <| LWP.region (by kernel_rfl) <| kmv rfl <| kca rfl rfl (iSpawn_nil X) <| kmv rfl <| kex rfl rfl <| kex rfl rfl <| kas rfl <| kas rfl <| RunK.nil <| LWP.seq <| LWP.region (by kernel_rfl) <| kmv rfl <| K.nilNil rfl (by kernel_rfl) (.inl ⟨rfl, rfl⟩) .plain ?_; refine kmv rfl <| gmv rfl rfl rfl <| K.eql rfl rfl (r := true) rfl (.taken rfl rfl) ?_; refine kpt rfl rfl <| kmv rfl <| gmv rfl rfl rfl <| gca rfl rfl (iKill_nil X 1) rfl rfl <| K.eql rfl rfl (r := true) rfl (.taken rfl rfl) ?_; refine kpt rfl rfl <| kmv rfl <| gmv rfl rfl rfl <| gca rfl rfl (iAlive_nil X 1) rfl rfl <| K.not rfl rfl (.taken rfl rfl) ?_; refine kpt rfl rfl <| kmv rfl <| gmv rfl rfl rfl <| gca rfl rfl (iLive_nil X) rfl rfl <| K.lenX rfl SliceT.h rfl (.taken rfl rfl) ?_; refine gmv rfl rfl rfl <| gca rfl rfl (iCount_nil X) rfl rfl <| K.add rfl rfl (c := 0) rfl (.taken rfl rfl) ?_; refine gmv rfl rfl rfl <| gca rfl rfl (iFree_nil X) rfl rfl <| K.add rfl rfl (c := 0) rfl (.taken rfl rfl) ?_; refine K.eql rfl rfl (r := true) rfl (.taken rfl rfl) ?_; refine kpt rfl rfl <| kmv rfl <| gmv rfl rfl rfl <| gca rfl rfl (iNext_nil X) rfl rfl <| K.eql rfl rfl (r := true) rfl (.taken rfl rfl) ?_; refine kpt rfl rfl <| kmv rfl <| gmv rfl rfl rfl <| gca rfl rfl (iClone_nil X) rfl rfl <| K.nilNil rfl (by kernel_rfl) (.inl ⟨rfl, rfl⟩) (.taken rfl rfl) ?_; refine kpt rfl rfl <| kmv rfl <| gmv rfl rfl rfl <| gca rfl rfl (iSame_nil X) rfl rfl <| kpt rfl rfl <| kas rfl <| RunK.nil <| LWP.ret ?_)
    exact ⟨[_], ⟨rfl, trivial⟩, rfl⟩
  by_cases c2 : 256 < ids
  · (refine LWP.seq <| LWP.region (by kernel_rfl) <| kas rfl <| RunK.nil <| LWP.seq <| LWP.seq <| LWP.region (by kernel_rfl) <| kca rfl rfl (hW) <| K.not rfl rfl .plain <| RunK.nil <| LWP.condF rfl ?_; refine LWP.skip ?_; refine LWP.seq <| LWP.region (by kernel_rfl) <| kmv rfl <| kmv rfl <| kca rfl rfl (iNew_no X ids gens hno) <| kas rfl <| RunK.nil <| LWP.seq <| LWP.seq <| LWP.region (by kernel_rfl) <| kmv rfl <| klt rfl rfl (decide_eq_false (by omega)) <| kmv rfl <| gmv rfl rfl rfl ?_; refine K.gtr rfl rfl (decide_eq_true (by omega)) (.taken rfl rfl) ?_; refine kpf rfl rfl <| kmv rfl <| RunK.passed rfl rfl rfl <| RunK.passed rfl rfl rfl <| kpt rfl rfl <| kmv rfl <| RunK.passed rfl rfl rfl <| RunK.passed rfl rfl rfl <| kpt rfl rfl <| RunK.nil <| LWP.condT rfl ?_; refine LWP.seq <| LWP.region (by kernel_rfl) <| kmv rfl <| kca rfl rfl (iSpawn_nil X) <| kmv rfl <| kex rfl rfl <| kex rfl rfl <| kas rfl <| kas rfl <| RunK.nil <| LWP.seq <| LWP.region (by kernel_rfl) <| kmv rfl <| K.nilNil rfl (by kernel_rfl) (.inl ⟨rfl, rfl⟩) .plain ?_; refine kmv rfl <| gmv rfl rfl rfl <| K.eql rfl rfl (r := true) rfl (.taken rfl rfl) ?_; refine kpt rfl rfl <| kmv rfl <| gmv rfl rfl rfl <| gca rfl rfl (iKill_nil X 1) rfl rfl <| K.eql rfl rfl (r := true) rfl (.taken rfl rfl) ?_; refine kpt rfl rfl <| kmv rfl <| gmv rfl rfl rfl <| gca rfl rfl (iAlive_nil X 1) rfl rfl <| K.not rfl rfl (.taken rfl rfl) ?_; refine kpt rfl rfl <| kmv rfl <| gmv rfl rfl rfl <| gca rfl rfl (iLive_nil X) rfl rfl <| K.lenX rfl SliceT.h rfl (.taken rfl rfl) ?_; refine gmv rfl rfl rfl <| gca rfl rfl (iCount_nil X) rfl rfl <| K.add rfl rfl (c := 0) rfl (.taken rfl rfl) ?_; refine gmv rfl rfl rfl <| gca rfl rfl (iFree_nil X) rfl rfl <| K.add rfl rfl (c := 0) rfl (.taken rfl rfl) ?_; refine K.eql rfl rfl (r := true) rfl (.taken rfl rfl) ?_; refine kpt rfl rfl <| kmv rfl <| gmv rfl rfl rfl <| gca rfl rfl (iNext_nil X) rfl rfl <| K.eql rfl rfl (r := true) rfl (.taken rfl rfl) ?_; refine kpt rfl rfl <| kmv rfl <| gmv rfl rfl rfl <| gca rfl rfl (iClone_nil X) rfl rfl <| K.nilNil rfl (by kernel_rfl) (.inl ⟨rfl, rfl⟩) (.taken rfl rfl) ?_; refine kpt rfl rfl <| kmv rfl <| gmv rfl rfl rfl <| gca rfl rfl (iSame_nil X) rfl rfl <| kpt rfl rfl <| kas rfl <| RunK.nil <| LWP.ret ?_)
    exact ⟨[_], ⟨rfl, trivial⟩, rfl⟩
  by_cases c3 : gens < 1
  · (refine LWP.seq <| LWP.region (by kernel_rfl) <| kas rfl <| RunK.nil <| LWP.seq <| LWP.seq <| LWP.region (by kernel_rfl) <| kca rfl rfl (hW) <| K.not rfl rfl .plain <| RunK.nil <| LWP.condF rfl ?_; refine LWP.skip ?_; refine LWP.seq <| LWP.region (by kernel_rfl) <| kmv rfl <| kmv rfl <| kca rfl rfl (iNew_no X ids gens hno) <| kas rfl <| RunK.nil <| LWP.seq <| LWP.seq <| LWP.region (by kernel_rfl) <| kmv rfl <| klt rfl rfl (decide_eq_false (by omega)) <| kmv rfl <| gmv rfl rfl rfl ?_; refine K.gtr rfl rfl (decide_eq_false (by omega)) (.taken rfl rfl) ?_; refine kpf rfl rfl <| kmv rfl <| gmv rfl rfl rfl <| K.lss rfl rfl (decide_eq_true (by omega)) (.taken rfl rfl) ?_; refine kpf rfl rfl <| kmv rfl <| RunK.passed rfl rfl rfl <| RunK.passed rfl rfl rfl <| kpt rfl rfl <| RunK.nil <| LWP.condT rfl ?_; refine LWP.seq <| LWP.region (by kernel_rfl) <| kmv rfl <| kca rfl rfl (iSpawn_nil X) <| kmv rfl <| kex rfl rfl <| kex rfl rfl <| kas rfl <| kas rfl <| RunK.nil <| LWP.seq <| LWP.region (by kernel_rfl) <| kmv rfl <| K.nilNil rfl (by kernel_rfl) (.inl ⟨rfl, rfl⟩) .plain ?_; refine kmv rfl <| gmv rfl rfl rfl <| K.eql rfl rfl (r := true) rfl (.taken rfl rfl) ?_; refine kpt rfl rfl <| kmv rfl <| gmv rfl rfl rfl <| gca rfl rfl (iKill_nil X 1) rfl rfl <| K.eql rfl rfl (r := true) rfl (.taken rfl rfl) ?_; refine kpt rfl rfl <| kmv rfl <| gmv rfl rfl rfl <| gca rfl rfl (iAlive_nil X 1) rfl rfl <| K.not rfl rfl (.taken rfl rfl) ?_; refine kpt rfl rfl <| kmv rfl <| gmv rfl rfl rfl <| gca rfl rfl (iLive_nil X) rfl rfl <| K.lenX rfl SliceT.h rfl (.taken rfl rfl) ?_; refine gmv rfl rfl rfl <| gca rfl rfl (iCount_nil X) rfl rfl <| K.add rfl rfl (c := 0) rfl (.taken rfl rfl) ?_; refine gmv rfl rfl rfl <| gca rfl rfl (iFree_nil X) rfl rfl <| K.add rfl rfl (c := 0) rfl (.taken rfl rfl) ?_; refine K.eql rfl rfl (r := true) rfl (.taken rfl rfl) ?_; refine kpt rfl rfl <| kmv rfl <| gmv rfl rfl rfl <| gca rfl rfl (iNext_nil X) rfl rfl <| K.eql rfl rfl (r := true) rfl (.taken rfl rfl) ?_; refine kpt rfl rfl <| kmv rfl <| gmv rfl rfl rfl <| gca rfl rfl (iClone_nil X) rfl rfl <| K.nilNil rfl (by kernel_rfl) (.inl ⟨rfl, rfl⟩) (.taken rfl rfl) ?_; refine kpt rfl rfl <| kmv rfl <| gmv rfl rfl rfl <| gca rfl rfl (iSame_nil X) rfl rfl <| kpt rfl rfl <| kas rfl <| RunK.nil <| LWP.ret ?_)
    exact ⟨[_], ⟨rfl, trivial⟩, rfl⟩
  have c4 : 65535 < gens := by omega
  (refine LWP.seq <| LWP.region (by kernel_rfl) <| kas rfl <| RunK.nil <| LWP.seq <| LWP.seq <| LWP.region (by kernel_rfl) <| kca rfl rfl (hW) <| K.not rfl rfl .plain <| RunK.nil <| LWP.condF rfl ?_; refine LWP.skip ?_; refine LWP.seq <| LWP.region (by kernel_rfl) <| kmv rfl <| kmv rfl <| kca rfl rfl (iNew_no X ids gens hno) <| kas rfl <| RunK.nil <| LWP.seq <| LWP.seq <| LWP.region (by kernel_rfl) <| kmv rfl <| klt rfl rfl (decide_eq_false (by omega)) <| kmv rfl <| gmv rfl rfl rfl ?_; refine K.gtr rfl rfl (decide_eq_false (by omega)) (.taken rfl rfl) ?_; refine kpf rfl rfl <| kmv rfl <| gmv rfl rfl rfl <| K.lss rfl rfl (decide_eq_false (by omega)) (.taken rfl rfl) ?_; refine kpf rfl rfl <| kmv rfl <| gmv rfl rfl rfl <| K.gtr rfl rfl (decide_eq_true (by omega)) (.taken rfl rfl) ?_; refine kpf rfl rfl <| RunK.nil <| LWP.condT rfl ?_; refine LWP.seq <| LWP.region (by kernel_rfl) <| kmv rfl <| kca rfl rfl (iSpawn_nil X) <| kmv rfl <| kex rfl rfl <| kex rfl rfl <| kas rfl <| kas rfl <| RunK.nil <| LWP.seq <| LWP.region (by kernel_rfl) <| kmv rfl <| K.nilNil rfl (by kernel_rfl) (.inl ⟨rfl, rfl⟩) .plain ?_; refine kmv rfl <| gmv rfl rfl rfl <| K.eql rfl rfl (r := true) rfl (.taken rfl rfl) ?_; refine kpt rfl rfl <| kmv rfl <| gmv rfl rfl rfl <| gca rfl rfl (iKill_nil X 1) rfl rfl <| K.eql rfl rfl (r := true) rfl (.taken rfl rfl) ?_; refine kpt rfl rfl <| kmv rfl <| gmv rfl rfl rfl <| gca rfl rfl (iAlive_nil X 1) rfl rfl <| K.not rfl rfl (.taken rfl rfl) ?_; refine kpt rfl rfl <| kmv rfl <| gmv rfl rfl rfl <| gca rfl rfl (iLive_nil X) rfl rfl <| K.lenX rfl SliceT.h rfl (.taken rfl rfl) ?_; refine gmv rfl rfl rfl <| gca rfl rfl (iCount_nil X) rfl rfl <| K.add rfl rfl (c := 0) rfl (.taken rfl rfl) ?_; refine gmv rfl rfl rfl <| gca rfl rfl (iFree_nil X) rfl rfl <| K.add rfl rfl (c := 0) rfl (.taken rfl rfl) ?_; refine K.eql rfl rfl (r := true) rfl (.taken rfl rfl) ?_; refine kpt rfl rfl <| kmv rfl <| gmv rfl rfl rfl <| gca rfl rfl (iNext_nil X) rfl rfl <| K.eql rfl rfl (r := true) rfl (.taken rfl rfl) ?_; refine kpt rfl rfl <| kmv rfl <| gmv rfl rfl rfl <| gca rfl rfl (iClone_nil X) rfl rfl <| K.nilNil rfl (by kernel_rfl) (.inl ⟨rfl, rfl⟩) (.taken rfl rfl) ?_; refine kpt rfl rfl <| kmv rfl <| gmv rfl rfl rfl <| gca rfl rfl (iSame_nil X) rfl rfl <| kpt rfl rfl <| kas rfl <| RunK.nil <| LWP.ret ?_)
  exact ⟨[_], ⟨rfl, trivial⟩, rfl⟩
theorem entityExact_law (ids gens : Int) (ds : List Dd) (ad : Option Addr) (cap : Nat) (hD : DdsIn X ad ds) (hb : ds.length < 9223372036854775808) :
    PSpec Try.prog X 3 [Ln .i64 ids, Ln .i64 gens, .sv (.one (.val (.slice ad ds.length cap)))] (Lb true) := by
  by_cases h : ids < 1 ∨ 256 < ids ∨ gens < 1 ∨ 65535 < gens
  · exact EntityExact_no X ids gens ad ds.length cap h
  · obtain ⟨n, rfl⟩ : ∃ n : Nat, ids = (n : Int) := ⟨ids.toNat, by omega⟩
    obtain ⟨g, rfl⟩ : ∃ g : Nat, gens = (g : Int) := ⟨gens.toNat, by omega⟩
    exact EntityExact_yes X n g (by omega) (by omega) ds ad cap hD hb
end Go.Proofs.Ytkdbkgfdggbhkaa
end
section
namespace Go.Lg
open Go Go.RowKit Go.WideShapes
section
variable {P : Program} {n : Nat} {ops os : List Oper} {acc : List Eff} {K : List Eff → St → Prop} {s : List (Nat × LV)} {bx : List (Nat × Option Box)} {X : Nat → Option Obj} {σ : St}
theorem LOK.lenMap {d k : Nat} {t kt et : TypeId} {x : Operand} {ty : TypeId} {pos : String} {after_ : Array Edge} {g : Option (Nat × Bool)} {m : List (Value × Value)} {e : TypeId} {cs : List CV} {r : Int}
    (hx : σ.ev x = some (.sv (.one (.mp k)))) (hk : σ.stat k = some (some ⟨e, cs, .res (mapR P kt m)⟩)) (hm : mapOf P t = some (kt, et)) (hr' : ((m.length : Nat) : Int) = r) :
    LOK P n ops ⟨some d, .call ⟨.builtin .len, #[x], #[t]⟩, ty, pos, after_, g⟩ σ ⟨[(d, .sv (.one (.val (.int .i64 r))))], [k], []⟩ :=
  LOK.value fun σ' ha C ι a w hr => by
    subst hr'
    have hk' := (ha.stat k (.inl (by simp))).trans hk
    have hv := hr.ev ((ha.ev (x := x) (by simp [Op.operands, Call.operands])).trans hx)
    simp only [LV.rel, SV.rel, CV.rel, hk'] at hv
    obtain ⟨H, ⟨es, clock, rfl, he, hnd, hkeys⟩, hH, _⟩ := hr.resStep hk'
    have hb := hH (ι k).1 _ (withBlock_at _ _ _)
    have ht := mapOf_spec hm
    have hsz : es.size = m.length := by rw [← he, List.length_map, Array.length_toList]
    exact ⟨_, by simp [execOp, resolve, invoke, builtin, Builtin.len_, hv, run_underlying ht, MapKept.run_getObj_map hb, goInt, hsz, Result.andThen], rfl⟩
theorem K.lenMap {d k : Nat} {t kt et : TypeId} {x : Operand} {ty : TypeId} {pos : String} {after_ : Array Edge} {g : Option (Nat × Bool)} {m : List (Value × Value)} {e : TypeId} {cs : List CV} {r : Int}
    (hx : (⟨s, bx, X⟩ : St).ev x = some (.sv (.one (.mp k)))) (hk : (⟨s, bx, X⟩ : St).stat k = some (some ⟨e, cs, .res (mapR P kt m)⟩)) (hm : mapOf P t = some (kt, et)) (hr' : ((m.length : Nat) : Int) = r) (hw : Want ops s g)
    (kont : RunK P n ops os ⟨(d, .sv (.one (.val (.int .i64 r)))) :: s, bx, X⟩ (⟨[(d, .sv (.one (.val (.int .i64 r))))], [k], []⟩ :: acc) K) :
    RunK P n ops (⟨some d, .call ⟨.builtin .len, #[x], #[t]⟩, ty, pos, after_, g⟩ :: os) ⟨s, bx, X⟩ acc K := RunK.g1 (LOK.lenMap hx hk hm hr') hw kont
end
end Go.Lg
end
section
namespace Go.Proofs.Ytkdbkgfdggbhkaa
open Go Go.Lg
set_option maxRecDepth 100000
def entM (L : List Nat) : List (Value × Value) := L.map fun h => (.int .u64 (h : Nat), .bool true)
theorem entM_len (L : List Nat) : (entM L).length = L.length := by unfold entM; rw [List.length_map]
theorem entM_no {L : List Nat} {h : Nat} (hn : h ∉ L) : ∀ p ∈ entM L, p.1 ≠ .int .u64 (h : Nat) := fun p hp e => by
  obtain ⟨y, hy, rfl⟩ := List.mem_map.1 hp
  simp only [Value.int.injEq, true_and] at e
  exact hn ((show y = h by omega) ▸ hy)
theorem entM_at {L : List Nat} {h : Nat} (hn : h ∉ L) : At (entM L) (.int .u64 (h : Nat)) (.bool false) (.bool false) := .inr ⟨entM_no hn, rfl⟩
theorem entM_put {L : List Nat} {h : Nat} (hn : h ∉ L) : Put (entM L) (.int .u64 (h : Nat)) (.bool true) (entM (L ++ [h])) := .inr ⟨entM_no hn, by unfold entM; rw [List.map_append]; rfl⟩
theorem key_u64 {h : Nat} (hh : h < 18446744073709551616) : Go.keyOf Try.prog 27 (.int .u64 (h : Nat)) = some (.int .u64 (h : Nat)) := by
  rw [keyOf_int (q := .u64) (by kernel_rfl)]
  unfold mapKey
  rw [show Try.prog.underlying 27 = some (.int .u64) by kernel_rfl]
  have hw : (Lit.int .u64 (h : Nat)).wf = true := by
    show (decide (IntKind.u64.min ≤ ((h : Nat) : Int)) && decide (((h : Nat) : Int) ≤ IntKind.u64.max)) = true
    rw [show IntKind.u64.min = 0 from rfl, show IntKind.u64.max = 18446744073709551615 from rfl, decide_eq_true (show (0 : Int) ≤ (h : Nat) by omega), decide_eq_true (show ((h : Nat) : Int) ≤ 18446744073709551615 by omega)]; rfl
  simp [hw]
abbrev emB (k : Nat) (L : List Nat) : Nat × Option Box := (k, some ⟨0, [], .res (mapR Try.prog 27 (entM L))⟩)
structure NvI (l : List Ei) (sL dL : List Nat) : Prop where
  giv : ∀ h, h ∈ sL ↔ givB l h = true
  len : sL.length = givS l
  dead : ∀ h ∈ dL, h < 18446744073709551616 ∧ givB l h = true ∧ aliveB l h = false
  cnt : cntE l + dL.length = sL.length
theorem new_giv (n h : Nat) : givB (newE n) h = false := by
  unfold givB givP whoE
  by_cases c : h % 4294967296 = 0
  · rw [if_pos c]
  · rw [if_neg c]
    cases hx : (newE n)[h % 4294967296 - 1]? with
    | none => rfl
    | some x =>
      have : x = (1, 0) := (List.mem_replicate.1 (List.mem_of_getElem? hx)).2
      subst this
      show (decide (1 ≤ h / 4294967296) && (decide (h / 4294967296 < 1) || (1 == h / 4294967296 && !freeE (1, 0)))) = false
      rw [show freeE (1, 0) = true from rfl, Bool.not_true, Bool.and_false, Bool.or_false]
      by_cases c2 : 1 ≤ h / 4294967296
      · rw [decide_eq_false (show ¬ h / 4294967296 < 1 by omega), Bool.and_false]
      · rw [decide_eq_false c2, Bool.false_and]
theorem new_counts (n : Nat) : givS (newE n) = 0 ∧ cntE (newE n) = 0 := by
  unfold givS cntE newE
  rw [List.map_replicate, show givE (1, 0) = 0 from rfl, List.countP_replicate, if_neg (show ¬ livE (1, 0) = true from fun h => by cases h)]
  exact ⟨by induction n with
    | zero => rfl
    | succ n ih => rw [List.replicate_succ, List.sum_cons, ih], rfl⟩
theorem NvI.new (n : Nat) : NvI (newE n) [] [] := ⟨fun h => by rw [new_giv]; simp, (new_counts n).1.symm, fun h hh => absurd hh (by simp), by rw [(new_counts n).2]; rfl⟩
theorem NvI.spawn {l : List Ei} {sL dL : List Nat} (I : NvI l sL dL) {i gen : Nat} (hx : l[i]? = some (gen, 0)) (hg : 1 ≤ gen) (hi : i + 1 < 4294967296) : NvI (l.set i (gen, 1)) (sL ++ [hdl (i + 1) gen]) dL ∧ hdl (i + 1) gen ∉ sL := by
  obtain ⟨c1, c2, _⟩ := spawn_counts hx
  refine ⟨⟨fun h => ?_, ?_, fun h hh => ?_, ?_⟩, fun hm => ?_⟩
  · rw [List.mem_append, List.mem_singleton, I.giv, giv_spawn hx hg hi, Bool.or_eq_true, beq_iff_eq]
  · rw [List.length_append, List.length_singleton, I.len, c1]
  · obtain ⟨d1, d2, d3⟩ := I.dead h hh
    exact ⟨d1, by rw [giv_spawn hx hg hi, d2]; rfl, dead_spawn hx d2 d3⟩
  · have := I.cnt
    rw [List.length_append, List.length_singleton, c2]; omega
  · have := (I.giv _).1 hm
    rw [new_never hx hi] at this
    cases this
theorem NvI.kill {g : Nat} {l : List Ei} {sL dL : List Nat} (I : NvI l sL dL) {i gen : Nat} (hx : l[i]? = some (gen, 1)) (hg : ∀ x ∈ l, 1 ≤ x.1) (hi : i + 1 < 4294967296) (hb : hdl (i + 1) gen < 18446744073709551616) : NvI (l.set i (killE g (gen, 1))) sL (dL ++ [hdl (i + 1) gen]) := by
  have hg1 : 1 ≤ gen := hg _ (List.mem_of_getElem? hx)
  obtain ⟨c1, c2⟩ := kill_counts (g := g) hx hg1
  refine ⟨fun h => ?_, ?_, fun h hh => ?_, ?_⟩
  · rw [I.giv, giv_kill hx]
  · rw [I.len, c1]
  · rcases List.mem_append.1 hh with hh | hh
    · obtain ⟨d1, d2, d3⟩ := I.dead h hh
      exact ⟨d1, by rw [giv_kill hx]; exact d2, dead_kill hx d3⟩
    · rw [List.mem_singleton.1 hh]
      refine ⟨hb, ?_, ends hx hi⟩
      rw [giv_kill hx]
      refine alive_given ?_ hg
      rw [aliveB_hdl hi]
      unfold aliveP
      rw [who_suc, hx]
      simp [livE]
  · have := I.cnt
    rw [List.length_append, List.length_singleton]; omega
theorem next_free {l : List Ei} : nextE l = none ↔ freE l = 0 := by
  unfold nextE freE
  rw [List.findIdx?_eq_none_iff, List.countP_eq_zero]
  exact ⟨fun h x hx => by rw [h x hx]; decide, fun h x hx => by simpa using h x hx⟩
theorem free_pos {l : List Ei} {i : Nat} (h : nextE l = some i) : 0 < freE l := by
  rcases Nat.eq_zero_or_pos (freE l) with h0 | h0
  · rw [next_free.2 h0] at h; cases h
  · exact h0
theorem NvI.zero {l : List Ei} {sL dL : List Nat} (I : NvI l sL dL) : 0 ∉ sL := fun h => by
  have := (I.giv 0).1 h
  unfold givB givP whoE at this
  cases this
end Go.Proofs.Ytkdbkgfdggbhkaa
end
