/- A piece of a proof over this program: contracts of its functions, and a logic to prove them by. -/
import Derived.Test.YtfmohdliifmmfaaLg18
import Derived.ProofKit
import Derived.OpenShut
import Derived.Stop.Joined
import Derived.Lib.SmallJoins
import Derived.Deep.Slices
import Derived.Carry
import Derived.ChangeMaps5
import Derived.JoinedOf
namespace Go.Lg
open Go Go.RowKit Go.ChangeShapes Go.WideShapes Go.Joins
section
variable {H : Type} {enc : TypeId × Value → H} {P : Program} {w : World}
theorem below_trodAll (hl : laidOutB P = true) {W W' : World} (hb : Below W.heap.size W W') : ∀ {ts : List TypeId} {vs : List Value} {ds : List (DataW H)} {ps : List MemPlace},
    (ts.all fun t => P.readableRec t && Nat.blt t P.types.size) = true → DataW.TrodAll enc P W 0 (fun _ => true) true ts vs ds ps → (∀ x ∈ ps, x.block < W.heap.size) →
    DataW.TrodAll enc P W' 0 (fun b => decide (b < W.heap.size)) true ts vs ds ps
  | [], vs, ds, ps, _, h, _ => by
    obtain ⟨rfl, rfl, rfl⟩ := trodAll_nil h
    exact trodAll_mk0
  | t :: ts, vs, ds, ps, ht, h, hlt => by
    simp only [List.all_cons, Bool.and_eq_true, Nat.blt_eq] at ht
    obtain ⟨v, vs', d, ds', p, q, rfl, rfl, rfl, hd, hrest⟩ := trodAll_cons h
    have h1 := Below.trod hl ht.1.1 ht.1.2 hd hb (fun x hx => hlt x (by simp [hx]))
    have h2 := below_trodAll hl hb (by simpa [Bool.and_eq_true, Nat.blt_eq] using ht.2) hrest (fun x hx => hlt x (by simp [hx]))
    exact ⟨p, q, h1, h2, rfl⟩
/-- the cells that a slice's elements are, one cell each -/
def OneIn (X : Nat → Option Obj) (ad : Option Addr) (vs : List Value) : Prop := ∀ i v, vs[i]? = some v → ∃ (blk off : Nat) (arr : Array Value) (el : TypeId) (fr : Nat × Nat), ad = some ⟨blk, off, none⟩ ∧ X blk = some (.cells arr el fr) ∧ arr[off + i]? = some v
theorem cell_at {a : Addr} {k : Nat} {c : Value} (hs : a.spot = none) (h : w.cell? (a.add k) = some c) : ∃ (arr : Array Value) (el : TypeId) (fr : Nat × Nat), w.heap[a.block]? = some (.cells arr el fr) ∧ arr[a.off + k]? = some c := by
  obtain ⟨b, o, s⟩ := a
  simp only at hs
  subst hs
  rw [Addr.add_lit] at h
  unfold World.cell? at h
  split at h
  · rename_i arr el fr he
    exact ⟨arr, el, fr, he, by simpa using h⟩
  · cases h
theorem spot_none {a : Addr} {c : Value} (h : w.cell? (a.add 0) = some c) : a.spot = none := by
  have e1 : a.add 0 = a := by unfold Addr.add; rw [if_pos rfl]
  rw [e1] at h
  unfold World.cell? at h
  split at h
  · cases hs : a.spot with
    | none => rfl
    | some _ => rw [hs] at h; simp at h
  · cases h
theorem open_row1 {r : Reach} {b0 : Nat} {t e : TypeId} {v : Value} {d : DataW H} {p : List MemPlace} (ht : P.underlying t = some (.slice e)) (hc : P.cellsOf e = 1) (hv : Value.okWide P w r b0 t v) (h : DataW.Trod enc P w 0 (fun _ => true) true t v d p) :
    ∃ (ad : Option Addr) (cap : Nat) (vs : List Value), v = .slice ad vs.length cap ∧ OneIn (fun b => w.heap[b]?) ad vs ∧ ∀ u, u ∈ vs → ∃ (n : Nat) (x : DataW H × List MemPlace), DataW.trod enc P w 0 (fun _ => true) true n e [u] = some x := by
  obtain ⟨a, len, cap, rfl⟩ := okWide_slice ht hv
  obtain ⟨fuel, hf⟩ := h
  rcases Deep.open_slice1 ht hc hf with ⟨h0, _⟩ | ⟨a', len', cap', m, n, V, D, Pl, h0, hb, hl, hm, hmm, _, hx⟩
  · simp [Value.cells] at h0
    obtain ⟨rfl, rfl, rfl⟩ := h0
    exact ⟨none, 0, [], rfl, fun i v h => by simp at h, fun u hu => by simp at hu⟩
  · simp [Value.cells] at h0
    obtain ⟨rfl, rfl, rfl⟩ := h0
    rw [if_pos rfl] at hmm
    subst hmm
    refine ⟨some a', _, (List.range len).map V, by rw [List.length_map, List.length_range], ?_, ?_⟩
    · intro i v hi
      have hi2 : i < len := by
        have := (List.getElem?_eq_some_iff.1 hi).1
        simpa using this
      have e : v = V i := by
        rw [List.getElem?_map, List.getElem?_range hi2] at hi
        simpa using hi.symm
      subst e
      have hspot : a'.spot = none := spot_none (hx 0 (by omega)).1
      obtain ⟨arr, el, fr, hh, hcell⟩ := cell_at hspot (hx i (by omega)).1
      refine ⟨a'.block, a'.off, arr, el, fr, ?_, hh, hcell⟩
      obtain ⟨b, o, sp⟩ := a'
      simp only at hspot
      subst hspot
      rfl
    · intro u hu
      obtain ⟨i, hi, rfl⟩ := List.mem_map.1 hu
      exact ⟨n, _, (hx i (by have := List.mem_range.1 hi; omega)).2⟩
theorem map_of {α β : Type} {f : β → α} {q : β → Prop} : ∀ {vs : List α}, (∀ u, u ∈ vs → ∃ k, u = f k ∧ q k) → ∃ ks : List β, vs = ks.map f ∧ ∀ k, k ∈ ks → q k
  | [], _ => ⟨[], rfl, fun k hk => by simp at hk⟩
  | v :: vs, h => by
    obtain ⟨k, rfl, hq⟩ := h v (by simp)
    obtain ⟨ks, rfl, hqs⟩ := map_of (vs := vs) (fun u hu => h u (by simp [hu]))
    refine ⟨k :: ks, rfl, fun j hj => ?_⟩
    rcases List.mem_cons.1 hj with rfl | h2
    · exact hq
    · exact hqs j h2
/-- a slice of whole numbers -/
theorem open_ints {r : Reach} {b0 : Nat} {t e : TypeId} {k : IntKind} {v : Value} {d : DataW H} {p : List MemPlace} (ht : P.underlying t = some (.slice e)) (he : P.underlying e = some (.int k)) (hc : P.cellsOf e = 1) (hv : Value.okWide P w r b0 t v) (h : DataW.Trod enc P w 0 (fun _ => true) true t v d p) :
    ∃ (ad : Option Addr) (cap : Nat) (ks : List Int), v = .slice ad ks.length cap ∧ OneIn (fun b => w.heap[b]?) ad (ks.map (.int k)) ∧ ∀ n, n ∈ ks → (Lit.int k n).wf = true := by
  obtain ⟨ad, cap, vs, rfl, h1, h2⟩ := open_row1 ht hc hv h
  obtain ⟨ks, rfl, h3⟩ := map_of (f := fun n : Int => Value.int k n) (q := fun n => (Lit.int k n).wf = true) (vs := vs) (fun u hu => by
    obtain ⟨n, x, hx⟩ := h2 u hu
    obtain ⟨m, e1, _, hw⟩ := DataW.trod_int he hx
    simp only [List.cons.injEq, and_true] at e1
    exact ⟨m, e1, hw⟩)
  exact ⟨ad, cap, ks, by rw [List.length_map], h1, h3⟩
/-- a slice of texts -/
theorem open_texts {r : Reach} {b0 : Nat} {t e : TypeId} {v : Value} {d : DataW H} {p : List MemPlace} (ht : P.underlying t = some (.slice e)) (he : P.underlying e = some .string) (hc : P.cellsOf e = 1) (hv : Value.okWide P w r b0 t v) (h : DataW.Trod enc P w 0 (fun _ => true) true t v d p) :
    ∃ (ad : Option Addr) (cap : Nat) (ss : List (List UInt8)), v = .slice ad ss.length cap ∧ OneIn (fun b => w.heap[b]?) ad (ss.map fun l => .string ⟨l.toArray⟩) := by
  obtain ⟨ad, cap, vs, rfl, h1, h2⟩ := open_row1 ht hc hv h
  obtain ⟨ss, rfl, h3⟩ := map_of (f := fun l : List UInt8 => Value.string ⟨l.toArray⟩) (q := fun _ => True) (vs := vs) (fun u hu => by
    obtain ⟨n, x, hx⟩ := h2 u hu
    obtain ⟨s, e1, _, _⟩ := DataW.trod_string he hx
    simp only [List.cons.injEq, and_true] at e1
    exact ⟨s.data.toList, e1, trivial⟩)
  exact ⟨ad, cap, ss, by rw [List.length_map], h1⟩
end
theorem rel_args : ∀ (vals : List Value), LVs.rel noS (fun _ => (0, 0)) (vals.map toLV) vals
  | [] => trivial
  | v :: vs => ⟨toLV_rel _ _ v, rel_args vs⟩
/-- a law's contract, as the row asks it -/
theorem law_calls {P : Program} {f : FuncId} {W : World} (vals : List Value) (hp : PSpec P (fun b => W.heap[b]?) f (vals.map toLV) (.sv (.one (.val (.bool true))))) :
    Calls P f vals.toArray W (fun e W' => e = .returned (.bool true) ∧ Below W.heap.size W W') := by
  refine (hp.out W vals.toArray (fun _ _ h => h) (by simpa using rel_args vals)).mono ?_
  rintro e W' ⟨v, rfl, hr, hb⟩
  simp only [LV.rel, SV.rel, CV.rel] at hr
  exact ⟨by rw [hr], hb⟩
theorem u8_arg {n : Int} (h : (Lit.int .u8 n).wf = true) : ∃ c : UInt8, n = (c.toNat : Nat) := by
  have hb := bounds_u8 h
  refine ⟨UInt8.ofNat n.toNat, ?_⟩
  rw [UInt8.toNat_ofNat']
  omega
end Go.Lg
