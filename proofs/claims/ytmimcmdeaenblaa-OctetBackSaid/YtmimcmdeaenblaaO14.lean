/- A piece of a proof over this program: contracts of its functions, and a logic to prove them by. -/
import Derived.Test.YtmimcmdeaenblaaO13
import Derived.Test.YtmimcmdeaenblaaRows
import Derived.ProofKit
import Derived.OpenShut
import Derived.Stop.Joined
import Derived.Lib.SmallJoins
import Derived.Deep.Slices
import Derived.Carry
import Derived.ChangeMaps5
import Derived.JoinedOf
namespace Go.Proofs.Ytmimcmdeaenblaa
open Go Go.Lg Go.RowKit Go.ChangeShapes Go.WideShapes Go.Joins
set_option maxRecDepth 100000
theorem own : ownKnob Try.prog.godebug = none := by kernel_rfl
theorem laidOut : laidOutB Try.prog = true := by kernel_rfl
theorem rel_args : ∀ (vals : List Value), LVs.rel noS (fun _ => (0, 0)) (vals.map toLV) vals
  | [] => trivial
  | v :: vs => ⟨toLV_rel _ _ v, rel_args vs⟩
/-- a law's contract, as the row asks it -/
theorem law_calls {f : FuncId} {W : World} (vals : List Value) (hp : PSpec Try.prog (fun b => W.heap[b]?) f (vals.map toLV) (Lb true)) :
    Calls Try.prog f vals.toArray W (fun e W' => e = .returned (.bool true) ∧ Below W.heap.size W W') := by
  refine (hp.out W vals.toArray (fun _ _ h => h) (by simpa using rel_args vals)).mono ?_
  rintro e W' ⟨v, rfl, hr, hb⟩
  simp only [LV.rel, SV.rel, CV.rel] at hr
  exact ⟨by rw [hr], hb⟩
instance : Inhabited Act4 := ⟨⟨0, 0, 0, []⟩⟩
section
variable {H : Type} {enc : TypeId × Value → H} {w : World}
theorem cells4 : Try.prog.cellsOf 30 = 4 := by kernel_rfl
theorem cell_at {a : Addr} {k : Nat} {c : Value} (hs : a.spot = none) (h : w.cell? (a.add k) = some c) : ∃ (arr : Array Value) (el : TypeId) (fr : Nat × Nat), w.heap[a.block]? = some (.cells arr el fr) ∧ arr[a.off + k]? = some c := by
  obtain ⟨b, o, s⟩ := a
  simp only at hs
  subst hs
  rw [Addr.add_lit] at h
  unfold World.cell? at h
  split at h
  · rename_i arr el fr he
    exact ⟨arr, el, fr, he, by simpa using h⟩
  · cases h
theorem open_acts {r : Reach} {b0 : Nat} {v : Value} {d : DataW H} {p : List MemPlace} (hv : Value.okWide Try.prog w r b0 22 v) (h : DataW.Trod enc Try.prog w 0 (fun _ => true) true 22 v d p) :
    ∃ (ad : Option Addr) (cap : Nat) (acts : List Act4), v = .slice ad acts.length cap ∧ ActsIn (fun b => w.heap[b]?) ad acts := by
  obtain ⟨a, len, cap, rfl⟩ := okWide_slice (e := 30) (by kernel_rfl) hv
  obtain ⟨fuel, hf⟩ := h
  rcases Deep.open_slice (e := 30) (by kernel_rfl) hf with ⟨h0, _⟩ | ⟨a', len', cap', m, n, D, Pl, h0, hb, hl, hm, hmm, _, hx⟩
  · simp [Value.cells] at h0
    obtain ⟨rfl, rfl, rfl⟩ := h0
    exact ⟨none, 0, [], rfl, fun i a h => by simp at h⟩
  · simp [Value.cells] at h0
    obtain ⟨rfl, rfl, rfl⟩ := h0
    rw [if_pos rfl] at hmm
    subst hmm
    rw [cells4] at hx
    have each : ∀ i, i < len → ∃ q : Act4, ∃ (blk off : Nat) (arr : Array Value) (el : TypeId) (fr : Nat × Nat), some a' = some (⟨blk, off, none⟩ : Addr) ∧ w.heap[blk]? = some (.cells arr el fr) ∧ off + i * 4 + 4 ≤ arr.size ∧
        ((arr.toList.drop (off + i * 4)).take 4).map CV.val = [.val (.int .i64 q.kind), .val (.int .i64 q.w), .val (.int .u64 q.n), vs q.s] ∧
        (0 ≤ q.n ∧ q.n < 18446744073709551616) ∧ (-9223372036854775808 ≤ q.w ∧ q.w < 9223372036854775808) ∧ (-9223372036854775808 ≤ q.kind ∧ q.kind < 9223372036854775808) := by
      intro i hi
      have hspot : a'.spot = none := by
        obtain ⟨cs, h1, _⟩ := hx 0 (by omega)
        obtain ⟨_, hlen, hcell⟩ := World.cells?_some h1
        have e0 := hcell 0 (by omega)
        rw [Deep.add_add, Nat.zero_mul, Nat.zero_add] at e0
        have e1 : a'.add 0 = a' := by unfold Addr.add; rw [if_pos rfl]
        rw [e1, List.getElem?_eq_getElem (by omega)] at e0
        unfold World.cell? at e0
        split at e0
        · cases hs : a'.spot with
          | none => rfl
          | some _ => rw [hs] at e0; simp at e0
        · cases e0
      obtain ⟨cs, h1, h2⟩ := hx i (by omega)
      obtain ⟨_, hlen, hcell⟩ := World.cells?_some h1
      obtain ⟨y0, y1, y2, y3, n', _, _, g0, g1, g2, g3⟩ := trod_struct4 (t := 30) Try.underlying30 h2
      obtain ⟨c0, c1, c2, c3, rfl⟩ : ∃ c0 c1 c2 c3, cs = [c0, c1, c2, c3] := by
        match cs, hlen with
        | [c0, c1, c2, c3], _ => exact ⟨c0, c1, c2, c3, rfl⟩
      obtain ⟨k, e0, _, w0⟩ := DataW.trod_int (k := .i64) (by kernel_rfl) g0
      obtain ⟨x, e1, _, w1⟩ := DataW.trod_int (k := .i64) (by kernel_rfl) g1
      obtain ⟨z, e2, _, w2⟩ := DataW.trod_int (k := .u64) (by kernel_rfl) g2
      obtain ⟨s, e3, _, _⟩ := DataW.trod_string (by kernel_rfl) g3
      have q0 : c0 = .int .i64 k := by simpa using (show ([c0, c1, c2, c3].drop 0).take 1 = [.int .i64 k] from e0)
      have q1 : c1 = .int .i64 x := by simpa using (show ([c0, c1, c2, c3].drop 1).take 1 = [.int .i64 x] from e1)
      have q2 : c2 = .int .u64 z := by simpa using (show ([c0, c1, c2, c3].drop 2).take 1 = [.int .u64 z] from e2)
      have q3 : c3 = .string s := by simpa using (show ([c0, c1, c2, c3].drop 3).take 1 = [.string s] from e3)
      subst q0 q1 q2 q3
      have f0 := hcell 0 (by omega)
      have f1 := hcell 1 (by omega)
      have f2 := hcell 2 (by omega)
      have f3 := hcell 3 (by omega)
      rw [Deep.add_add] at f0 f1 f2 f3
      obtain ⟨arr, el, fr, hh, t0⟩ := cell_at hspot (by simpa using f0)
      obtain ⟨arr1, _, _, hh1, t1⟩ := cell_at hspot (by simpa using f1)
      obtain ⟨arr2, _, _, hh2, t2⟩ := cell_at hspot (by simpa using f2)
      obtain ⟨arr3, _, _, hh3, t3⟩ := cell_at hspot (by simpa using f3)
      rw [hh] at hh1 hh2 hh3
      cases hh1
      cases hh2
      cases hh3
      have b0 := bounds_i64 w0
      have b1 := bounds_i64 w1
      have b2 := bounds_u64 w2
      have hsz : a'.off + (i * 4 + 3) < arr.size := (Array.getElem?_eq_some_iff.1 t3).1
      refine ⟨⟨k, x, z, s.data.toList⟩, a'.block, a'.off, arr, el, fr, ?_, hh, by omega, ?_, (show 0 ≤ z ∧ z < 18446744073709551616 by omega), (show -9223372036854775808 ≤ x ∧ x < 9223372036854775808 by omega), (show -9223372036854775808 ≤ k ∧ k < 9223372036854775808 by omega)⟩
      · obtain ⟨b, o, sp⟩ := a'
        simp only at hspot
        subst hspot
        rfl
      · have hl4 : (arr.toList.drop (a'.off + i * 4)).take 4 = [.int .i64 k, .int .i64 x, .int .u64 z, .string s] := by
          apply List.ext_getElem?
          intro j
          rw [List.getElem?_take]
          by_cases hj : j < 4
          · rw [if_pos hj, List.getElem?_drop, Array.getElem?_toList]
            have hj4 : j = 0 ∨ j = 1 ∨ j = 2 ∨ j = 3 := by omega
            rcases hj4 with rfl | rfl | rfl | rfl
            · simpa [Nat.add_assoc] using t0
            · simpa [Nat.add_assoc] using t1
            · simpa [Nat.add_assoc] using t2
            · simpa [Nat.add_assoc] using t3
          · rw [if_neg hj, List.getElem?_eq_none (by simp; omega)]
        rw [hl4]
        rfl
    obtain ⟨q, hq⟩ := Deep.choose_lt each
    refine ⟨some a', _, (List.range len).map q, by rw [List.length_map, List.length_range], ?_⟩
    · intro i act hi
      have hi2 : i < len := by
        have := (List.getElem?_eq_some_iff.1 hi).1
        simpa using this
      have e : act = q i := by
        rw [List.getElem?_map, List.getElem?_range hi2] at hi
        simpa using hi.symm
      rw [e]
      exact hq i hi2
end
end Go.Proofs.Ytmimcmdeaenblaa
