/- A piece of a proof over this program: contracts of its functions, and a logic to prove them by. -/
import Derived.Test.YtklofjlbjahnaaaDoorP2
import Derived.Deep.Strs
import Derived.SizedLaws
import Derived.Lib.AppendZerosOnto
import Derived.Lib.TrimByte
import Derived.StringKeys
import Derived.WideMake
import Derived.Test.YtklofjlbjahnaaaDoorRows
import Derived.Lib.ItoaLen
section
namespace Go.Lg
open Go Go.RowKit Go.ChangeShapes Go.WideShapes Go.Joins
section
variable {H : Type} {enc : TypeId × Value → H} {P : Program} {w : World}
theorem cells_row {a : Addr} {sz : Nat} {cs : List Value} (hs : a.spot = none) (hsz : 1 ≤ sz) {i : Nat} (hl : cs.length = sz) (h : ∀ j, j < sz → w.cell? ((a.add (i * sz)).add j) = cs[j]?) :
    ∃ (arr : Array Value) (el : TypeId) (fr : Nat × Nat), w.heap[a.block]? = some (.cells arr el fr) ∧ a.off + i * sz + sz ≤ arr.size ∧ (arr.toList.drop (a.off + i * sz)).take sz = cs := by
  obtain ⟨b, o, sp⟩ := a
  simp only at hs
  subst hs
  have h2 : ∀ j, j < sz → ∃ u, cs[j]? = some u ∧ w.cell? ((⟨b, o, none⟩ : Addr).add (i * sz + j)) = some u := fun j hj => by
    have h3 := h j hj
    rw [Deep.add_add] at h3
    rw [List.getElem?_eq_getElem (by omega)] at h3
    exact ⟨_, List.getElem?_eq_getElem (by omega), h3⟩
  obtain ⟨u0, _, h0⟩ := h2 0 (by omega)
  obtain ⟨arr, el, fr, hh, _⟩ := cell_at (a := ⟨b, o, none⟩) rfl h0
  have hall : ∀ j, j < sz → arr[o + (i * sz + j)]? = cs[j]? := fun j hj => by
    obtain ⟨u, hu, hc⟩ := h2 j hj
    obtain ⟨arr', el', fr', hh', hc'⟩ := cell_at (a := ⟨b, o, none⟩) rfl hc
    rw [hh] at hh'
    cases hh'
    rw [hu]; exact hc'
  have hlast : o + (i * sz + (sz - 1)) < arr.size := by
    have h3 := hall (sz - 1) (by omega)
    rw [List.getElem?_eq_getElem (by omega)] at h3
    exact (Array.getElem?_eq_some_iff.1 h3).1
  refine ⟨arr, el, fr, hh, by show o + i * sz + sz ≤ arr.size; omega, ?_⟩
  apply List.ext_getElem?
  intro j
  rw [List.getElem?_take]
  by_cases hj : j < sz
  · rw [if_pos hj, List.getElem?_drop, Array.getElem?_toList, ← hall j hj]
    show arr[o + i * sz + j]? = _
    rw [Nat.add_assoc]
  · rw [if_neg hj, List.getElem?_eq_none (by omega)]
theorem open_rows {r : Reach} {b0 : Nat} {t e : TypeId} {sz : Nat} {v : Value} {d : DataW H} {p : List MemPlace} (ht : P.underlying t = some (.slice e)) (hc : P.cellsOf e = sz) (hsz : 1 ≤ sz) (hv : Value.okWide P w r b0 t v) (h : DataW.Trod enc P w 0 (fun _ => true) true t v d p) :
    ∃ (ad : Option Addr) (cap : Nat) (rows : List (List Value)), v = .slice ad rows.length cap ∧ rows.length ≤ cap ∧ cap ≤ maxLen ∧ RowsIn (fun b => w.heap[b]?) ad sz rows ∧
      (∀ u, u ∈ rows → u.length = sz ∧ ∃ (n : Nat) (x : DataW H × List MemPlace), DataW.trod enc P w 0 (fun _ => true) true n e u = some x) ∧
      ∀ by_ B : Nat, (∀ elems spare, d = .slice elems spare → (elems.length + spare.length) * by_ ≤ B) → rows.length * by_ ≤ B := by
  obtain ⟨a, len, cap, rfl⟩ := okWide_slice ht hv
  obtain ⟨fuel, hf⟩ := h
  rcases Deep.open_slice ht hf with ⟨h0, _⟩ | ⟨a', len', cap', m, n, D, Pl, h0, hb, hl, hm, hmm, hd, hx⟩
  · simp [Value.cells] at h0
    obtain ⟨rfl, rfl, rfl⟩ := h0
    exact ⟨none, 0, [], rfl, Nat.le_refl _, Nat.zero_le _, fun i r h => by simp at h, fun u hu => by simp at hu, fun by_ B _ => by simp⟩
  · simp [Value.cells] at h0
    obtain ⟨rfl, rfl, rfl⟩ := h0
    rw [if_pos rfl] at hmm
    subst hmm
    rw [hc] at hx
    have hch : ∃ f : Nat → List Value, ∀ i, i < m → w.cells? 0 (a'.add (i * sz)) sz = some (f i) ∧ DataW.trod enc P w 0 (fun _ => true) true n e (f i) = some (D i, Pl i) := by
      refine ⟨fun i => if hi : i < m then (hx i hi).choose else [], fun i hi => ?_⟩
      simp only [dif_pos hi]
      exact (hx i hi).choose_spec
    obtain ⟨f, hf2⟩ := hch
    refine ⟨some a', m, (List.range len).map f, by rw [List.length_map, List.length_range], by rw [List.length_map, List.length_range]; exact hl, hm, ?_, ?_, ?_⟩
    · intro i u hi
      have hi2 : i < len := by
        have := (List.getElem?_eq_some_iff.1 hi).1
        simpa using this
      have e : u = f i := by
        rw [List.getElem?_map, List.getElem?_range hi2] at hi
        simpa using hi.symm
      subst e
      have hspot : a'.spot = none := by
        obtain ⟨h1, _⟩ := hf2 0 (by omega)
        obtain ⟨_, hlen, hcell⟩ := World.cells?_some h1
        have e0 := hcell 0 (by omega)
        rw [Deep.add_add, Nat.zero_mul, Nat.zero_add] at e0
        rw [List.getElem?_eq_getElem (by omega)] at e0
        exact spot_none e0
      obtain ⟨h1, _⟩ := hf2 i (by omega)
      obtain ⟨_, hlen, hcell⟩ := World.cells?_some h1
      obtain ⟨arr, el, fr, hh, hsz2, htk⟩ := cells_row hspot hsz hlen hcell
      refine ⟨a'.block, a'.off, arr, el, fr, ?_, hh, hsz2, htk⟩
      obtain ⟨b, o, sp⟩ := a'
      simp only at hspot
      subst hspot
      rfl
    · intro u hu
      obtain ⟨i, hi, rfl⟩ := List.mem_map.1 hu
      have hi := List.mem_range.1 hi
      obtain ⟨h1, h2⟩ := hf2 i (by omega)
      exact ⟨(World.cells?_some h1).2.1, n, _, h2⟩
    · intro by_ B hB
      have hd1 := congrArg Prod.fst hd
      have h := hB _ _ hd1
      simp only [List.length_map, List.length_range] at h ⊢
      exact Nat.le_trans (Nat.mul_le_mul_right _ (by omega)) h
end
end Go.Lg
end
section
namespace Go.Lg
open Go Go.RowKit Go.ChangeShapes Go.WideShapes Go.Joins
section
variable {H : Type} {enc : TypeId × Value → H} {P : Program} {w : World}
end
end Go.Lg
end
section
namespace Go.Proofs.YtklofjlbjahnaaaDoor
open Go Go.Lg
def In2 (N : Int) : Prop := 0 ≤ N ∧ N < 340282366920938463463374607431768211456
variable (X : Nat → Option Obj)
end Go.Proofs.YtklofjlbjahnaaaDoor
end
section
namespace Go.Proofs.YtklofjlbjahnaaaDoor
open Go Go.Lg
variable (X : Nat → Option Obj)
end Go.Proofs.YtklofjlbjahnaaaDoor
end
section
namespace Go.Proofs.YtklofjlbjahnaaaDoor
open Go Go.Lg
variable (X : Nat → Option Obj)
def Lim (N : Int) : Prop := 0 ≤ N ∧ N < 170141183460469231731687303715884105728
theorem Lim.in2 {N : Int} (h : Lim N) : In2 N := ⟨h.1, by have := h.2; omega⟩
end Go.Proofs.YtklofjlbjahnaaaDoor
end
section
namespace Go.Proofs.YtklofjlbjahnaaaDoor
open Go Go.Lg
variable (X : Nat → Option Obj)
end Go.Proofs.YtklofjlbjahnaaaDoor
end
section
namespace Go.Proofs.YtklofjlbjahnaaaDoor
open Go Go.Lg Go.Lg.Arith Go.RowKit
variable (X : Nat → Option Obj)
end Go.Proofs.YtklofjlbjahnaaaDoor
end
section
namespace Go.Proofs.YtklofjlbjahnaaaDoor
open Go Go.Lg
variable (X : Nat → Option Obj)
end Go.Proofs.YtklofjlbjahnaaaDoor
end
section
namespace Go.Lg
open Go
def le : List UInt8 → Nat
  | [] => 0
  | c :: t => c.toNat + 256 * le t
def leB : Nat → Nat → List UInt8
  | 0, _ => []
  | k + 1, n => UInt8.ofNat (n % 256) :: leB k (n / 256)
def lo (w n i : Nat) : List UInt8 := (leB w n).take i ++ List.replicate (w - i) 0
end Go.Lg
namespace Go.Proofs.YtklofjlbjahnaaaDoor
open Go Go.Lg
variable (X : Nat → Option Obj)
end Go.Proofs.YtklofjlbjahnaaaDoor
end
section
namespace Go.Proofs.YtklofjlbjahnaaaDoor
open Go Go.Lg
variable (X : Nat → Option Obj)
end Go.Proofs.YtklofjlbjahnaaaDoor
end
section
namespace Go.Proofs.YtklofjlbjahnaaaDoor
open Go Go.Lg
variable (X : Nat → Option Obj)
end Go.Proofs.YtklofjlbjahnaaaDoor
end
section
namespace Go.Proofs.YtklofjlbjahnaaaDoor
open Go Go.Lg
variable (X : Nat → Option Obj)
end Go.Proofs.YtklofjlbjahnaaaDoor
end
section
namespace Go.Proofs.YtklofjlbjahnaaaDoor
open Go Go.Lg
variable (X : Nat → Option Obj)
end Go.Proofs.YtklofjlbjahnaaaDoor
end
section
namespace Go.Proofs.YtklofjlbjahnaaaDoor
open Go Go.Lg
variable (X : Nat → Option Obj)
end Go.Proofs.YtklofjlbjahnaaaDoor
end
section
namespace Go.Lg.Fld
open Go Go.Lg
def kW (k : Int) : Nat := if k = 1 then 1 else if k = 2 then 1 else if k = 3 then 2 else if k = 4 then 4 else if k = 5 then 8 else if k = 6 then 1 else if k = 7 then 2 else if k = 8 then 4 else if k = 9 then 8 else if k = 10 then 8 else 0
def kK (k : Int) : Bool := decide (1 ≤ k) && decide (k ≤ 10)
end Go.Lg.Fld
namespace Go.Proofs.YtklofjlbjahnaaaDoor
open Go Go.Lg Go.Lg.Fld
set_option maxRecDepth 100000
variable (X : Nat → Option Obj)
end Go.Proofs.YtklofjlbjahnaaaDoor
end
section
namespace Go.Lg.Fld
open Go Go.Lg
end Go.Lg.Fld
namespace Go.Proofs.YtklofjlbjahnaaaDoor
open Go Go.Lg Go.Lg.Fld
set_option maxRecDepth 100000
variable (X : Nat → Option Obj)
end Go.Proofs.YtklofjlbjahnaaaDoor
end
section
namespace Go.Lg.Fld
open Go Go.Lg
end Go.Lg.Fld
namespace Go.Proofs.YtklofjlbjahnaaaDoor
open Go Go.Lg Go.Lg.Fld
set_option maxRecDepth 100000
variable (X : Nat → Option Obj)
end Go.Proofs.YtklofjlbjahnaaaDoor
end
section
namespace Go.Lg.Fld
open Go Go.Lg
end Go.Lg.Fld
namespace Go.Proofs.YtklofjlbjahnaaaDoor
open Go Go.Lg Go.Lg.Fld
set_option maxRecDepth 100000
variable (X : Nat → Option Obj)
end Go.Proofs.YtklofjlbjahnaaaDoor
end
section
namespace Go.Proofs.YtklofjlbjahnaaaDoor
open Go Go.Lg Go.Lg.Fld
set_option maxRecDepth 100000
variable (X : Nat → Option Obj)
abbrev cI (b : Bool) (n : Int) : List CV := [.val (.bool b), .val (.int .u64 (n / 18446744073709551616)), .val (.int .u64 (n % 18446744073709551616))]
end Go.Proofs.YtklofjlbjahnaaaDoor
end
section
namespace Go.Lg.Dig
open Go Go.Lg
def dg (n j : Nat) : Nat := n / 256 ^ j % 256
def dv (d : Nat) : CV := .val (.int .i64 (d : Nat))
def dlf (f : Nat → Nat) : List Nat := (List.range 40).map f
def num (b : Bool) (f : Nat → Nat) : List CV := .val (.bool b) :: (dlf f).map dv
theorem pow_pos (j : Nat) : 0 < 256 ^ j := Nat.pow_pos (by decide)
end Go.Lg.Dig
namespace Go.Lg.Dig
open Go Go.Lg
end Go.Lg.Dig
namespace Go.Lg.Dig
end Go.Lg.Dig
namespace Go.Lg.Dig
end Go.Lg.Dig
namespace Go.Lg.Dig
open Go Go.Lg
end Go.Lg.Dig
namespace Go.Lg.Dig
open Go Go.Lg
end Go.Lg.Dig
end
section
namespace Go.Proofs.YtklofjlbjahnaaaDoor
open Go Go.Lg Go.Lg.Arith Go.Lg.Dig Go.RowKit
variable (X : Nat → Option Obj)
def two (l h i : Nat) (j : Nat) : Nat := if j < i then dg l j else if 8 ≤ j ∧ j < 8 + i then dg h (j - 8) else 0
end Go.Proofs.YtklofjlbjahnaaaDoor
end
section
namespace Go.Proofs.YtklofjlbjahnaaaDoor
open Go Go.Lg Go.Lg.Arith Go.Lg.Dig Go.RowKit
variable (X : Nat → Option Obj)
end Go.Proofs.YtklofjlbjahnaaaDoor
end
section
namespace Go.Proofs.YtklofjlbjahnaaaDoor
open Go Go.Lg Go.Lg.Arith Go.Lg.Dig Go.RowKit
variable (X : Nat → Option Obj)
end Go.Proofs.YtklofjlbjahnaaaDoor
end
section
namespace Go.Proofs.YtklofjlbjahnaaaDoor
open Go Go.Lg Go.Lg.Arith Go.Lg.Dig Go.RowKit
variable (X : Nat → Option Obj)
end Go.Proofs.YtklofjlbjahnaaaDoor
end
section
namespace Go.Lg.Fld
open Go Go.Lg
end Go.Lg.Fld
namespace Go.Proofs.YtklofjlbjahnaaaDoor
open Go Go.Lg Go.Lg.Fld
set_option maxRecDepth 100000
variable (X : Nat → Option Obj)
end Go.Proofs.YtklofjlbjahnaaaDoor
end
section
namespace Go.Lg.Fld
open Go Go.Lg
end Go.Lg.Fld
namespace Go.Proofs.YtklofjlbjahnaaaDoor
open Go Go.Lg Go.Lg.Fld
set_option maxRecDepth 100000
variable (X : Nat → Option Obj)
end Go.Proofs.YtklofjlbjahnaaaDoor
end
section
namespace Go.Lg.Fld
open Go Go.Lg
end Go.Lg.Fld
namespace Go.Proofs.YtklofjlbjahnaaaDoor
open Go Go.Lg Go.Lg.Fld
set_option maxRecDepth 100000
variable (X : Nat → Option Obj)
end Go.Proofs.YtklofjlbjahnaaaDoor
end
section
namespace Go.Lg.Fld
open Go Go.Lg
structure Fl where
  nm : List UInt8
  kind : Int
  count : Int
def Fl.vals (f : Fl) : List Value := [.string ⟨f.nm.toArray⟩, .int .i64 f.kind, .int .i64 f.count]
def Fl.w (f : Fl) : Nat := kW f.kind
def Fl.n (f : Fl) : Nat := f.count.toNat
def Fl.ok (f : Fl) : Bool := kK f.kind && (decide (1 ≤ f.count) && decide (f.count ≤ 8))
def roundUp (a n : Nat) : Nat := a + (n - a % n) % n
def endAt : Nat → List Fl → Nat
  | a, [] => a
  | a, f :: t => endAt (roundUp a f.w + f.w * f.n) t
def greatW (l : List Fl) : Nat := l.foldl (fun g f => max g f.w) 1
def rowSize (l : List Fl) : Nat := roundUp (endAt 0 l) (greatW l)
def layErr (l : List Fl) : Int := if 8 < l.length then 1 else if l.all Fl.ok = true then (if 256 < rowSize l then 5 else 0) else 1
theorem take_snoc {α : Type} {l : List α} {i : Nat} {f : α} (h : l[i]? = some f) : l.take (i + 1) = l.take i ++ [f] := by
  rw [List.take_add_one, h]; rfl
structure FieldsIn (X : Nat → Option Obj) (ad : Option Addr) (fs : List Fl) : Prop where
  rows : RowsIn X ad 3 (fs.map Fl.vals)
  small : ∀ f ∈ fs, (-9223372036854775808 ≤ f.kind ∧ f.kind < 9223372036854775808) ∧ (-9223372036854775808 ≤ f.count ∧ f.count < 9223372036854775808)
theorem FieldsIn.at {X : Nat → Option Obj} {ad : Option Addr} {fs : List Fl} (h : FieldsIn X ad fs) {i : Nat} {f : Fl} (hf : fs[i]? = some f) :
    ∃ (blk off : Nat) (arr : Array Value) (el : TypeId) (fr : Nat × Nat), ad = some ⟨blk, off, none⟩ ∧ X blk = some (.cells arr el fr) ∧ off + i * 3 + 3 ≤ arr.size ∧ ((arr.toList.drop (off + i * 3)).take 3).map CV.val = f.vals.map CV.val := by
  obtain ⟨blk, off, arr, el, fr, h1, h2, h3, h4⟩ := h.rows i f.vals (by rw [List.getElem?_map, hf]; rfl)
  exact ⟨blk, off, arr, el, fr, h1, h2, h3, by rw [h4]⟩
end Go.Lg.Fld
end
section
namespace Go.Proofs.YtklofjlbjahnaaaDoor
open Go Go.Lg Go.Lg.Fld
set_option maxRecDepth 100000
variable (X : Nat → Option Obj)
end Go.Proofs.YtklofjlbjahnaaaDoor
end
section
namespace Go.Lg.Fld
open Go Go.Lg
def nmV (n : Bool × Int) : List Value := [.bool n.1, .int .u64 (n.2 / 18446744073709551616), .int .u64 (n.2 % 18446744073709551616)]
end Go.Lg.Fld
namespace Go.Proofs.YtklofjlbjahnaaaDoor
open Go Go.Lg Go.Lg.Fld
set_option maxRecDepth 100000
variable (X : Nat → Option Obj)
structure NumsIn (X : Nat → Option Obj) (ad : Option Addr) (ns : List (Bool × Int)) : Prop where
  rows : Go.Lg.RowsIn X ad 3 (ns.map nmV)
  in2 : ∀ n ∈ ns, In2 n.2
theorem NumsIn.at {X : Nat → Option Obj} {ad : Option Addr} {ns : List (Bool × Int)} (h : NumsIn X ad ns) {i : Nat} {b : Bool} {N : Int} (hf : ns[i]? = some (b, N)) :
    In2 N ∧ ∃ (blk off : Nat) (arr : Array Value) (el : TypeId) (fr : Nat × Nat), ad = some ⟨blk, off, none⟩ ∧ X blk = some (.cells arr el fr) ∧ off + i * 3 + 3 ≤ arr.size ∧ ((arr.toList.drop (off + i * 3)).take 3).map CV.val = cI b N := by
  obtain ⟨blk, off, arr, el, fr, h1, h2, h3, h4⟩ := h.rows i (nmV (b, N)) (by rw [List.getElem?_map, hf]; rfl)
  exact ⟨h.in2 (b, N) (List.mem_of_getElem? hf), blk, off, arr, el, fr, h1, h2, h3, by rw [h4]; rfl⟩
end Go.Proofs.YtklofjlbjahnaaaDoor
end
section
namespace Go.Lg
open Go Go.RowKit
section
variable {P : Program} {n : Nat} {ops os : List Oper} {acc : List Eff} {K : List Eff → St → Prop} {s : List (Nat × LV)} {bx : List (Nat × Option Box)} {X : Nat → Option Obj} {σ : St}
theorem slcBuild_one {t e : TypeId} {m : Nat} {v : Value} (hu : P.underlying t = some (.slice e)) (hz : (P.info? e).map (fun i => (i.size, i.zero.map (fun z => z.cells))) = some (1, some #[v])) (hm : m ≤ 16777216) :
    slcBuild P t m = some (List.replicate m v, 1, e) := by
  unfold slcBuild
  rw [hu]
  simp only
  cases hi : P.info? e with
  | none => rw [hi] at hz; cases hz
  | some ie =>
    rw [hi] at hz
    simp only [Option.map_some, Option.some.injEq, Prod.mk.injEq] at hz
    obtain ⟨h1, h2⟩ := hz
    cases hzz : ie.zero with
    | none => rw [hzz] at h2; cases h2
    | some z =>
      rw [hzz] at h2
      simp only [Option.map_some, Option.some.injEq] at h2
      simp only [hzz, h1, h2]
      rw [if_neg (show ¬ m * 1 > 2 ^ 24 by omega)]
      have : ((List.range (m * 1)).map fun i => (#[v] : Array Value)[i % (#[v] : Array Value).size]!) = List.replicate m v := by
        rw [Nat.mul_one]
        apply List.ext_getElem
        · simp
        · intro i h1 h2
          have : i % 1 = 0 := Nat.mod_one i
          simp [this]
      rw [this]
theorem LOK.cutX {d b off len cap sz h : Nat} {t : TypeId} {x y : Operand} {ty : TypeId} {pos : String} {after_ : Array Edge} {g : Option (Nat × Bool)} {kh : IntKind} (hx : σ.ev x = some (.sv (.one (.val (.slice (some ⟨b, off, none⟩) len cap))))) (hy : σ.ev y = some (.sv (.one (.val (.int kh (h : Nat))))))
    (ht : sliceOf P t = some sz) (hh : h ≤ len) (hc : len ≤ cap) : LOK P n ops ⟨some d, .slice t x none (some y) none, ty, pos, after_, g⟩ σ ⟨[(d, .sv (.one (.val (.slice (some ⟨b, off, none⟩) h cap))))], [], []⟩ :=
  LOK.value fun σ' ha C ι a w hr => by
    have h1 : a.eval x = _ := hr.ev ((ha.ev (x := x) (by simp [Op.operands])).trans hx)
    have h2 : a.eval y = .int kh (h : Nat) := hr.ev ((ha.ev (x := y) (by simp [Op.operands])).trans hy)
    obtain ⟨e, hu, hsz⟩ := sliceOf_spec ht
    have hrun : (Instr.sliceAt t (.slice (some ⟨b, off, none⟩) len cap) none (some (.int kh (h : Nat))) none).run P w = .ok (.slice (some ⟨b, off, none⟩) h cap) w := by
      have ha0 : (⟨b, off, none⟩ : Addr).add 0 = ⟨b, off, none⟩ := by rw [addr_add, Nat.add_zero]
      simp [Instr.sliceAt, Instr.slice, run_underlying hu, Instr.sliceBounds, Instr.sliceBound, asIntOf, hsz, ha0]
      omega
    exact ⟨_, by simp only [execOp, h1, h2, Option.map_none, Option.map_some, Sem.run_bind, hrun, Result.andThen_ok, Sem.run_pure], rfl⟩
theorem K.cutX {d b off len cap sz h : Nat} {t : TypeId} {x y : Operand} {ty : TypeId} {pos : String} {after_ : Array Edge} {g : Option (Nat × Bool)} {kh : IntKind} (hx : (⟨s, bx, X⟩ : St).ev x = some (.sv (.one (.val (.slice (some ⟨b, off, none⟩) len cap))))) (hy : (⟨s, bx, X⟩ : St).ev y = some (.sv (.one (.val (.int kh (h : Nat))))))
    (ht : sliceOf P t = some sz) (hh : h ≤ len) (hc : len ≤ cap) (hw : Want ops s g) (kont : RunK P n ops os ⟨(d, .sv (.one (.val (.slice (some ⟨b, off, none⟩) h cap)))) :: s, bx, X⟩ (⟨[(d, .sv (.one (.val (.slice (some ⟨b, off, none⟩) h cap))))], [], []⟩ :: acc) K) :
    RunK P n ops (⟨some d, .slice t x none (some y) none, ty, pos, after_, g⟩ :: os) ⟨s, bx, X⟩ acc K := RunK.g1 (LOK.cutX hx hy ht hh hc) hw kont
structure ReadsX (X : Nat → Option Obj) (ad : Option Addr) (news : List Value) : Prop where
  cells : ∀ i u, news[i]? = some u → ∃ (blk off : Nat) (arr : Array Value) (el : TypeId) (fr : Nat × Nat), ad = some ⟨blk, off, none⟩ ∧ X blk = some (.cells arr el fr) ∧ arr[off + i]? = some u
end
end Go.Lg
end
section
namespace Go.Lg.Fld
open Go Go.Lg
end Go.Lg.Fld
namespace Go.Proofs.YtklofjlbjahnaaaDoor
open Go Go.Lg Go.Lg.Fld
set_option maxRecDepth 100000
variable (X : Nat → Option Obj)
end Go.Proofs.YtklofjlbjahnaaaDoor
end
section
namespace Go.Proofs.YtklofjlbjahnaaaDoor
open Go Go.Lg Go.Lg.Fld
set_option maxRecDepth 100000
variable (X : Nat → Option Obj)
end Go.Proofs.YtklofjlbjahnaaaDoor
end
section
namespace Go.Lg
open Go Go.RowKit
section
variable {P : Program} {n : Nat} {C : Ctx} {c y x z : Code} {Q Q1 Q2 : Exit → St → Prop} {X : Nat → Option Obj} {σ : St}
structure Leads (n : Nat) (C : Ctx) (Mid : St → Prop) (σ : St) : Prop where
  out : ∀ ι a w, Rel n C ι σ a w → ∃ ι' σ', Mid σ' ∧ Rel n C ι' σ' a w
theorem Leads.here {Mid : St → Prop} {σ' : St} (hle : Le n C σ σ') (h : Mid σ') : Leads n C Mid σ := ⟨fun ι a w hr => by
  obtain ⟨ι', hr'⟩ := hle.out ι a w hr
  exact ⟨ι', σ', h, hr'⟩⟩
theorem Leads.le {Mid : St → Prop} {σ' : St} (hle : Le n C σ σ') (h : Leads n C Mid σ') : Leads n C Mid σ := ⟨fun ι a w hr => by
  obtain ⟨ι', hr'⟩ := hle.out ι a w hr
  exact h.out ι' a w hr'⟩
theorem LWP.ofLeads {Mid : St → Prop} (h : Leads n C Mid σ) (hm : ∀ σ, Mid σ → LWP P n C y Q σ) : LWP P n C y Q σ := by
  refine ⟨fun ι a w hr => ?_⟩
  obtain ⟨ι', σ', hM, hr'⟩ := h.out ι a w hr
  exact (hm σ' hM).out ι' a w hr'
theorem Leads.freeze {Mid : St → Prop} {s : List (Nat × LV)} {bx : List (Nat × Option Box)} {d k off len sz : Nat} {el : TypeId} {vals : List Value} {row : Bool}
    (hs : s.all (fun p => p.2.inUse bx) = true) (hb : bx.all (fun p => match p.2 with | some b => b.cells.all (CV.inUse bx) | none => true) = true) (hk : look k bx = none)
    (h : ∀ (blk cap : Nat) (arr : Array Value) (fr : Nat × Nat), X blk = none → Frozen C blk arr fr → len ≤ cap → off + cap * sz ≤ arr.size → (∃ sp, arr.toList = vals ++ sp) →
      Leads n C Mid ⟨(d, .sv (.one (.val (.slice (some ⟨blk, off, none⟩) len cap)))) :: s, bx, withBlock X blk (.cells arr el fr)⟩) :
    Leads n C Mid ⟨(d, .sv (.one (.slc k off len sz))) :: s, (k, some ⟨el, vals.map .val, row⟩) :: bx, X⟩ := ⟨fun ι a w hr => by
  obtain ⟨blk, cap, arr, fr, h1, h2, h3, h4, h5, h6⟩ := hr.freeze hs hb hk
  exact (h blk cap arr fr h1 h2 h3 h4 h5).out ι a w h6⟩
theorem LWP.meetL (Mid : St → Prop) (h : LWP P n C c (thenQ (Leads n C Mid) (fun _ _ => False)) σ) (hm : ∀ σ, Mid σ → LWP P n C y Q σ) : LWP P n C c (thenQ (LWP P n C y Q) Q2) σ := by
  refine h.mono ?_
  intro e σ' hq
  cases e with
  | normal => exact LWP.ofLeads hq hm
  | exit id' => exact hq.elim
  | goto l => exact hq.elim
  | ret => exact hq.elim
  | panic c => exact hq.elim
  | outgrown => exact hq.elim
end
end Go.Lg
end
section
namespace Go.Lg
open Go Go.RowKit
theorem args_rel : ∀ (vals : List Value), LVs.rel noS (fun _ => (0, 0)) (vals.map toLV) vals
  | [] => trivial
  | v :: vs => ⟨toLV_rel _ _ v, args_rel vs⟩
section
variable {P : Program} {n : Nat} {ops os : List Oper} {acc : List Eff} {K : List Eff → St → Prop} {s : List (Nat × LV)} {bx : List (Nat × Option Box)} {X : Nat → Option Obj} {σ : St}
end
end Go.Lg
end
section
namespace Go.Lg
open Go Go.RowKit
section
variable {P : Program} {n : Nat} {ops os : List Oper} {acc : List Eff} {K : List Eff → St → Prop} {s : List (Nat × LV)} {bx : List (Nat × Option Box)} {X : Nat → Option Obj} {σ : St}
end
end Go.Lg
end
section
namespace Go.Lg
open Go Go.RowKit
section
variable {P : Program} {n : Nat} {ops os : List Oper} {acc : List Eff} {K : List Eff → St → Prop} {s : List (Nat × LV)} {bx : List (Nat × Option Box)} {X : Nat → Option Obj} {σ : St}
theorem MSpec.plain {f : FuncId} {args : List LV} {r : LV} (h : MSpec P X f args [] r []) : PSpec P X f args r :=
  ⟨h.enters, fun w vals hX hargs => (h.out w vals (fun _ => (0, 0)) (fun _ _ => none) ⟨fun k b hk => (by simp [stOf, look] at hk), fun k b hk => (by simp [stOf, look] at hk), fun k k' b b' hk => (by simp [stOf, look] at hk), hX, ⟨fun k e cs R hk => (by simp [stOf, look] at hk), fun k b o ho => (by cases ho), fun k k' b h => absurd rfl h⟩⟩ hargs).mono fun e w' ⟨v, ι', _, he, hr, _, hp⟩ =>
    ⟨v, he, LV.rel_later (later_noS _ _ _) hr, ⟨hp.os, hp.tape, hp.output, hp.big, fun b hb => hp.frame b hb (fun hl => by
      rcases hl with ⟨k, b0, hk, _⟩ | ⟨k, hk⟩
      · simp [stOf, look] at hk
      · exact hk rfl)⟩⟩⟩
end
end Go.Lg
end
section
namespace Go.Lg.Fld
open Go Go.Lg
abbrev planV (size : Int) (c : CV) : SV := .agg [.val (.int .i64 size), c]
end Go.Lg.Fld
namespace Go.Proofs.YtklofjlbjahnaaaDoor
open Go Go.Lg Go.Lg.Fld
set_option maxRecDepth 100000
variable (X : Nat → Option Obj)
end Go.Proofs.YtklofjlbjahnaaaDoor
end
section
namespace Go.Lg.Fld
open Go Go.Lg
end Go.Lg.Fld
namespace Go.Proofs.YtklofjlbjahnaaaDoor
open Go Go.Lg Go.Lg.Fld
set_option maxRecDepth 100000
variable (X : Nat → Option Obj)
def ofR (fs : List Fl) : LV := if layErr fs = 0 then .tup [planV (rowSize fs : Nat) (.slc 1000001 0 fs.length 1), Sn .i64 0] else .tup [planV 0 (.val (.slice none 0 0)), Sn .i64 (layErr fs)]
end Go.Proofs.YtklofjlbjahnaaaDoor
end
section
namespace Go.Lg.Fld
open Go Go.Lg
end Go.Lg.Fld
namespace Go.Proofs.YtklofjlbjahnaaaDoor
open Go Go.Lg Go.Lg.Fld
set_option maxRecDepth 100000
variable (X : Nat → Option Obj)
end Go.Proofs.YtklofjlbjahnaaaDoor
end
section
namespace Go.Lg.Fld
open Go Go.Lg
end Go.Lg.Fld
namespace Go.Proofs.YtklofjlbjahnaaaDoor
open Go Go.Lg Go.Lg.Fld
set_option maxRecDepth 100000
variable (X : Nat → Option Obj)
end Go.Proofs.YtklofjlbjahnaaaDoor
end
section
namespace Go.Lg.Fld
open Go Go.Lg
end Go.Lg.Fld
namespace Go.Proofs.YtklofjlbjahnaaaDoor
open Go Go.Lg Go.Lg.Fld
set_option maxRecDepth 100000
variable (X : Nat → Option Obj)
end Go.Proofs.YtklofjlbjahnaaaDoor
end
section
namespace Go.Proofs.YtklofjlbjahnaaaDoor
open Go Go.Lg Go.Lg.Fld
set_option maxRecDepth 100000
variable (X : Nat → Option Obj)
end Go.Proofs.YtklofjlbjahnaaaDoor
end
section
namespace Go.Lg.Fld
open Go Go.Lg
instance : DecidableEq Fl := fun a b => decidable_of_iff (a.nm = b.nm ∧ a.kind = b.kind ∧ a.count = b.count) ⟨fun ⟨h1, h2, h3⟩ => by cases a; cases b; simp_all, fun h => by rw [h]; exact ⟨rfl, rfl, rfl⟩⟩
structure Cp where
  id : Int
  nm : List UInt8
  fs : List Fl
instance : DecidableEq Cp := fun a b => decidable_of_iff (a.id = b.id ∧ a.nm = b.nm ∧ a.fs = b.fs) ⟨fun ⟨h1, h2, h3⟩ => by cases a; cases b; simp_all, fun h => by rw [h]; exact ⟨rfl, rfl, rfl⟩⟩
structure Sc where
  ver : Int
  cs : List Cp
instance : DecidableEq Sc := fun a b => decidable_of_iff (a.ver = b.ver ∧ a.cs = b.cs) ⟨fun ⟨h1, h2⟩ => by cases a; cases b; simp_all, fun h => by rw [h]; exact ⟨rfl, rfl⟩⟩
def letB (c : UInt8) : Bool := decide (97 ≤ c.toNat) && decide (c.toNat ≤ 122)
def digB (c : UInt8) : Bool := decide (48 ≤ c.toNat) && decide (c.toNat ≤ 57)
def nmC (l : List UInt8) (i : Nat) : Bool := letB (l.getD i 0) || (digB (l.getD i 0) && decide (i ≠ 0))
def nmB (l : List UInt8) : Bool := decide (1 ≤ l.length) && decide (l.length ≤ 12) && (List.range l.length).all (nmC l)
def firstE (f : Nat → Int) : Nat → Nat → Int
  | _, 0 => 0
  | i, n + 1 => if f i = 0 then firstE f (i + 1) n else f i
theorem firstE_zero {f : Nat → Int} : ∀ {n i : Nat}, firstE f i n = 0 → ∀ j, i ≤ j → j < i + n → f j = 0
  | 0, _, _, _, h1, h2 => by omega
  | n + 1, i, h, j, h1, h2 => by
    unfold firstE at h
    split at h
    · rename_i h3
      by_cases e : j = i
      · rw [e]; exact h3
      · exact firstE_zero h j (by omega) (by omega)
    · rename_i h3; exact absurd h h3
def fldE (fs : List Fl) (k : Nat) : Int := match fs[k]? with
  | some f => if nmB f.nm = true then (if (fs.take k).any (fun g => g.nm == f.nm) = true then 4 else 0) else 4
  | none => 0
structure CompsIn (X : Nat → Option Obj) (ad : Option Addr) (cs : List Cp) : Prop where
  at_ : ∀ (i : Nat) (c : Cp), cs[i]? = some c → ∃ (blk off : Nat) (arr : Array Value) (el : TypeId) (fr : Nat × Nat) (fad : Option Addr) (fcap : Nat), ad = some ⟨blk, off, none⟩ ∧ X blk = some (.cells arr el fr) ∧ off + i * 3 + 3 ≤ arr.size ∧
    (arr.toList.drop (off + i * 3)).take 3 = [.int .i64 c.id, .string ⟨c.nm.toArray⟩, .slice fad c.fs.length fcap] ∧ FieldsIn X fad c.fs
  small : ∀ c ∈ cs, -9223372036854775808 ≤ c.id ∧ c.id < 9223372036854775808
theorem FieldsIn.mono {X Y : Nat → Option Obj} (hXY : ∀ b o, X b = some o → Y b = some o) {ad : Option Addr} {fs : List Fl} (h : FieldsIn X ad fs) : FieldsIn Y ad fs := ⟨RowsIn.mono h.rows hXY, h.small⟩
theorem CompsIn.mono {X Y : Nat → Option Obj} (hXY : ∀ b o, X b = some o → Y b = some o) {ad : Option Addr} {cs : List Cp} (h : CompsIn X ad cs) : CompsIn Y ad cs := ⟨fun i c hc => by
  obtain ⟨blk, off, arr, el, fr, fad, fcap, h1, h2, h3, h4, h5⟩ := h.at_ i c hc
  exact ⟨blk, off, arr, el, fr, fad, fcap, h1, hXY _ _ h2, h3, h4, h5.mono hXY⟩, h.small⟩
theorem three_at {arr : Array Value} {p : Nat} {a b c : Value} (h : (arr.toList.drop p).take 3 = [a, b, c]) : arr[p]? = some a ∧ arr[p + 1]? = some b ∧ arr[p + 2]? = some c := by
  have key : ∀ j, j < 3 → arr[p + j]? = [a, b, c][j]? := fun j hj => by
    rw [← h, List.getElem?_take, if_pos hj, List.getElem?_drop, Array.getElem?_toList]
  exact ⟨key 0 (by omega), key 1 (by omega), key 2 (by omega)⟩
theorem CompsIn.get {X : Nat → Option Obj} {ad : Option Addr} {cs : List Cp} (h : CompsIn X ad cs) {i : Nat} {c : Cp} (hc : cs[i]? = some c) : ∃ (blk off : Nat) (arr : Array Value) (el : TypeId) (fr : Nat × Nat) (fad : Option Addr) (fcap : Nat), ad = some ⟨blk, off, none⟩ ∧ X blk = some (.cells arr el fr) ∧ off + i * 3 + 3 ≤ arr.size ∧
    ((arr.toList.drop (off + i * 3)).take 3).map CV.val = [.val (.int .i64 c.id), .val (.string ⟨c.nm.toArray⟩), .val (.slice fad c.fs.length fcap)] ∧ arr[off + i * 3]? = some (.int .i64 c.id) ∧ arr[off + i * 3 + 1]? = some (.string ⟨c.nm.toArray⟩) ∧ arr[off + i * 3 + 2]? = some (.slice fad c.fs.length fcap) ∧ FieldsIn X fad c.fs := by
  obtain ⟨blk, off, arr, el, fr, fad, fcap, h1, h2, h3, h4, h5⟩ := h.at_ i c hc
  obtain ⟨g1, g2, g3⟩ := three_at h4
  exact ⟨blk, off, arr, el, fr, fad, fcap, h1, h2, h3, by rw [h4]; rfl, g1, g2, g3, h5⟩
def SmallC (cs : List Cp) : Prop := cs.length ≤ 30 ∧ ∀ c ∈ cs, c.fs.length ≤ 12 ∧ c.nm.length ≤ 100 ∧ ∀ f ∈ c.fs, f.nm.length ≤ 100
end Go.Lg.Fld
namespace Go.Proofs.YtklofjlbjahnaaaDoor
open Go Go.Lg Go.Lg.Fld
end Go.Proofs.YtklofjlbjahnaaaDoor
end
section
namespace Go.Proofs.YtklofjlbjahnaaaDoor
open Go Go.Lg Go.Lg.Fld
set_option maxRecDepth 100000
variable (X : Nat → Option Obj)
end Go.Proofs.YtklofjlbjahnaaaDoor
end
section
namespace Go.Lg.Fld
open Go Go.Lg
def findI {α : Type} (p : α → Bool) (l : List α) : Int := match l.findIdx? p with | some i => (i : Nat) | none => -1
end Go.Lg.Fld
namespace Go.Proofs.YtklofjlbjahnaaaDoor
open Go Go.Lg Go.Lg.Fld
set_option maxRecDepth 100000
variable (X : Nat → Option Obj)
end Go.Proofs.YtklofjlbjahnaaaDoor
end
section
namespace Go.Lg.Fld
open Go Go.Lg
structure Pt where
  comp : Int
  val : List (Bool × Int)
theorem any_true {α : Type} {p : α → Bool} {l : List α} {k i : Nat} {y : α} (hk : k < i) (hy : l[k]? = some y) (hp : p y = true) : (l.take i).any p = true := by
  rw [List.any_eq_true]
  exact ⟨y, List.mem_of_getElem? (by rw [List.getElem?_take, if_pos hk]; exact hy), hp⟩
theorem two_at {arr : Array Value} {p : Nat} {a b : Value} (h : (arr.toList.drop p).take 2 = [a, b]) : arr[p]? = some a ∧ arr[p + 1]? = some b := by
  have key : ∀ j, j < 2 → arr[p + j]? = [a, b][j]? := fun j hj => by
    rw [← h, List.getElem?_take, if_pos hj, List.getElem?_drop, Array.getElem?_toList]
  exact ⟨key 0 (by omega), key 1 (by omega)⟩
end Go.Lg.Fld
namespace Go.Proofs.YtklofjlbjahnaaaDoor
open Go Go.Lg Go.Lg.Fld
set_option maxRecDepth 100000
structure PartsIn (X : Nat → Option Obj) (ad : Option Addr) (ps : List Pt) : Prop where
  at_ : ∀ (i : Nat) (p : Pt), ps[i]? = some p → ∃ (blk off : Nat) (arr : Array Value) (el : TypeId) (fr : Nat × Nat) (vad : Option Addr) (vcap : Nat), ad = some ⟨blk, off, none⟩ ∧ X blk = some (.cells arr el fr) ∧ off + i * 2 + 2 ≤ arr.size ∧
    (arr.toList.drop (off + i * 2)).take 2 = [.int .i64 p.comp, .slice vad p.val.length vcap] ∧ NumsIn X vad p.val
  small : ∀ p ∈ ps, -9223372036854775808 ≤ p.comp ∧ p.comp < 9223372036854775808
theorem PartsIn.get {X : Nat → Option Obj} {ad : Option Addr} {ps : List Pt} (h : PartsIn X ad ps) {i : Nat} {p : Pt} (hc : ps[i]? = some p) : ∃ (blk off : Nat) (arr : Array Value) (el : TypeId) (fr : Nat × Nat) (vad : Option Addr) (vcap : Nat), ad = some ⟨blk, off, none⟩ ∧ X blk = some (.cells arr el fr) ∧ off + i * 2 + 2 ≤ arr.size ∧
    ((arr.toList.drop (off + i * 2)).take 2).map CV.val = [.val (.int .i64 p.comp), .val (.slice vad p.val.length vcap)] ∧ arr[off + i * 2]? = some (.int .i64 p.comp) ∧ arr[off + i * 2 + 1]? = some (.slice vad p.val.length vcap) ∧ NumsIn X vad p.val := by
  obtain ⟨blk, off, arr, el, fr, vad, vcap, h1, h2, h3, h4, h5⟩ := h.at_ i p hc
  obtain ⟨g1, g2⟩ := two_at h4
  exact ⟨blk, off, arr, el, fr, vad, vcap, h1, h2, h3, by rw [h4]; rfl, g1, g2, h5⟩
variable (X : Nat → Option Obj)
end Go.Proofs.YtklofjlbjahnaaaDoor
end
section
namespace Go.Lg.Fld
open Go Go.Lg
section
variable {cs : List Cp} {i : Nat} {c : Cp}
theorem fldE_at {fs : List Fl} {k : Nat} {f : Fl} (h : fs[k]? = some f) : fldE fs k = if nmB f.nm = true then (if (fs.take k).any (fun g => g.nm == f.nm) = true then 4 else 0) else 4 := by unfold fldE; rw [h]
end
theorem FieldsIn.nm {X : Nat → Option Obj} {ad : Option Addr} {fs : List Fl} (h : FieldsIn X ad fs) {k : Nat} {f : Fl} (hf : fs[k]? = some f) :
    ∃ (blk off : Nat) (arr : Array Value) (el : TypeId) (fr : Nat × Nat), ad = some ⟨blk, off, none⟩ ∧ X blk = some (.cells arr el fr) ∧ arr[off + k * 3]? = some (.string ⟨f.nm.toArray⟩) := by
  obtain ⟨blk, off, arr, el, fr, h1, h2, h3, h4⟩ := h.rows k f.vals (by rw [List.getElem?_map, hf]; rfl)
  exact ⟨blk, off, arr, el, fr, h1, h2, (three_at h4).1⟩
end Go.Lg.Fld
namespace Go.Proofs.YtklofjlbjahnaaaDoor
open Go Go.Lg Go.Lg.Fld
set_option maxRecDepth 100000
variable (X : Nat → Option Obj)
end Go.Proofs.YtklofjlbjahnaaaDoor
end
section
namespace Go.Lg
open Go Go.RowKit
def joinM (X H : Nat → Option Obj) : Nat → Option Obj := fun b => (H b).or (X b)
def cutM (H : Nat → Option Obj) (blk : Nat) : Nat → Option Obj := fun b => if b = blk then none else H b
theorem joinM_none {X H : Nat → Option Obj} {b : Nat} (h : joinM X H b = none) : H b = none ∧ X b = none := by
  unfold joinM at h
  cases hh : H b with
  | none => rw [hh] at h; exact ⟨rfl, h⟩
  | some o => rw [hh] at h; cases h
theorem cutM_other {H : Nat → Option Obj} {blk b : Nat} (h : b ≠ blk) : cutM H blk b = H b := if_neg h
theorem cutM_some {H : Nat → Option Obj} {blk b : Nat} {o : Obj} (h : cutM H blk b = some o) : b ≠ blk ∧ H b = some o := by
  unfold cutM at h
  split at h
  · cases h
  · rename_i hne; exact ⟨hne, h⟩
structure OwnedM (C : Ctx) (X H : Nat → Option Obj) : Prop where
  own : ∀ b o, H b = some o → (C.own b ∨ C.w0.heap.size ≤ b) ∧ Loose o ∧ X b = none
theorem OwnedM.cut {C : Ctx} {X H : Nat → Option Obj} (h : OwnedM C X H) (blk : Nat) : OwnedM C X (cutM H blk) := ⟨fun b o hb => h.own b o (cutM_some hb).2⟩
theorem OwnedM.more {C : Ctx} {X H : Nat → Option Obj} (h : OwnedM C X H) {blk : Nat} {arr : Array Value} {el : TypeId} {fr : Nat × Nat} (hF : Frozen C blk arr fr) (hX : joinM X H blk = none) : OwnedM C X (withBlock H blk (.cells arr el fr)) := ⟨fun b o hb => by
  unfold withBlock at hb
  split at hb
  · rename_i e; subst e; cases hb; exact ⟨hF.own, hF.thaw, (joinM_none hX).2⟩
  · exact h.own b o hb⟩
theorem OwnedM.nil (C : Ctx) (X : Nat → Option Obj) : OwnedM C X (fun _ => none) := ⟨fun _ _ h => by cases h⟩
theorem OwnedM.frozen {C : Ctx} {X H : Nat → Option Obj} (h : OwnedM C X H) {blk : Nat} {arr : Array Value} {el : TypeId} {fr : Nat × Nat} (hb : H blk = some (.cells arr el fr)) : Frozen C blk arr fr := ⟨(h.own _ _ hb).1, (h.own _ _ hb).2.1⟩
section
variable {P : Program} {n : Nat} {C : Ctx} {c : Code} {Q : Exit → St → Prop} {X : Nat → Option Obj} {s : List (Nat × LV)} {bx : List (Nat × Option Box)} {k : Nat}
theorem stat_hd (b : Option Box) (j : Nat) : (⟨s, (k, b) :: bx, X⟩ : St).stat j = if j = k then some b else look j bx := stat_cons s bx X k j b
theorem later_same {S S' : Nat → Option (Option Box)} (ι : Nat → Nat × Nat) (h : ∀ j, S j ≠ none → S' j ≠ none ∧ ∀ b', S' j = some (some b') → ∃ b, S j = some (some b)) : Later S S' ι ι :=
  fun j hj => ⟨(h j hj).1, fun b' hb' => ⟨rfl, (h j hj).2 b' hb'⟩⟩
theorem later_hd (ι : Nat → Nat × Nat) (b b' : Box) (X X' : Nat → Option Obj) : Later (⟨s, (k, some b) :: bx, X⟩ : St).stat (⟨s, (k, some b') :: bx, X'⟩ : St).stat ι ι := later_same ι fun j hj => by
  rw [stat_hd] at hj ⊢
  rw [stat_hd]
  by_cases e : j = k
  · rw [if_pos e, if_pos e]; exact ⟨by simp, fun _ _ => ⟨b, rfl⟩⟩
  · rw [if_neg e] at hj ⊢
    rw [if_neg e]; exact ⟨hj, fun b1 hb1 => ⟨b1, hb1⟩⟩
theorem LWP.ends (h : LWP P n C c (fun e σ => Leads n C (fun σ' => Q e σ') σ) ⟨s, bx, X⟩) : LWP P n C c Q ⟨s, bx, X⟩ :=
  ⟨fun ι a w hr => wp_mono (h.out ι a w hr) fun _ a' w' ⟨ι', σ', hl, hr'⟩ => by
    obtain ⟨ι2, σ2, hq, hr2⟩ := hl.out ι' a' w' hr'
    exact ⟨ι2, σ2, hq, hr2⟩⟩
end
end Go.Lg
end
section
namespace Go.Lg
open Go Go.RowKit
section
variable {P : Program} {n : Nat} {C : Ctx} {c : Code} {Q : Exit → St → Prop} {X : Nat → Option Obj} {s : List (Nat × LV)} {bx : List (Nat × Option Box)}
end
end Go.Lg
end
section
namespace Go.Lg
open Go Go.RowKit
section
variable {P : Program} {n : Nat} {ops os : List Oper} {acc : List Eff} {K : List Eff → St → Prop} {s : List (Nat × LV)} {bx : List (Nat × Option Box)} {X : Nat → Option Obj} {σ : St}
end
end Go.Lg
end
section
namespace Go.Lg
open Go Go.RowKit
def LeadsTo (H : Nat → Option Obj) (b : Nat) (v : Value) (el : TypeId) (sz : Nat) (vals : List Value) : Prop :=
  ∃ (len cap : Nat) (arr : Array Value) (fr : Nat × Nat), v = .slice (some ⟨b, 0, none⟩) len cap ∧ vals.length = len * sz ∧ len ≤ cap ∧ cap * sz ≤ arr.size ∧ H b = some (.cells arr el fr) ∧ ∃ sp, arr.toList = vals ++ sp
theorem LeadsTo.mono {H H' : Nat → Option Obj} {b : Nat} {v : Value} {el : TypeId} {sz : Nat} {vals : List Value} (h : LeadsTo H b v el sz vals) (he : H' b = H b) : LeadsTo H' b v el sz vals := by
  obtain ⟨len, cap, arr, fr, h1, h2, h3, h4, h5, h6⟩ := h
  exact ⟨len, cap, arr, fr, h1, h2, h3, h4, he.trans h5, h6⟩
theorem LeadsTo.cut {H : Nat → Option Obj} {b b' : Nat} {v : Value} {el : TypeId} {sz : Nat} {vals : List Value} (h : LeadsTo H b v el sz vals) (hne : b ≠ b') : LeadsTo (cutM H b') b v el sz vals := h.mono (cutM_other hne)
theorem LeadsTo.more {H : Nat → Option Obj} {b b' : Nat} {o : Obj} {v : Value} {el : TypeId} {sz : Nat} {vals : List Value} (h : LeadsTo H b v el sz vals) (hne : b ≠ b') : LeadsTo (withBlock H b' o) b v el sz vals := h.mono (by unfold withBlock; rw [if_neg hne])
theorem mid_inUse {bx : List (Nat × Option Box)} {l l' : List Value} {c : CV} (h : c.inUse bx = true) : (l.map CV.val ++ c :: l'.map CV.val).all (CV.inUse bx) = true := by
  rw [List.all_append, List.all_cons, vals_inUse, vals_inUse, h]; rfl
theorem Box.ren_mid {f : Nat → Nat} {e : TypeId} {l l' : List Value} {c c' : CV} {r : Bool} (h : c.ren f = c') : Box.ren f ⟨e, l.map CV.val ++ c :: l'.map CV.val, r⟩ = ⟨e, l.map CV.val ++ c' :: l'.map CV.val, r⟩ := by
  unfold Box.ren
  rw [List.map_append, List.map_cons, Go.Lg.ren_vals, Go.Lg.ren_vals, h]
section
variable {P : Program} {n : Nat} {C : Ctx} {c : Code} {Q : Exit → St → Prop} {X H : Nat → Option Obj} {s : List (Nat × LV)} {bx : List (Nat × Option Box)}
theorem closed {blk len cap sz : Nat} {arr : Array Value} {fr : Nat × Nat} {el : TypeId} {vals : List Value} (hlen : vals.length = len * sz) (hX : joinM X H blk = none) (hO : OwnedM C X H) (hF : Frozen C blk arr fr) (hc : len ≤ cap) (hfit : 0 + cap * sz ≤ arr.size) (hsp : ∃ sp, arr.toList = vals ++ sp) :
    H blk = none ∧ OwnedM C X (withBlock H blk (.cells arr el fr)) ∧ LeadsTo (withBlock H blk (.cells arr el fr)) blk (.slice (some ⟨blk, 0, none⟩) len cap) el sz vals :=
  ⟨(joinM_none hX).1, hO.more hF hX, ⟨len, cap, arr, fr, rfl, hlen, hc, by omega, withBlock_at _ _ _, hsp⟩⟩
theorem rel_front {S : Nat → Option (Option Box)} {ι : Nat → Nat × Nat} : ∀ {A B : List CV} {vs : List Value}, CVs.rel S ι (A ++ B) vs → ∃ va vb, vs = va ++ vb ∧ CVs.rel S ι A va
  | [], _, vs, _ => ⟨[], vs, rfl, trivial⟩
  | _ :: _, _, [], h => h.elim
  | _ :: A, B, v :: vs, h => by
    obtain ⟨va, vb, e, h1⟩ := rel_front (A := A) (B := B) h.2
    exact ⟨v :: va, vb, by rw [e]; rfl, h.1, h1⟩
theorem Rel.rebox {ι : Nat → Nat × Nat} {a : Act} {w : World} {j : Nat} {e : TypeId} {cs cs' : List CV} {r r' : Bool}
    (himp : ∀ vs, Box.rel (⟨s, (j, some ⟨e, cs', r'⟩) :: bx, X⟩ : St).stat ι ⟨e, cs, r⟩ vs → Box.rel (⟨s, (j, some ⟨e, cs', r'⟩) :: bx, X⟩ : St).stat ι ⟨e, cs', r'⟩ vs)
    (hr : Rel n C ι ⟨s, (j, some ⟨e, cs, r⟩) :: bx, X⟩ a w) : Rel n C ι ⟨s, (j, some ⟨e, cs', r'⟩) :: bx, X⟩ a w := by
  have hlater := later_hd (s := s) (bx := bx) (k := j) ι ⟨e, cs, r⟩ ⟨e, cs', r'⟩ X X
  have live : ∀ i b, (⟨s, (j, some ⟨e, cs', r'⟩) :: bx, X⟩ : St).stat i = some (some b) → ∃ b0, (⟨s, (j, some ⟨e, cs, r⟩) :: bx, X⟩ : St).stat i = some (some b0) ∧ (i ≠ j → b = b0) := fun i b hi => by
    rw [stat_hd] at hi ⊢
    by_cases e : i = j
    · rw [if_pos e]; exact ⟨_, rfl, fun h => absurd e h⟩
    · rw [if_neg e] at hi ⊢; exact ⟨b, hi, fun _ => rfl⟩
  exact {
    defers := hr.defers, size := hr.size
    slots := fun d lv hd => by
      obtain ⟨v, hv, hvr⟩ := hr.slots d lv hd
      exact ⟨v, hv, LV.rel_later hlater hvr⟩
    boxes := fun i b hi hbk => by
      by_cases ei : i = j
      · subst ei
        rw [stat_hd, if_pos rfl] at hi
        simp only [Option.some.injEq] at hi
        subst hi
        obtain ⟨arr, fr, g1, g2, g3, g4⟩ := hr.boxes i ⟨e, cs, r⟩ (by rw [stat_hd, if_pos rfl]) rfl
        exact ⟨arr, fr, g1, g2, g3, himp _ (Box.rel_later hlater g4)⟩
      · obtain ⟨b0, h0, h1⟩ := live i b hi
        have := h1 ei
        subst this
        obtain ⟨arr, fr, g1, g2, g3, g4⟩ := hr.boxes i b h0 hbk
        exact ⟨arr, fr, g1, g2, g3, Box.rel_later hlater g4⟩
    own := fun i b hi => by obtain ⟨b0, h0, _⟩ := live i b hi; exact hr.own i b0 h0
    inj := fun i i' bi bj hi hj he => by
      obtain ⟨b1, h1, _⟩ := live i bi hi
      obtain ⟨b2, h2, _⟩ := live i' bj hj
      exact hr.inj i i' b1 b2 h1 h2 he
    keep := fun i b hi hge => by obtain ⟨b0, h0, _⟩ := live i b hi; exact hr.keep i b0 h0 hge
    ext := hr.ext
    res := by
      obtain ⟨F, hG⟩ := hr.res
      refine hG.keep (fun i e cs R hi => ?_) (fun _ _ _ _ _ hi => hi) (fun _ _ ho => ho) (fun b _ hx _ _ => hx) (fun i bi hi => ?_)
      · rw [stat_hd] at hi ⊢
        by_cases e : i = j
        · rw [if_pos e] at hi; cases hi
        · rw [if_neg e] at hi ⊢; exact ⟨hi, rfl⟩
      · obtain ⟨b0, h0, _⟩ := live i bi hi
        exact .inl ⟨b0, h0, rfl⟩
    frame := hr.frame, big := hr.big, os := hr.os, tape := hr.tape, output := hr.output }
theorem Le.trim {j : Nat} {e : TypeId} {A B : List CV} {r : Bool} : Le n C ⟨s, (j, some ⟨e, A ++ B, r⟩) :: bx, X⟩ ⟨s, (j, some ⟨e, A, true⟩) :: bx, X⟩ := ⟨fun ι a w hr => ⟨ι, hr.rebox fun vs h => by
  unfold Box.rel at h ⊢
  cases r with
  | false =>
    obtain ⟨va, vb, e, h1⟩ := rel_front h
    exact ⟨va, vb, e, h1⟩
  | true =>
    obtain ⟨us, sp, e, hl⟩ := h
    obtain ⟨va, vb, e2, h1⟩ := rel_front hl
    exact ⟨va, vb ++ sp, by rw [e, e2, List.append_assoc], h1⟩⟩⟩
theorem Le.same {σ σ' : St} (h : Same σ σ') : Le n C σ σ' := ⟨fun ι _ _ hr => ⟨ι, hr.same h⟩⟩
theorem Leads.done {Mid : St → Prop} {σ : St} (h : Mid σ) : Leads n C Mid σ := ⟨fun ι a w hr => ⟨ι, σ, h, hr⟩⟩
end
end Go.Lg
end
section
namespace Go.Lg
open Go Go.RowKit
def nilSlc : Value := .slice none 0 0
def blkOf : Value → Option Nat
  | .slice (some a) _ _ => some a.block
  | _ => none
theorem LeadsTo.blk {H : Nat → Option Obj} {b : Nat} {v : Value} {el : TypeId} {sz : Nat} {vals : List Value} (h : LeadsTo H b v el sz vals) : blkOf v = some b := by
  obtain ⟨len, cap, arr, fr, rfl, _⟩ := h
  rfl
def SliceTo (H : Nat → Option Obj) (v : Value) (el : TypeId) (vals : List Value) : Prop := ∃ b, LeadsTo H b v el 1 vals
theorem SliceTo.mono {H H' : Nat → Option Obj} {v : Value} {el : TypeId} {vals : List Value} (h : SliceTo H v el vals) (he : ∀ b, blkOf v = some b → H' b = H b) : SliceTo H' v el vals := by
  obtain ⟨b, h⟩ := h
  exact ⟨b, h.mono (he b h.blk)⟩
theorem SliceTo.some_of {H : Nat → Option Obj} {v : Value} {el : TypeId} {vals : List Value} (h : SliceTo H v el vals) {b : Nat} (hb : blkOf v = some b) : H b ≠ Option.none := by
  obtain ⟨b', h⟩ := h
  have := h.blk
  rw [this] at hb
  simp only [Option.some.injEq] at hb
  subst hb
  obtain ⟨_, _, _, _, _, _, _, _, h5, _⟩ := h
  rw [h5]; simp
structure Cells (H : Nat → Option Obj) (el : TypeId) (op : List Nat) (cells : List Value) (chs : List (List Value)) : Prop where
  len : cells.length = chs.length
  at_ : ∀ (i : Nat) (c : Value) (x : List Value), i ∉ op → cells[i]? = some c → chs[i]? = some x → SliceTo H c el x
  apart : ∀ (i j : Nat) (c c' : Value) (b : Nat), i ∉ op → j ∉ op → cells[i]? = some c → cells[j]? = some c' → blkOf c = some b → blkOf c' = some b → i = j
theorem Cells.nil (H : Nat → Option Obj) (el : TypeId) (op : List Nat) : Cells H el op [] [] := ⟨rfl, fun i c x _ h => (by simp at h), fun i j c c' b _ _ h => (by simp at h)⟩
section
variable {H : Nat → Option Obj} {el : TypeId} {op : List Nat} {cells : List Value} {chs : List (List Value)}
theorem Cells.some_of (G : Cells H el op cells chs) {i : Nat} {c : Value} {b : Nat} (hi : i ∉ op) (hc : cells[i]? = some c) (hb : blkOf c = some b) : H b ≠ none := by
  obtain ⟨x, hx⟩ : ∃ x, chs[i]? = some x := ⟨_, List.getElem?_eq_getElem (by have := (List.getElem?_eq_some_iff.1 hc).1; have := G.len; omega)⟩
  exact (G.at_ i c x hi hc hx).some_of hb
theorem Cells.mono {H' : Nat → Option Obj} (G : Cells H el op cells chs) (h : ∀ (i : Nat) (c : Value) (b : Nat), i ∉ op → cells[i]? = some c → blkOf c = some b → H' b = H b) : Cells H' el op cells chs :=
  ⟨G.len, fun i c x hi hc hx => (G.at_ i c x hi hc hx).mono fun b hb => h i c b hi hc hb, G.apart⟩
theorem Cells.more (G : Cells H el op cells chs) {b : Nat} {o : Obj} (hb : H b = none) : Cells (withBlock H b o) el op cells chs := G.mono fun i c b' hi hc hb' => by
  unfold withBlock
  rw [if_neg (fun e => G.some_of hi hc hb' (by rw [e, hb]))]
theorem Cells.shutAt {p : Nat} (G : Cells H el (p :: op) cells chs) (hp : p < cells.length) {b : Nat} {o : Obj} {v : Value} {x : List Value} (hb : H b = none) (hv : LeadsTo (withBlock H b o) b v el 1 x) : Cells (withBlock H b o) el op (cells.set p v) (chs.set p x) := by
  have hno : ∀ (i : Nat), i ∉ op → i ≠ p → i ∉ p :: op := fun i hi hne h => by
    rcases List.mem_cons.1 h with h | h
    · exact hne h
    · exact hi h
  refine ⟨by rw [List.length_set, List.length_set]; exact G.len, fun i c x' hi hc hx => ?_, fun i j c c' β hi hj hc hc' hβ hβ' => ?_⟩
  · by_cases e : i = p
    · subst e
      rw [List.getElem?_set_self hp] at hc
      rw [List.getElem?_set_self (by have := G.len; omega)] at hx
      simp only [Option.some.injEq] at hc hx
      subst hc hx
      exact ⟨b, hv⟩
    · rw [List.getElem?_set_ne (fun e' => e e'.symm)] at hc hx
      exact (G.more hb).at_ i c x' (hno i hi e) hc hx
  · by_cases e : i = p
    · by_cases e2 : j = p
      · omega
      · exfalso
        subst e
        rw [List.getElem?_set_self hp] at hc
        simp only [Option.some.injEq] at hc
        subst hc
        rw [List.getElem?_set_ne (fun e' => e2 e'.symm)] at hc'
        rw [hv.blk] at hβ
        simp only [Option.some.injEq] at hβ
        exact G.some_of (hno j hj e2) hc' hβ' (by rw [← hβ, hb])
    · by_cases e2 : j = p
      · exfalso
        subst e2
        rw [List.getElem?_set_self hp] at hc'
        simp only [Option.some.injEq] at hc'
        subst hc'
        rw [List.getElem?_set_ne (fun e' => e e'.symm)] at hc
        rw [hv.blk] at hβ'
        simp only [Option.some.injEq] at hβ'
        exact G.some_of (hno i hi e) hc hβ (by rw [← hβ', hb])
      · rw [List.getElem?_set_ne (fun e' => e e'.symm)] at hc
        rw [List.getElem?_set_ne (fun e' => e2 e'.symm)] at hc'
        exact G.apart i j c c' β (hno i hi e) (hno j hj e2) hc hc' hβ hβ'
theorem Cells.snoc (G : Cells H el op cells chs) (c : Value) (x : List Value) : Cells H el (cells.length :: op) (cells ++ [c]) (chs ++ [x]) := by
  have hlt : ∀ (i : Nat) (ci : Value), i ∉ cells.length :: op → (cells ++ [c])[i]? = some ci → i ∉ op ∧ i < cells.length ∧ cells[i]? = some ci := fun i ci hi hci => by
    have h1 := (List.getElem?_eq_some_iff.1 hci).1
    rw [List.length_append] at h1
    have h2 : i ≠ cells.length := fun e => hi (by rw [e]; exact List.mem_cons_self ..)
    have h3 : i < cells.length := by simp at h1; omega
    rw [List.getElem?_append_left h3] at hci
    exact ⟨fun h => hi (List.mem_cons_of_mem _ h), h3, hci⟩
  refine ⟨by rw [List.length_append, List.length_append, G.len]; rfl, fun i ci xi hi hci hxi => ?_, fun i j ci cj β hi hj hci hcj hβ hβ' => ?_⟩
  · obtain ⟨h1, h2, h3⟩ := hlt i ci hi hci
    rw [List.getElem?_append_left (by have := G.len; omega)] at hxi
    exact G.at_ i ci xi h1 h3 hxi
  · obtain ⟨h1, _, h3⟩ := hlt i ci hi hci
    obtain ⟨g1, _, g3⟩ := hlt j cj hj hcj
    exact G.apart i j ci cj β h1 g1 h3 g3 hβ hβ'
theorem Cells.take (G : Cells H el op cells chs) (k : Nat) : Cells H el op (cells.take k) (chs.take k) := by
  have hlt : ∀ (i : Nat) (ci : Value), (cells.take k)[i]? = some ci → cells[i]? = some ci := fun i ci h => by
    rw [List.getElem?_take] at h
    split at h
    · exact h
    · cases h
  refine ⟨by rw [List.length_take, List.length_take, G.len], fun i ci xi hi hci hxi => G.at_ i ci xi hi (hlt i ci hci) ?_, fun i j ci cj β hi hj hci hcj => G.apart i j ci cj β hi hj (hlt i ci hci) (hlt j cj hcj)⟩
  rw [List.getElem?_take] at hxi
  split at hxi
  · exact hxi
  · cases hxi
end
def Grid (H : Nat → Option Obj) (st el : TypeId) (v : Value) (cells : List Value) (chs : List (List Value)) : Prop :=
  (∃ db, LeadsTo H db v st 1 cells ∧ Cells (cutM H db) el [] cells chs) ∨ (v = nilSlc ∧ cells = [] ∧ chs = [])
theorem Grid.empty (H : Nat → Option Obj) (st el : TypeId) : Grid H st el nilSlc [] [] := .inr ⟨rfl, rfl, rfl⟩
theorem Grid.len {H : Nat → Option Obj} {st el : TypeId} {v : Value} {cells : List Value} {chs : List (List Value)} (G : Grid H st el v cells chs) : cells.length = chs.length := by
  rcases G with ⟨_, _, G⟩ | ⟨_, h1, h2⟩
  · exact G.len
  · rw [h1, h2]; rfl
end Go.Lg
end
section
namespace Go.Lg
open Go Go.RowKit
section
variable {P : Program} {n : Nat} {ops os : List Oper} {acc : List Eff} {K : List Eff → St → Prop} {s : List (Nat × LV)} {bx : List (Nat × Option Box)} {X : Nat → Option Obj} {σ : St}
end
end Go.Lg
end
section
namespace Go.Lg
open Go Go.RowKit
def LentBox (Y : Nat → Option Obj) (b : Box) (blk m : Nat) : Prop :=
  match b.row with
  | .bool _ => ∃ (arr : Array Value) (fr : Nat × Nat) (us sp : List Value), Y blk = some (.cells arr b.elem fr) ∧ arr.size = m ∧ arr.toList = us ++ sp ∧ ∀ vals : List Value, b.cells = vals.map .val → us = vals
  | .res R => ∃ H : Nat → Option Obj, R.holds (blk, m) H ∧ ∀ i o, H i = some o → Y i = some o
def LentC (S : Nat → Option (Option Box)) (Y : Nat → Option Obj) : CV → Value → Prop
  | .val v, u => u = v
  | .slc k off len sz, u => ∃ (b : Box) (blk cap m : Nat), S k = some (some b) ∧ u = .slice (some ⟨blk, off, none⟩) len cap ∧ len ≤ cap ∧ off + cap * sz ≤ m ∧ LentBox Y b blk m
  | _, _ => False
def LentCs (S : Nat → Option (Option Box)) (Y : Nat → Option Obj) : List CV → List Value → Prop
  | [], us => us = []
  | c :: l, us => ∃ u us', us = u :: us' ∧ LentC S Y c u ∧ LentCs S Y l us'
def LentL (S : Nat → Option (Option Box)) (Y : Nat → Option Obj) (lv : LV) (u : Value) : Prop :=
  match lv with
  | .sv (.one c) => LentC S Y c u
  | .sv (.agg cs) => ∃ us : List Value, u = .agg us.toArray ∧ LentCs S Y cs us
  | _ => False
def LentLs (S : Nat → Option (Option Box)) (Y : Nat → Option Obj) : List LV → List Value → Prop
  | [], us => us = []
  | lv :: l, us => ∃ u us', us = u :: us' ∧ LentL S Y lv u ∧ LentLs S Y l us'
def lendC (S : Nat → Option (Option Box)) (ks : List Nat) : CV → Bool
  | .val _ => true
  | .slc k _ _ _ => ks.contains k && (match S k with | some (some _) => true | _ => false)
  | _ => false
def lendL (S : Nat → Option (Option Box)) (ks : List Nat) : LV → Bool
  | .sv (.one c) => lendC S ks c
  | .sv (.agg cs) => cs.all (lendC S ks)
  | _ => false
section
variable {P : Program} {n : Nat} {ops os : List Oper} {acc : List Eff} {K : List Eff → St → Prop} {s : List (Nat × LV)} {bx : List (Nat × Option Box)} {X : Nat → Option Obj} {σ : St}
theorem lentBox_of {C : Ctx} {ι : Nat → Nat × Nat} {a : Act} {w : World} {σ' : St} (hr : Rel n C ι σ' a w) {k : Nat} {b : Box} (hst : σ'.stat k = some (some b)) : LentBox (fun i => w.heap[i]?) b (ι k).1 (ι k).2 := by
  obtain ⟨e, cs, row⟩ := b
  cases row with
  | bool r =>
    obtain ⟨arr, fr, harr, _, hsz, hbr⟩ := hr.boxes k _ hst rfl
    unfold Box.rel at hbr
    cases r with
    | false => exact ⟨arr, fr, arr.toList, [], harr, hsz, by simp, fun vals e => by simp only at e hbr; rw [e] at hbr; exact rel_vals hbr⟩
    | true =>
      obtain ⟨us, sp, e, hl⟩ := hbr
      exact ⟨arr, fr, us, sp, harr, hsz, e, fun vals e => by simp only at e hl; rw [e] at hl; exact rel_vals hl⟩
  | res R =>
    obtain ⟨F, hF⟩ := hr.res
    exact ⟨F k, (hF.holds k _ _ _ hst).1, fun i o h => (hF.mem k i o h).2.1⟩
theorem lentC_of {C : Ctx} {ι : Nat → Nat × Nat} {a : Act} {w : World} {σ' : St} (hr : Rel n C ι σ' a w) (ks : List Nat) (S : Nat → Option (Option Box)) (hS : ∀ k, k ∈ ks → σ'.stat k = S k) {c : CV} {u : Value} (hl : lendC S ks c = true) (h : c.rel σ'.stat ι u) : LentC S (fun i => w.heap[i]?) c u := by
  cases c with
  | val v => exact h
  | slc k off len sz =>
    simp only [lendC, Bool.and_eq_true] at hl
    have hk : k ∈ ks := by simpa using hl.1
    cases hs : S k with
    | none => rw [hs] at hl; exact absurd hl.2 (by simp)
    | some x =>
      cases x with
      | none => rw [hs] at hl; exact absurd hl.2 (by simp)
      | some b =>
        have hst : σ'.stat k = some (some b) := by rw [hS k hk, hs]
        simp only [CV.rel, hst] at h
        obtain ⟨cap, rfl, h3, h4⟩ := h
        exact ⟨b, _, cap, _, hs, rfl, h3, h4, lentBox_of hr hst⟩
  | ptr _ _ => cases hl
  | mp _ => cases hl
  | junk => cases hl
theorem lentCs_of {C : Ctx} {ι : Nat → Nat × Nat} {a : Act} {w : World} {σ' : St} (hr : Rel n C ι σ' a w) (ks : List Nat) (S : Nat → Option (Option Box)) (hS : ∀ k, k ∈ ks → σ'.stat k = S k) : ∀ {cs : List CV} {us : List Value}, cs.all (lendC S ks) = true → CVs.rel σ'.stat ι cs us → LentCs S (fun i => w.heap[i]?) cs us
  | [], [], _, _ => rfl
  | [], _ :: _, _, h => h.elim
  | _ :: _, [], _, h => h.elim
  | c :: l, u :: us, hl, h => by
    simp only [List.all_cons, Bool.and_eq_true] at hl
    exact ⟨u, us, rfl, lentC_of hr ks S hS hl.1 h.1, lentCs_of hr ks S hS hl.2 h.2⟩
theorem lentLs_of {C : Ctx} {ι : Nat → Nat × Nat} {a : Act} {w : World} {σ' : St} (hr : Rel n C ι σ' a w) (ks : List Nat) (S : Nat → Option (Option Box)) (hS : ∀ k, k ∈ ks → σ'.stat k = S k) : ∀ {lvs : List LV} {us : List Value}, lvs.all (lendL S ks) = true → LVs.rel σ'.stat ι lvs us → LentLs S (fun i => w.heap[i]?) lvs us
  | [], [], _, _ => rfl
  | [], _ :: _, _, h => h.elim
  | _ :: _, [], _, h => h.elim
  | lv :: l, u :: us, hl, h => by
    simp only [List.all_cons, Bool.and_eq_true] at hl
    refine ⟨u, us, rfl, ?_, lentLs_of hr ks S hS hl.2 h.2⟩
    have h1 := h.1
    have h2 := hl.1
    match lv with
    | .sv (.one c) => exact lentC_of hr ks S hS h2 h1
    | .sv (.agg cs) =>
      obtain ⟨arr, rfl, hl'⟩ := h1
      exact ⟨arr.toList, by simp, lentCs_of hr ks S hS h2 hl'⟩
    | .tup _ => cases h2
theorem LOK.callL {d : Nat} {f : FuncId} {args : List Operand} {tys : Array TypeId} {ty : TypeId} {pos : String} {after_ : Array Edge} {g : Option (Nat × Bool)} {lvs : List LV} {r : LV} (ks : List Nat) (hargs : evs σ args = some lvs) (hl : lvs.all (lendL σ.stat ks) = true) (hent : Program.enters P f = true)
    (hs : ∀ (Y : Nat → Option Obj) (us : List Value), (∀ b o, σ.X b = some o → Y b = some o) → LentLs σ.stat Y lvs us → PSpec P Y f (us.map toLV) r) :
    LOK P n ops ⟨some d, .call ⟨.value (.func f), args.toArray, tys⟩, ty, pos, after_, g⟩ σ ⟨[(d, r)], ks, []⟩ := by
  refine ⟨fun σ' ha C ι a w hr hd next Q hn => ?_⟩
  have hargs' : evs σ' args = some lvs := by
    rw [evs_agree fun x hx => ha.ev (by simp [Op.operands, Call.operands, hx])]
    exact hargs
  have hrel := evs_rel hr hargs'
  have hlent := lentLs_of hr ks σ.stat (fun k hk => ha.stat k (.inl hk)) hl hrel
  have hc := (hs (fun b => w.heap[b]?) _ (fun b o hb => hr.ext b o (by rw [ha.X]; exact hb)) hlent).out w (args.toArray.map a.eval) (fun b o hb => hb) (by rw [Array.toList_map, List.toList_toArray]; exact args_rel _)
  unfold Oper.wp
  have hrun : (execOp a.eval ⟨some d, .call ⟨.value (.func f), args.toArray, tys⟩, ty, pos, after_, g⟩).run P w = .ok (.enter f (args.toArray.map a.eval)) w := by
    simp only [execOp, resolve, Act.eval, Deferred.ofValue, invoke, Sem.run_bind, Sem.run_pure, Result.andThen_ok]
    simp [run_enter hent]
  rw [hrun]
  refine hc.mono ?_
  rintro e w' ⟨v, rfl, hv, hb⟩
  exact hn ι _ w' ((hr.below hb).put (hd d rfl) (LV.rel_later (later_noS _ _ _) hv))
theorem K.callL {d : Nat} {f : FuncId} {args : List Operand} {tys : Array TypeId} {ty : TypeId} {pos : String} {after_ : Array Edge} {g : Option (Nat × Bool)} {lvs : List LV} {r : LV} (ks : List Nat) (hargs : evs ⟨s, bx, X⟩ args = some lvs) (hl : lvs.all (lendL (fun k => look k bx) ks) = true) (hent : Program.enters P f = true)
    (hs : ∀ (Y : Nat → Option Obj) (us : List Value), (∀ b o, X b = some o → Y b = some o) → LentLs (fun k => look k bx) Y lvs us → PSpec P Y f (us.map toLV) r) (hw : Want ops s g)
    (kont : RunK P n ops os ⟨(d, r) :: s, bx, X⟩ (⟨[(d, r)], ks, []⟩ :: acc) K) :
    RunK P n ops (⟨some d, .call ⟨.value (.func f), args.toArray, tys⟩, ty, pos, after_, g⟩ :: os) ⟨s, bx, X⟩ acc K := RunK.gen hw (LOK.callL ks hargs hl hent hs) kont
end
end Go.Lg
end
section
namespace Go.Lg
open Go Go.RowKit
def blkZ : Value → Option Nat
  | .slice (some a) (_ + 1) _ => some a.block
  | _ => none
theorem LeadsTo.blkZ {H : Nat → Option Obj} {b : Nat} {v : Value} {el : TypeId} {sz : Nat} {vals : List Value} (h : LeadsTo H b v el sz vals) (h0 : vals ≠ []) : Go.Lg.blkZ v = some b := by
  obtain ⟨len, cap, arr, fr, rfl, h2, _⟩ := h
  cases len with
  | zero => exact absurd (List.eq_nil_of_length_eq_zero (by omega)) h0
  | succ n => rfl
def SliceZ (H : Nat → Option Obj) (v : Value) (el : TypeId) (sz : Nat) (vals : List Value) : Prop := (vals = [] ∧ ∃ ad cap, v = .slice ad 0 cap) ∨ ∃ b, LeadsTo H b v el sz vals ∧ vals ≠ []
theorem SliceZ.mono {H H' : Nat → Option Obj} {v : Value} {el : TypeId} {sz : Nat} {vals : List Value} (h : SliceZ H v el sz vals) (he : ∀ b, blkZ v = some b → H' b = H b) : SliceZ H' v el sz vals := by
  rcases h with h | ⟨b, h, h0⟩
  · exact .inl h
  · exact .inr ⟨b, h.mono (he b (h.blkZ h0)), h0⟩
theorem SliceZ.some_of {H : Nat → Option Obj} {v : Value} {el : TypeId} {sz : Nat} {vals : List Value} (h : SliceZ H v el sz vals) {b : Nat} (hb : blkZ v = some b) : H b ≠ Option.none := by
  rcases h with ⟨_, ad, cap, rfl⟩ | ⟨b', h, h0⟩
  · simp [blkZ] at hb
  · have := h.blkZ h0
    rw [this] at hb
    simp only [Option.some.injEq] at hb
    subst hb
    obtain ⟨_, _, _, _, _, _, _, _, h5, _⟩ := h
    rw [h5]; simp
structure Twigs (H : Nat → Option Obj) (el : TypeId) (sz : Nat) (op : List Nat) (cells : List Value) (chs : List (List Value)) : Prop where
  len : cells.length = chs.length
  at_ : ∀ (i : Nat) (c : Value) (x : List Value), i ∉ op → cells[i]? = some c → chs[i]? = some x → SliceZ H c el sz x
  apart : ∀ (i j : Nat) (c c' : Value) (b : Nat), i ∉ op → j ∉ op → cells[i]? = some c → cells[j]? = some c' → blkZ c = some b → blkZ c' = some b → i = j
theorem Twigs.nil (H : Nat → Option Obj) (el : TypeId) (sz : Nat) (op : List Nat) : Twigs H el sz op [] [] := ⟨rfl, fun i c x _ h => (by simp at h), fun i j c c' b _ _ h => (by simp at h)⟩
section
variable {H : Nat → Option Obj} {el : TypeId} {sz : Nat} {op : List Nat} {cells : List Value} {chs : List (List Value)}
theorem Twigs.some_of (G : Twigs H el sz op cells chs) {i : Nat} {c : Value} {b : Nat} (hi : i ∉ op) (hc : cells[i]? = some c) (hb : blkZ c = some b) : H b ≠ none := by
  obtain ⟨x, hx⟩ : ∃ x, chs[i]? = some x := ⟨_, List.getElem?_eq_getElem (by have := (List.getElem?_eq_some_iff.1 hc).1; have := G.len; omega)⟩
  exact (G.at_ i c x hi hc hx).some_of hb
theorem Twigs.mono {H' : Nat → Option Obj} (G : Twigs H el sz op cells chs) (h : ∀ (i : Nat) (c : Value) (b : Nat), i ∉ op → cells[i]? = some c → blkZ c = some b → H' b = H b) : Twigs H' el sz op cells chs :=
  ⟨G.len, fun i c x hi hc hx => (G.at_ i c x hi hc hx).mono fun b hb => h i c b hi hc hb, G.apart⟩
theorem Twigs.more (G : Twigs H el sz op cells chs) {b : Nat} {o : Obj} (hb : H b = none) : Twigs (withBlock H b o) el sz op cells chs := G.mono fun i c b' hi hc hb' => by
  unfold withBlock
  rw [if_neg (fun e => G.some_of hi hc hb' (by rw [e, hb]))]
theorem Twigs.shutAt {p : Nat} (G : Twigs H el sz (p :: op) cells chs) (hp : p < cells.length) {b : Nat} {o : Obj} {v : Value} {x : List Value} (hb : H b = none) (hv : LeadsTo (withBlock H b o) b v el sz x) (hx0 : x ≠ []) : Twigs (withBlock H b o) el sz op (cells.set p v) (chs.set p x) := by
  have hno : ∀ (i : Nat), i ∉ op → i ≠ p → i ∉ p :: op := fun i hi hne h => by
    rcases List.mem_cons.1 h with h | h
    · exact hne h
    · exact hi h
  refine ⟨by rw [List.length_set, List.length_set]; exact G.len, fun i c x' hi hc hx => ?_, fun i j c c' β hi hj hc hc' hβ hβ' => ?_⟩
  · by_cases e : i = p
    · subst e
      rw [List.getElem?_set_self hp] at hc
      rw [List.getElem?_set_self (by have := G.len; omega)] at hx
      simp only [Option.some.injEq] at hc hx
      subst hc hx
      exact .inr ⟨b, hv, hx0⟩
    · rw [List.getElem?_set_ne (fun e' => e e'.symm)] at hc hx
      exact (G.more hb).at_ i c x' (hno i hi e) hc hx
  · by_cases e : i = p
    · by_cases e2 : j = p
      · omega
      · exfalso
        subst e
        rw [List.getElem?_set_self hp] at hc
        simp only [Option.some.injEq] at hc
        subst hc
        rw [List.getElem?_set_ne (fun e' => e2 e'.symm)] at hc'
        rw [hv.blkZ hx0] at hβ
        simp only [Option.some.injEq] at hβ
        exact G.some_of (hno j hj e2) hc' hβ' (by rw [← hβ, hb])
    · by_cases e2 : j = p
      · exfalso
        subst e2
        rw [List.getElem?_set_self hp] at hc'
        simp only [Option.some.injEq] at hc'
        subst hc'
        rw [List.getElem?_set_ne (fun e' => e e'.symm)] at hc
        rw [hv.blkZ hx0] at hβ'
        simp only [Option.some.injEq] at hβ'
        exact G.some_of (hno i hi e) hc hβ (by rw [← hβ', hb])
      · rw [List.getElem?_set_ne (fun e' => e e'.symm)] at hc
        rw [List.getElem?_set_ne (fun e' => e2 e'.symm)] at hc'
        exact G.apart i j c c' β (hno i hi e) (hno j hj e2) hc hc' hβ hβ'
theorem Twigs.snoc (G : Twigs H el sz op cells chs) (c : Value) (x : List Value) : Twigs H el sz (cells.length :: op) (cells ++ [c]) (chs ++ [x]) := by
  have hlt : ∀ (i : Nat) (ci : Value), i ∉ cells.length :: op → (cells ++ [c])[i]? = some ci → i ∉ op ∧ i < cells.length ∧ cells[i]? = some ci := fun i ci hi hci => by
    have h1 := (List.getElem?_eq_some_iff.1 hci).1
    rw [List.length_append] at h1
    have h2 : i ≠ cells.length := fun e => hi (by rw [e]; exact List.mem_cons_self ..)
    have h3 : i < cells.length := by simp at h1; omega
    rw [List.getElem?_append_left h3] at hci
    exact ⟨fun h => hi (List.mem_cons_of_mem _ h), h3, hci⟩
  refine ⟨by rw [List.length_append, List.length_append, G.len]; rfl, fun i ci xi hi hci hxi => ?_, fun i j ci cj β hi hj hci hcj hβ hβ' => ?_⟩
  · obtain ⟨h1, h2, h3⟩ := hlt i ci hi hci
    rw [List.getElem?_append_left (by have := G.len; omega)] at hxi
    exact G.at_ i ci xi h1 h3 hxi
  · obtain ⟨h1, _, h3⟩ := hlt i ci hi hci
    obtain ⟨g1, _, g3⟩ := hlt j cj hj hcj
    exact G.apart i j ci cj β h1 g1 h3 g3 hβ hβ'
theorem Twigs.take (G : Twigs H el sz op cells chs) (k : Nat) : Twigs H el sz op (cells.take k) (chs.take k) := by
  have hlt : ∀ (i : Nat) (ci : Value), (cells.take k)[i]? = some ci → cells[i]? = some ci := fun i ci h => by
    rw [List.getElem?_take] at h
    split at h
    · exact h
    · cases h
  refine ⟨by rw [List.length_take, List.length_take, G.len], fun i ci xi hi hci hxi => G.at_ i ci xi hi (hlt i ci hci) ?_, fun i j ci cj β hi hj hci hcj => G.apart i j ci cj β hi hj (hlt i ci hci) (hlt j cj hcj)⟩
  rw [List.getElem?_take] at hxi
  split at hxi
  · exact hxi
  · cases hxi
end
end Go.Lg
end
section
namespace Go.Lg.Fld
open Go Go.Lg
end Go.Lg.Fld
namespace Go.Proofs.YtklofjlbjahnaaaDoor
open Go Go.Lg Go.Lg.Fld
set_option maxRecDepth 100000
end Go.Proofs.YtklofjlbjahnaaaDoor
end
section
namespace Go.Lg
open Go Go.RowKit
section
variable {P : Program} {n : Nat} {ops os : List Oper} {acc : List Eff} {K : List Eff → St → Prop} {s : List (Nat × LV)} {bx : List (Nat × Option Box)} {X : Nat → Option Obj} {σ : St}
end
end Go.Lg
end
section
namespace Go.Lg
open Go Go.RowKit
section
variable {P : Program} {n : Nat} {C : Ctx} {c : Code} {Q : Exit → St → Prop} {X H : Nat → Option Obj} {s : List (Nat × LV)} {bx : List (Nat × Option Box)}
theorem Rel.rebox2 {ι : Nat → Nat × Nat} {a : Act} {w : World} {j : Nat} {e : TypeId} {cs cs' : List CV} {r r' : Bool}
    (himp : ∀ vs, (∃ (arr : Array Value) (fr : Nat × Nat), w.heap[(ι j).1]? = some (.cells arr e fr) ∧ arr.toList = vs) → Box.rel (⟨s, (j, some ⟨e, cs', r'⟩) :: bx, X⟩ : St).stat ι ⟨e, cs, r⟩ vs → Box.rel (⟨s, (j, some ⟨e, cs', r'⟩) :: bx, X⟩ : St).stat ι ⟨e, cs', r'⟩ vs)
    (hr : Rel n C ι ⟨s, (j, some ⟨e, cs, r⟩) :: bx, X⟩ a w) : Rel n C ι ⟨s, (j, some ⟨e, cs', r'⟩) :: bx, X⟩ a w := by
  have hlater := later_hd (s := s) (bx := bx) (k := j) ι ⟨e, cs, r⟩ ⟨e, cs', r'⟩ X X
  have live : ∀ i b, (⟨s, (j, some ⟨e, cs', r'⟩) :: bx, X⟩ : St).stat i = some (some b) → ∃ b0, (⟨s, (j, some ⟨e, cs, r⟩) :: bx, X⟩ : St).stat i = some (some b0) ∧ (i ≠ j → b = b0) := fun i b hi => by
    rw [stat_hd] at hi ⊢
    by_cases e : i = j
    · rw [if_pos e]; exact ⟨_, rfl, fun h => absurd e h⟩
    · rw [if_neg e] at hi ⊢; exact ⟨b, hi, fun _ => rfl⟩
  exact {
    defers := hr.defers, size := hr.size
    slots := fun d lv hd => by
      obtain ⟨v, hv, hvr⟩ := hr.slots d lv hd
      exact ⟨v, hv, LV.rel_later hlater hvr⟩
    boxes := fun i b hi hbk => by
      by_cases ei : i = j
      · subst ei
        rw [stat_hd, if_pos rfl] at hi
        simp only [Option.some.injEq] at hi
        subst hi
        obtain ⟨arr, fr, g1, g2, g3, g4⟩ := hr.boxes i ⟨e, cs, r⟩ (by rw [stat_hd, if_pos rfl]) rfl
        exact ⟨arr, fr, g1, g2, g3, himp _ ⟨arr, fr, g1, rfl⟩ (Box.rel_later hlater g4)⟩
      · obtain ⟨b0, h0, h1⟩ := live i b hi
        have := h1 ei
        subst this
        obtain ⟨arr, fr, g1, g2, g3, g4⟩ := hr.boxes i b h0 hbk
        exact ⟨arr, fr, g1, g2, g3, Box.rel_later hlater g4⟩
    own := fun i b hi => by obtain ⟨b0, h0, _⟩ := live i b hi; exact hr.own i b0 h0
    inj := fun i i' bi bj hi hj he => by
      obtain ⟨b1, h1, _⟩ := live i bi hi
      obtain ⟨b2, h2, _⟩ := live i' bj hj
      exact hr.inj i i' b1 b2 h1 h2 he
    keep := fun i b hi hge => by obtain ⟨b0, h0, _⟩ := live i b hi; exact hr.keep i b0 h0 hge
    ext := hr.ext
    res := by
      obtain ⟨F, hG⟩ := hr.res
      refine hG.keep (fun i e cs R hi => ?_) (fun _ _ _ _ _ hi => hi) (fun _ _ ho => ho) (fun b _ hx _ _ => hx) (fun i bi hi => ?_)
      · rw [stat_hd] at hi ⊢
        by_cases e : i = j
        · rw [if_pos e] at hi; cases hi
        · rw [if_neg e] at hi ⊢; exact ⟨hi, rfl⟩
      · obtain ⟨b0, h0, _⟩ := live i bi hi
        exact .inl ⟨b0, h0, rfl⟩
    frame := hr.frame, big := hr.big, os := hr.os, tape := hr.tape, output := hr.output }
theorem Rel.spare {ι : Nat → Nat × Nat} {a : Act} {w : World} {j : Nat} {e : TypeId} {vals : List Value} (hr : Rel n C ι ⟨s, (j, some ⟨e, vals.map .val, true⟩) :: bx, X⟩ a w) : ∃ sp : List Value, Rel n C ι ⟨s, (j, some ⟨e, (vals ++ sp).map .val, false⟩) :: bx, X⟩ a w := by
  obtain ⟨arr, fr, g1, _, _, g4⟩ := hr.boxes j ⟨e, vals.map .val, true⟩ (by rw [stat_hd, if_pos rfl]) rfl
  obtain ⟨us, sp, e1, hl⟩ := g4
  have hu := rel_vals hl
  subst hu
  refine ⟨sp, hr.rebox2 fun vs hv _ => ?_⟩
  obtain ⟨arr', fr', h1, h2⟩ := hv
  rw [g1] at h1
  simp only [Option.some.injEq, Obj.cells.injEq] at h1
  obtain ⟨rfl, _⟩ := h1
  rw [← h2, e1]
  exact CVs.rel_map_val (us ++ sp)
theorem LWP.spare {j : Nat} {e : TypeId} {vals : List Value} (h : ∀ sp : List Value, LWP P n C c Q ⟨s, (j, some ⟨e, (vals ++ sp).map .val, false⟩) :: bx, X⟩) : LWP P n C c Q ⟨s, (j, some ⟨e, vals.map .val, true⟩) :: bx, X⟩ := ⟨fun ι a w hr => by
  obtain ⟨sp, hr'⟩ := hr.spare
  exact (h sp).out ι a w hr'⟩
theorem Leads.spare {Mid : St → Prop} {j : Nat} {e : TypeId} {vals : List Value} (h : ∀ sp : List Value, Leads n C Mid ⟨s, (j, some ⟨e, (vals ++ sp).map .val, false⟩) :: bx, X⟩) : Leads n C Mid ⟨s, (j, some ⟨e, vals.map .val, true⟩) :: bx, X⟩ := ⟨fun ι a w hr => by
  obtain ⟨sp, hr'⟩ := hr.spare
  exact (h sp).out ι a w hr'⟩
end
section
variable {H : Nat → Option Obj} {el : TypeId} {sz : Nat} {cells : List Value} {chs : List (List Value)}
theorem Twigs.push (G : Twigs H el sz [] cells chs) {b : Nat} {o : Obj} {v : Value} {x : List Value} (hb : H b = none) (hv : LeadsTo (withBlock H b o) b v el sz x) (hx : x ≠ []) : Twigs (withBlock H b o) el sz [] (cells ++ [v]) (chs ++ [x]) := by
  have G3 := (G.snoc nilSlc []).shutAt (by rw [List.length_append]; simp) hb hv hx
  have e1 : (cells ++ [nilSlc]).set cells.length v = cells ++ [v] := by rw [List.set_append_right _ _ (Nat.le_refl _), Nat.sub_self]; rfl
  have e2 : (chs ++ [([] : List Value)]).set cells.length x = chs ++ [x] := by rw [G.len, List.set_append_right _ _ (Nat.le_refl _), Nat.sub_self]; rfl
  rw [e1, e2] at G3
  exact G3
end
end Go.Lg
end
section
namespace Go.Lg
open Go Go.RowKit
section
variable {n : Nat} {C : Ctx} {X Y : Nat → Option Obj} {s : List (Nat × LV)} {bx : List (Nat × Option Box)}
theorem Le.drop (hXY : ∀ b o, X b = some o → Y b = some o) : Le n C ⟨s, bx, Y⟩ ⟨s, bx, X⟩ := ⟨fun ι a w hr => ⟨ι, by
  have hn : ∀ b, Y b = none → X b = none := fun b hb => by
    cases hx : X b with
    | none => rfl
    | some o => rw [hXY b o hx] at hb; cases hb
  exact {
    defers := hr.defers, size := hr.size, slots := hr.slots, boxes := hr.boxes
    own := fun k b hk => ⟨(hr.own k b hk).1, hn _ (hr.own k b hk).2⟩
    inj := hr.inj, keep := hr.keep
    ext := fun b o hb => hr.ext b o (hXY b o hb)
    res := by
      obtain ⟨F, hF⟩ := hr.res
      exact ⟨F, hF.holds, fun k b o h => by
        obtain ⟨h1, h2, h3, h4, h5, h6⟩ := hF.mem k b o h
        exact ⟨h1, h2, h3, h4, hn _ h5, h6⟩, hF.apart⟩
    frame := hr.frame, big := hr.big, os := hr.os, tape := hr.tape, output := hr.output }⟩⟩
end
end Go.Lg
end
section
namespace Go.Lg
open Go Go.RowKit
section
variable {n : Nat} {C : Ctx} {σ : St} {ι : Nat → Nat × Nat} {a : Act} {w : World}
end
structure KL (P : Program) (k : TypeId) : Prop where
  check : ∀ (w : World) (em : Bool) {v : Value} {l : Lit}, Go.keyOf P k v = some l → (Instr.checkKey em 10000 k v).run P w = .ok () w
  find : ∀ (w : World) {x : Value} {lx : Lit}, Go.keyOf P k x = some lx → ∀ es : List MapEntry, (∀ e ∈ es, ∃ l, Go.keyOf P k e.key = some l) →
    ((Instr.findKey k x es).run P w = .ok none w ∧ ∀ e ∈ es, e.key ≠ x) ∨ ∃ j e, (Instr.findKey k x es).run P w = .ok (some (j, e.val)) w ∧ es[j]? = some e ∧ e.key = x
  stays : ∀ (w : World) {v : Value} {l : Lit}, Go.keyOf P k v = some l → (Instr.keyThatStays v v).run P w = .ok v w
theorem KL.of {P : Program} {k : TypeId} (L : WideMaps.KeyLaw P k) : KL P k := ⟨L.check, L.find, L.stays⟩
theorem keyOf_int {P : Program} {k : TypeId} {q : IntKind} (hk : P.underlying k = some (.int q)) {v : Value} : Go.keyOf P k v = mapKey P k v := by unfold Go.keyOf; simp only [hk]
theorem int_of_keyOf {P : Program} {k : TypeId} {q : IntKind} (hk : P.underlying k = some (.int q)) {v : Value} {l : Lit} (h : Go.keyOf P k v = some l) : ∃ n, v = .int q n := by
  rw [keyOf_int hk] at h
  unfold mapKey at h
  cases v <;> simp [hk] at h
  rename_i q' n
  exact ⟨n, by rw [h.1.1]⟩
open Go.MapKept Go.WideShapes Go.WideMaps in
theorem KL.int {P : Program} {k : TypeId} {q : IntKind} (hk : P.underlying k = some (.int q)) : KL P k where
  check w em _ _ h := by
    obtain ⟨n, rfl⟩ := int_of_keyOf hk h
    exact run_checkKey hk (d := .int q) (k := .int q n) rfl em 9999
  find w _ _ hx es hes := by
    obtain ⟨n, rfl⟩ := int_of_keyOf hk hx
    have hks : ∀ x ∈ es, IsKey (.int q) x.key := fun x hxm => by
      obtain ⟨l, hl⟩ := hes x hxm
      obtain ⟨n', e⟩ := int_of_keyOf hk hl
      rw [e]
      exact rfl
    rcases findNow_spec (d := .int q) (k := .int q n) rfl es 0 hks with ⟨h1, h2⟩ | ⟨j, e0, h1, h2, h3⟩
    · exact Or.inl ⟨run_findKey hk h1, h2⟩
    · exact Or.inr ⟨j, e0, by simpa using run_findKey hk h1, h2, h3⟩
  stays w _ _ h := by
    obtain ⟨n, rfl⟩ := int_of_keyOf hk h
    exact run_keyThatStays (d := .int q) (k := .int q n) rfl
section
variable {P : Program} {n : Nat} {ops os : List Oper} {acc : List Eff} {K : List Eff → St → Prop} {s : List (Nat × LV)} {bx : List (Nat × Option Box)} {X : Nat → Option Obj} {σ : St}
end
end Go.Lg
end
section
namespace Go.Lg
open Go Go.RowKit
section
variable {P : Program} {n : Nat} {C : Ctx} {c : Code} {Q : Exit → St → Prop} {X : Nat → Option Obj}
end
section
variable {P : Program} {n : Nat} {ops os : List Oper} {acc : List Eff} {K : List Eff → St → Prop} {s : List (Nat × LV)} {bx : List (Nat × Option Box)} {X : Nat → Option Obj} {σ : St}
end
theorem Le.trans {n : Nat} {C : Ctx} {σ1 σ2 σ3 : St} (h : Le n C σ1 σ2) (h' : Le n C σ2 σ3) : Le n C σ1 σ3 := ⟨fun ι a w hr => by
  obtain ⟨ι1, h1⟩ := h.out ι a w hr
  exact h'.out ι1 a w h1⟩
end Go.Lg
end
section
namespace Go.Lg.Fld
open Go Go.Lg
end Go.Lg.Fld
namespace Go.Proofs.YtklofjlbjahnaaaDoor
open Go Go.Lg Go.Lg.Fld
set_option maxRecDepth 100000
variable (X : Nat → Option Obj)
end Go.Proofs.YtklofjlbjahnaaaDoor
end
section
namespace Go.Lg.Fld
open Go Go.Lg
def NamesC (cs : List Cp) : Prop := ∀ c ∈ cs, c.fs.length < 4611686018427387904 ∧ c.nm.length ≤ 9223372036854775807 ∧ ∀ f ∈ c.fs, f.nm.length ≤ 9223372036854775807
theorem SmallC.names {cs : List Cp} (h : SmallC cs) : NamesC cs := fun c hc => by
  obtain ⟨h1, h2, h3⟩ := h.2 c hc
  exact ⟨by omega, by omega, fun f hf => by have := h3 f hf; omega⟩
end Go.Lg.Fld
namespace Go.Proofs.YtklofjlbjahnaaaDoor
open Go Go.Lg Go.Lg.Fld
set_option maxRecDepth 100000
variable (X : Nat → Option Obj)
end Go.Proofs.YtklofjlbjahnaaaDoor
end
section
namespace Go.Lg.Fld
open Go Go.Lg
theorem FieldsIn.none {X : Nat → Option Obj} {fs : List Fl} (h : FieldsIn X none fs) : fs = [] := by
  cases hfs : fs with
  | nil => rfl
  | cons f t =>
    obtain ⟨_, _, _, _, _, e, _⟩ := h.nm (k := 0) (f := f) (by rw [hfs]; rfl)
    cases e
end Go.Lg.Fld
namespace Go.Proofs.YtklofjlbjahnaaaDoor
open Go Go.Lg Go.Lg.Fld
set_option maxRecDepth 100000
variable (X : Nat → Option Obj)
section
variable (ver : Int) (ad : Option Addr) (cap : Nat) (cs : List Cp) (f : FuncId) (caps : List Value) (p : Cp → Bool)
end
end Go.Proofs.YtklofjlbjahnaaaDoor
end
section
namespace Go.Lg.Fld
open Go Go.Lg
end Go.Lg.Fld
namespace Go.Proofs.YtklofjlbjahnaaaDoor
open Go Go.Lg Go.Lg.Fld
set_option maxRecDepth 100000
variable (X : Nat → Option Obj)
end Go.Proofs.YtklofjlbjahnaaaDoor
end
section
namespace Go.Lg.Fld
open Go Go.Lg
end Go.Lg.Fld
namespace Go.Proofs.YtklofjlbjahnaaaDoor
open Go Go.Lg Go.Lg.Fld
set_option maxRecDepth 100000
section
variable {n : Nat} {C : Ctx} {X : Nat → Option Obj} {s : List (Nat × LV)} {bx : List (Nat × Option Box)} {k : Nat}
end
variable (X : Nat → Option Obj)
end Go.Proofs.YtklofjlbjahnaaaDoor
end
section

end
section
namespace Go.Proofs.YtklofjlbjahnaaaDoor
open Go Go.Lg Go.Lg.Fld Go.RowKit Go.ChangeShapes Go.WideShapes Go.Joins
set_option maxRecDepth 100000
section
variable {H : Type} {enc : TypeId × Value → H} {w : World}
end
end Go.Proofs.YtklofjlbjahnaaaDoor
end
section
namespace Go.Proofs.YtklofjlbjahnaaaDoor
open Go Go.Lg Go.Lg.Fld
set_option maxRecDepth 100000
variable (X : Nat → Option Obj)
end Go.Proofs.YtklofjlbjahnaaaDoor
end
section
namespace Go.Proofs.YtklofjlbjahnaaaDoor
open Go Go.Lg Go.Lg.Fld
set_option maxRecDepth 100000
variable (X : Nat → Option Obj)
end Go.Proofs.YtklofjlbjahnaaaDoor
end
section
namespace Go.Lg.Fld
open Go Go.Lg
end Go.Lg.Fld
namespace Go.Proofs.YtklofjlbjahnaaaDoor
open Go Go.Lg Go.Lg.Fld
set_option maxRecDepth 100000
variable (X : Nat → Option Obj)
def cs0 : List Cp := [⟨1, [112, 111, 115], [⟨[120], 3, 1⟩, ⟨[121], 3, 1⟩]⟩, ⟨3, [116, 97, 103], []⟩]
end Go.Proofs.YtklofjlbjahnaaaDoor
end
section
namespace Go.Proofs.YtklofjlbjahnaaaDoor
open Go Go.Lg Go.Lg.Fld
set_option maxRecDepth 100000
variable (X : Nat → Option Obj)
end Go.Proofs.YtklofjlbjahnaaaDoor
end
section
namespace Go.Lg.Fld
open Go Go.Lg
def Scan {α : Type} (p : α → Bool) (l : List α) (k : Nat) (v : Int) : Prop := (v = -1 ∧ ∀ (m : Nat) (y : α), k ≤ m → l[m]? = some y → p y = false) ∨ ∃ (i : Nat) (c : α), v = (i : Nat) ∧ l[i]? = some c ∧ p c = true ∧ ∀ (m : Nat) (y : α), k ≤ m → m < i → l[m]? = some y → p y = false
theorem Scan.start {α : Type} {p : α → Bool} {l : List α} : Scan p l l.length (-1) := .inl ⟨rfl, fun m y hm hy => by have := (List.getElem?_eq_some_iff.1 hy).1; omega⟩
theorem Scan.hit {α : Type} {p : α → Bool} {l : List α} {k : Nat} {y : α} (hy : l[k]? = some y) (hp : p y = true) : Scan p l k (k : Nat) := .inr ⟨k, y, rfl, hy, hp, fun m y hm hk => by omega⟩
end Go.Lg.Fld
namespace Go.Proofs.YtklofjlbjahnaaaDoor
open Go Go.Lg Go.Lg.Fld
set_option maxRecDepth 100000
variable (X : Nat → Option Obj)
end Go.Proofs.YtklofjlbjahnaaaDoor
end
section
namespace Go.Proofs.YtklofjlbjahnaaaDoor
open Go Go.Lg Go.Lg.Fld
set_option maxRecDepth 100000
variable (X : Nat → Option Obj)
end Go.Proofs.YtklofjlbjahnaaaDoor
end
section
namespace Go.Lg.Fld
open Go Go.Lg
structure Good (cs : List Cp) : Prop where
  one : ∀ (i : Nat) (c : Cp), cs[i]? = some c → 1 ≤ c.id ∧ c.id ≤ 24 ∧ nmB c.nm = true ∧ firstE (fldE c.fs) 0 c.fs.length = 0 ∧ layErr c.fs = 0
  two : ∀ (i j : Nat) (c d : Cp), i < j → cs[i]? = some c → cs[j]? = some d → c.id < d.id ∧ c.nm ≠ d.nm
theorem fields_apart {fs : List Fl} (h : firstE (fldE fs) 0 fs.length = 0) {i j : Nat} {f g : Fl} (hij : i < j) (hf : fs[i]? = some f) (hg : fs[j]? = some g) : f.nm ≠ g.nm := fun e => by
  have h1 := firstE_zero h j (Nat.zero_le _) (by have := (List.getElem?_eq_some_iff.1 hg).1; omega)
  rw [fldE_at hg] at h1
  have := any_true (p := fun x : Fl => x.nm == g.nm) hij hf (by rw [beq_iff_eq]; exact e)
  rw [this] at h1
  split at h1 <;> cases h1
end Go.Lg.Fld
end
section
namespace Go.Lg.Fld
open Go Go.Lg
structure Ch where
  kind : Int
  comp : Int
  fld : List UInt8
instance : DecidableEq Ch := fun a b => decidable_of_iff (a.kind = b.kind ∧ a.comp = b.comp ∧ a.fld = b.fld) ⟨fun ⟨h1, h2, h3⟩ => by cases a; cases b; simp_all, fun h => by rw [h]; exact ⟨rfl, rfl, rfl⟩⟩
def fldAt (fs : List Fl) (nm : List UInt8) : Option Fl := fs.find? fun f => f.nm == nm
def fldIx (fs : List Fl) (nm : List UInt8) : Int := findI (fun f => f.nm == nm) fs
theorem fldIx_some {fs : List Fl} {nm : List UInt8} (h : 0 ≤ fldIx fs nm) : ∃ (k : Nat) (g : Fl), fs[k]? = some g ∧ g.nm = nm ∧ fldIx fs nm = (k : Nat) ∧ fldAt fs nm = some g ∧ ∀ (j : Nat) (y : Fl), j < k → fs[j]? = some y → y.nm ≠ nm := by
  unfold fldIx findI at h
  cases hf : fs.findIdx? (fun f => f.nm == nm) with
  | none => rw [hf] at h; simp only at h; omega
  | some k =>
    obtain ⟨hk, h1, h2⟩ := List.findIdx?_eq_some_iff_getElem.1 hf
    refine ⟨k, fs[k], List.getElem?_eq_getElem hk, by simpa using h1, by unfold fldIx findI; rw [hf], ?_, fun j y hj hy => ?_⟩
    · unfold fldAt
      rw [List.find?_eq_some_iff_getElem]
      exact ⟨h1, k, hk, rfl, fun j hj => by simpa using h2 j hj⟩
    · obtain ⟨hj', e⟩ := List.getElem?_eq_some_iff.1 hy
      have := h2 j hj
      rw [e] at this
      simpa using this
theorem fldIx_none {fs : List Fl} {nm : List UInt8} (h : fldIx fs nm < 0) : (∀ f ∈ fs, f.nm ≠ nm) ∧ fldAt fs nm = none ∧ fldIx fs nm = -1 := by
  unfold fldIx findI at h
  cases hf : fs.findIdx? (fun f => f.nm == nm) with
  | some k => rw [hf] at h; simp only at h; omega
  | none =>
    have h1 := List.findIdx?_eq_none_iff.1 hf
    refine ⟨fun f hf => by simpa using h1 f hf, ?_, by unfold fldIx findI; rw [hf]⟩
    unfold fldAt
    rw [List.find?_eq_none]
    intro f hf
    simpa using h1 f hf
theorem fldIx_at {fs : List Fl} (ha : ∀ (i j : Nat) (f g : Fl), i < j → fs[i]? = some f → fs[j]? = some g → f.nm ≠ g.nm) {k : Nat} {g : Fl} (hk : fs[k]? = some g) : fldIx fs g.nm = (k : Nat) ∧ fldAt fs g.nm = some g := by
  have h0 : 0 ≤ fldIx fs g.nm := by
    rcases Int.lt_or_le (fldIx fs g.nm) 0 with h | h
    · exact absurd rfl ((fldIx_none h).1 g (List.mem_of_getElem? hk))
    · exact h
  obtain ⟨j, f, hj, hn, he, hf, hp⟩ := fldIx_some h0
  have : j = k := by
    rcases Nat.lt_trichotomy j k with h | h | h
    · exact absurd hn (ha j k f g h hj hk)
    · exact h
    · exact absurd rfl (hp k g h hk)
  subst this
  rw [hk] at hj
  cases hj
  exact ⟨he, hf⟩
end Go.Lg.Fld
end
section
namespace Go.Lg.Fld
open Go Go.Lg
def Apart (fs : List Fl) : Prop := fs.Pairwise fun f g => f.nm ≠ g.nm
theorem Apart.ix {fs : List Fl} (h : Apart fs) {i j : Nat} {f g : Fl} (hij : i < j) (hf : fs[i]? = some f) (hg : fs[j]? = some g) : f.nm ≠ g.nm := by
  obtain ⟨hi, e1⟩ := List.getElem?_eq_some_iff.1 hf
  obtain ⟨hj, e2⟩ := List.getElem?_eq_some_iff.1 hg
  have := List.pairwise_iff_getElem.1 h i j hi hj hij
  rw [e1, e2] at this
  exact this
theorem Apart.at {fs : List Fl} (h : Apart fs) {k : Nat} {g : Fl} (hk : fs[k]? = some g) : fldIx fs g.nm = (k : Nat) ∧ fldAt fs g.nm = some g := fldIx_at (fun _ _ _ _ hij hf hg => h.ix hij hf hg) hk
theorem Apart.mem {fs : List Fl} (h : Apart fs) {g : Fl} (hg : g ∈ fs) : fldAt fs g.nm = some g := by
  obtain ⟨k, hk⟩ := List.mem_iff_getElem?.1 hg
  exact (h.at hk).2
theorem Apart.eq {fs : List Fl} (h : Apart fs) {f g : Fl} (hf : f ∈ fs) (hg : g ∈ fs) (e : f.nm = g.nm) : f = g := by
  have h1 := h.mem hf
  rw [e, h.mem hg] at h1
  exact (Option.some.inj h1).symm
theorem Good.apart {cs : List Cp} (h : Good cs) {c : Cp} (hc : c ∈ cs) : Apart c.fs := by
  obtain ⟨i, hi⟩ := List.mem_iff_getElem?.1 hc
  obtain ⟨_, _, _, h4, _⟩ := h.one i c hi
  refine List.pairwise_iff_getElem.2 fun i j hi hj hij => ?_
  exact fields_apart h4 hij (List.getElem?_eq_getElem hi) (List.getElem?_eq_getElem hj)
theorem sorted_eq {α : Type} (key : α → Int) : ∀ {l1 l2 : List α}, l1.Pairwise (fun x y => key x < key y) → l2.Pairwise (fun x y => key x < key y) → (∀ x, x ∈ l1 ↔ x ∈ l2) → l1 = l2
  | [], [], _, _, _ => rfl
  | [], y :: _, _, _, h => by have := (h y).2 List.mem_cons_self; cases this
  | x :: _, [], _, _, h => by have := (h x).1 List.mem_cons_self; cases this
  | x :: t1, y :: t2, h1, h2, h => by
    obtain ⟨a1, b1⟩ := List.pairwise_cons.1 h1
    obtain ⟨a2, b2⟩ := List.pairwise_cons.1 h2
    have e : x = y := by
      rcases List.mem_cons.1 ((h x).1 List.mem_cons_self) with e | hx
      · exact e
      · rcases List.mem_cons.1 ((h y).2 List.mem_cons_self) with e | hy
        · exact e.symm
        · have := a1 y hy; have := a2 x hx; omega
    subst e
    rw [sorted_eq key b1 b2 fun z => ⟨fun hz => ?_, fun hz => ?_⟩]
    · rcases List.mem_cons.1 ((h z).1 (List.mem_cons_of_mem _ hz)) with e | h'
      · have := a1 z hz; rw [e] at this; omega
      · exact h'
    · rcases List.mem_cons.1 ((h z).2 (List.mem_cons_of_mem _ hz)) with e | h'
      · have := a2 z hz; rw [e] at this; omega
      · exact h'
theorem Good.ids {cs : List Cp} (h : Good cs) {c : Cp} (hc : c ∈ cs) : 1 ≤ c.id ∧ c.id ≤ 24 := by
  obtain ⟨i, hi⟩ := List.mem_iff_getElem?.1 hc
  obtain ⟨h1, h2, _⟩ := h.one i c hi
  exact ⟨h1, h2⟩
end Go.Lg.Fld
end
section
namespace Go.Lg.Fld
open Go Go.Lg
end Go.Lg.Fld
end
section
namespace Go.Lg
open Go Go.RowKit
section
variable {P : Program} {n : Nat} {ops os : List Oper} {acc : List Eff} {K : List Eff → St → Prop} {s : List (Nat × LV)} {bx : List (Nat × Option Box)} {X : Nat → Option Obj} {σ : St}
end
section
variable {P : Program} {n : Nat} {C : Ctx} {c : Code} {Q : Exit → St → Prop} {X : Nat → Option Obj}
end
theorem Le.loose {n : Nat} {C : Ctx} {s : List (Nat × LV)} {bx : List (Nat × Option Box)} {X : Nat → Option Obj} {j : Nat} {e : TypeId} {A : List CV} {r : Bool} : Le n C ⟨s, (j, some ⟨e, A, r⟩) :: bx, X⟩ ⟨s, (j, some ⟨e, A, true⟩) :: bx, X⟩ := by
  have h := Le.trim (n := n) (C := C) (s := s) (bx := bx) (X := X) (j := j) (e := e) (A := A) (B := []) (r := r)
  rw [List.append_nil] at h
  exact h
end Go.Lg
end
section
namespace Go.Lg.Fld
open Go Go.Lg
def Ch.vals (x : Ch) : List Value := [.int .i64 x.kind, .int .i64 x.comp, .string ⟨x.fld.toArray⟩]
end Go.Lg.Fld
namespace Go.Proofs.YtklofjlbjahnaaaDoor
open Go Go.Lg Go.Lg.Fld
set_option maxRecDepth 100000
variable (X : Nat → Option Obj)
end Go.Proofs.YtklofjlbjahnaaaDoor
end
section
namespace Go.Proofs.YtklofjlbjahnaaaDoor
open Go Go.Lg Go.Lg.Fld
set_option maxRecDepth 100000
variable (X : Nat → Option Obj)
end Go.Proofs.YtklofjlbjahnaaaDoor
end
section
namespace Go.Lg.Fld
open Go Go.Lg
end Go.Lg.Fld
namespace Go.Proofs.YtklofjlbjahnaaaDoor
open Go Go.Lg Go.Lg.Fld
set_option maxRecDepth 100000
variable (X : Nat → Option Obj)
end Go.Proofs.YtklofjlbjahnaaaDoor
end
section
namespace Go.Lg.Fld
open Go Go.Lg
def sgn (neg : Bool) (m : Nat) : Int := if neg = true then -(m : Int) else m
theorem sgn_of (v : Int) : sgn (decide (v < 0)) v.natAbs = v := by
  unfold sgn
  by_cases h : v < 0
  · rw [decide_eq_true h, if_pos rfl]; omega
  · rw [decide_eq_false h, if_neg (by decide)]; omega
theorem sgn_mod (neg : Bool) (m : Nat) : (sgn neg m).tmod 10 = sgn neg (m % 10) := by
  unfold sgn
  cases neg with
  | false => rfl
  | true =>
    rw [if_pos rfl, if_pos rfl, Int.neg_tmod]
    rfl
theorem sgn_div (neg : Bool) (m : Nat) : (sgn neg m).tdiv 10 = sgn neg (m / 10) := by
  unfold sgn
  cases neg with
  | false => rfl
  | true =>
    rw [if_pos rfl, if_pos rfl, Int.neg_tdiv]
    rfl
def digI (u m : Nat) (s : List UInt8) : Prop := if m = 0 ∧ s ≠ [] then Lib.decDigits u = s else Lib.decDigits u = Lib.decDigits m ++ s
theorem digI_start (u : Nat) : digI u u [] := by
  unfold digI
  rw [if_neg (by simp), List.append_nil]
theorem digI_step {u m : Nat} {s : List UInt8} (h : digI u m s) (hm : ¬(m = 0 ∧ s ≠ [])) : digI u (m / 10) (UInt8.ofNat (48 + m % 10) :: s) := by
  unfold digI at h
  rw [if_neg hm] at h
  by_cases hl : m < 10
  · have e : m / 10 = 0 := by omega
    have e2 : m % 10 = m := by omega
    unfold digI
    rw [if_pos ⟨e, by simp⟩, h, e2, Lib.decDigits_one hl]
    rfl
  · unfold digI
    rw [if_neg (by omega), h]
    conv => lhs; rw [Lib.decDigits, dif_neg hl]
    rw [List.append_assoc]
    rfl
theorem digI_end {u : Nat} {s : List UInt8} (h : digI u 0 s) (hs : s ≠ []) : Lib.decDigits u = s := by
  unfold digI at h
  rw [if_pos ⟨rfl, hs⟩] at h
  exact h
theorem digI_len {u m : Nat} {s : List UInt8} (h : digI u m s) (hu : u < 18446744073709551616) : s.length ≤ 20 := by
  have h1 : (Lib.decDigits u).length ≤ 20 := by rw [Lib.decDigits_length]; exact Lib.nDigits_le20 u hu
  unfold digI at h
  split at h
  · rw [← h]; exact h1
  · rw [h, List.length_append] at h1; omega
theorem digit_toNat (p : Nat) (h : p < 10) : (UInt8.ofNat (48 + p)).toNat = 48 + p := by
  simp
  omega
end Go.Lg.Fld
namespace Go.Proofs.YtklofjlbjahnaaaDoor
open Go Go.Lg Go.Lg.Fld
set_option maxRecDepth 100000
variable (X : Nat → Option Obj)
set_option maxHeartbeats 1600000 in
theorem rDigits_spec (v : Int) (h0 : -9223372036854775808 ≤ v) (h1 : v < 9223372036854775808) :
    PSpec Tryd.prog X 35 [Ln .i64 v] (Ls (Lib.itoa v)) := by
  refine PSpec.intro Tryd.func35 rfl (by kernel_rfl) rfl rfl ?_
  intro C
  have hu : v.natAbs < 18446744073709551616 := by omega
  have hu2 : v.natAbs ≤ 9223372036854775808 := by omega
  have hneg : ∀ m : Nat, m < 10 → IntKind.i64.wrap (0 - sgn (decide (v < 0)) m) = sgn (!decide (v < 0)) m := fun m hm => by
    unfold sgn
    cases decide (v < 0) with
    | false => rw [if_neg (by decide), if_pos (by decide)]; refine (wrap_i64 ⟨?_, ?_⟩).trans ?_ <;> omega
    | true => rw [if_pos rfl, if_neg (by decide)]; refine (wrap_i64 ⟨?_, ?_⟩).trans ?_ <;> omega
  (refine LWP.seq <| LWP.region (by kernel_rfl) <| kas rfl <| RunK.nil <| LWP.seq <| LWP.region (by kernel_rfl) <| kas rfl <| RunK.nil <| LWP.seq <| LWP.region (by kernel_rfl) <| kmv rfl <| klt rfl rfl rfl <| kas rfl <| RunK.nil ?_; refine LWP.seq <| LWP.block ?_)
  refine LWP.loop (fun k σ => ∃ (m : Nat) (s : List UInt8), m ≤ v.natAbs ∧ digI v.natAbs m s ∧ k = m + (if s = [] then 1 else 0) ∧ σ = ⟨[(0, Ln .i64 (sgn (decide (v < 0)) m)), (3, Ls s), (4, Lb (decide (v < 0)))], [], X⟩) (v.natAbs + 1)
    ⟨⟨[(0, Ln .i64 v), (3, Ls []), (4, Lb (decide (v < 0)))], [], X⟩, Le.of (by exact ⟨rfl, rfl, rfl, trivial⟩) (by exact trivial) (by exact rfl) (by exact rfl) (by repeat' (first | refine all_cons_true ?_ ?_ | rfl | exact bytes_inUse | exact vals_inUse | exact mid_inUse rfl)), v.natAbs, [], Nat.le_refl _, digI_start _, by simp, by rw [sgn_of]⟩ ?_
  rintro k σ ⟨m, s, hm, hI, rfl, rfl⟩
  have hsl := digI_len hI hu
  by_cases hend : m = 0 ∧ s ≠ []
  · obtain ⟨rfl, hs⟩ := hend
    have he := digI_end hI hs
    have hse : (s == ([] : List UInt8)) = false := beq_eq_false_iff_ne.2 hs
    have hz : sgn (decide (v < 0)) 0 = 0 := by unfold sgn; split <;> rfl
    rw [hz]
    by_cases hv : v < 0
    · rw [show Lib.itoa v = 45 :: s by unfold Lib.itoa; rw [if_pos hv, he]]
      (refine LWP.seq <| LWP.seq <| LWP.region (by kernel_rfl) <| kmv rfl <| kse rfl rfl (strs_eq (r := false) hse) <| kmv rfl <| gmv rfl rfl rfl <| K.neq rfl rfl (r := false) rfl (.taken rfl rfl) ?_; refine kpf rfl rfl <| RunK.nil <| LWP.condF rfl ?_; refine LWP.exit <| LWP.seq <| LWP.seq <| LWP.region (by kernel_rfl) <| kmv (lv := Lb true) (congrArg (fun b => some (Lb b)) (decide_eq_true hv)) <| RunK.nil <| LWP.condT rfl ?_; refine LWP.region (by kernel_rfl) <| kmv rfl <| K.strAdd rfl rfl (Nat.le_trans (Nat.add_le_add_left hsl _) (by decide)) (str_add [45] s) .plain <| kas rfl <| RunK.nil <| LWP.seq <| LWP.region (by kernel_rfl) <| kmv rfl <| kas rfl <| RunK.nil <| LWP.ret ?_)
      exact ⟨[_], ⟨rfl, trivial⟩, rfl⟩
    · rw [show Lib.itoa v = s by unfold Lib.itoa; rw [if_neg hv, ← he]; congr 1; omega]
      (refine LWP.seq <| LWP.seq <| LWP.region (by kernel_rfl) <| kmv rfl <| kse rfl rfl (strs_eq (r := false) hse) <| kmv rfl <| gmv rfl rfl rfl <| K.neq rfl rfl (r := false) rfl (.taken rfl rfl) ?_; refine kpf rfl rfl <| RunK.nil <| LWP.condF rfl ?_; refine LWP.exit <| LWP.seq <| LWP.seq <| LWP.region (by kernel_rfl) <| kmv (lv := Lb false) (congrArg (fun b => some (Lb b)) (decide_eq_false hv)) <| RunK.nil <| LWP.condF rfl ?_; refine LWP.skip ?_; refine LWP.seq <| LWP.region (by kernel_rfl) <| kmv rfl <| kas rfl <| RunK.nil <| LWP.ret ?_)
      exact ⟨[_], ⟨rfl, trivial⟩, rfl⟩
  · have hst := digI_step hI hend
    have hp : m % 10 < 10 := Nat.mod_lt _ (by decide)
    have hmod := sgn_mod (decide (v < 0)) m
    have hdiv : IntKind.i64.wrap ((sgn (decide (v < 0)) m).tdiv 10) = sgn (decide (v < 0)) (m / 10) := by
      rw [sgn_div]
      unfold sgn
      refine wrap_i64 ⟨?_, ?_⟩ <;> split <;> omega
    have hd := digit_toNat (m % 10) hp
    have hadd : IntKind.i64.wrap (48 + ((m % 10 : Nat) : Int)) = ((48 + m % 10 : Nat) : Int) := by
      refine (wrap_i64 ⟨?_, ?_⟩).trans ?_ <;> omega
    have hcv : IntKind.u8.wrap ((48 + m % 10 : Nat) : Int) = (((UInt8.ofNat (48 + m % 10)).toNat : Nat) : Int) := by
      rw [hd]
      refine wrap_u8 ⟨?_, ?_⟩ <;> omega
    have hcut : ((([UInt8.ofNat (48 + m % 10)] : List UInt8).map bc).drop 0).take 1 = ([UInt8.ofNat (48 + m % 10)] : List UInt8).map bc := rfl
    have hless : m / 10 + 0 < m + (if s = [] then 1 else 0) := by
      by_cases hs : s = []
      · rw [if_pos hs]; omega
      · rw [if_neg hs]
        have : m ≠ 0 := fun h => hend ⟨h, hs⟩
        omega
    have hsa := str_add [UInt8.ofNat (48 + m % 10)] s
    have hszA : (⟨([UInt8.ofNat (48 + m % 10)] : List UInt8).toArray⟩ : ByteArray).size + (⟨s.toArray⟩ : ByteArray).size ≤ 9223372036854775807 := by
      show 1 + s.length ≤ _
      omega
    have hcond : (s == ([] : List UInt8)) = true ∨ ((s == ([] : List UInt8)) = false ∧ (sgn (decide (v < 0)) m != 0) = true) := by
      by_cases hs : s = []
      · exact .inl (beq_iff_eq.2 hs)
      · refine .inr ⟨beq_eq_false_iff_ne.2 hs, bne_iff_ne.2 ?_⟩
        have : m ≠ 0 := fun h => hend ⟨h, hs⟩
        unfold sgn
        split <;> omega
    have hsg : (sgn (decide (v < 0)) (m % 10) < 0 ∧ sgn (!decide (v < 0)) (m % 10) = ((m % 10 : Nat) : Int)) ∨ (¬ sgn (decide (v < 0)) (m % 10) < 0 ∧ sgn (decide (v < 0)) (m % 10) = ((m % 10 : Nat) : Int)) := by
      unfold sgn
      cases decide (v < 0) with
      | false => right; simp; omega
      | true =>
        by_cases h : m % 10 = 0
        · right; simp; omega
        · left; simp; omega
    have hn := hneg (m % 10) hp
    generalize sgn (decide (v < 0)) m = z at *
    generalize hz2 : sgn (decide (v < 0)) (m % 10) = z2 at *
    generalize sgn (!decide (v < 0)) (m % 10) = z3 at *
    generalize hb : UInt8.ofNat (48 + m % 10) = b at *
    rcases hcond with hc1 | ⟨hc1, hc2⟩
    · rcases hsg with ⟨hs1, hs2⟩ | ⟨hs1, hs2⟩
      · rw [hs2] at hn
        (refine LWP.seq <| LWP.seq <| LWP.region (by kernel_rfl) <| kmv rfl <| kse rfl rfl (strs_eq (r := true) hc1) <| kmv rfl <| RunK.passed rfl rfl rfl <| RunK.passed rfl rfl rfl <| kpt rfl rfl <| RunK.nil <| LWP.condT rfl ?_; refine LWP.skip ?_; refine LWP.block <| LWP.seq <| LWP.region (by kernel_rfl) <| kmv rfl <| K.rem rfl rfl (by decide) hmod .plain <| kas rfl <| RunK.nil <| LWP.seq <| LWP.seq <| LWP.region (by kernel_rfl) <| kmv rfl <| klt rfl rfl (decide_eq_true hs1) <| RunK.nil <| LWP.condT rfl ?_; refine LWP.region (by kernel_rfl) <| kmv rfl <| K.neg rfl hn .plain <| kas rfl <| RunK.nil <| LWP.seq <| LWP.region (by kernel_rfl) <| kmv rfl <| kad rfl rfl hadd <| kcv rfl hcv ?_; refine K.buildSlc (zs := [.int .u8 0]) (sz := 1) (e := 5) (cs' := [b].map bc) (by kernel_rfl) rfl rfl rfl rfl rfl rfl .plain <| K.convStr (l := [b]) rfl rfl (by kernel_rfl) StrT.u (Nat.le_refl _) hcut .plain <| kmv rfl <| K.strAdd rfl rfl hszA hsa .plain <| kas rfl <| RunK.nil <| LWP.region (by kernel_rfl) <| kmv rfl <| K.quo rfl rfl (by decide) hdiv .plain <| kas rfl <| RunK.nil ?_)
        exact ⟨m / 10 + 0, ⟨[(0, Ln .i64 (sgn (decide (v < 0)) (m / 10))), (3, Ls (b :: s)), (4, Lb (decide (v < 0)))], [], X⟩, hless, Le.of (by exact ⟨rfl, rfl, rfl, trivial⟩) (by exact trivial) (by exact rfl) (by exact rfl) (by repeat' (first | refine all_cons_true ?_ ?_ | rfl | exact bytes_inUse | exact vals_inUse | exact mid_inUse rfl)), m / 10, b :: s, by omega, hst, rfl, rfl⟩
      · subst hs2
        (refine LWP.seq <| LWP.seq <| LWP.region (by kernel_rfl) <| kmv rfl <| kse rfl rfl (strs_eq (r := true) hc1) <| kmv rfl <| RunK.passed rfl rfl rfl <| RunK.passed rfl rfl rfl <| kpt rfl rfl <| RunK.nil <| LWP.condT rfl ?_; refine LWP.skip ?_; refine LWP.block <| LWP.seq <| LWP.region (by kernel_rfl) <| kmv rfl <| K.rem rfl rfl (by decide) hmod .plain <| kas rfl <| RunK.nil <| LWP.seq <| LWP.seq <| LWP.region (by kernel_rfl) <| kmv rfl <| klt rfl rfl (decide_eq_false hs1) <| RunK.nil <| LWP.condF rfl ?_; refine LWP.skip ?_; refine LWP.seq <| LWP.region (by kernel_rfl) <| kmv rfl <| kad rfl rfl hadd <| kcv rfl hcv ?_; refine K.buildSlc (zs := [.int .u8 0]) (sz := 1) (e := 5) (cs' := [b].map bc) (by kernel_rfl) rfl rfl rfl rfl rfl rfl .plain <| K.convStr (l := [b]) rfl rfl (by kernel_rfl) StrT.u (Nat.le_refl _) hcut .plain <| kmv rfl <| K.strAdd rfl rfl hszA hsa .plain <| kas rfl <| RunK.nil <| LWP.region (by kernel_rfl) <| kmv rfl <| K.quo rfl rfl (by decide) hdiv .plain <| kas rfl <| RunK.nil ?_)
        exact ⟨m / 10 + 0, ⟨[(0, Ln .i64 (sgn (decide (v < 0)) (m / 10))), (3, Ls (b :: s)), (4, Lb (decide (v < 0)))], [], X⟩, hless, Le.of (by exact ⟨rfl, rfl, rfl, trivial⟩) (by exact trivial) (by exact rfl) (by exact rfl) (by repeat' (first | refine all_cons_true ?_ ?_ | rfl | exact bytes_inUse | exact vals_inUse | exact mid_inUse rfl)), m / 10, b :: s, by omega, hst, rfl, rfl⟩
    · rcases hsg with ⟨hs1, hs2⟩ | ⟨hs1, hs2⟩
      · rw [hs2] at hn
        (refine LWP.seq <| LWP.seq <| LWP.region (by kernel_rfl) <| kmv rfl <| kse rfl rfl (strs_eq (r := false) hc1) <| kmv rfl <| gmv rfl rfl rfl <| K.neq rfl rfl hc2 (.taken rfl rfl) ?_; refine kpf rfl rfl <| RunK.nil <| LWP.condT rfl ?_; refine LWP.skip ?_; refine LWP.block <| LWP.seq <| LWP.region (by kernel_rfl) <| kmv rfl <| K.rem rfl rfl (by decide) hmod .plain <| kas rfl <| RunK.nil <| LWP.seq <| LWP.seq <| LWP.region (by kernel_rfl) <| kmv rfl <| klt rfl rfl (decide_eq_true hs1) <| RunK.nil <| LWP.condT rfl ?_; refine LWP.region (by kernel_rfl) <| kmv rfl <| K.neg rfl hn .plain <| kas rfl <| RunK.nil <| LWP.seq <| LWP.region (by kernel_rfl) <| kmv rfl <| kad rfl rfl hadd <| kcv rfl hcv ?_; refine K.buildSlc (zs := [.int .u8 0]) (sz := 1) (e := 5) (cs' := [b].map bc) (by kernel_rfl) rfl rfl rfl rfl rfl rfl .plain <| K.convStr (l := [b]) rfl rfl (by kernel_rfl) StrT.u (Nat.le_refl _) hcut .plain <| kmv rfl <| K.strAdd rfl rfl hszA hsa .plain <| kas rfl <| RunK.nil <| LWP.region (by kernel_rfl) <| kmv rfl <| K.quo rfl rfl (by decide) hdiv .plain <| kas rfl <| RunK.nil ?_)
        exact ⟨m / 10 + 0, ⟨[(0, Ln .i64 (sgn (decide (v < 0)) (m / 10))), (3, Ls (b :: s)), (4, Lb (decide (v < 0)))], [], X⟩, hless, Le.of (by exact ⟨rfl, rfl, rfl, trivial⟩) (by exact trivial) (by exact rfl) (by exact rfl) (by repeat' (first | refine all_cons_true ?_ ?_ | rfl | exact bytes_inUse | exact vals_inUse | exact mid_inUse rfl)), m / 10, b :: s, by omega, hst, rfl, rfl⟩
      · subst hs2
        (refine LWP.seq <| LWP.seq <| LWP.region (by kernel_rfl) <| kmv rfl <| kse rfl rfl (strs_eq (r := false) hc1) <| kmv rfl <| gmv rfl rfl rfl <| K.neq rfl rfl hc2 (.taken rfl rfl) ?_; refine kpf rfl rfl <| RunK.nil <| LWP.condT rfl ?_; refine LWP.skip ?_; refine LWP.block <| LWP.seq <| LWP.region (by kernel_rfl) <| kmv rfl <| K.rem rfl rfl (by decide) hmod .plain <| kas rfl <| RunK.nil <| LWP.seq <| LWP.seq <| LWP.region (by kernel_rfl) <| kmv rfl <| klt rfl rfl (decide_eq_false hs1) <| RunK.nil <| LWP.condF rfl ?_; refine LWP.skip ?_; refine LWP.seq <| LWP.region (by kernel_rfl) <| kmv rfl <| kad rfl rfl hadd <| kcv rfl hcv ?_; refine K.buildSlc (zs := [.int .u8 0]) (sz := 1) (e := 5) (cs' := [b].map bc) (by kernel_rfl) rfl rfl rfl rfl rfl rfl .plain <| K.convStr (l := [b]) rfl rfl (by kernel_rfl) StrT.u (Nat.le_refl _) hcut .plain <| kmv rfl <| K.strAdd rfl rfl hszA hsa .plain <| kas rfl <| RunK.nil <| LWP.region (by kernel_rfl) <| kmv rfl <| K.quo rfl rfl (by decide) hdiv .plain <| kas rfl <| RunK.nil ?_)
        exact ⟨m / 10 + 0, ⟨[(0, Ln .i64 (sgn (decide (v < 0)) (m / 10))), (3, Ls (b :: s)), (4, Lb (decide (v < 0)))], [], X⟩, hless, Le.of (by exact ⟨rfl, rfl, rfl, trivial⟩) (by exact trivial) (by exact rfl) (by exact rfl) (by repeat' (first | refine all_cons_true ?_ ?_ | rfl | exact bytes_inUse | exact vals_inUse | exact mid_inUse rfl)), m / 10, b :: s, by omega, hst, rfl, rfl⟩
end Go.Proofs.YtklofjlbjahnaaaDoor
end
section
namespace Go.Lg.Sg
open Go Go.Lg
def bl (f : Nat → Bool) : List CV := (List.range 32).map fun j => .val (.bool (f j))
theorem bl_at {f : Nat → Bool} {i : Nat} (hi : i < 32) : (bl f)[i]? = some (.val (.bool (f i))) := by
  simp [bl, hi]
theorem bl_congr {f g : Nat → Bool} (h : ∀ j, j < 32 → f j = g j) : bl f = bl g := by
  unfold bl
  exact List.map_congr_left fun j hj => by rw [h j (List.mem_range.1 hj)]
theorem bl_set {f : Nat → Bool} {i : Nat} {b : Bool} (hi : i < 32) : (bl f).set i (.val (.bool b)) = bl (fun j => if j = i then b else f j) := by
  apply List.ext_getElem?
  intro j
  rw [List.getElem?_set]
  by_cases h : i = j
  · subst h
    simp [bl, hi]
  · rw [if_neg h]
    by_cases hj : j < 32
    · rw [bl_at hj, bl_at hj, if_neg (fun e => h e.symm)]
    · simp [bl, hj]
theorem bl_len (f : Nat → Bool) : (bl f).length = 32 := by unfold bl; rw [List.length_map, List.length_range]
theorem bl_blt {f : Nat → Bool} {i : Nat} (hi : i < 32) : Nat.blt i (bl f).length = true := by rw [bl_len]; unfold Nat.blt; rw [Nat.ble_eq]; exact hi
def idsTo (a n : Nat) : List Int := ((List.range n).filter fun i => a.testBit (i + 1)).map fun i => ((i + 1 : Nat) : Int)
def idsL (a : Nat) : List Int := idsTo a 24
theorem idsTo_succ (a n : Nat) : idsTo a (n + 1) = idsTo a n ++ if a.testBit (n + 1) = true then [((n + 1 : Nat) : Int)] else [] := by
  unfold idsTo
  rw [List.range_succ, List.filter_append, List.map_append]
  congr 1
  by_cases h : a.testBit (n + 1) = true <;> simp [h]
theorem idsTo_len (a n : Nat) : (idsTo a n).length ≤ n := by
  unfold idsTo
  rw [List.length_map]
  exact Nat.le_trans (List.length_filter_le _ _) (by rw [List.length_range]; exact Nat.le_refl _)
def okI (id : Int) : Bool := decide (1 ≤ id) && decide (id ≤ 24)
theorem okI_iff {id : Int} : okI id = true ↔ 1 ≤ id ∧ id ≤ 24 := by unfold okI; simp
def hasB (a : Nat) (id : Int) : Bool := okI id && a.testBit id.toNat
theorem mem_ids {a n : Nat} {id : Int} : id ∈ idsTo a n ↔ 1 ≤ id ∧ id ≤ n ∧ a.testBit id.toNat = true := by
  unfold idsTo
  rw [List.mem_map]
  constructor
  · rintro ⟨i, hi, rfl⟩
    obtain ⟨h1, h2⟩ := List.mem_filter.1 hi
    have := List.mem_range.1 h1
    exact ⟨by omega, by omega, by rw [show ((i + 1 : Nat) : Int).toNat = i + 1 from rfl]; exact h2⟩
  · rintro ⟨h1, h2, h3⟩
    refine ⟨id.toNat - 1, List.mem_filter.2 ⟨List.mem_range.2 (by omega), ?_⟩, by omega⟩
    rw [show id.toNat - 1 + 1 = id.toNat by omega]
    exact h3
theorem any_ids {a : Nat} {id : Int} : (idsL a).any (fun x => x == id) = hasB a id := by
  rw [Bool.eq_iff_iff, List.any_eq_true]
  unfold hasB
  rw [Bool.and_eq_true, okI_iff]
  constructor
  · rintro ⟨x, hx, he⟩
    rw [beq_iff_eq.1 he] at hx
    obtain ⟨h1, h2, h3⟩ := mem_ids.1 hx
    exact ⟨⟨h1, h2⟩, h3⟩
  · rintro ⟨⟨h1, h2⟩, h3⟩
    exact ⟨id, mem_ids.2 ⟨h1, h2, h3⟩, beq_iff_eq.2 rfl⟩
def badI (i : Nat) : Bool := decide (i < 1) || decide (24 < i)
def isB (a : Nat) : Bool := (List.range 32).all fun i => !(a.testBit i && badI i)
theorem isB_iff {a : Nat} : isB a = true ↔ ∀ i, i < 32 → a.testBit i = true → 1 ≤ i ∧ i ≤ 24 := by
  unfold isB badI
  rw [List.all_eq_true]
  constructor
  · intro h i hi hb
    have := h i (List.mem_range.2 hi)
    rw [hb] at this
    simp at this
    omega
  · intro h i hi
    have hi := List.mem_range.1 hi
    cases hb : a.testBit i with
    | false => rfl
    | true =>
      obtain ⟨h1, h2⟩ := h i hi hb
      rw [decide_eq_false (by omega), decide_eq_false (by omega)]
      rfl
theorem half_bit (a i : Nat) : (a / 2 ^ i % 2 == 1) = a.testBit i := by
  rw [Nat.testBit_eq_decide_div_mod_eq]
  by_cases h : a / 2 ^ i % 2 = 1
  · rw [decide_eq_true h]; exact beq_iff_eq.2 h
  · rw [decide_eq_false h]; exact beq_eq_false_iff_ne.2 h
theorem half_next (a i : Nat) : a / 2 ^ i / 2 = a / 2 ^ (i + 1) := by rw [Nat.div_div_eq_div_mul, ← Nat.pow_succ]
end Go.Lg.Sg
namespace Go.Proofs.YtklofjlbjahnaaaDoor
open Go Go.Lg Go.Lg.Fld Go.Lg.Sg
set_option maxRecDepth 100000
variable (X : Nat → Option Obj)
instance : ArrB Tryd.prog 54 (List.replicate 32 (.bool false)) 1 := ⟨by kernel_rfl⟩
abbrev blB (k : Nat) (f : Nat → Bool) : Nat × Option Box := (k, some ⟨54, bl f, false⟩)
theorem rBits_spec (a : Nat) (ha : a < 4294967296) : PSpec Tryd.prog X 27 [Ln .u32 (a : Nat)] (.sv (.agg (bl a.testBit))) := by
  refine PSpec.intro Tryd.func27 rfl (by kernel_rfl) rfl rfl ?_
  intro C
  (refine LWP.seq <| LWP.region (by kernel_rfl) <| K.alloc rfl .plain ?_; refine RunK.nil <| LWP.seq <| LWP.region (by kernel_rfl) <| K.buildArr rfl rfl (by exact rfl) rfl .plain ?_; refine K.alloc rfl .plain ?_; refine K.storeAll rfl rfl rfl rfl rfl rfl .plain ?_; refine RunK.nil <| LWP.seq <| LWP.seq <| LWP.region (by kernel_rfl) <| kas rfl <| RunK.nil <| LWP.block ?_)
  refine LWP.loop (fun m σ => ∃ i : Nat, i ≤ 32 ∧ m = 32 - i ∧ σ = ⟨[(0, Ln .u32 (a / 2 ^ i : Nat)), (2, Lp 2), (3, Lp 3), (4, Ln .i64 (i : Nat))], [blB 2 fun _ => false, blB 3 fun j => decide (j < i) && a.testBit j], X⟩) 32
    ⟨⟨[(0, Ln .u32 (a / 2 ^ 0 : Nat)), (2, Lp 2), (3, Lp 3), (4, Ln .i64 (0 : Nat))], [blB 2 fun _ => false, blB 3 fun j => decide (j < 0) && a.testBit j], X⟩, by
      rw [show a / 2 ^ 0 = a from Nat.div_one a]
      exact Le.of (by exact ⟨rfl, rfl, rfl, rfl, trivial⟩) (by exact ⟨rfl, rfl, trivial⟩) (by exact rfl) (by exact rfl) (by repeat' (first | refine all_cons_true ?_ ?_ | rfl | exact bytes_inUse | exact vals_inUse | exact mid_inUse rfl)), 0, by omega, rfl, rfl⟩ ?_
  rintro m σ ⟨i, hi, rfl, rfl⟩
  by_cases hlt : i < 32
  · have hb := half_bit a i
    have hmod : (((a / 2 ^ i : Nat) : Int)).tmod ((2 : Nat) : Int) = ((a / 2 ^ i % 2 : Nat) : Int) := rfl
    have hquo : IntKind.u32.wrap ((((a / 2 ^ i : Nat) : Int)).tdiv ((2 : Nat) : Int)) = ((a / 2 ^ (i + 1) : Nat) : Int) := by
      rw [← half_next]
      refine wrap_u32 ⟨Int.natCast_nonneg _, ?_⟩
      have : a / 2 ^ i / 2 ≤ a := Nat.le_trans (Nat.div_le_self _ _) (Nat.div_le_self _ _)
      show ((a / 2 ^ i / 2 : Nat) : Int) < _
      omega
    have heq : (((a / 2 ^ i % 2 : Nat) : Int) == 1) = a.testBit i := by
      rw [← hb]
      by_cases h : a / 2 ^ i % 2 = 1
      · rw [h]; rfl
      · rw [beq_eq_false_iff_ne.2 h, beq_eq_false_iff_ne.2 (by omega)]
    have hi0 : 0 + Int.toNat (i : Int) * 1 = i := by simp
    have hset := (bl_set (f := fun j => decide (j < i) && a.testBit j) (b := a.testBit i) hlt).trans (bl_congr (g := fun j => decide (j < i + 1) && a.testBit j) fun j _ => by
      by_cases e : j = i
      · rw [if_pos e, e, decide_eq_true (by omega), Bool.true_and]
      · rw [if_neg e]
        congr 1
        by_cases h : j < i
        · rw [decide_eq_true h, decide_eq_true (by omega)]
        · rw [decide_eq_false h, decide_eq_false (by omega)])
    (refine LWP.seq <| LWP.seq <| LWP.region (by kernel_rfl) <| kmv rfl <| klt rfl rfl (decide_eq_true (by omega)) <| RunK.nil <| LWP.condT rfl ?_; refine LWP.skip ?_; refine LWP.seq <| LWP.block <| LWP.seq <| LWP.region (by kernel_rfl) <| kmv rfl <| kmv rfl <| K.rem rfl rfl (by decide) hmod .plain <| keq rfl rfl heq <| K.indexArr rfl rfl (by omega) hi0 .plain ?_; refine K.storeOne rfl rfl rfl rfl (bl_blt hlt) hset .plain <| RunK.nil <| LWP.region (by kernel_rfl) <| kmv rfl <| K.quo rfl rfl (by decide) hquo .plain <| kas rfl <| RunK.nil <| LWP.region (by kernel_rfl) <| kmv rfl <| kad rfl rfl (wrap_i64 (by omega)) <| kas rfl <| RunK.nil ?_)
    exact ⟨_, ⟨[(0, Ln .u32 (a / 2 ^ (i + 1) : Nat)), (2, Lp 2), (3, Lp 3), (4, Ln .i64 (i + 1 : Nat))], [blB 2 fun _ => false, blB 3 fun j => decide (j < i + 1) && a.testBit j], X⟩, by omega, Le.of (by exact ⟨rfl, rfl, rfl, rfl, trivial⟩) (by exact ⟨rfl, rfl, trivial⟩) (by exact rfl) (by exact rfl) (by repeat' (first | refine all_cons_true ?_ ?_ | rfl | exact bytes_inUse | exact vals_inUse | exact mid_inUse rfl)), i + 1, by omega, rfl, rfl⟩
  · have e : i = 32 := by omega
    subst e
    have h32 : blB 3 (fun j => decide (j < 32) && a.testBit j) = blB 3 a.testBit := congrArg (fun c => ((3, some ⟨54, c, false⟩) : Nat × Option Box)) (bl_congr fun j hj => by rw [decide_eq_true hj, Bool.true_and])
    rw [h32]
    (refine LWP.seq <| LWP.seq <| LWP.region (by kernel_rfl) <| kmv rfl <| klt rfl rfl (r := false) rfl <| RunK.nil <| LWP.condF rfl ?_; refine LWP.exit <| LWP.seq <| LWP.region (by kernel_rfl) <| K.loadAll rfl rfl rfl .plain ?_; refine K.storeAll rfl rfl rfl rfl rfl rfl .plain ?_; refine RunK.nil <| LWP.ret ?_)
    exact ⟨[_], ⟨⟨_, _, rfl, rfl, rfl, .inl ⟨AggT.h, rfl⟩⟩, trivial⟩, rfl⟩
end Go.Proofs.YtklofjlbjahnaaaDoor
end
section
namespace Go.Lg.Sg
open Go Go.Lg
def txStep (s : List UInt8 × Bool) (x : Int) : List UInt8 × Bool := (s.1 ++ (if s.2 = true then [43] else []) ++ Lib.itoa x, true)
def txF (l : List Int) : List UInt8 × Bool := l.foldl txStep ([], false)
def textT (a : Nat) : List UInt8 := if idsL a = [] then [45] else (txF (idsL a)).1
theorem txF_snoc {l : List Int} {i : Nat} {x : Int} (h : l[i]? = some x) : txF (l.take (i + 1)) = txStep (txF (l.take i)) x := by
  unfold txF
  rw [Fld.take_snoc h, List.foldl_append]
  rfl
theorem txF_flag (l : List Int) : (txF l).2 = !l.isEmpty := by
  unfold txF
  suffices h : ∀ (l : List Int) (s : List UInt8 × Bool), (l.foldl txStep s).2 = (s.2 || !l.isEmpty) by rw [h]; rfl
  intro l
  induction l with
  | nil => intro s; simp
  | cons x t ih => intro s; rw [List.foldl_cons, ih]; simp [txStep]
theorem txF_len (l : List Int) (h : ∀ x ∈ l, -9223372036854775808 ≤ x ∧ x ≤ 9223372036854775807) : (txF l).1.length ≤ 22 * l.length := by
  unfold txF
  suffices H : ∀ (l : List Int) (s : List UInt8 × Bool), (∀ x ∈ l, -9223372036854775808 ≤ x ∧ x ≤ 9223372036854775807) → (l.foldl txStep s).1.length ≤ s.1.length + 22 * l.length by
    have := H l ([], false) h
    simpa using this
  intro l
  induction l with
  | nil => intro s _; simp
  | cons x t ih =>
    intro s h
    rw [List.foldl_cons]
    have h1 := ih (txStep s x) fun y hy => h y (List.mem_cons_of_mem _ hy)
    have h2 := Lib.itoa_length_le x (h x (List.mem_cons_self ..)).1 (h x (List.mem_cons_self ..)).2
    have h3 : (txStep s x).1.length ≤ s.1.length + 22 := by
      unfold txStep
      simp only [List.length_append]
      split <;> simp <;> omega
    rw [List.length_cons]
    omega
def ofN (ids : List Int) : Nat := ids.foldl (fun n id => n ||| 2 ^ id.toNat) 0
theorem ofN_bit (ids : List Int) (j : Nat) : (ofN ids).testBit j = ids.any fun id => id.toNat == j := by
  unfold ofN
  suffices H : ∀ (l : List Int) (n : Nat), (l.foldl (fun n id => n ||| 2 ^ id.toNat) n).testBit j = (n.testBit j || l.any fun id => id.toNat == j) by
    rw [H, Nat.zero_testBit, Bool.false_or]
  intro l
  induction l with
  | nil => intro n; simp
  | cons x t ih =>
    intro n
    rw [List.foldl_cons, ih, Nat.testBit_or, Nat.testBit_two_pow, List.any_cons, Bool.or_assoc]
    congr 2
theorem ofN_lt {ids : List Int} (h : ∀ id ∈ ids, okI id = true) : ofN ids < 33554432 := by
  refine Nat.lt_pow_two_of_testBit (n := 25) _ fun i hi => ?_
  rw [ofN_bit, List.any_eq_false]
  intro id hid e
  have := okI_iff.1 (h id hid)
  have := beq_iff_eq.1 e
  omega
theorem ofN_isB {ids : List Int} (h : ∀ id ∈ ids, okI id = true) : isB (ofN ids) = true := by
  rw [isB_iff]
  intro i _ hb
  rw [ofN_bit, List.any_eq_true] at hb
  obtain ⟨id, hid, e⟩ := hb
  have := okI_iff.1 (h id hid)
  have := beq_iff_eq.1 e
  omega
def okIds (ids : List Int) : Bool := ids.all okI
def ofA (ids : List Int) : Nat := if okIds ids = true then ofN ids else 0
theorem half_step (n i : Nat) : n / 2 ^ i = 2 * (n / 2 ^ (i + 1)) + if n.testBit i = true then 1 else 0 := by
  rw [← half_next]
  have hb := half_bit n i
  have := Nat.div_add_mod (n / 2 ^ i) 2
  have := Nat.mod_lt (n / 2 ^ i) (show 0 < 2 by decide)
  cases ht : n.testBit i with
  | true =>
    rw [ht] at hb
    have := beq_iff_eq.1 hb
    rw [if_pos rfl]; omega
  | false =>
    rw [ht] at hb
    have := beq_eq_false_iff_ne.1 hb
    rw [if_neg (by decide)]; omega
end Go.Lg.Sg
namespace Go.Proofs.YtklofjlbjahnaaaDoor
open Go Go.Lg Go.Lg.Fld Go.Lg.Sg
set_option maxRecDepth 100000
variable (X : Nat → Option Obj)
theorem rIs_spec (a : Nat) (ha : a < 4294967296) : PSpec Tryd.prog X 14 [Ln .u32 (a : Nat)] (Lb (isB a)) := by
  have hB := rBits_spec X a ha
  refine PSpec.intro Tryd.func14 rfl (by kernel_rfl) rfl rfl ?_
  intro C
  (refine LWP.seq <| LWP.region (by kernel_rfl) <| kas rfl <| RunK.nil <| LWP.seq <| LWP.region (by kernel_rfl) <| kmv rfl <| kca rfl rfl (hB) <| K.alloc rfl .plain ?_; refine K.storeAll rfl rfl rfl rfl rfl rfl .plain ?_; refine RunK.nil <| LWP.seq <| LWP.seq <| LWP.region (by kernel_rfl) <| kas rfl <| RunK.nil <| LWP.block ?_)
  refine LWP.loop (fun m σ => ∃ i : Nat, i ≤ 32 ∧ m = 32 - i ∧ (∀ j, j < i → (a.testBit j && badI j) = false) ∧ σ = ⟨[(3, Lp 3), (4, Ln .i64 (i : Nat))], [blB 3 a.testBit], X⟩) 32
    ⟨⟨[(3, Lp 3), (4, Ln .i64 (0 : Nat))], [blB 3 a.testBit], X⟩, Le.of (by exact ⟨rfl, rfl, trivial⟩) (by exact ⟨rfl, trivial⟩) (by exact rfl) (by exact rfl) (by repeat' (first | refine all_cons_true ?_ ?_ | rfl | exact bytes_inUse | exact vals_inUse | exact mid_inUse rfl)), 0, by omega, rfl, fun j h => absurd h (by omega), rfl⟩ ?_
  rintro m σ ⟨i, hi, rfl, hpre, rfl⟩
  by_cases hlt : i < 32
  · have hi0 : 0 + Int.toNat (i : Int) * 1 = i := by simp
    have hat := bl_at (f := a.testBit) hlt
    have next : ∀ (h : (a.testBit i && badI i) = false), ∀ j, j < i + 1 → (a.testBit j && badI j) = false := fun h j hj => by
      by_cases e : j = i
      · rw [e]; exact h
      · exact hpre j (by omega)
    cases hb : a.testBit i with
    | false =>
      rw [hb] at hat
      (refine LWP.seq <| LWP.seq <| LWP.region (by kernel_rfl) <| kmv rfl <| klt rfl rfl (decide_eq_true (by omega)) <| RunK.nil <| LWP.condT rfl ?_; refine LWP.skip ?_; refine LWP.seq <| LWP.block <| LWP.seq <| LWP.region (by kernel_rfl) <| kmv rfl <| K.indexArr rfl rfl (by omega) hi0 .plain ?_; refine kl1 rfl rfl hat <| kmv rfl <| RunK.passed rfl rfl rfl <| RunK.passed rfl rfl rfl <| RunK.passed rfl rfl rfl <| RunK.passedU rfl rfl <| RunK.passedU rfl rfl <| RunK.passed rfl rfl rfl <| kpf rfl rfl <| RunK.nil <| LWP.condF rfl ?_; refine LWP.skip ?_; refine LWP.region (by kernel_rfl) <| kmv rfl <| kad rfl rfl (wrap_i64 (by omega)) <| kas rfl <| RunK.nil ?_)
      exact ⟨_, ⟨[(3, Lp 3), (4, Ln .i64 (i + 1 : Nat))], [blB 3 a.testBit], X⟩, by omega, Le.of (by exact ⟨rfl, rfl, trivial⟩) (by exact ⟨rfl, trivial⟩) (by exact rfl) (by exact rfl) (by repeat' (first | refine all_cons_true ?_ ?_ | rfl | exact bytes_inUse | exact vals_inUse | exact mid_inUse rfl)), i + 1, by omega, rfl, next (by rw [hb]; rfl), rfl⟩
    | true =>
      rw [hb] at hat
      have no : badI i = true → isB a = false := fun h => by
        unfold isB
        rw [List.all_eq_false]
        exact ⟨i, List.mem_range.2 hlt, by rw [hb, h]; decide⟩
      by_cases h1 : i < 1
      · rw [no (by unfold badI; rw [decide_eq_true h1]; rfl)]
        (refine LWP.seq <| LWP.seq <| LWP.region (by kernel_rfl) <| kmv rfl <| klt rfl rfl (decide_eq_true (by omega)) <| RunK.nil <| LWP.condT rfl ?_; refine LWP.skip ?_; refine LWP.seq <| LWP.block <| LWP.seq <| LWP.region (by kernel_rfl) <| kmv rfl <| K.indexArr rfl rfl (by omega) hi0 .plain ?_; refine kl1 rfl rfl hat <| kmv rfl <| gmv rfl rfl rfl <| K.lss rfl rfl (decide_eq_true (by omega)) (.taken rfl rfl) ?_; refine gmv rfl rfl rfl <| RunK.passed rfl rfl rfl <| RunK.passed rfl rfl rfl <| K.pickT rfl rfl (.taken rfl rfl) ?_; refine kpt rfl rfl <| RunK.nil <| LWP.condT rfl ?_; refine LWP.seq <| LWP.region (by kernel_rfl) <| kas rfl <| RunK.nil <| LWP.ret ?_)
        exact ⟨[_], ⟨rfl, trivial⟩, rfl⟩
      by_cases h2 : 24 < i
      · rw [no (by unfold badI; rw [decide_eq_true h2, Bool.or_true])]
        (refine LWP.seq <| LWP.seq <| LWP.region (by kernel_rfl) <| kmv rfl <| klt rfl rfl (decide_eq_true (by omega)) <| RunK.nil <| LWP.condT rfl ?_; refine LWP.skip ?_; refine LWP.seq <| LWP.block <| LWP.seq <| LWP.region (by kernel_rfl) <| kmv rfl <| K.indexArr rfl rfl (by omega) hi0 .plain ?_; refine kl1 rfl rfl hat <| kmv rfl <| gmv rfl rfl rfl <| K.lss rfl rfl (decide_eq_false (by omega)) (.taken rfl rfl) ?_; refine gmv rfl rfl rfl <| gmv rfl rfl rfl <| K.gtr rfl rfl (decide_eq_true (by omega)) (.taken rfl rfl) ?_; refine K.pickF rfl rfl (.taken rfl rfl) ?_; refine kpt rfl rfl <| RunK.nil <| LWP.condT rfl ?_; refine LWP.seq <| LWP.region (by kernel_rfl) <| kas rfl <| RunK.nil <| LWP.ret ?_)
        exact ⟨[_], ⟨rfl, trivial⟩, rfl⟩
      (refine LWP.seq <| LWP.seq <| LWP.region (by kernel_rfl) <| kmv rfl <| klt rfl rfl (decide_eq_true (by omega)) <| RunK.nil <| LWP.condT rfl ?_; refine LWP.skip ?_; refine LWP.seq <| LWP.block <| LWP.seq <| LWP.region (by kernel_rfl) <| kmv rfl <| K.indexArr rfl rfl (by omega) hi0 .plain ?_; refine kl1 rfl rfl hat <| kmv rfl <| gmv rfl rfl rfl <| K.lss rfl rfl (decide_eq_false (by omega)) (.taken rfl rfl) ?_; refine gmv rfl rfl rfl <| gmv rfl rfl rfl <| K.gtr rfl rfl (decide_eq_false (by omega)) (.taken rfl rfl) ?_; refine K.pickF rfl rfl (.taken rfl rfl) ?_; refine kpt rfl rfl <| RunK.nil <| LWP.condF rfl ?_; refine LWP.skip ?_; refine LWP.region (by kernel_rfl) <| kmv rfl <| kad rfl rfl (wrap_i64 (by omega)) <| kas rfl <| RunK.nil ?_)
      exact ⟨_, ⟨[(3, Lp 3), (4, Ln .i64 (i + 1 : Nat))], [blB 3 a.testBit], X⟩, by omega, Le.of (by exact ⟨rfl, rfl, trivial⟩) (by exact ⟨rfl, trivial⟩) (by exact rfl) (by exact rfl) (by repeat' (first | refine all_cons_true ?_ ?_ | rfl | exact bytes_inUse | exact vals_inUse | exact mid_inUse rfl)), i + 1, by omega, rfl, next (by unfold badI; rw [decide_eq_false h1, decide_eq_false h2, Bool.or_false, Bool.and_false]), rfl⟩
  · have e : i = 32 := by omega
    subst e
    rw [show isB a = true by
      unfold isB
      rw [List.all_eq_true]
      intro j hj
      rw [hpre j (List.mem_range.1 hj)]
      rfl]
    (refine LWP.seq <| LWP.seq <| LWP.region (by kernel_rfl) <| kmv rfl <| klt rfl rfl (r := false) rfl <| RunK.nil <| LWP.condF rfl ?_; refine LWP.exit <| LWP.seq <| LWP.region (by kernel_rfl) <| kas rfl <| RunK.nil <| LWP.ret ?_)
    exact ⟨[_], ⟨rfl, trivial⟩, rfl⟩
theorem rIds_spec (a : Nat) (ha : a < 4294967296) : MSpec Tryd.prog X 8 [Ln .u32 (a : Nat)] [] (.sv (.one (.slc 1000001 0 (idsL a).length))) [nuB 1000001 (idsL a)] := by
  have hB := rBits_spec X a ha
  refine MSpec.intro Tryd.func8 rfl (by kernel_rfl) rfl rfl (by exact (by repeat' (first | refine all_cons_true ?_ ?_ | rfl | exact bytes_inUse | exact vals_inUse | exact mid_inUse rfl))) rfl rfl ?_
  intro C
  have hrl : ∀ l : List Int, ((nuV l).map CV.val).length = l.length * 1 := fun l => by unfold nuV; rw [List.length_map, List.length_map, Nat.mul_one]
  refine LWP.ends ?_
  (refine LWP.seq <| LWP.region (by kernel_rfl) <| kas rfl <| RunK.nil <| LWP.seq <| LWP.region (by kernel_rfl) <| kmv rfl <| kca rfl rfl (hB) <| K.alloc rfl .plain ?_; refine K.storeAll rfl rfl rfl rfl rfl rfl .plain ?_; refine RunK.nil <| LWP.seq <| LWP.region (by kernel_rfl) <| K.buildSlc (zs := []) (sz := 1) (e := 3) (by kernel_rfl) rfl rfl rfl rfl rfl rfl .plain <| kas rfl <| RunK.nil <| LWP.seq <| LWP.seq <| LWP.region (by kernel_rfl) <| kas rfl <| RunK.nil <| LWP.block ?_)
  refine LWP.loop (fun m σ => ∃ (i : Nat) (r : Bool), i ≤ 24 ∧ m = 24 - i ∧ σ = ⟨[(3, Lp 3), (4, .sv (.one (.slc 500 0 (idsTo a i).length))), (5, Ln .i64 ((i + 1 : Nat) : Int))], [blB 3 a.testBit, nuB' 500 (idsTo a i) r], X⟩) 24
    ⟨⟨[(3, Lp 3), (4, .sv (.one (.slc 500 0 (idsTo a 0).length))), (5, Ln .i64 ((0 + 1 : Nat) : Int))], [blB 3 a.testBit, nuB' 500 (idsTo a 0) false], X⟩, Le.ofR [(500, 8)] (by exact ⟨rfl, rfl, rfl, trivial⟩) (by repeat' (first | exact trivial | refine And.intro ⟨_, rfl, ?_⟩ ?_ | refine And.intro ⟨_, rfl⟩ ?_ | rfl | exact Box.ren_bytes _ _ _ _ | exact Box.ren_vals _ _ _ _ | exact Box.ren_mid rfl)) (by exact rfl) (by exact rfl) (by repeat' (first | refine all_cons_true ?_ ?_ | rfl | exact bytes_inUse | exact vals_inUse | exact mid_inUse rfl)) (by exact rfl) (by exact rfl), 0, false, by omega, rfl, rfl⟩ ?_
  rintro m σ ⟨i, r, hi, rfl, rfl⟩
  have hlen := idsTo_len a i
  by_cases hlt : i < 24
  · have hi0 : 0 + Int.toNat (((i + 1 : Nat) : Int)) * 1 = i + 1 := by simp
    have hat := bl_at (f := a.testBit) (i := i + 1) (by omega)
    have hsn := idsTo_succ a i
    have hle : ((i + 1 : Nat) : Int) ≤ 24 := by omega
    have hin : 0 ≤ ((i + 1 : Nat) : Int) ∧ ((i + 1 : Nat) : Int) < (32 : Nat) := by omega
    cases hb : a.testBit (i + 1) with
    | false =>
      rw [hb] at hat
      rw [hb, if_neg (by decide), List.append_nil] at hsn
      (refine LWP.seq <| LWP.seq <| LWP.region (by kernel_rfl) <| kmv rfl <| K.leq rfl rfl (decide_eq_true hle) .plain <| RunK.nil <| LWP.condT rfl ?_; refine LWP.skip ?_; refine LWP.seq <| LWP.block <| LWP.seq <| LWP.region (by kernel_rfl) <| kmv rfl <| K.indexArr rfl rfl hin hi0 .plain ?_; refine kl1 rfl rfl hat <| RunK.nil <| LWP.condF rfl ?_; refine LWP.skip ?_; refine LWP.region (by kernel_rfl) <| kmv rfl <| kad rfl rfl (wrap_i64 (by omega)) <| kas rfl <| RunK.nil ?_)
      exact ⟨_, ⟨[(3, Lp 3), (4, .sv (.one (.slc 500 0 (idsTo a i).length))), (5, Ln .i64 ((i + 1 + 1 : Nat) : Int))], [blB 3 a.testBit, nuB' 500 (idsTo a i) r], X⟩, by omega, Le.of (by exact ⟨rfl, rfl, rfl, trivial⟩) (by exact ⟨rfl, rfl, trivial⟩) (by exact rfl) (by exact rfl) (by repeat' (first | refine all_cons_true ?_ ?_ | rfl | exact bytes_inUse | exact vals_inUse | exact mid_inUse rfl)), i + 1, r, by omega, rfl, by rw [hsn]⟩
    | true =>
      rw [hb] at hat
      rw [hb, if_pos rfl] at hsn
      generalize idsTo a i = l at *
      have hnc : (nuV l).map CV.val ++ [.val (.int .i64 ((i + 1 : Nat) : Int))] = (nuV (l ++ [((i + 1 : Nat) : Int)])).map CV.val := by unfold nuV; rw [List.map_append, List.map_append]; rfl
      have hnl : l.length + 1 = (l ++ [((i + 1 : Nat) : Int)]).length := by rw [List.length_append]; rfl
      (refine LWP.seq <| LWP.seq <| LWP.region (by kernel_rfl) <| kmv rfl <| K.leq rfl rfl (decide_eq_true hle) .plain <| RunK.nil <| LWP.condT rfl ?_; refine LWP.skip ?_; refine LWP.seq <| LWP.block <| LWP.seq <| LWP.region (by kernel_rfl) <| kmv rfl <| K.indexArr rfl rfl hin hi0 .plain ?_; refine kl1 rfl rfl hat <| RunK.nil <| LWP.condT rfl ?_; refine LWP.region (by kernel_rfl) <| kmv rfl <| kmv rfl <| K.buildSlc (zs := [.int .i64 0]) (sz := 1) (e := 3) (cs' := [.val (.int .i64 ((i + 1 : Nat) : Int))]) (by kernel_rfl) rfl rfl rfl rfl rfl rfl .plain <| K.appendSlc (by_ := 8) (e2 := 3) (l2 := [.val (.int .i64 ((i + 1 : Nat) : Int))]) (nl := (l ++ [((i + 1 : Nat) : Int)]).length) (nc := (nuV (l ++ [((i + 1 : Nat) : Int)])).map .val) rfl rfl (hrl l) rfl rfl (Nat.le_refl _) rfl rfl (by kernel_rfl) (by kernel_rfl) (by omega) (by omega) rfl hnl hnc .plain <| kas rfl <| RunK.nil <| LWP.region (by kernel_rfl) <| kmv rfl <| kad rfl rfl (wrap_i64 (by omega)) <| kas rfl <| RunK.nil ?_)
      exact ⟨_, ⟨[(3, Lp 3), (4, .sv (.one (.slc 500 0 (l ++ [((i + 1 : Nat) : Int)]).length))), (5, Ln .i64 ((i + 1 + 1 : Nat) : Int))], [blB 3 a.testBit, nuB' 500 (l ++ [((i + 1 : Nat) : Int)]) true], X⟩, by omega, Le.ofR [(500, 19)] (by exact ⟨rfl, rfl, rfl, trivial⟩) (by repeat' (first | exact trivial | refine And.intro ⟨_, rfl, ?_⟩ ?_ | refine And.intro ⟨_, rfl⟩ ?_ | rfl | exact Box.ren_bytes _ _ _ _ | exact Box.ren_vals _ _ _ _ | exact Box.ren_mid rfl)) (by exact rfl) (by exact rfl) (by repeat' (first | refine all_cons_true ?_ ?_ | rfl | exact bytes_inUse | exact vals_inUse | exact mid_inUse rfl)) (by exact rfl) (by exact rfl), i + 1, true, by omega, rfl, by rw [hsn]⟩
  · have e : i = 24 := by omega
    subst e
    rw [show idsTo a 24 = idsL a from rfl]
    (refine LWP.seq <| LWP.seq <| LWP.region (by kernel_rfl) <| kmv rfl <| K.leq rfl rfl (r := false) rfl .plain <| RunK.nil <| LWP.condF rfl ?_; refine LWP.exit <| LWP.seq <| LWP.region (by kernel_rfl) <| kmv rfl <| kas rfl <| RunK.nil <| LWP.ret ?_)
    refine Leads.le (σ' := ⟨[(2, .sv (.one (.slc 500 0 (idsL a).length)))], [(500, some ⟨3, (nuV (idsL a)).map .val, r⟩)], X⟩) (Le.ofR [(500, 500)] (by exact ⟨rfl, trivial⟩) (by repeat' (first | exact trivial | refine And.intro ⟨_, rfl, ?_⟩ ?_ | refine And.intro ⟨_, rfl⟩ ?_ | rfl | exact Box.ren_bytes _ _ _ _ | exact Box.ren_vals _ _ _ _ | exact Box.ren_mid rfl)) (by exact rfl) (by exact rfl) (by repeat' (first | refine all_cons_true ?_ ?_ | rfl | exact bytes_inUse | exact vals_inUse | exact mid_inUse rfl)) (by exact rfl) (by exact rfl)) ?_
    refine Leads.le Le.loose (Leads.done ?_)
    exact ⟨[(1000001, 500)], ⟨[_], ⟨rfl, trivial⟩, rfl⟩, (by repeat' (first | exact trivial | refine And.intro ⟨_, rfl, ?_⟩ ?_ | refine And.intro ⟨_, rfl⟩ ?_ | rfl | exact Box.ren_bytes _ _ _ _ | exact Box.ren_vals _ _ _ _ | exact Box.ren_mid rfl)), rfl, rfl⟩
end Go.Proofs.YtklofjlbjahnaaaDoor
end
section
namespace Go.Proofs.YtklofjlbjahnaaaDoor
open Go Go.Lg Go.Lg.Fld Go.Lg.Sg
set_option maxRecDepth 100000
variable (X : Nat → Option Obj)
abbrev Vn (ad : Option Addr) (n cap : Nat) : LV := .sv (.one (.val (.slice ad n cap)))
set_option maxHeartbeats 3200000 in
theorem sgOf_spec (ids : List Int) (ad : Option Addr) (cap : Nat) (hin : NuIn X ad ids) (hbig : ids.length < 4611686018427387904) :
    PSpec Tryd.prog X 20 [Vn ad ids.length cap] (.tup [Sn .u32 (ofA ids : Nat), Sb (okIds ids)]) := by
  refine PSpec.intro Tryd.func20 rfl (by kernel_rfl) rfl rfl ?_
  intro C
  (refine LWP.seq <| LWP.region (by kernel_rfl) <| kas rfl <| kas rfl <| RunK.nil <| LWP.seq <| LWP.region (by kernel_rfl) <| K.buildArr rfl rfl (by exact rfl) rfl .plain ?_; refine K.alloc rfl .plain ?_; refine K.storeAll rfl rfl rfl rfl rfl rfl .plain ?_; refine RunK.nil <| LWP.seq <| LWP.seq <| LWP.region (by kernel_rfl) <| kas rfl <| RunK.nil <| LWP.block ?_)
  refine LWP.loop (fun m σ => ∃ i : Nat, i ≤ ids.length ∧ m = ids.length - i ∧ (∀ id ∈ ids.take i, okI id = true) ∧ σ = ⟨[(0, Vn ad ids.length cap), (4, Lp 4), (5, Ln .i64 (i : Nat))], [blB 4 fun j => (ids.take i).any fun id => id.toNat == j], X⟩) ids.length
    ⟨⟨[(0, Vn ad ids.length cap), (4, Lp 4), (5, Ln .i64 (0 : Nat))], [blB 4 fun j => (ids.take 0).any fun id => id.toNat == j], X⟩, Le.of (by exact ⟨rfl, rfl, rfl, trivial⟩) (by exact ⟨rfl, trivial⟩) (by exact rfl) (by exact rfl) (by repeat' (first | refine all_cons_true ?_ ?_ | rfl | exact bytes_inUse | exact vals_inUse | exact mid_inUse rfl)), 0, by omega, rfl, fun id h => by simp at h, rfl⟩ ?_
  rintro m σ ⟨i, hi, rfl, hpre, rfl⟩
  by_cases hlt : i < ids.length
  · obtain ⟨x, hx⟩ : ∃ x, ids[i]? = some x := ⟨_, List.getElem?_eq_getElem hlt⟩
    obtain ⟨blk, off, arr, el, fr, rfl, hX, hc⟩ := hin.at hx
    have hio : off + Int.toNat (i : Int) * 1 = off + i * 1 := by simp
    have no : okI x = false → okIds ids = false := fun h => by
      unfold okIds
      rw [List.all_eq_false]
      exact ⟨x, List.mem_of_getElem? hx, by rw [h]; decide⟩
    have na : okIds ids = false → ofA ids = 0 := fun h => by unfold ofA; rw [h]; rfl
    by_cases h1 : x < 1
    · have hno := no (by unfold okI; rw [decide_eq_false (by omega)]; rfl)
      rw [na hno, hno]
      (refine LWP.seq <| LWP.seq <| LWP.region (by kernel_rfl) <| kmv rfl <| kmv rfl <| K.lenX rfl SliceT.h rfl .plain ?_; refine klt rfl rfl (decide_eq_true (by omega)) <| RunK.nil <| LWP.condT rfl ?_; refine LWP.skip ?_; refine LWP.seq <| LWP.block <| LWP.seq <| LWP.seq <| LWP.region (by kernel_rfl) <| kmv rfl <| kmv rfl <| K.indexX rfl rfl SliceT.h (by omega) hio .plain <| K.loadX rfl hX rfl hc .plain <| klt rfl rfl (decide_eq_true h1) <| kmv rfl <| RunK.passed rfl rfl rfl <| RunK.passed rfl rfl rfl <| RunK.passed rfl rfl rfl ?_; refine RunK.passed rfl rfl rfl <| RunK.passed rfl rfl rfl <| kpt rfl rfl <| RunK.nil <| LWP.condT rfl ?_; refine LWP.seq <| LWP.region (by kernel_rfl) <| kas rfl <| kas rfl <| RunK.nil <| LWP.ret ?_)
      exact ⟨[_, _], ⟨rfl, rfl, trivial⟩, rfl⟩
    by_cases h2 : 24 < x
    · have hno := no (by unfold okI; rw [decide_eq_false (show ¬x ≤ 24 by omega), Bool.and_false])
      rw [na hno, hno]
      (refine LWP.seq <| LWP.seq <| LWP.region (by kernel_rfl) <| kmv rfl <| kmv rfl <| K.lenX rfl SliceT.h rfl .plain ?_; refine klt rfl rfl (decide_eq_true (by omega)) <| RunK.nil <| LWP.condT rfl ?_; refine LWP.skip ?_; refine LWP.seq <| LWP.block <| LWP.seq <| LWP.seq <| LWP.region (by kernel_rfl) <| kmv rfl <| kmv rfl <| K.indexX rfl rfl SliceT.h (by omega) hio .plain <| K.loadX rfl hX rfl hc .plain <| klt rfl rfl (decide_eq_false h1) <| kmv rfl <| gmv rfl rfl rfl <| gmv rfl rfl rfl <| K.indexX rfl rfl SliceT.h (by omega) hio (.taken rfl rfl) ?_; refine K.loadX rfl hX rfl hc (.taken rfl rfl) ?_; refine K.gtr rfl rfl (decide_eq_true h2) (.taken rfl rfl) ?_; refine kpf rfl rfl <| RunK.nil <| LWP.condT rfl ?_; refine LWP.seq <| LWP.region (by kernel_rfl) <| kas rfl <| kas rfl <| RunK.nil <| LWP.ret ?_)
      exact ⟨[_, _], ⟨rfl, rfl, trivial⟩, rfl⟩
    have hix : 0 + Int.toNat x * 1 = x.toNat := by omega
    have hxl : x.toNat < 32 := by omega
    have hset := (bl_set (f := fun j => (ids.take i).any fun id => id.toNat == j) (b := true) hxl).trans (bl_congr (g := fun j => (ids.take (i + 1)).any fun id => id.toNat == j) fun j _ => by
      rw [take_snoc hx, List.any_append]
      simp only [List.any_cons, List.any_nil, Bool.or_false]
      by_cases e : j = x.toNat
      · rw [if_pos e, e, show (x.toNat == x.toNat) = true from beq_iff_eq.2 rfl, Bool.or_true]
      · rw [if_neg e, show (x.toNat == j) = false from beq_eq_false_iff_ne.2 (fun h => e h.symm), Bool.or_false])
    (refine LWP.seq <| LWP.seq <| LWP.region (by kernel_rfl) <| kmv rfl <| kmv rfl <| K.lenX rfl SliceT.h rfl .plain ?_; refine klt rfl rfl (decide_eq_true (by omega)) <| RunK.nil <| LWP.condT rfl ?_; refine LWP.skip ?_; refine LWP.seq <| LWP.block <| LWP.seq <| LWP.seq <| LWP.region (by kernel_rfl) <| kmv rfl <| kmv rfl <| K.indexX rfl rfl SliceT.h (by omega) hio .plain <| K.loadX rfl hX rfl hc .plain <| klt rfl rfl (decide_eq_false h1) <| kmv rfl <| gmv rfl rfl rfl <| gmv rfl rfl rfl <| K.indexX rfl rfl SliceT.h (by omega) hio (.taken rfl rfl) ?_; refine K.loadX rfl hX rfl hc (.taken rfl rfl) ?_; refine K.gtr rfl rfl (decide_eq_false h2) (.taken rfl rfl) ?_; refine kpf rfl rfl <| RunK.nil <| LWP.condF rfl ?_; refine LWP.skip ?_; refine LWP.region (by kernel_rfl) <| kmv rfl <| kmv rfl <| K.indexX rfl rfl SliceT.h (by omega) hio .plain <| K.loadX rfl hX rfl hc .plain <| K.indexArr rfl rfl (by omega) hix .plain ?_; refine K.storeOne rfl rfl rfl rfl (bl_blt hxl) hset .plain <| RunK.nil <| LWP.region (by kernel_rfl) <| kmv rfl <| kad rfl rfl (wrap_i64 (by omega)) <| kas rfl <| RunK.nil ?_)
    exact ⟨_, ⟨[(0, Vn (some ⟨blk, off, none⟩) ids.length cap), (4, Lp 4), (5, Ln .i64 (i + 1 : Nat))], [blB 4 fun j => (ids.take (i + 1)).any fun id => id.toNat == j], X⟩, by omega, Le.of (by exact ⟨rfl, rfl, rfl, trivial⟩) (by exact ⟨rfl, trivial⟩) (by exact rfl) (by exact rfl) (by repeat' (first | refine all_cons_true ?_ ?_ | rfl | exact bytes_inUse | exact vals_inUse | exact mid_inUse rfl)), i + 1, by omega, rfl, (fun id h => by
      rw [take_snoc hx] at h
      rcases List.mem_append.1 h with h | h
      · exact hpre id h
      · rw [List.mem_singleton.1 h, okI_iff]; omega), rfl⟩
  have e : i = ids.length := by omega
  subst e
  rw [List.take_length] at hpre ⊢
  have hok : okIds ids = true := List.all_eq_true.2 hpre
  have hA : ofA ids = ofN ids := if_pos hok
  rw [hok, hA]
  have hN := ofN_lt hpre
  have hbl : blB 4 (fun j => ids.any fun id => id.toNat == j) = blB 4 (ofN ids).testBit := congrArg (fun c => ((4, some ⟨54, c, false⟩) : Nat × Option Box)) (bl_congr fun j _ => (ofN_bit ids j).symm)
  rw [hbl]
  generalize ofN ids = A at *
  have hz32 : A / 2 ^ 32 = 0 := Nat.div_eq_of_lt (by omega)
  (refine LWP.seq <| LWP.seq <| LWP.region (by kernel_rfl) <| kmv rfl <| kmv rfl <| K.lenX rfl SliceT.h rfl .plain ?_; refine klt rfl rfl (decide_eq_false (by omega)) <| RunK.nil <| LWP.condF rfl ?_; refine LWP.exit <| LWP.seq <| LWP.region (by kernel_rfl) <| kas rfl <| RunK.nil <| LWP.seq <| LWP.seq <| LWP.region (by kernel_rfl) <| kas rfl <| RunK.nil <| LWP.block ?_)
  refine LWP.loop (fun m σ => ∃ k : Nat, k ≤ 32 ∧ m = k ∧ σ = ⟨[(4, Lp 4), (6, Ln .u32 (A / 2 ^ k : Nat)), (7, Ln .i64 ((k : Int) - 1))], [blB 4 A.testBit], X⟩) 32
    ⟨⟨[(4, Lp 4), (6, Ln .u32 (A / 2 ^ 32 : Nat)), (7, Ln .i64 (((32 : Nat) : Int) - 1))], [blB 4 A.testBit], X⟩, by
      rw [hz32]
      exact Le.of (by exact ⟨rfl, rfl, rfl, trivial⟩) (by exact ⟨rfl, trivial⟩) (by exact rfl) (by exact rfl) (by repeat' (first | refine all_cons_true ?_ ?_ | rfl | exact bytes_inUse | exact vals_inUse | exact mid_inUse rfl)), 32, by omega, rfl, rfl⟩ ?_
  rintro m σ ⟨k, hk, rfl, rfl⟩
  by_cases hk0 : m = 0
  · subst hk0
    rw [show A / 2 ^ 0 = A from Nat.div_one A]
    (refine LWP.seq <| LWP.seq <| LWP.region (by kernel_rfl) <| kmv rfl <| K.geq rfl rfl (r := false) rfl .plain <| RunK.nil <| LWP.condF rfl ?_; refine LWP.exit <| LWP.seq <| LWP.region (by kernel_rfl) <| kmv rfl <| kas rfl <| kas rfl <| RunK.nil <| LWP.ret ?_)
    exact ⟨[_, _], ⟨rfl, rfl, trivial⟩, rfl⟩
  · obtain ⟨k, rfl⟩ : ∃ k, m = k + 1 := ⟨m - 1, by omega⟩
    have hst := half_step A k
    have hix : 0 + Int.toNat (((k + 1 : Nat) : Int) - 1) * 1 = k := by omega
    have hat := bl_at (f := A.testBit) (i := k) (by omega)
    have hle : A / 2 ^ k ≤ A := Nat.div_le_self _ _
    have hmul : IntKind.u32.wrap (((A / 2 ^ (k + 1) : Nat) : Int) * 2) = ((2 * (A / 2 ^ (k + 1)) : Nat) : Int) := by
      refine (wrap_u32 ⟨?_, ?_⟩).trans ?_ <;> omega
    have hadd : IntKind.u32.wrap (((2 * (A / 2 ^ (k + 1)) : Nat) : Int) + 1) = ((2 * (A / 2 ^ (k + 1)) + 1 : Nat) : Int) := by
      have : 2 * (A / 2 ^ (k + 1)) ≤ A := by omega
      refine (wrap_u32 ⟨?_, ?_⟩).trans ?_ <;> omega
    have hsub : IntKind.i64.wrap (((k + 1 : Nat) : Int) - 1 - 1) = (k : Int) - 1 := by
      refine (wrap_i64 ⟨?_, ?_⟩).trans ?_ <;> omega
    cases hb : A.testBit k with
    | false =>
      rw [hb] at hat hst
      rw [if_neg (by decide), Nat.add_zero] at hst
      (refine LWP.seq <| LWP.seq <| LWP.region (by kernel_rfl) <| kmv rfl <| K.geq rfl rfl (decide_eq_true (by omega)) .plain <| RunK.nil <| LWP.condT rfl ?_; refine LWP.skip ?_; refine LWP.seq <| LWP.block <| LWP.seq <| LWP.region (by kernel_rfl) <| kmv rfl <| K.mul rfl rfl hmul .plain <| kas rfl <| RunK.nil <| LWP.seq <| LWP.region (by kernel_rfl) <| kmv rfl <| K.indexArr rfl rfl (by omega) hix .plain ?_; refine kl1 rfl rfl hat <| RunK.nil <| LWP.condF rfl ?_; refine LWP.skip ?_; refine LWP.region (by kernel_rfl) <| kmv rfl <| K.sub rfl rfl hsub .plain <| kas rfl <| RunK.nil ?_)
      exact ⟨_, ⟨[(4, Lp 4), (6, Ln .u32 (2 * (A / 2 ^ (k + 1)) : Nat)), (7, Ln .i64 ((k : Int) - 1))], [blB 4 A.testBit], X⟩, by omega, Le.of (by exact ⟨rfl, rfl, rfl, trivial⟩) (by exact ⟨rfl, trivial⟩) (by exact rfl) (by exact rfl) (by repeat' (first | refine all_cons_true ?_ ?_ | rfl | exact bytes_inUse | exact vals_inUse | exact mid_inUse rfl)), k, by omega, rfl, by rw [hst]⟩
    | true =>
      rw [hb] at hat hst
      rw [if_pos rfl] at hst
      (refine LWP.seq <| LWP.seq <| LWP.region (by kernel_rfl) <| kmv rfl <| K.geq rfl rfl (decide_eq_true (by omega)) .plain <| RunK.nil <| LWP.condT rfl ?_; refine LWP.skip ?_; refine LWP.seq <| LWP.block <| LWP.seq <| LWP.region (by kernel_rfl) <| kmv rfl <| K.mul rfl rfl hmul .plain <| kas rfl <| RunK.nil <| LWP.seq <| LWP.region (by kernel_rfl) <| kmv rfl <| K.indexArr rfl rfl (by omega) hix .plain ?_; refine kl1 rfl rfl hat <| RunK.nil <| LWP.condT rfl ?_; refine LWP.region (by kernel_rfl) <| kmv rfl <| kad rfl rfl hadd <| kas rfl <| RunK.nil <| LWP.region (by kernel_rfl) <| kmv rfl <| K.sub rfl rfl hsub .plain <| kas rfl <| RunK.nil ?_)
      exact ⟨_, ⟨[(4, Lp 4), (6, Ln .u32 (2 * (A / 2 ^ (k + 1)) + 1 : Nat)), (7, Ln .i64 ((k : Int) - 1))], [blB 4 A.testBit], X⟩, by omega, Le.of (by exact ⟨rfl, rfl, rfl, trivial⟩) (by exact ⟨rfl, trivial⟩) (by exact rfl) (by exact rfl) (by repeat' (first | refine all_cons_true ?_ ?_ | rfl | exact bytes_inUse | exact vals_inUse | exact mid_inUse rfl)), k, by omega, rfl, by rw [hst]⟩
set_option maxHeartbeats 1600000 in
theorem rText_spec (a : Nat) (ha : a < 4294967296) : PSpec Tryd.prog X 26 [Ln .u32 (a : Nat)] (Ls (textT a)) := by
  have hI := rIds_spec X a ha
  refine PSpec.intro Tryd.func26 rfl (by kernel_rfl) rfl rfl ?_
  intro C
  have hids : ∀ x ∈ idsL a, 1 ≤ x ∧ x ≤ 24 := fun x hx => by
    obtain ⟨h1, h2, _⟩ := mem_ids.1 hx
    exact ⟨h1, h2⟩
  have hil : (idsL a).length ≤ 24 := idsTo_len a 24
  unfold textT
  generalize idsL a = l at *
  by_cases h0 : l = []
  · rw [if_pos h0]
    subst h0
    (refine LWP.seq <| LWP.region (by kernel_rfl) <| kas rfl <| RunK.nil <| LWP.seq <| LWP.region (by kernel_rfl) <| kmv rfl <| K.callMp [(1000001, 500)] (.sv (.one (.slc 500 0 0))) [nuB 500 []] (hI) rfl rfl (by exact trivial) rfl rfl rfl rfl rfl (by exact (.box rfl rfl .nil)) .plain <| kas rfl <| RunK.nil <| LWP.seq <| LWP.seq <| LWP.region (by kernel_rfl) <| kmv rfl ?_; refine K.lenSlc rfl SliceT.h rfl .plain ?_; refine keq rfl rfl (r := true) rfl <| RunK.nil <| LWP.condT rfl ?_; refine LWP.seq <| LWP.region (by kernel_rfl) <| kas rfl <| RunK.nil <| LWP.ret ?_)
    exact ⟨[_], ⟨rfl, trivial⟩, rfl⟩
  rw [if_neg h0]
  have hpos : 0 < l.length := List.length_pos_iff.2 h0
  (refine LWP.seq <| LWP.region (by kernel_rfl) <| kas rfl <| RunK.nil <| LWP.seq <| LWP.region (by kernel_rfl) <| kmv rfl <| K.callMp [(1000001, 500)] (.sv (.one (.slc 500 0 l.length))) [nuB 500 l] (hI) rfl rfl (by exact trivial) rfl rfl rfl rfl rfl (by exact (.box rfl (Box.ren_vals _ _ _ _) .nil)) .plain <| kas rfl <| RunK.nil <| LWP.seq <| LWP.seq <| LWP.region (by kernel_rfl) <| kmv rfl ?_; refine K.lenSlc rfl SliceT.h rfl .plain ?_; refine keq rfl rfl (r := false) (beq_eq_false_iff_ne.2 (by omega)) <| RunK.nil <| LWP.condF rfl ?_; refine LWP.skip ?_; refine LWP.seq <| LWP.region (by kernel_rfl) <| kas rfl <| RunK.nil <| LWP.seq <| LWP.seq <| LWP.region (by kernel_rfl) <| kas rfl <| RunK.nil <| LWP.block ?_)
  refine LWP.loop (fun m σ => ∃ i : Nat, i ≤ l.length ∧ m = l.length - i ∧ σ = ⟨[(3, .sv (.one (.slc 500 0 l.length))), (4, Ls (txF (l.take i)).1), (5, Ln .i64 (i : Nat))], [nuB 500 l], X⟩) l.length
    ⟨⟨[(3, .sv (.one (.slc 500 0 l.length))), (4, Ls (txF (l.take 0)).1), (5, Ln .i64 (0 : Nat))], [nuB 500 l], X⟩, Le.of (by exact ⟨rfl, rfl, rfl, trivial⟩) (by exact ⟨rfl, trivial⟩) (by exact rfl) (by exact rfl) (by repeat' (first | refine all_cons_true ?_ ?_ | rfl | exact bytes_inUse | exact vals_inUse | exact mid_inUse rfl)), 0, by omega, rfl, rfl⟩ ?_
  rintro m σ ⟨i, hi, rfl, rfl⟩
  by_cases hlt : i < l.length
  · obtain ⟨x, hx⟩ : ∃ x, l[i]? = some x := ⟨_, List.getElem?_eq_getElem hlt⟩
    obtain ⟨hx1, hx2⟩ := hids x (List.mem_of_getElem? hx)
    have hsn := txF_snoc hx
    have hfl := txF_flag (l.take i)
    have hln := txF_len (l.take i) fun y hy => by
      have := hids y (List.mem_of_mem_take hy)
      omega
    rw [List.length_take, Nat.min_eq_left hi] at hln
    have hxl := Lib.itoa_length_le x (by omega) (by omega)
    have hD := rDigits_spec X x (by omega) (by omega)
    have hat := nu_at hx
    have hix : 0 + Int.toNat (i : Int) * 1 = i * 1 := by simp
    have hst : (txF (l.take (i + 1))).1 = (txF (l.take i)).1 ++ (if (txF (l.take i)).2 = true then [43] else []) ++ Lib.itoa x := by rw [hsn]; rfl
    generalize Lib.itoa x = t at *
    generalize (txF (l.take i)).1 = s at *
    rw [hfl] at hst
    have z1 : (⟨s.toArray⟩ : ByteArray).size + (⟨([43] : List UInt8).toArray⟩ : ByteArray).size ≤ 9223372036854775807 := by show s.length + 1 ≤ _; omega
    have z2 : (⟨(s ++ [43]).toArray⟩ : ByteArray).size + (⟨t.toArray⟩ : ByteArray).size ≤ 9223372036854775807 := by show (s ++ [43]).length + t.length ≤ _; rw [List.length_append]; simp only [List.length_singleton]; omega
    have z3 : (⟨s.toArray⟩ : ByteArray).size + (⟨t.toArray⟩ : ByteArray).size ≤ 9223372036854775807 := by show s.length + t.length ≤ _; omega
    by_cases hi0 : 0 < i
    · have he : (l.take i).isEmpty = false := by
        cases he : (l.take i).isEmpty with
        | false => rfl
        | true =>
          have := congrArg List.length (List.isEmpty_iff.1 he)
          rw [List.length_take, Nat.min_eq_left hi] at this
          simp at this
          omega
      rw [he, show (!false) = true from rfl, if_pos rfl] at hst
      (refine LWP.seq <| LWP.seq <| LWP.region (by kernel_rfl) <| kmv rfl <| kmv rfl <| K.lenSlc rfl SliceT.h rfl .plain ?_; refine klt rfl rfl (decide_eq_true (by omega)) <| RunK.nil <| LWP.condT rfl ?_; refine LWP.skip ?_; refine LWP.seq <| LWP.block <| LWP.seq <| LWP.seq <| LWP.region (by kernel_rfl) <| kmv rfl <| K.gtr rfl rfl (decide_eq_true (by omega)) .plain <| RunK.nil <| LWP.condT rfl ?_; refine LWP.region (by kernel_rfl) <| kmv rfl <| K.strAdd rfl rfl z1 (str_add s [43]) .plain <| kas rfl <| RunK.nil <| LWP.region (by kernel_rfl) <| kmv rfl <| kmv rfl <| kmv rfl <| K.indexSlc rfl rfl (by omega) hix .plain ?_; refine kl1 rfl rfl hat <| kca rfl rfl hD <| K.strAdd rfl rfl z2 (str_add (s ++ [43]) t) .plain <| kas rfl <| RunK.nil <| LWP.region (by kernel_rfl) <| kmv rfl <| kad rfl rfl (wrap_i64 (by omega)) <| kas rfl <| RunK.nil ?_)
      exact ⟨_, ⟨[(3, .sv (.one (.slc 500 0 l.length))), (4, Ls (s ++ [43] ++ t)), (5, Ln .i64 (i + 1 : Nat))], [nuB 500 l], X⟩, by omega, Le.of (by exact ⟨rfl, rfl, rfl, trivial⟩) (by exact ⟨rfl, trivial⟩) (by exact rfl) (by exact rfl) (by repeat' (first | refine all_cons_true ?_ ?_ | rfl | exact bytes_inUse | exact vals_inUse | exact mid_inUse rfl)), i + 1, by omega, rfl, by rw [hst]⟩
    · obtain rfl : i = 0 := by omega
      rw [show (!(l.take 0).isEmpty) = false from rfl, if_neg (by decide), List.append_nil] at hst
      (refine LWP.seq <| LWP.seq <| LWP.region (by kernel_rfl) <| kmv rfl <| kmv rfl <| K.lenSlc rfl SliceT.h rfl .plain ?_; refine klt rfl rfl (decide_eq_true (by omega)) <| RunK.nil <| LWP.condT rfl ?_; refine LWP.skip ?_; refine LWP.seq <| LWP.block <| LWP.seq <| LWP.seq <| LWP.region (by kernel_rfl) <| kmv rfl <| K.gtr rfl rfl (r := false) rfl .plain <| RunK.nil <| LWP.condF rfl ?_; refine LWP.skip ?_; refine LWP.region (by kernel_rfl) <| kmv rfl <| kmv rfl <| kmv rfl <| K.indexSlc rfl rfl (by omega) hix .plain ?_; refine kl1 rfl rfl hat <| kca rfl rfl hD <| K.strAdd rfl rfl z3 (str_add s t) .plain <| kas rfl <| RunK.nil <| LWP.region (by kernel_rfl) <| kmv rfl <| kad rfl rfl (wrap_i64 (by omega)) <| kas rfl <| RunK.nil ?_)
      exact ⟨_, ⟨[(3, .sv (.one (.slc 500 0 l.length))), (4, Ls (s ++ t)), (5, Ln .i64 (0 + 1 : Nat))], [nuB 500 l], X⟩, by omega, Le.of (by exact ⟨rfl, rfl, rfl, trivial⟩) (by exact ⟨rfl, trivial⟩) (by exact rfl) (by exact rfl) (by repeat' (first | refine all_cons_true ?_ ?_ | rfl | exact bytes_inUse | exact vals_inUse | exact mid_inUse rfl)), 0 + 1, by omega, rfl, by rw [hst]⟩
  · have e : i = l.length := by omega
    subst e
    rw [List.take_length]
    (refine LWP.seq <| LWP.seq <| LWP.region (by kernel_rfl) <| kmv rfl <| kmv rfl <| K.lenSlc rfl SliceT.h rfl .plain ?_; refine klt rfl rfl (decide_eq_false (by omega)) <| RunK.nil <| LWP.condF rfl ?_; refine LWP.exit <| LWP.seq <| LWP.region (by kernel_rfl) <| kmv rfl <| kas rfl <| RunK.nil <| LWP.ret ?_)
    exact ⟨[_], ⟨rfl, trivial⟩, rfl⟩
end Go.Proofs.YtklofjlbjahnaaaDoor
end
section
namespace Go.Lg.Sg
open Go Go.Lg
def digS (n : Int) (c : UInt8) : Option Int := if c.toNat < 48 ∨ 57 < c.toNat ∨ n = 0 ∨ 99 < n ∨ (n < 0 ∧ c.toNat = 48) then none else some ((if n < 0 then 0 else n) * 10 + ((c.toNat : Int) - 48))
def sepS (q : List Int × Int) : Option (List Int × Int) := if q.2 < 1 ∨ 24 < q.2 ∨ (q.1.getLast?.any fun y => decide (q.2 ≤ y)) = true then none else some (q.1 ++ [q.2], -1)
def chS (q : List Int × Int) (c : UInt8) : Option (List Int × Int) := if c = 43 then sepS q else (digS q.2 c).map fun n => (q.1, n)
def runS (q : List Int × Int) (s : List UInt8) : Option (List Int × Int) := s.foldlM chS q
theorem runS_append (q : List Int × Int) (s t : List UInt8) : runS q (s ++ t) = (runS q s).bind fun q => runS q t := by
  unfold runS
  rw [List.foldlM_append]
  rfl
def parseA (s : List UInt8) : Option Nat := if s = [45] then some 0 else ((runS ([], -1) s).bind sepS).map fun q => ofN q.1
def rising (l : List Int) : Prop := l.Pairwise (fun x y => x < y)
theorem rising_snoc {l : List Int} {x : Int} : rising (l ++ [x]) ↔ rising l ∧ ∀ y, l.getLast? = some y → y < x := by
  unfold rising
  rw [List.pairwise_append]
  constructor
  · rintro ⟨h1, _, h3⟩
    exact ⟨h1, fun y hy => h3 y (List.mem_of_getLast? hy) x (List.mem_singleton.2 rfl)⟩
  · rintro ⟨h1, h2⟩
    refine ⟨h1, List.pairwise_singleton _ _, fun a ha b hb => ?_⟩
    rw [List.mem_singleton.1 hb]
    rcases List.eq_nil_or_concat l with rfl | ⟨l', y, rfl⟩
    · cases ha
    · have hy := h2 y (by simp)
      rw [List.concat_eq_append] at h1 ha
      rw [List.pairwise_append] at h1
      rcases List.mem_append.1 ha with h | h
      · have := h1.2.2 a h y (List.mem_singleton.2 rfl)
        omega
      · rw [List.mem_singleton.1 h]; exact hy
theorem idsTo_rising (a n : Nat) : rising (idsTo a n) := by
  unfold rising idsTo
  rw [List.pairwise_map]
  refine List.Pairwise.imp (fun {x y} (h : x < y) => by omega) (List.Pairwise.filter _ List.pairwise_lt_range)
theorem ids_ofN {l : List Int} (h : ∀ x ∈ l, okI x = true) (hr : rising l) : idsL (ofN l) = l := by
  refine Fld.sorted_eq (fun x : Int => x) (idsTo_rising _ _) hr fun x => ?_
  unfold idsL
  rw [mem_ids]
  constructor
  · rintro ⟨h1, h2, h3⟩
    rw [ofN_bit, List.any_eq_true] at h3
    obtain ⟨y, hy, e⟩ := h3
    have := okI_iff.1 (h y hy)
    have := beq_iff_eq.1 e
    rw [show x = y by omega]
    exact hy
  · intro hx
    have := okI_iff.1 (h x hx)
    exact ⟨this.1, this.2, by rw [ofN_bit, List.any_eq_true]; exact ⟨x, hx, beq_iff_eq.2 rfl⟩⟩
theorem isB_ext {a b : Nat} (ha : isB a = true) (hb : isB b = true) (ha2 : a < 4294967296) (hb2 : b < 4294967296) (h : idsL a = idsL b) : a = b := by
  rw [isB_iff] at ha hb
  refine Nat.eq_of_testBit_eq fun i => ?_
  by_cases hi : i < 32
  · have key : ∀ {p q : Nat}, (∀ i, i < 32 → p.testBit i = true → 1 ≤ i ∧ i ≤ 24) → idsL p = idsL q → p.testBit i = true → q.testBit i = true := fun {p q} hp e ht => by
      obtain ⟨h1, h2⟩ := hp i hi ht
      have hm : (i : Int) ∈ idsL p := mem_ids.2 ⟨by omega, by omega, ht⟩
      rw [e] at hm
      exact (mem_ids.1 hm).2.2
    cases h1 : a.testBit i with
    | true => exact (key ha h h1).symm
    | false =>
      cases h2 : b.testBit i with
      | false => rfl
      | true => rw [key hb h.symm h2] at h1; cases h1
  · have big : ∀ {p : Nat}, p < 4294967296 → p.testBit i = false := fun {p} hp => Nat.testBit_lt_two_pow (Nat.lt_of_lt_of_le hp (show 2 ^ 32 ≤ 2 ^ i from Nat.pow_le_pow_right (by decide) (by omega)))
    rw [big ha2, big hb2]
def digs (x : Nat) : List UInt8 := if x < 10 then [UInt8.ofNat (48 + x)] else [UInt8.ofNat (48 + x / 10), UInt8.ofNat (48 + x % 10)]
theorem itoa_digs {x : Nat} (h : x < 100) : Lib.itoa (x : Int) = digs x := by
  unfold Lib.itoa digs
  rw [if_neg (by omega), show (x : Int).toNat = x from rfl]
  by_cases h1 : x < 10
  · rw [if_pos h1, Lib.decDigits_one h1]
  · rw [if_neg h1, Lib.decDigits_two h1 h]
theorem digs_run : ∀ x : Fin 25, 1 ≤ x.val → (digs x.val).foldlM digS (-1) = some (x.val : Int) ∧ (digs x.val).all (fun c => c != 43) = true := by decide +kernel
theorem runS_digs {l : List UInt8} (h : l.all (fun c => c != 43) = true) (ids : List Int) : ∀ n : Int, runS (ids, n) l = (l.foldlM digS n).map fun m => (ids, m) := by
  induction l with
  | nil => intro n; rfl
  | cons c t ih =>
    intro n
    rw [List.all_cons, Bool.and_eq_true] at h
    have hc : c ≠ 43 := by simpa using h.1
    unfold runS
    rw [List.foldlM_cons, List.foldlM_cons]
    have h1 : chS (ids, n) c = (digS n c).map fun m => (ids, m) := by unfold chS; rw [if_neg hc]
    rw [h1]
    cases digS n c with
    | none => rfl
    | some m => exact ih h.2 m
theorem runS_itoa {x : Int} (h1 : 1 ≤ x) (h2 : x ≤ 24) (ids : List Int) : runS (ids, -1) (Lib.itoa x) = some (ids, x) := by
  obtain ⟨k, rfl⟩ : ∃ k : Nat, x = (k : Nat) := ⟨x.toNat, by omega⟩
  obtain ⟨e1, e2⟩ := digs_run ⟨k, by omega⟩ (by show 1 ≤ k; omega)
  rw [itoa_digs (by omega), runS_digs e2, e1]
  rfl
theorem sepS_ok {l : List Int} {x : Int} (h1 : 1 ≤ x) (h2 : x ≤ 24) (hr : rising (l ++ [x])) : sepS (l, x) = some (l ++ [x], -1) := by
  unfold sepS
  rw [if_neg]
  rintro (h | h | h)
  · exact absurd h (by show ¬x < 1; omega)
  · exact absurd h (by show ¬24 < x; omega)
  · obtain ⟨_, h3⟩ := rising_snoc.1 hr
    show False
    cases hl : l.getLast? with
    | none => simp only [hl] at h; cases h
    | some y =>
      have := h3 y hl
      simp only [hl, Option.any_some, decide_eq_true_eq] at h
      omega
theorem run_text : ∀ (l : List Int) (x : Int), (∀ y ∈ l ++ [x], 1 ≤ y ∧ y ≤ 24) → rising (l ++ [x]) → runS ([], -1) (txF (l ++ [x])).1 = some (l, x) := by
  suffices H : ∀ (n : Nat) (l : List Int) (x : Int), l.length = n → (∀ y ∈ l ++ [x], 1 ≤ y ∧ y ≤ 24) → rising (l ++ [x]) → runS ([], -1) (txF (l ++ [x])).1 = some (l, x) from fun l x => H l.length l x rfl
  intro n
  induction n with
  | zero =>
    intro l x hl hy hr
    obtain rfl := List.eq_nil_of_length_eq_zero hl
    obtain ⟨h1, h2⟩ := hy x (by simp)
    exact runS_itoa h1 h2 []
  | succ n ih =>
    intro l x hl hy hr
    rcases List.eq_nil_or_concat l with rfl | ⟨l', y, rfl⟩
    · cases hl
    rw [List.concat_eq_append] at hl hy hr ⊢
    obtain ⟨h1, h2⟩ := hy x (by simp)
    obtain ⟨h3, h4⟩ := hy y (by simp)
    obtain ⟨hr1, _⟩ := rising_snoc.1 hr
    have hi := ih l' y (by rw [List.length_append] at hl; simpa using hl) (fun z hz => hy z (List.mem_append_left _ hz)) hr1
    have ht : (txF ((l' ++ [y]) ++ [x])).1 = (txF (l' ++ [y])).1 ++ ([43] ++ Lib.itoa x) := by
      have hfl := txF_flag (l' ++ [y])
      have he : (l' ++ [y]).isEmpty = false := by cases l' <;> rfl
      rw [he] at hfl
      unfold txF
      rw [List.foldl_append]
      show (txStep (txF (l' ++ [y])) x).1 = _
      unfold txStep
      rw [hfl]
      show _ ++ [43] ++ _ = _
      rw [List.append_assoc]
      rfl
    rw [ht, runS_append, hi]
    show runS (l', y) ([43] ++ Lib.itoa x) = _
    rw [runS_append]
    have hs : runS (l', y) [43] = some (l' ++ [y], -1) := by
      show (chS (l', y) 43).bind (fun q => runS q []) = _
      rw [show chS (l', y) 43 = sepS (l', y) from if_pos rfl, sepS_ok h3 h4 hr1]
      rfl
    rw [hs]
    exact runS_itoa h1 h2 (l' ++ [y])
theorem idsL_ok {a : Nat} : ∀ x ∈ idsL a, 1 ≤ x ∧ x ≤ 24 := fun x hx => by
  obtain ⟨h1, h2, _⟩ := mem_ids.1 hx
  exact ⟨h1, by omega⟩
theorem parse_ids (a : Nat) : parseA (textT a) = some (ofN (idsL a)) := by
  unfold textT
  have hok := idsL_ok (a := a)
  have hri := idsTo_rising a 24
  rw [show idsTo a 24 = idsL a from rfl] at hri
  generalize idsL a = l at *
  by_cases h : l = []
  · rw [if_pos h, h]; decide
  · rw [if_neg h]
    rcases List.eq_nil_or_concat l with h0 | ⟨l', y, rfl⟩
    · exact absurd h0 h
    rw [List.concat_eq_append] at *
    obtain ⟨h1, h2⟩ := hok y (by simp)
    have hr := run_text l' y hok hri
    unfold parseA
    rw [if_neg, hr]
    · show ((sepS (l', y)).map fun q => ofN q.1) = _
      rw [sepS_ok h1 h2 hri]
      rfl
    · intro e
      rw [e] at hr
      have : runS ([], -1) [45] = none := by decide
      rw [this] at hr
      cases hr
theorem ofN_ids {a : Nat} (h : isB a = true) (h2 : a < 4294967296) : ofN (idsL a) = a := by
  have hok : ∀ x ∈ idsL a, okI x = true := fun x hx => okI_iff.2 (idsL_ok x hx)
  exact isB_ext (ofN_isB hok) h (by have := ofN_lt hok; omega) h2 (ids_ofN hok (idsTo_rising a 24))
theorem parse_text {a : Nat} (h : isB a = true) (h2 : a < 4294967296) : parseA (textT a) = some a := by
  rw [parse_ids, ofN_ids h h2]
def preT (ids : List Int) : List UInt8 := (txF ids).1 ++ if ids = [] then [] else [43]
def digT (n : Int) : List UInt8 := if n < 0 then [] else Lib.itoa n
structure Rd (p : List UInt8) (q : List Int × Int) : Prop where
  text : p = preT q.1 ++ digT q.2
  ids : ∀ y ∈ q.1, 1 ≤ y ∧ y ≤ 24
  rise : rising q.1
  num : q.2 = -1 ∨ (1 ≤ q.2 ∧ q.2 ≤ 999)
theorem preT_snoc (l : List Int) (x : Int) : (txF (l ++ [x])).1 = preT l ++ Lib.itoa x := by
  have hfl := txF_flag l
  have hs : txF (l ++ [x]) = txStep (txF l) x := by
    unfold txF
    rw [List.foldl_append]
    rfl
  rw [hs]
  unfold txStep preT
  rw [hfl]
  cases l with
  | nil => rfl
  | cons y t =>
    rw [if_pos (show (!(y :: t).isEmpty) = true from rfl), if_neg (by simp)]
theorem Rd.sep {p : List UInt8} {q q' : List Int × Int} (h : Rd p q) (hs : sepS q = some q') : q'.2 = -1 ∧ (txF q'.1).1 = p ∧ (∀ y ∈ q'.1, 1 ≤ y ∧ y ≤ 24) ∧ rising q'.1 ∧ q'.1 ≠ [] := by
  unfold sepS at hs
  split at hs
  · cases hs
  · rename_i hno
    simp only [Option.some.injEq] at hs
    subst hs
    obtain ⟨l, n⟩ := q
    simp only [not_or] at hno
    obtain ⟨h1, h2, h3⟩ := hno
    refine ⟨rfl, ?_, ?_, ?_, by simp⟩
    · show (txF (l ++ [n])).1 = p
      rw [preT_snoc, h.text]
      unfold digT
      rw [if_neg (by show ¬n < 0; omega)]
    · intro y hy
      rcases List.mem_append.1 hy with hy | hy
      · exact h.ids y hy
      · rw [List.mem_singleton.1 hy]; omega
    · refine rising_snoc.2 ⟨h.rise, fun y hy => ?_⟩
      rw [show (l, n).1.getLast? = some y from hy] at h3
      simp at h3
      exact h3
theorem Rd.step {p : List UInt8} {q q' : List Int × Int} {c : UInt8} (h : Rd p q) (hs : chS q c = some q') : Rd (p ++ [c]) q' := by
  unfold chS at hs
  split at hs
  · rename_i hc
    obtain ⟨h1, h2, h3, h4, h5⟩ := h.sep hs
    refine ⟨?_, h3, h4, .inl h1⟩
    rw [← h2, h1, hc]
    unfold preT digT
    rw [if_neg h5, if_pos (by decide), List.append_nil]
  · obtain ⟨l, n⟩ := q
    cases hd : digS n c with
    | none => rw [show digS (l, n).2 c = none from hd] at hs; cases hs
    | some m =>
      rw [show digS (l, n).2 c = some m from hd] at hs
      simp only [Option.map_some, Option.some.injEq] at hs
      subst hs
      unfold digS at hd
      split at hd
      · cases hd
      · rename_i hno
        simp only [Option.some.injEq] at hd
        simp only [not_or, not_and] at hno
        obtain ⟨h1, h2, h3, h4, h5⟩ := hno
        have hcb : UInt8.ofNat (48 + (c.toNat - 48)) = c := by
          rw [show 48 + (c.toNat - 48) = c.toNat by omega]
          exact UInt8.ofNat_toNat
        refine ⟨?_, h.ids, h.rise, .inr ?_⟩
        · rw [h.text]
          show preT l ++ digT n ++ [c] = preT l ++ digT m
          rw [List.append_assoc]
          congr 1
          unfold digT
          rcases h.num with e | ⟨e1, e2⟩
          · have e : n = -1 := e
            rw [if_pos (by omega)] at hd
            have hm : m = ((c.toNat - 48 : Nat) : Int) := by omega
            rw [if_pos (by omega), if_neg (by omega), hm]
            unfold Lib.itoa
            rw [if_neg (by omega), show ((c.toNat - 48 : Nat) : Int).toNat = c.toNat - 48 from rfl, Lib.decDigits_one (by omega), hcb]
            rfl
          · have e1 : 1 ≤ n := e1
            rw [if_neg (by omega)] at hd
            rw [if_neg (by omega), if_neg (by omega)]
            obtain ⟨k, rfl⟩ : ∃ k : Nat, n = (k : Nat) := ⟨n.toNat, by omega⟩
            have hm : m = ((k * 10 + (c.toNat - 48) : Nat) : Int) := by omega
            rw [hm]
            unfold Lib.itoa
            rw [if_neg (by omega), if_neg (by omega), show ((k * 10 + (c.toNat - 48) : Nat) : Int).toNat = k * 10 + (c.toNat - 48) from rfl, show (k : Int).toNat = k from rfl]
            conv => rhs; rw [Lib.decDigits, dif_neg (show ¬k * 10 + (c.toNat - 48) < 10 by omega)]
            rw [show (k * 10 + (c.toNat - 48)) / 10 = k by omega, show (k * 10 + (c.toNat - 48)) % 10 = c.toNat - 48 by omega, hcb]
        · show 1 ≤ m ∧ m ≤ 999
          rcases h.num with e | ⟨e1, e2⟩
          · have e : n = -1 := e
            have h5 := h5 (by omega)
            rw [if_pos (by omega)] at hd
            omega
          · have e1 : 1 ≤ n := e1
            rw [if_neg (by omega)] at hd
            omega
theorem Rd.start : Rd [] ([], -1) := ⟨rfl, (fun y h => by cases h), List.Pairwise.nil, .inl rfl⟩
theorem Rd.run : ∀ {s p : List UInt8} {q q' : List Int × Int} (_ : Rd p q) (_ : runS q s = some q'), Rd (p ++ s) q' := by
  intro s
  induction s with
  | nil =>
    intro p q q' h hr
    have : q = q' := by simpa [runS] using hr
    rw [← this, List.append_nil]
    exact h
  | cons c t ih =>
    intro p q q' h hr
    unfold runS at hr
    rw [List.foldlM_cons] at hr
    cases hc : chS q c with
    | none => rw [hc] at hr; cases hr
    | some q2 =>
      rw [hc] at hr
      have := ih (h.step hc) hr
      rw [List.append_assoc] at this
      exact this
theorem text_inj {a b : Nat} (h : textT a = textT b) : idsL a = idsL b := by
  have h1 := parse_ids a
  rw [h, parse_ids b] at h1
  have e : ofN (idsL b) = ofN (idsL a) := Option.some.inj h1
  have hok : ∀ c x, x ∈ idsL c → okI x = true := fun c x hx => okI_iff.2 (idsL_ok x hx)
  rw [← ids_ofN (hok a) (idsTo_rising a 24), ← ids_ofN (hok b) (idsTo_rising b 24), e]
end Go.Lg.Sg
end
