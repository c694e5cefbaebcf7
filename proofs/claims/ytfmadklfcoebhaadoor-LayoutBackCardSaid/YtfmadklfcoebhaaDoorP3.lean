/- A piece of a proof over this program: contracts of its functions, and a logic to prove them by. -/
import Derived.Test.YtfmadklfcoebhaaDoorP2
import Derived.Deep.Strs
import Derived.SizedLaws
import Derived.Test.YtfmadklfcoebhaaDoorRows
import Derived.Lib.Strings
section
namespace Go.Lg
open Go Go.RowKit Go.ChangeShapes Go.WideShapes Go.Joins
section
variable {H : Type} {enc : TypeId × Value → H} {P : Program} {w : World}
theorem cells_row {a : Addr} {sz : Nat} {cs : List Value} (hs : a.spot = none) (hsz : 1 ≤ sz) {i : Nat} (hl : cs.length = sz) (h : ∀ j, j < sz → w.cell? ((a.add (i * sz)).add j) = cs[j]?) :
    ∃ (arr : Array Value) (el : TypeId) (fr : Nat × Nat), w.heap[a.block]? = some (.cells arr el fr) ∧ a.off + i * sz + sz ≤ arr.size ∧ (arr.toList.drop (a.off + i * sz)).take sz = cs := by
  obtain ⟨b, o, sp⟩ := a
  simp only at hs
  subst hs
  have h2 : ∀ j, j < sz → ∃ u, cs[j]? = some u ∧ w.cell? ((⟨b, o, none⟩ : Addr).add (i * sz + j)) = some u := fun j hj => by
    have h3 := h j hj
    rw [Deep.add_add] at h3
    rw [List.getElem?_eq_getElem (by omega)] at h3
    exact ⟨_, List.getElem?_eq_getElem (by omega), h3⟩
  obtain ⟨u0, _, h0⟩ := h2 0 (by omega)
  obtain ⟨arr, el, fr, hh, _⟩ := cell_at (a := ⟨b, o, none⟩) rfl h0
  have hall : ∀ j, j < sz → arr[o + (i * sz + j)]? = cs[j]? := fun j hj => by
    obtain ⟨u, hu, hc⟩ := h2 j hj
    obtain ⟨arr', el', fr', hh', hc'⟩ := cell_at (a := ⟨b, o, none⟩) rfl hc
    rw [hh] at hh'
    cases hh'
    rw [hu]; exact hc'
  have hlast : o + (i * sz + (sz - 1)) < arr.size := by
    have h3 := hall (sz - 1) (by omega)
    rw [List.getElem?_eq_getElem (by omega)] at h3
    exact (Array.getElem?_eq_some_iff.1 h3).1
  refine ⟨arr, el, fr, hh, by show o + i * sz + sz ≤ arr.size; omega, ?_⟩
  apply List.ext_getElem?
  intro j
  rw [List.getElem?_take]
  by_cases hj : j < sz
  · rw [if_pos hj, List.getElem?_drop, Array.getElem?_toList, ← hall j hj]
    show arr[o + i * sz + j]? = _
    rw [Nat.add_assoc]
  · rw [if_neg hj, List.getElem?_eq_none (by omega)]
/-- a slice of whatever has so many cells -/
theorem open_rows {r : Reach} {b0 : Nat} {t e : TypeId} {sz : Nat} {v : Value} {d : DataW H} {p : List MemPlace} (ht : P.underlying t = some (.slice e)) (hc : P.cellsOf e = sz) (hsz : 1 ≤ sz) (hv : Value.okWide P w r b0 t v) (h : DataW.Trod enc P w 0 (fun _ => true) true t v d p) :
    ∃ (ad : Option Addr) (cap : Nat) (rows : List (List Value)), v = .slice ad rows.length cap ∧ rows.length ≤ cap ∧ cap ≤ maxLen ∧ RowsIn (fun b => w.heap[b]?) ad sz rows ∧
      (∀ u, u ∈ rows → u.length = sz ∧ ∃ (n : Nat) (x : DataW H × List MemPlace), DataW.trod enc P w 0 (fun _ => true) true n e u = some x) ∧
      ∀ by_ B : Nat, (∀ elems spare, d = .slice elems spare → (elems.length + spare.length) * by_ ≤ B) → rows.length * by_ ≤ B := by
  obtain ⟨a, len, cap, rfl⟩ := okWide_slice ht hv
  obtain ⟨fuel, hf⟩ := h
  rcases Deep.open_slice ht hf with ⟨h0, _⟩ | ⟨a', len', cap', m, n, D, Pl, h0, hb, hl, hm, hmm, hd, hx⟩
  · simp [Value.cells] at h0
    obtain ⟨rfl, rfl, rfl⟩ := h0
    exact ⟨none, 0, [], rfl, Nat.le_refl _, Nat.zero_le _, fun i r h => by simp at h, fun u hu => by simp at hu, fun by_ B _ => by simp⟩
  · simp [Value.cells] at h0
    obtain ⟨rfl, rfl, rfl⟩ := h0
    rw [if_pos rfl] at hmm
    subst hmm
    rw [hc] at hx
    have hch : ∃ f : Nat → List Value, ∀ i, i < m → w.cells? 0 (a'.add (i * sz)) sz = some (f i) ∧ DataW.trod enc P w 0 (fun _ => true) true n e (f i) = some (D i, Pl i) := by
      refine ⟨fun i => if hi : i < m then (hx i hi).choose else [], fun i hi => ?_⟩
      simp only [dif_pos hi]
      exact (hx i hi).choose_spec
    obtain ⟨f, hf2⟩ := hch
    refine ⟨some a', m, (List.range len).map f, by rw [List.length_map, List.length_range], by rw [List.length_map, List.length_range]; exact hl, hm, ?_, ?_, ?_⟩
    · intro i u hi
      have hi2 : i < len := by
        have := (List.getElem?_eq_some_iff.1 hi).1
        simpa using this
      have e : u = f i := by
        rw [List.getElem?_map, List.getElem?_range hi2] at hi
        simpa using hi.symm
      subst e
      have hspot : a'.spot = none := by
        obtain ⟨h1, _⟩ := hf2 0 (by omega)
        obtain ⟨_, hlen, hcell⟩ := World.cells?_some h1
        have e0 := hcell 0 (by omega)
        rw [Deep.add_add, Nat.zero_mul, Nat.zero_add] at e0
        rw [List.getElem?_eq_getElem (by omega)] at e0
        exact spot_none e0
      obtain ⟨h1, _⟩ := hf2 i (by omega)
      obtain ⟨_, hlen, hcell⟩ := World.cells?_some h1
      obtain ⟨arr, el, fr, hh, hsz2, htk⟩ := cells_row hspot hsz hlen hcell
      refine ⟨a'.block, a'.off, arr, el, fr, ?_, hh, hsz2, htk⟩
      obtain ⟨b, o, sp⟩ := a'
      simp only at hspot
      subst hspot
      rfl
    · intro u hu
      obtain ⟨i, hi, rfl⟩ := List.mem_map.1 hu
      have hi := List.mem_range.1 hi
      obtain ⟨h1, h2⟩ := hf2 i (by omega)
      exact ⟨(World.cells?_some h1).2.1, n, _, h2⟩
    · intro by_ B hB
      have hd1 := congrArg Prod.fst hd
      have h := hB _ _ hd1
      simp only [List.length_map, List.length_range] at h ⊢
      exact Nat.le_trans (Nat.mul_le_mul_right _ (by omega)) h
end
end Go.Lg
end
section
namespace Go.Lg
open Go Go.RowKit
section
variable {P : Program} {n : Nat} {ops os : List Oper} {acc : List Eff} {K : List Eff → St → Prop} {s : List (Nat × LV)} {bx : List (Nat × Option Box)} {X : Nat → Option Obj}
theorem kmv {d : Nat} {x : Operand} {ty : TypeId} {pos : String} {after : Array Edge} {lv : LV} (hx : (⟨s, bx, X⟩ : St).ev x = some lv) (kont : RunK P n ops os ⟨(d, lv) :: s, bx, X⟩ (⟨[(d, lv)], [], []⟩ :: acc) K) :
    RunK P n ops (⟨some d, .move x, ty, pos, after, none⟩ :: os) ⟨s, bx, X⟩ acc K := Go.Lg.K.move hx .plain kont
theorem gmv {d : Nat} {x : Operand} {ty : TypeId} {pos : String} {after : Array Edge} {lv : LV} (hx : (⟨s, bx, X⟩ : St).ev x = some lv) {gj gt : Nat} {gb : Bool} (g1 : (ops[gj]?).bind (·.dst) = some gt) (g2 : look gt s = some (.sv (.one (.val (.bool gb))))) (kont : RunK P n ops os ⟨(d, lv) :: s, bx, X⟩ (⟨[(d, lv)], [], []⟩ :: acc) K) :
    RunK P n ops (⟨some d, .move x, ty, pos, after, some (gj, gb)⟩ :: os) ⟨s, bx, X⟩ acc K := Go.Lg.K.move hx (.taken g1 g2) kont
theorem kas {d : Nat} {x : Operand} {ty : TypeId} {pos : String} {after : Array Edge} {lv : LV} (hx : (⟨s, bx, X⟩ : St).ev x = some lv) (kont : RunK P n ops os ⟨(d, lv) :: s, bx, X⟩ (⟨[(d, lv)], [], []⟩ :: acc) K) :
    RunK P n ops (⟨some d, .assign x, ty, pos, after, none⟩ :: os) ⟨s, bx, X⟩ acc K := Go.Lg.K.assign hx .plain kont
theorem kpt {d : Nat} {c x y : Operand} {ty : TypeId} {pos : String} {after : Array Edge} {lv : LV} (hc : (⟨s, bx, X⟩ : St).ev c = some (.sv (.one (.val (.bool true))))) (hx : (⟨s, bx, X⟩ : St).ev x = some lv) (kont : RunK P n ops os ⟨(d, lv) :: s, bx, X⟩ (⟨[(d, lv)], [], []⟩ :: acc) K) :
    RunK P n ops (⟨some d, .pick c x y, ty, pos, after, none⟩ :: os) ⟨s, bx, X⟩ acc K := Go.Lg.K.pickT hc hx .plain kont
theorem kpf {d : Nat} {c x y : Operand} {ty : TypeId} {pos : String} {after : Array Edge} {lv : LV} (hc : (⟨s, bx, X⟩ : St).ev c = some (.sv (.one (.val (.bool false))))) (hy : (⟨s, bx, X⟩ : St).ev y = some lv) (kont : RunK P n ops os ⟨(d, lv) :: s, bx, X⟩ (⟨[(d, lv)], [], []⟩ :: acc) K) :
    RunK P n ops (⟨some d, .pick c x y, ty, pos, after, none⟩ :: os) ⟨s, bx, X⟩ acc K := Go.Lg.K.pickF hc hy .plain kont
theorem kex {s0 : List (Nat × LV)} {d : Nat} {x : Operand} {i : Nat} {ty : TypeId} {pos : String} {after : Array Edge} {l : List SV} {s : SV} (hx : (⟨s0, bx, X⟩ : St).ev x = some (.tup l)) (hi : l[i]? = some s) (kont : RunK P n ops os ⟨(d, .sv s) :: s0, bx, X⟩ (⟨[(d, .sv s)], [], []⟩ :: acc) K) :
    RunK P n ops (⟨some d, .extract x i, ty, pos, after, none⟩ :: os) ⟨s0, bx, X⟩ acc K := Go.Lg.K.extract hx hi .plain kont
theorem kad {d : Nat} {t : TypeId} {t' : TypeId} {x : Operand} {y : Operand} {ty : TypeId} {pos : String} {after : Array Edge} {k : IntKind} {a : Int} {b : Int} {c : Int} (hx : (⟨s, bx, X⟩ : St).ev x = some (.sv (.one (.val (.int k a))))) (hy : (⟨s, bx, X⟩ : St).ev y = some (.sv (.one (.val (.int k b))))) (hc : k.wrap (a + b) = c) (kont : RunK P n ops os ⟨(d, .sv (.one (.val (.int k c)))) :: s, bx, X⟩ (⟨[(d, .sv (.one (.val (.int k c))))], [], []⟩ :: acc) K) :
    RunK P n ops (⟨some d, .binOp .add t x y t', ty, pos, after, none⟩ :: os) ⟨s, bx, X⟩ acc K := Go.Lg.K.add hx hy hc .plain kont
theorem keq {d : Nat} {t : TypeId} {t' : TypeId} {x : Operand} {y : Operand} {ty : TypeId} {pos : String} {after : Array Edge} {k : IntKind} {a : Int} {b : Int} {r : Bool} (hx : (⟨s, bx, X⟩ : St).ev x = some (.sv (.one (.val (.int k a))))) (hy : (⟨s, bx, X⟩ : St).ev y = some (.sv (.one (.val (.int k b))))) (hc : (a == b) = r) (kont : RunK P n ops os ⟨(d, .sv (.one (.val (.bool r)))) :: s, bx, X⟩ (⟨[(d, .sv (.one (.val (.bool r))))], [], []⟩ :: acc) K) :
    RunK P n ops (⟨some d, .binOp .eql t x y t', ty, pos, after, none⟩ :: os) ⟨s, bx, X⟩ acc K := Go.Lg.K.eql hx hy hc .plain kont
theorem kne {d : Nat} {t : TypeId} {t' : TypeId} {x : Operand} {y : Operand} {ty : TypeId} {pos : String} {after : Array Edge} {k : IntKind} {a : Int} {b : Int} {r : Bool} (hx : (⟨s, bx, X⟩ : St).ev x = some (.sv (.one (.val (.int k a))))) (hy : (⟨s, bx, X⟩ : St).ev y = some (.sv (.one (.val (.int k b))))) (hc : (a != b) = r) (kont : RunK P n ops os ⟨(d, .sv (.one (.val (.bool r)))) :: s, bx, X⟩ (⟨[(d, .sv (.one (.val (.bool r))))], [], []⟩ :: acc) K) :
    RunK P n ops (⟨some d, .binOp .neq t x y t', ty, pos, after, none⟩ :: os) ⟨s, bx, X⟩ acc K := Go.Lg.K.neq hx hy hc .plain kont
theorem klt {d : Nat} {t : TypeId} {t' : TypeId} {x : Operand} {y : Operand} {ty : TypeId} {pos : String} {after : Array Edge} {k : IntKind} {a : Int} {b : Int} {r : Bool} (hx : (⟨s, bx, X⟩ : St).ev x = some (.sv (.one (.val (.int k a))))) (hy : (⟨s, bx, X⟩ : St).ev y = some (.sv (.one (.val (.int k b))))) (hc : decide (a < b) = r) (kont : RunK P n ops os ⟨(d, .sv (.one (.val (.bool r)))) :: s, bx, X⟩ (⟨[(d, .sv (.one (.val (.bool r))))], [], []⟩ :: acc) K) :
    RunK P n ops (⟨some d, .binOp .lss t x y t', ty, pos, after, none⟩ :: os) ⟨s, bx, X⟩ acc K := Go.Lg.K.lss hx hy hc .plain kont
theorem kse {d : Nat} {t : TypeId} {t' : TypeId} {x : Operand} {y : Operand} {ty : TypeId} {pos : String} {after : Array Edge} {r : Bool} {p q : ByteArray} (hx : (⟨s, bx, X⟩ : St).ev x = some (.sv (.one (.val (.string p))))) (hy : (⟨s, bx, X⟩ : St).ev y = some (.sv (.one (.val (.string q))))) (hc : (p.toList == q.toList) = r) (kont : RunK P n ops os ⟨(d, .sv (.one (.val (.bool r)))) :: s, bx, X⟩ (⟨[(d, .sv (.one (.val (.bool r))))], [], []⟩ :: acc) K) :
    RunK P n ops (⟨some d, .binOp .eql t x y t', ty, pos, after, none⟩ :: os) ⟨s, bx, X⟩ acc K := Go.Lg.K.strEq hx hy hc .plain kont
theorem kca {d : Nat} {f : FuncId} {args : List Operand} {tys : Array TypeId} {ty : TypeId} {pos : String} {after : Array Edge} {lvs : List LV} {r : LV} (hargs : evs ⟨s, bx, X⟩ args = some lvs) (hcl : lvs.all LV.closed = true) (hs : PSpec P X f lvs r) (kont : RunK P n ops os ⟨(d, r) :: s, bx, X⟩ (⟨[(d, r)], [], []⟩ :: acc) K) :
    RunK P n ops (⟨some d, .call ⟨.value (.func f), args.toArray, tys⟩, ty, pos, after, none⟩ :: os) ⟨s, bx, X⟩ acc K := Go.Lg.K.call hargs hcl hs .plain kont
theorem gca {d : Nat} {f : FuncId} {args : List Operand} {tys : Array TypeId} {ty : TypeId} {pos : String} {after : Array Edge} {lvs : List LV} {r : LV} (hargs : evs ⟨s, bx, X⟩ args = some lvs) (hcl : lvs.all LV.closed = true) (hs : PSpec P X f lvs r) {gj gt : Nat} {gb : Bool} (g1 : (ops[gj]?).bind (·.dst) = some gt) (g2 : look gt s = some (.sv (.one (.val (.bool gb))))) (kont : RunK P n ops os ⟨(d, r) :: s, bx, X⟩ (⟨[(d, r)], [], []⟩ :: acc) K) :
    RunK P n ops (⟨some d, .call ⟨.value (.func f), args.toArray, tys⟩, ty, pos, after, some (gj, gb)⟩ :: os) ⟨s, bx, X⟩ acc K := Go.Lg.K.call hargs hcl hs (.taken g1 g2) kont
theorem kl1 {d : Nat} {t : TypeId} {x : Operand} {ty : TypeId} {pos : String} {after : Array Edge} {k off : Nat} {b : Box} {c : CV} [i : OneT P t] (hx : (⟨s, bx, X⟩ : St).ev x = some (.sv (.one (.ptr k off)))) (hk : (⟨s, bx, X⟩ : St).stat k = some (some b)) (hc : b.cells[off]? = some c) (kont : RunK P n ops os ⟨(d, .sv (.one c)) :: s, bx, X⟩ (⟨[(d, .sv (.one c))], [k], []⟩ :: acc) K) :
    RunK P n ops (⟨some d, .load t x, ty, pos, after, none⟩ :: os) ⟨s, bx, X⟩ acc K := Go.Lg.K.loadOne hx hk hc .plain kont
theorem kfa {d : Nat} {t : TypeId} {x : Operand} {ty : TypeId} {pos : String} {after : Array Edge} {i k off o m : Nat} [f : FieldT P t i o m] (hx : (⟨s, bx, X⟩ : St).ev x = some (.sv (.one (.ptr k off)))) {off' : Nat} (ho : Nat.add off o = off') (kont : RunK P n ops os ⟨(d, .sv (.one (.ptr k off'))) :: s, bx, X⟩ (⟨[(d, .sv (.one (.ptr k off')))], [], []⟩ :: acc) K) :
    RunK P n ops (⟨some d, .fieldAddr t x i, ty, pos, after, none⟩ :: os) ⟨s, bx, X⟩ acc K := Go.Lg.K.fieldAddr hx ho .plain kont
theorem kln {d : Nat} {t : TypeId} {x : Operand} {ty : TypeId} {pos : String} {after : Array Edge} {s0 : List (Nat × LV)} {s : ByteArray} [StrT P t] (hx : (⟨s0, bx, X⟩ : St).ev x = some (.sv (.one (.val (.string s))))) (kont : RunK P n ops os ⟨(d, .sv (.one (.val (.int .i64 s.size)))) :: s0, bx, X⟩ (⟨[(d, .sv (.one (.val (.int .i64 s.size))))], [], []⟩ :: acc) K) :
    RunK P n ops (⟨some d, .call ⟨.builtin .len, #[x], #[t]⟩, ty, pos, after, none⟩ :: os) ⟨s0, bx, X⟩ acc K := Go.Lg.K.lenStr hx .plain kont
theorem kcv {d : Nat} {t : TypeId} {t' : TypeId} {x : Operand} {ty : TypeId} {pos : String} {after : Array Edge} {k k' : IntKind} {a c : Int} {ks : IntKind} [i : IntT P t ks] [i' : IntT P t' k'] (hx : (⟨s, bx, X⟩ : St).ev x = some (.sv (.one (.val (.int k a))))) (hc : k'.wrap a = c) (kont : RunK P n ops os ⟨(d, .sv (.one (.val (.int k' c)))) :: s, bx, X⟩ (⟨[(d, .sv (.one (.val (.int k' c))))], [], []⟩ :: acc) K) :
    RunK P n ops (⟨some d, .convert t t' x, ty, pos, after, none⟩ :: os) ⟨s, bx, X⟩ acc K := Go.Lg.K.conv hx hc .plain kont
end
end Go.Lg
end
section
namespace Go.Proofs.YtfmadklfcoebhaaDoor
open Go Go.Lg
theorem mixed : Tryd.prog.follows .mixedOrders = true := by kernel_rfl
instance : ZeroT Tryd.prog 1 [(.val (.nilFunc))] := ⟨by kernel_rfl⟩
instance : OneT Tryd.prog 1 := ⟨by kernel_rfl⟩
instance : ZeroT Tryd.prog 2 [(.val (.int .i64 0))] := ⟨by kernel_rfl⟩
instance : OneT Tryd.prog 2 := ⟨by kernel_rfl⟩
instance : IntT Tryd.prog 2 .i64 := ⟨by kernel_rfl⟩
instance : ZeroT Tryd.prog 3 [(.val (.int .i64 0))] := ⟨by kernel_rfl⟩
instance : OneT Tryd.prog 3 := ⟨by kernel_rfl⟩
instance : IntT Tryd.prog 3 .i64 := ⟨by kernel_rfl⟩
instance : ZeroT Tryd.prog 4 [(.val (.bool false))] := ⟨by kernel_rfl⟩
instance : OneT Tryd.prog 4 := ⟨by kernel_rfl⟩
instance : BoolT Tryd.prog 4 := ⟨by kernel_rfl⟩
instance : ZeroT Tryd.prog 5 [(.val (.int .u8 0))] := ⟨by kernel_rfl⟩
instance : OneT Tryd.prog 5 := ⟨by kernel_rfl⟩
instance : IntT Tryd.prog 5 .u8 := ⟨by kernel_rfl⟩
instance : ZeroT Tryd.prog 6 [(.val (.int .u8 0))] := ⟨by kernel_rfl⟩
instance : OneT Tryd.prog 6 := ⟨by kernel_rfl⟩
instance : IntT Tryd.prog 6 .u8 := ⟨by kernel_rfl⟩
instance : ZeroT Tryd.prog 7 [(.val (.int .i64 0)), (.val (.int .i64 0)), (.val (.bool false)), (.val (.int .u8 0))] := ⟨by kernel_rfl⟩
instance : AggT Tryd.prog 7 4 := ⟨by kernel_rfl⟩
instance : FieldT Tryd.prog 7 0 0 0 := ⟨by kernel_rfl⟩
instance : FieldT Tryd.prog 7 1 1 0 := ⟨by kernel_rfl⟩
instance : FieldT Tryd.prog 7 2 2 0 := ⟨by kernel_rfl⟩
instance : FieldT Tryd.prog 7 3 3 0 := ⟨by kernel_rfl⟩
instance : StructT Tryd.prog 7 [(.int .i64 0), (.int .i64 0), (.bool false), (.int .u8 0)] [(0, 1), (1, 1), (2, 1), (3, 1)] := ⟨by kernel_rfl⟩
instance : ZeroT Tryd.prog 8 [(.val (.int .i64 0)), (.val (.int .i64 0)), (.val (.bool false)), (.val (.int .u8 0))] := ⟨by kernel_rfl⟩
instance : AggT Tryd.prog 8 4 := ⟨by kernel_rfl⟩
instance : FieldT Tryd.prog 8 0 0 0 := ⟨by kernel_rfl⟩
instance : FieldT Tryd.prog 8 1 1 0 := ⟨by kernel_rfl⟩
instance : FieldT Tryd.prog 8 2 2 0 := ⟨by kernel_rfl⟩
instance : FieldT Tryd.prog 8 3 3 0 := ⟨by kernel_rfl⟩
instance : StructT Tryd.prog 8 [(.int .i64 0), (.int .i64 0), (.bool false), (.int .u8 0)] [(0, 1), (1, 1), (2, 1), (3, 1)] := ⟨by kernel_rfl⟩
instance : ZeroT Tryd.prog 9 [(.val (.string ⟨#[]⟩))] := ⟨by kernel_rfl⟩
instance : OneT Tryd.prog 9 := ⟨by kernel_rfl⟩
instance : StrT Tryd.prog 9 := ⟨by kernel_rfl⟩
instance : ZeroT Tryd.prog 10 [(.val (.string ⟨#[]⟩))] := ⟨by kernel_rfl⟩
instance : OneT Tryd.prog 10 := ⟨by kernel_rfl⟩
instance : StrT Tryd.prog 10 := ⟨by kernel_rfl⟩
instance : ZeroT Tryd.prog 11 [(.val (.string ⟨#[]⟩))] := ⟨by kernel_rfl⟩
instance : OneT Tryd.prog 11 := ⟨by kernel_rfl⟩
instance : StrT Tryd.prog 11 := ⟨by kernel_rfl⟩
instance : ZeroT Tryd.prog 12 [(.val (.int .u64 0))] := ⟨by kernel_rfl⟩
instance : OneT Tryd.prog 12 := ⟨by kernel_rfl⟩
instance : IntT Tryd.prog 12 .u64 := ⟨by kernel_rfl⟩
instance : ZeroT Tryd.prog 13 [(.val (.string ⟨#[]⟩)), (.val (.int .u64 0))] := ⟨by kernel_rfl⟩
instance : AggT Tryd.prog 13 2 := ⟨by kernel_rfl⟩
instance : FieldT Tryd.prog 13 0 0 0 := ⟨by kernel_rfl⟩
instance : FieldT Tryd.prog 13 1 1 0 := ⟨by kernel_rfl⟩
instance : StructT Tryd.prog 13 [(.string ⟨#[]⟩), (.int .u64 0)] [(0, 1), (1, 1)] := ⟨by kernel_rfl⟩
instance : ZeroT Tryd.prog 14 [(.val (.string ⟨#[]⟩)), (.val (.int .u64 0))] := ⟨by kernel_rfl⟩
instance : AggT Tryd.prog 14 2 := ⟨by kernel_rfl⟩
instance : FieldT Tryd.prog 14 0 0 0 := ⟨by kernel_rfl⟩
instance : FieldT Tryd.prog 14 1 1 0 := ⟨by kernel_rfl⟩
instance : StructT Tryd.prog 14 [(.string ⟨#[]⟩), (.int .u64 0)] [(0, 1), (1, 1)] := ⟨by kernel_rfl⟩
instance : ZeroT Tryd.prog 15 [(.val (.pointer none))] := ⟨by kernel_rfl⟩
instance : OneT Tryd.prog 15 := ⟨by kernel_rfl⟩
instance : ZeroT Tryd.prog 16 [(.val (.pointer none))] := ⟨by kernel_rfl⟩
instance : OneT Tryd.prog 16 := ⟨by kernel_rfl⟩
instance : ZeroT Tryd.prog 17 [(.val (.pointer none))] := ⟨by kernel_rfl⟩
instance : OneT Tryd.prog 17 := ⟨by kernel_rfl⟩
instance : ZeroT Tryd.prog 18 [(.val (.pointer none))] := ⟨by kernel_rfl⟩
instance : AggT Tryd.prog 18 1 := ⟨by kernel_rfl⟩
instance : FieldT Tryd.prog 18 0 0 0 := ⟨by kernel_rfl⟩
instance : StructT Tryd.prog 18 [(.pointer none)] [(0, 1)] := ⟨by kernel_rfl⟩
instance : ZeroT Tryd.prog 19 [(.val (.pointer none))] := ⟨by kernel_rfl⟩
instance : AggT Tryd.prog 19 1 := ⟨by kernel_rfl⟩
instance : FieldT Tryd.prog 19 0 0 0 := ⟨by kernel_rfl⟩
instance : StructT Tryd.prog 19 [(.pointer none)] [(0, 1)] := ⟨by kernel_rfl⟩
instance : ZeroT Tryd.prog 20 [(.val (.nilIface))] := ⟨by kernel_rfl⟩
instance : OneT Tryd.prog 20 := ⟨by kernel_rfl⟩
instance : ZeroT Tryd.prog 21 [(.val (.int .i32 0))] := ⟨by kernel_rfl⟩
instance : OneT Tryd.prog 21 := ⟨by kernel_rfl⟩
instance : IntT Tryd.prog 21 .i32 := ⟨by kernel_rfl⟩
instance : ZeroT Tryd.prog 22 [(.val (.slice none 0 0))] := ⟨by kernel_rfl⟩
instance : OneT Tryd.prog 22 := ⟨by kernel_rfl⟩
instance : SliceT Tryd.prog 22 3 := ⟨by kernel_rfl⟩
instance : ZeroT Tryd.prog 23 [(.val (.nilFunc))] := ⟨by kernel_rfl⟩
instance : OneT Tryd.prog 23 := ⟨by kernel_rfl⟩
instance : ZeroT Tryd.prog 24 [(.val (.nilFunc))] := ⟨by kernel_rfl⟩
instance : OneT Tryd.prog 24 := ⟨by kernel_rfl⟩
instance : ZeroT Tryd.prog 25 [(.val (.slice none 0 0))] := ⟨by kernel_rfl⟩
instance : OneT Tryd.prog 25 := ⟨by kernel_rfl⟩
instance : SliceT Tryd.prog 25 2 := ⟨by kernel_rfl⟩
instance : ZeroT Tryd.prog 26 [(.val (.slice none 0 0))] := ⟨by kernel_rfl⟩
instance : OneT Tryd.prog 26 := ⟨by kernel_rfl⟩
instance : SliceT Tryd.prog 26 1 := ⟨by kernel_rfl⟩
instance : ZeroT Tryd.prog 28 [(.val (.nilFunc))] := ⟨by kernel_rfl⟩
instance : OneT Tryd.prog 28 := ⟨by kernel_rfl⟩
instance : ZeroT Tryd.prog 29 [(.val (.int .i64 0)), (.val (.slice none 0 0))] := ⟨by kernel_rfl⟩
instance : AggT Tryd.prog 29 2 := ⟨by kernel_rfl⟩
instance : FieldT Tryd.prog 29 0 0 0 := ⟨by kernel_rfl⟩
instance : FieldT Tryd.prog 29 1 1 0 := ⟨by kernel_rfl⟩
instance : StructT Tryd.prog 29 [(.int .i64 0), (.slice none 0 0)] [(0, 1), (1, 1)] := ⟨by kernel_rfl⟩
instance : ZeroT Tryd.prog 30 [(.val (.int .i64 0)), (.val (.slice none 0 0))] := ⟨by kernel_rfl⟩
instance : AggT Tryd.prog 30 2 := ⟨by kernel_rfl⟩
instance : FieldT Tryd.prog 30 0 0 0 := ⟨by kernel_rfl⟩
instance : FieldT Tryd.prog 30 1 1 0 := ⟨by kernel_rfl⟩
instance : StructT Tryd.prog 30 [(.int .i64 0), (.slice none 0 0)] [(0, 1), (1, 1)] := ⟨by kernel_rfl⟩
instance : ZeroT Tryd.prog 31 [(.val (.int .i64 0))] := ⟨by kernel_rfl⟩
instance : OneT Tryd.prog 31 := ⟨by kernel_rfl⟩
instance : IntT Tryd.prog 31 .i64 := ⟨by kernel_rfl⟩
instance : ZeroT Tryd.prog 33 [(.val (.nilFunc))] := ⟨by kernel_rfl⟩
instance : OneT Tryd.prog 33 := ⟨by kernel_rfl⟩
instance : ZeroT Tryd.prog 34 [(.val (.nilFunc))] := ⟨by kernel_rfl⟩
instance : OneT Tryd.prog 34 := ⟨by kernel_rfl⟩
instance : ZeroT Tryd.prog 35 [(.val (.int .i64 0))] := ⟨by kernel_rfl⟩
instance : OneT Tryd.prog 35 := ⟨by kernel_rfl⟩
instance : IntT Tryd.prog 35 .i64 := ⟨by kernel_rfl⟩
instance : ZeroT Tryd.prog 36 [(.val (.string ⟨#[]⟩)), (.val (.int .i64 0)), (.val (.int .i64 0))] := ⟨by kernel_rfl⟩
instance : AggT Tryd.prog 36 3 := ⟨by kernel_rfl⟩
instance : FieldT Tryd.prog 36 0 0 0 := ⟨by kernel_rfl⟩
instance : FieldT Tryd.prog 36 1 1 0 := ⟨by kernel_rfl⟩
instance : FieldT Tryd.prog 36 2 2 0 := ⟨by kernel_rfl⟩
instance : StructT Tryd.prog 36 [(.string ⟨#[]⟩), (.int .i64 0), (.int .i64 0)] [(0, 1), (1, 1), (2, 1)] := ⟨by kernel_rfl⟩
instance : ZeroT Tryd.prog 37 [(.val (.string ⟨#[]⟩)), (.val (.int .i64 0)), (.val (.int .i64 0))] := ⟨by kernel_rfl⟩
instance : AggT Tryd.prog 37 3 := ⟨by kernel_rfl⟩
instance : FieldT Tryd.prog 37 0 0 0 := ⟨by kernel_rfl⟩
instance : FieldT Tryd.prog 37 1 1 0 := ⟨by kernel_rfl⟩
instance : FieldT Tryd.prog 37 2 2 0 := ⟨by kernel_rfl⟩
instance : StructT Tryd.prog 37 [(.string ⟨#[]⟩), (.int .i64 0), (.int .i64 0)] [(0, 1), (1, 1), (2, 1)] := ⟨by kernel_rfl⟩
instance : ZeroT Tryd.prog 38 [(.val (.slice none 0 0))] := ⟨by kernel_rfl⟩
instance : OneT Tryd.prog 38 := ⟨by kernel_rfl⟩
instance : SliceT Tryd.prog 38 3 := ⟨by kernel_rfl⟩
instance : ZeroT Tryd.prog 39 [(.val (.nilFunc))] := ⟨by kernel_rfl⟩
instance : OneT Tryd.prog 39 := ⟨by kernel_rfl⟩
instance : ZeroT Tryd.prog 40 [(.val (.int .u64 0))] := ⟨by kernel_rfl⟩
instance : OneT Tryd.prog 40 := ⟨by kernel_rfl⟩
instance : IntT Tryd.prog 40 .u64 := ⟨by kernel_rfl⟩
instance : ZeroT Tryd.prog 41 [(.val (.bool false)), (.val (.int .u64 0)), (.val (.int .u64 0))] := ⟨by kernel_rfl⟩
instance : AggT Tryd.prog 41 3 := ⟨by kernel_rfl⟩
instance : FieldT Tryd.prog 41 0 0 0 := ⟨by kernel_rfl⟩
instance : FieldT Tryd.prog 41 1 1 0 := ⟨by kernel_rfl⟩
instance : FieldT Tryd.prog 41 2 2 0 := ⟨by kernel_rfl⟩
instance : StructT Tryd.prog 41 [(.bool false), (.int .u64 0), (.int .u64 0)] [(0, 1), (1, 1), (2, 1)] := ⟨by kernel_rfl⟩
instance : ZeroT Tryd.prog 42 [(.val (.bool false)), (.val (.int .u64 0)), (.val (.int .u64 0))] := ⟨by kernel_rfl⟩
instance : AggT Tryd.prog 42 3 := ⟨by kernel_rfl⟩
instance : FieldT Tryd.prog 42 0 0 0 := ⟨by kernel_rfl⟩
instance : FieldT Tryd.prog 42 1 1 0 := ⟨by kernel_rfl⟩
instance : FieldT Tryd.prog 42 2 2 0 := ⟨by kernel_rfl⟩
instance : StructT Tryd.prog 42 [(.bool false), (.int .u64 0), (.int .u64 0)] [(0, 1), (1, 1), (2, 1)] := ⟨by kernel_rfl⟩
instance : ZeroT Tryd.prog 43 [(.val (.nilFunc))] := ⟨by kernel_rfl⟩
instance : OneT Tryd.prog 43 := ⟨by kernel_rfl⟩
instance : ZeroT Tryd.prog 44 [(.val (.nilFunc))] := ⟨by kernel_rfl⟩
instance : OneT Tryd.prog 44 := ⟨by kernel_rfl⟩
instance : ZeroT Tryd.prog 45 [(.val (.nilFunc))] := ⟨by kernel_rfl⟩
instance : OneT Tryd.prog 45 := ⟨by kernel_rfl⟩
instance : ZeroT Tryd.prog 46 [(.val (.nilFunc))] := ⟨by kernel_rfl⟩
instance : OneT Tryd.prog 46 := ⟨by kernel_rfl⟩
instance : ZeroT Tryd.prog 48 [(.val (.nilFunc))] := ⟨by kernel_rfl⟩
instance : OneT Tryd.prog 48 := ⟨by kernel_rfl⟩
instance : ZeroT Tryd.prog 49 [(.val (.nilFunc))] := ⟨by kernel_rfl⟩
instance : OneT Tryd.prog 49 := ⟨by kernel_rfl⟩
instance : ZeroT Tryd.prog 50 [(.val (.nilFunc))] := ⟨by kernel_rfl⟩
instance : OneT Tryd.prog 50 := ⟨by kernel_rfl⟩
instance : ZeroT Tryd.prog 52 [(.val (.nilFunc))] := ⟨by kernel_rfl⟩
instance : OneT Tryd.prog 52 := ⟨by kernel_rfl⟩
instance : ZeroT Tryd.prog 54 [(.val (.nilFunc))] := ⟨by kernel_rfl⟩
instance : OneT Tryd.prog 54 := ⟨by kernel_rfl⟩
instance : ZeroT Tryd.prog 55 [(.val (.nilFunc))] := ⟨by kernel_rfl⟩
instance : OneT Tryd.prog 55 := ⟨by kernel_rfl⟩
instance : ZeroT Tryd.prog 56 [(.val (.nilFunc))] := ⟨by kernel_rfl⟩
instance : OneT Tryd.prog 56 := ⟨by kernel_rfl⟩
instance : ZeroT Tryd.prog 57 [(.val (.nilFunc))] := ⟨by kernel_rfl⟩
instance : OneT Tryd.prog 57 := ⟨by kernel_rfl⟩
instance : ZeroT Tryd.prog 58 [(.val (.int .u64 0))] := ⟨by kernel_rfl⟩
instance : OneT Tryd.prog 58 := ⟨by kernel_rfl⟩
instance : IntT Tryd.prog 58 .u64 := ⟨by kernel_rfl⟩
instance : ZeroT Tryd.prog 59 [(.val (.nilFunc))] := ⟨by kernel_rfl⟩
instance : OneT Tryd.prog 59 := ⟨by kernel_rfl⟩
instance : ZeroT Tryd.prog 60 [(.val (.nilFunc))] := ⟨by kernel_rfl⟩
instance : OneT Tryd.prog 60 := ⟨by kernel_rfl⟩
instance : ZeroT Tryd.prog 61 [(.val (.nilFunc))] := ⟨by kernel_rfl⟩
instance : OneT Tryd.prog 61 := ⟨by kernel_rfl⟩
instance : ZeroT Tryd.prog 62 [(.val (.nilFunc))] := ⟨by kernel_rfl⟩
instance : OneT Tryd.prog 62 := ⟨by kernel_rfl⟩
instance : ZeroT Tryd.prog 63 [(.val (.nilFunc))] := ⟨by kernel_rfl⟩
instance : OneT Tryd.prog 63 := ⟨by kernel_rfl⟩
instance : ZeroT Tryd.prog 64 [(.val (.int .i64 0)), (.val (.int .i64 0))] := ⟨by kernel_rfl⟩
instance : AggT Tryd.prog 64 2 := ⟨by kernel_rfl⟩
instance : FieldT Tryd.prog 64 0 0 0 := ⟨by kernel_rfl⟩
instance : FieldT Tryd.prog 64 1 1 0 := ⟨by kernel_rfl⟩
instance : StructT Tryd.prog 64 [(.int .i64 0), (.int .i64 0)] [(0, 1), (1, 1)] := ⟨by kernel_rfl⟩
instance : ZeroT Tryd.prog 65 [(.val (.int .i64 0)), (.val (.int .i64 0))] := ⟨by kernel_rfl⟩
instance : AggT Tryd.prog 65 2 := ⟨by kernel_rfl⟩
instance : FieldT Tryd.prog 65 0 0 0 := ⟨by kernel_rfl⟩
instance : FieldT Tryd.prog 65 1 1 0 := ⟨by kernel_rfl⟩
instance : StructT Tryd.prog 65 [(.int .i64 0), (.int .i64 0)] [(0, 1), (1, 1)] := ⟨by kernel_rfl⟩
instance : ZeroT Tryd.prog 66 [(.val (.nilFunc))] := ⟨by kernel_rfl⟩
instance : OneT Tryd.prog 66 := ⟨by kernel_rfl⟩
instance : ZeroT Tryd.prog 67 [(.val (.nilFunc))] := ⟨by kernel_rfl⟩
instance : OneT Tryd.prog 67 := ⟨by kernel_rfl⟩
instance : ZeroT Tryd.prog 68 [(.val (.nilFunc))] := ⟨by kernel_rfl⟩
instance : OneT Tryd.prog 68 := ⟨by kernel_rfl⟩
instance : ZeroT Tryd.prog 69 [(.val (.slice none 0 0))] := ⟨by kernel_rfl⟩
instance : OneT Tryd.prog 69 := ⟨by kernel_rfl⟩
instance : SliceT Tryd.prog 69 1 := ⟨by kernel_rfl⟩
instance : ZeroT Tryd.prog 70 [(.val (.slice none 0 0))] := ⟨by kernel_rfl⟩
instance : OneT Tryd.prog 70 := ⟨by kernel_rfl⟩
instance : SliceT Tryd.prog 70 2 := ⟨by kernel_rfl⟩
instance : ZeroT Tryd.prog 71 [(.val (.nilFunc))] := ⟨by kernel_rfl⟩
instance : OneT Tryd.prog 71 := ⟨by kernel_rfl⟩
instance : ZeroT Tryd.prog 72 [(.val (.int .i64 0)), (.val (.int .i64 0))] := ⟨by kernel_rfl⟩
instance : AggT Tryd.prog 72 2 := ⟨by kernel_rfl⟩
instance : FieldT Tryd.prog 72 0 0 0 := ⟨by kernel_rfl⟩
instance : FieldT Tryd.prog 72 1 1 0 := ⟨by kernel_rfl⟩
instance : StructT Tryd.prog 72 [(.int .i64 0), (.int .i64 0)] [(0, 1), (1, 1)] := ⟨by kernel_rfl⟩
instance : ZeroT Tryd.prog 73 [(.val (.int .i64 0)), (.val (.int .i64 0))] := ⟨by kernel_rfl⟩
instance : AggT Tryd.prog 73 2 := ⟨by kernel_rfl⟩
instance : FieldT Tryd.prog 73 0 0 0 := ⟨by kernel_rfl⟩
instance : FieldT Tryd.prog 73 1 1 0 := ⟨by kernel_rfl⟩
instance : StructT Tryd.prog 73 [(.int .i64 0), (.int .i64 0)] [(0, 1), (1, 1)] := ⟨by kernel_rfl⟩
instance : ZeroT Tryd.prog 74 [(.val (.nilFunc))] := ⟨by kernel_rfl⟩
instance : OneT Tryd.prog 74 := ⟨by kernel_rfl⟩
instance : ZeroT Tryd.prog 75 [(.val (.nilFunc))] := ⟨by kernel_rfl⟩
instance : OneT Tryd.prog 75 := ⟨by kernel_rfl⟩
instance : ZeroT Tryd.prog 77 [(.val (.nilFunc))] := ⟨by kernel_rfl⟩
instance : OneT Tryd.prog 77 := ⟨by kernel_rfl⟩
instance : ZeroT Tryd.prog 78 [(.val (.nilFunc))] := ⟨by kernel_rfl⟩
instance : OneT Tryd.prog 78 := ⟨by kernel_rfl⟩
instance : ZeroT Tryd.prog 79 [(.val (.nilFunc))] := ⟨by kernel_rfl⟩
instance : OneT Tryd.prog 79 := ⟨by kernel_rfl⟩
instance : ZeroT Tryd.prog 81 [(.val (.nilFunc))] := ⟨by kernel_rfl⟩
instance : OneT Tryd.prog 81 := ⟨by kernel_rfl⟩
instance : ZeroT Tryd.prog 82 [(.val (.string ⟨#[]⟩)), (.val (.int .i64 0)), (.val (.int .u64 0)), (.val (.int .u64 0))] := ⟨by kernel_rfl⟩
instance : AggT Tryd.prog 82 4 := ⟨by kernel_rfl⟩
instance : FieldT Tryd.prog 82 0 0 0 := ⟨by kernel_rfl⟩
instance : FieldT Tryd.prog 82 1 1 0 := ⟨by kernel_rfl⟩
instance : FieldT Tryd.prog 82 2 2 0 := ⟨by kernel_rfl⟩
instance : FieldT Tryd.prog 82 3 3 0 := ⟨by kernel_rfl⟩
instance : StructT Tryd.prog 82 [(.string ⟨#[]⟩), (.int .i64 0), (.int .u64 0), (.int .u64 0)] [(0, 1), (1, 1), (2, 1), (3, 1)] := ⟨by kernel_rfl⟩
instance : ZeroT Tryd.prog 83 [(.val (.string ⟨#[]⟩)), (.val (.int .i64 0)), (.val (.int .u64 0)), (.val (.int .u64 0))] := ⟨by kernel_rfl⟩
instance : AggT Tryd.prog 83 4 := ⟨by kernel_rfl⟩
instance : FieldT Tryd.prog 83 0 0 0 := ⟨by kernel_rfl⟩
instance : FieldT Tryd.prog 83 1 1 0 := ⟨by kernel_rfl⟩
instance : FieldT Tryd.prog 83 2 2 0 := ⟨by kernel_rfl⟩
instance : FieldT Tryd.prog 83 3 3 0 := ⟨by kernel_rfl⟩
instance : StructT Tryd.prog 83 [(.string ⟨#[]⟩), (.int .i64 0), (.int .u64 0), (.int .u64 0)] [(0, 1), (1, 1), (2, 1), (3, 1)] := ⟨by kernel_rfl⟩
instance : ZeroT Tryd.prog 84 [(.val (.nilFunc))] := ⟨by kernel_rfl⟩
instance : OneT Tryd.prog 84 := ⟨by kernel_rfl⟩
instance : ZeroT Tryd.prog 85 [(.val (.nilFunc))] := ⟨by kernel_rfl⟩
instance : OneT Tryd.prog 85 := ⟨by kernel_rfl⟩
instance : ZeroT Tryd.prog 86 [(.val (.nilFunc))] := ⟨by kernel_rfl⟩
instance : OneT Tryd.prog 86 := ⟨by kernel_rfl⟩
instance : ZeroT Tryd.prog 87 [(.val (.nilFunc))] := ⟨by kernel_rfl⟩
instance : OneT Tryd.prog 87 := ⟨by kernel_rfl⟩
instance : ZeroT Tryd.prog 88 [(.val (.nilFunc))] := ⟨by kernel_rfl⟩
instance : OneT Tryd.prog 88 := ⟨by kernel_rfl⟩
instance : ZeroT Tryd.prog 89 [(.val (.int .i64 0)), (.val (.int .i64 0)), (.val (.int .i64 0)), (.val (.int .i64 0)), (.val (.int .i64 0)), (.val (.int .i64 0)), (.val (.int .i64 0)), (.val (.int .i64 0)), (.val (.int .i64 0)), (.val (.int .i64 0)), (.val (.int .i64 0))] := ⟨by kernel_rfl⟩
instance : AggT Tryd.prog 89 11 := ⟨by kernel_rfl⟩
instance : ArrT Tryd.prog 89 11 1 := ⟨by kernel_rfl⟩
instance : ZeroT Tryd.prog 91 [(.val (.nilFunc))] := ⟨by kernel_rfl⟩
instance : OneT Tryd.prog 91 := ⟨by kernel_rfl⟩
instance : ZeroT Tryd.prog 92 [(.val (.nilFunc))] := ⟨by kernel_rfl⟩
instance : OneT Tryd.prog 92 := ⟨by kernel_rfl⟩
instance : ZeroT Tryd.prog 93 [(.val (.pointer none))] := ⟨by kernel_rfl⟩
instance : OneT Tryd.prog 93 := ⟨by kernel_rfl⟩
instance : ZeroT Tryd.prog 94 [(.val (.pointer none))] := ⟨by kernel_rfl⟩
instance : OneT Tryd.prog 94 := ⟨by kernel_rfl⟩
instance : ZeroT Tryd.prog 95 [(.val (.pointer none)), (.val (.int .i64 0))] := ⟨by kernel_rfl⟩
instance : AggT Tryd.prog 95 2 := ⟨by kernel_rfl⟩
instance : FieldT Tryd.prog 95 0 0 0 := ⟨by kernel_rfl⟩
instance : FieldT Tryd.prog 95 1 1 0 := ⟨by kernel_rfl⟩
instance : StructT Tryd.prog 95 [(.pointer none), (.int .i64 0)] [(0, 1), (1, 1)] := ⟨by kernel_rfl⟩
instance : ZeroT Tryd.prog 96 [(.val (.pointer none)), (.val (.int .i64 0))] := ⟨by kernel_rfl⟩
instance : AggT Tryd.prog 96 2 := ⟨by kernel_rfl⟩
instance : FieldT Tryd.prog 96 0 0 0 := ⟨by kernel_rfl⟩
instance : FieldT Tryd.prog 96 1 1 0 := ⟨by kernel_rfl⟩
instance : StructT Tryd.prog 96 [(.pointer none), (.int .i64 0)] [(0, 1), (1, 1)] := ⟨by kernel_rfl⟩
instance : ZeroT Tryd.prog 97 [(.val (.nilFunc))] := ⟨by kernel_rfl⟩
instance : OneT Tryd.prog 97 := ⟨by kernel_rfl⟩
instance : ZeroT Tryd.prog 98 [(.val (.nilFunc))] := ⟨by kernel_rfl⟩
instance : OneT Tryd.prog 98 := ⟨by kernel_rfl⟩
instance : ZeroT Tryd.prog 99 [(.val (.nilFunc))] := ⟨by kernel_rfl⟩
instance : OneT Tryd.prog 99 := ⟨by kernel_rfl⟩
instance : ZeroT Tryd.prog 100 [(.val (.pointer none))] := ⟨by kernel_rfl⟩
instance : OneT Tryd.prog 100 := ⟨by kernel_rfl⟩
instance : ZeroT Tryd.prog 101 [(.val (.nilFunc))] := ⟨by kernel_rfl⟩
instance : OneT Tryd.prog 101 := ⟨by kernel_rfl⟩
instance : ZeroT Tryd.prog 102 [(.val (.nilFunc))] := ⟨by kernel_rfl⟩
instance : OneT Tryd.prog 102 := ⟨by kernel_rfl⟩
instance : ZeroT Tryd.prog 103 [(.val (.nilFunc))] := ⟨by kernel_rfl⟩
instance : OneT Tryd.prog 103 := ⟨by kernel_rfl⟩
instance : ZeroT Tryd.prog 104 [(.val (.nilFunc))] := ⟨by kernel_rfl⟩
instance : OneT Tryd.prog 104 := ⟨by kernel_rfl⟩
instance : ZeroT Tryd.prog 105 [(.val (.nilFunc))] := ⟨by kernel_rfl⟩
instance : OneT Tryd.prog 105 := ⟨by kernel_rfl⟩
instance : ZeroT Tryd.prog 106 [(.val (.int .u64 0)), (.val (.int .u64 0))] := ⟨by kernel_rfl⟩
instance : AggT Tryd.prog 106 2 := ⟨by kernel_rfl⟩
instance : FieldT Tryd.prog 106 0 0 0 := ⟨by kernel_rfl⟩
instance : FieldT Tryd.prog 106 1 1 0 := ⟨by kernel_rfl⟩
instance : StructT Tryd.prog 106 [(.int .u64 0), (.int .u64 0)] [(0, 1), (1, 1)] := ⟨by kernel_rfl⟩
instance : ZeroT Tryd.prog 107 [(.val (.int .u64 0)), (.val (.int .u64 0))] := ⟨by kernel_rfl⟩
instance : AggT Tryd.prog 107 2 := ⟨by kernel_rfl⟩
instance : FieldT Tryd.prog 107 0 0 0 := ⟨by kernel_rfl⟩
instance : FieldT Tryd.prog 107 1 1 0 := ⟨by kernel_rfl⟩
instance : StructT Tryd.prog 107 [(.int .u64 0), (.int .u64 0)] [(0, 1), (1, 1)] := ⟨by kernel_rfl⟩
instance : ZeroT Tryd.prog 108 [(.val (.nilFunc))] := ⟨by kernel_rfl⟩
instance : OneT Tryd.prog 108 := ⟨by kernel_rfl⟩
instance : ZeroT Tryd.prog 109 [(.val (.nilFunc))] := ⟨by kernel_rfl⟩
instance : OneT Tryd.prog 109 := ⟨by kernel_rfl⟩
instance : ZeroT Tryd.prog 110 [(.val (.nilFunc))] := ⟨by kernel_rfl⟩
instance : OneT Tryd.prog 110 := ⟨by kernel_rfl⟩
instance : ZeroT Tryd.prog 111 [(.val (.int .u64 0)), (.val (.int .u64 0)), (.val (.int .u64 0)), (.val (.int .u64 0)), (.val (.int .u64 0)), (.val (.int .u64 0)), (.val (.int .u64 0)), (.val (.int .u64 0)), (.val (.int .u64 0)), (.val (.int .u64 0)), (.val (.int .u64 0))] := ⟨by kernel_rfl⟩
instance : AggT Tryd.prog 111 11 := ⟨by kernel_rfl⟩
instance : ArrT Tryd.prog 111 11 1 := ⟨by kernel_rfl⟩
instance : ZeroT Tryd.prog 112 [(.val (.nilFunc))] := ⟨by kernel_rfl⟩
instance : OneT Tryd.prog 112 := ⟨by kernel_rfl⟩
instance : ZeroT Tryd.prog 113 (List.replicate 40 (.val (.int .i64 0))) := ⟨by kernel_rfl⟩
instance : AggT Tryd.prog 113 40 := ⟨by kernel_rfl⟩
instance : ArrT Tryd.prog 113 40 1 := ⟨by kernel_rfl⟩
instance : ZeroT Tryd.prog 114 ([(.val (.bool false))] ++ List.replicate 40 (.val (.int .i64 0))) := ⟨by kernel_rfl⟩
instance : AggT Tryd.prog 114 41 := ⟨by kernel_rfl⟩
instance : FieldT Tryd.prog 114 0 0 0 := ⟨by kernel_rfl⟩
instance : FieldT Tryd.prog 114 1 1 39 := ⟨by kernel_rfl⟩
instance : StructT Tryd.prog 114 ([(.bool false)] ++ List.replicate 40 (.int .i64 0)) [(0, 1), (1, 40)] := ⟨by kernel_rfl⟩
instance : ZeroT Tryd.prog 115 ([(.val (.bool false))] ++ List.replicate 40 (.val (.int .i64 0))) := ⟨by kernel_rfl⟩
instance : AggT Tryd.prog 115 41 := ⟨by kernel_rfl⟩
instance : FieldT Tryd.prog 115 0 0 0 := ⟨by kernel_rfl⟩
instance : FieldT Tryd.prog 115 1 1 39 := ⟨by kernel_rfl⟩
instance : StructT Tryd.prog 115 ([(.bool false)] ++ List.replicate 40 (.int .i64 0)) [(0, 1), (1, 40)] := ⟨by kernel_rfl⟩
instance : ZeroT Tryd.prog 116 [(.val (.nilFunc))] := ⟨by kernel_rfl⟩
instance : OneT Tryd.prog 116 := ⟨by kernel_rfl⟩
instance : ZeroT Tryd.prog 117 [(.val (.nilFunc))] := ⟨by kernel_rfl⟩
instance : OneT Tryd.prog 117 := ⟨by kernel_rfl⟩
instance : ZeroT Tryd.prog 118 [(.val (.nilFunc))] := ⟨by kernel_rfl⟩
instance : OneT Tryd.prog 118 := ⟨by kernel_rfl⟩
instance : ZeroT Tryd.prog 119 [(.val (.nilFunc))] := ⟨by kernel_rfl⟩
instance : OneT Tryd.prog 119 := ⟨by kernel_rfl⟩
instance : ZeroT Tryd.prog 120 [(.val (.slice none 0 0))] := ⟨by kernel_rfl⟩
instance : AggT Tryd.prog 120 1 := ⟨by kernel_rfl⟩
instance : FieldT Tryd.prog 120 0 0 0 := ⟨by kernel_rfl⟩
instance : StructT Tryd.prog 120 [(.slice none 0 0)] [(0, 1)] := ⟨by kernel_rfl⟩
instance : ZeroT Tryd.prog 121 [(.val (.slice none 0 0))] := ⟨by kernel_rfl⟩
instance : AggT Tryd.prog 121 1 := ⟨by kernel_rfl⟩
instance : FieldT Tryd.prog 121 0 0 0 := ⟨by kernel_rfl⟩
instance : StructT Tryd.prog 121 [(.slice none 0 0)] [(0, 1)] := ⟨by kernel_rfl⟩
instance : ZeroT Tryd.prog 122 [(.val (.string ⟨#[]⟩)), (.val (.bool false))] := ⟨by kernel_rfl⟩
instance : AggT Tryd.prog 122 2 := ⟨by kernel_rfl⟩
instance : FieldT Tryd.prog 122 0 0 0 := ⟨by kernel_rfl⟩
instance : FieldT Tryd.prog 122 1 1 0 := ⟨by kernel_rfl⟩
instance : StructT Tryd.prog 122 [(.string ⟨#[]⟩), (.bool false)] [(0, 1), (1, 1)] := ⟨by kernel_rfl⟩
instance : ZeroT Tryd.prog 123 [(.val (.string ⟨#[]⟩)), (.val (.bool false))] := ⟨by kernel_rfl⟩
instance : AggT Tryd.prog 123 2 := ⟨by kernel_rfl⟩
instance : FieldT Tryd.prog 123 0 0 0 := ⟨by kernel_rfl⟩
instance : FieldT Tryd.prog 123 1 1 0 := ⟨by kernel_rfl⟩
instance : StructT Tryd.prog 123 [(.string ⟨#[]⟩), (.bool false)] [(0, 1), (1, 1)] := ⟨by kernel_rfl⟩
instance : ZeroT Tryd.prog 124 [(.val (.nilFunc))] := ⟨by kernel_rfl⟩
instance : OneT Tryd.prog 124 := ⟨by kernel_rfl⟩
instance : ZeroT Tryd.prog 125 [(.val (.nilFunc))] := ⟨by kernel_rfl⟩
instance : OneT Tryd.prog 125 := ⟨by kernel_rfl⟩
instance : ZeroT Tryd.prog 126 [(.val (.nilFunc))] := ⟨by kernel_rfl⟩
instance : OneT Tryd.prog 126 := ⟨by kernel_rfl⟩
instance : ZeroT Tryd.prog 127 (List.replicate 256 (.val (.bool false))) := ⟨by kernel_rfl⟩
instance : AggT Tryd.prog 127 256 := ⟨by kernel_rfl⟩
instance : ArrT Tryd.prog 127 256 1 := ⟨by kernel_rfl⟩
instance : ZeroT Tryd.prog 128 (List.replicate 256 (.val (.bool false))) := ⟨by kernel_rfl⟩
instance : AggT Tryd.prog 128 256 := ⟨by kernel_rfl⟩
instance : ArrT Tryd.prog 128 256 1 := ⟨by kernel_rfl⟩
instance : ZeroT Tryd.prog 130 [(.val (.nilFunc))] := ⟨by kernel_rfl⟩
instance : OneT Tryd.prog 130 := ⟨by kernel_rfl⟩
instance : ZeroT Tryd.prog 131 [(.val (.nilFunc))] := ⟨by kernel_rfl⟩
instance : OneT Tryd.prog 131 := ⟨by kernel_rfl⟩
instance : ZeroT Tryd.prog 132 [(.val (.pointer none))] := ⟨by kernel_rfl⟩
instance : OneT Tryd.prog 132 := ⟨by kernel_rfl⟩
instance : ZeroT Tryd.prog 133 [(.val (.nilFunc))] := ⟨by kernel_rfl⟩
instance : OneT Tryd.prog 133 := ⟨by kernel_rfl⟩
instance : ZeroT Tryd.prog 134 [(.val (.nilFunc))] := ⟨by kernel_rfl⟩
instance : OneT Tryd.prog 134 := ⟨by kernel_rfl⟩
instance : ZeroT Tryd.prog 135 [(.val (.nilFunc))] := ⟨by kernel_rfl⟩
instance : OneT Tryd.prog 135 := ⟨by kernel_rfl⟩
instance : ZeroT Tryd.prog 137 [(.val (.nilFunc))] := ⟨by kernel_rfl⟩
instance : OneT Tryd.prog 137 := ⟨by kernel_rfl⟩
instance : ZeroT Tryd.prog 138 [(.val (.nilFunc))] := ⟨by kernel_rfl⟩
instance : OneT Tryd.prog 138 := ⟨by kernel_rfl⟩
instance : ZeroT Tryd.prog 139 [(.val (.nilFunc))] := ⟨by kernel_rfl⟩
instance : OneT Tryd.prog 139 := ⟨by kernel_rfl⟩
instance : ZeroT Tryd.prog 140 [(.val (.nilFunc))] := ⟨by kernel_rfl⟩
instance : OneT Tryd.prog 140 := ⟨by kernel_rfl⟩
instance : ZeroT Tryd.prog 141 (List.replicate 256 (.val (.int .u8 0))) := ⟨by kernel_rfl⟩
instance : AggT Tryd.prog 141 256 := ⟨by kernel_rfl⟩
instance : ArrT Tryd.prog 141 256 1 := ⟨by kernel_rfl⟩
instance : ZeroT Tryd.prog 142 [(.val (.int .u8 0)), (.val (.int .u8 0))] := ⟨by kernel_rfl⟩
instance : AggT Tryd.prog 142 2 := ⟨by kernel_rfl⟩
instance : FieldT Tryd.prog 142 0 0 0 := ⟨by kernel_rfl⟩
instance : FieldT Tryd.prog 142 1 1 0 := ⟨by kernel_rfl⟩
instance : StructT Tryd.prog 142 [(.int .u8 0), (.int .u8 0)] [(0, 1), (1, 1)] := ⟨by kernel_rfl⟩
instance : ZeroT Tryd.prog 143 [(.val (.int .u8 0)), (.val (.int .u8 0))] := ⟨by kernel_rfl⟩
instance : AggT Tryd.prog 143 2 := ⟨by kernel_rfl⟩
instance : FieldT Tryd.prog 143 0 0 0 := ⟨by kernel_rfl⟩
instance : FieldT Tryd.prog 143 1 1 0 := ⟨by kernel_rfl⟩
instance : StructT Tryd.prog 143 [(.int .u8 0), (.int .u8 0)] [(0, 1), (1, 1)] := ⟨by kernel_rfl⟩
instance : ZeroT Tryd.prog 144 (List.replicate 32 (.val (.int .u8 0))) := ⟨by kernel_rfl⟩
instance : AggT Tryd.prog 144 32 := ⟨by kernel_rfl⟩
instance : ArrT Tryd.prog 144 16 2 := ⟨by kernel_rfl⟩
instance : ZeroT Tryd.prog 145 [(.val (.nilFunc))] := ⟨by kernel_rfl⟩
instance : OneT Tryd.prog 145 := ⟨by kernel_rfl⟩
instance : ZeroT Tryd.prog 146 [(.val (.nilFunc))] := ⟨by kernel_rfl⟩
instance : OneT Tryd.prog 146 := ⟨by kernel_rfl⟩
instance : ZeroT Tryd.prog 147 [(.val (.nilFunc))] := ⟨by kernel_rfl⟩
instance : OneT Tryd.prog 147 := ⟨by kernel_rfl⟩
instance : ZeroT Tryd.prog 148 [(.val (.nilFunc))] := ⟨by kernel_rfl⟩
instance : OneT Tryd.prog 148 := ⟨by kernel_rfl⟩
instance : ZeroT Tryd.prog 149 [(.val (.pointer none)), (.val (.pointer none)), (.val (.pointer none)), (.val (.string ⟨#[]⟩))] := ⟨by kernel_rfl⟩
instance : AggT Tryd.prog 149 4 := ⟨by kernel_rfl⟩
instance : FieldT Tryd.prog 149 0 0 0 := ⟨by kernel_rfl⟩
instance : FieldT Tryd.prog 149 1 1 0 := ⟨by kernel_rfl⟩
instance : FieldT Tryd.prog 149 2 2 0 := ⟨by kernel_rfl⟩
instance : FieldT Tryd.prog 149 3 3 0 := ⟨by kernel_rfl⟩
instance : StructT Tryd.prog 149 [(.pointer none), (.pointer none), (.pointer none), (.string ⟨#[]⟩)] [(0, 1), (1, 1), (2, 1), (3, 1)] := ⟨by kernel_rfl⟩
instance : ZeroT Tryd.prog 150 [(.val (.pointer none)), (.val (.pointer none)), (.val (.pointer none)), (.val (.string ⟨#[]⟩))] := ⟨by kernel_rfl⟩
instance : AggT Tryd.prog 150 4 := ⟨by kernel_rfl⟩
instance : FieldT Tryd.prog 150 0 0 0 := ⟨by kernel_rfl⟩
instance : FieldT Tryd.prog 150 1 1 0 := ⟨by kernel_rfl⟩
instance : FieldT Tryd.prog 150 2 2 0 := ⟨by kernel_rfl⟩
instance : FieldT Tryd.prog 150 3 3 0 := ⟨by kernel_rfl⟩
instance : StructT Tryd.prog 150 [(.pointer none), (.pointer none), (.pointer none), (.string ⟨#[]⟩)] [(0, 1), (1, 1), (2, 1), (3, 1)] := ⟨by kernel_rfl⟩
instance : ZeroT Tryd.prog 151 [] := ⟨by kernel_rfl⟩
instance : AggT Tryd.prog 151 0 := ⟨by kernel_rfl⟩
instance : ArrT Tryd.prog 151 0 1 := ⟨by kernel_rfl⟩
instance : ZeroT Tryd.prog 152 [] := ⟨by kernel_rfl⟩
instance : AggT Tryd.prog 152 0 := ⟨by kernel_rfl⟩
instance : StructT Tryd.prog 152 [] [(0, 0)] := ⟨by kernel_rfl⟩
instance : ZeroT Tryd.prog 153 [] := ⟨by kernel_rfl⟩
instance : AggT Tryd.prog 153 0 := ⟨by kernel_rfl⟩
instance : StructT Tryd.prog 153 [] [(0, 0)] := ⟨by kernel_rfl⟩
instance : ZeroT Tryd.prog 154 [(.val (.int .u32 0))] := ⟨by kernel_rfl⟩
instance : OneT Tryd.prog 154 := ⟨by kernel_rfl⟩
instance : IntT Tryd.prog 154 .u32 := ⟨by kernel_rfl⟩
instance : ZeroT Tryd.prog 155 [(.val (.int .u8 0))] := ⟨by kernel_rfl⟩
instance : OneT Tryd.prog 155 := ⟨by kernel_rfl⟩
instance : IntT Tryd.prog 155 .u8 := ⟨by kernel_rfl⟩
instance : ZeroT Tryd.prog 156 [(.val (.int .u8 0))] := ⟨by kernel_rfl⟩
instance : OneT Tryd.prog 156 := ⟨by kernel_rfl⟩
instance : IntT Tryd.prog 156 .u8 := ⟨by kernel_rfl⟩
instance : ZeroT Tryd.prog 157 [(.val (.nilFunc))] := ⟨by kernel_rfl⟩
instance : OneT Tryd.prog 157 := ⟨by kernel_rfl⟩
instance : ZeroT Tryd.prog 158 [(.val (.pointer none))] := ⟨by kernel_rfl⟩
instance : OneT Tryd.prog 158 := ⟨by kernel_rfl⟩
instance : ZeroT Tryd.prog 159 [(.val (.int .i32 0))] := ⟨by kernel_rfl⟩
instance : OneT Tryd.prog 159 := ⟨by kernel_rfl⟩
instance : IntT Tryd.prog 159 .i32 := ⟨by kernel_rfl⟩
instance : ZeroT Tryd.prog 160 [(.val (.int .i32 0))] := ⟨by kernel_rfl⟩
instance : OneT Tryd.prog 160 := ⟨by kernel_rfl⟩
instance : IntT Tryd.prog 160 .i32 := ⟨by kernel_rfl⟩
instance : ZeroT Tryd.prog 161 [(.val (.int .u64 0)), (.val (.int .u64 0)), (.val (.int .u32 0)), (.val (.int .u8 0)), (.val (.int .u8 0)), (.val (.int .u8 0)), (.val (.int .u8 0)), (.val (.nilFunc)), (.val (.pointer none)), (.val (.int .i32 0)), (.val (.int .i32 0))] := ⟨by kernel_rfl⟩
instance : AggT Tryd.prog 161 11 := ⟨by kernel_rfl⟩
instance : FieldT Tryd.prog 161 0 0 0 := ⟨by kernel_rfl⟩
instance : FieldT Tryd.prog 161 1 1 0 := ⟨by kernel_rfl⟩
instance : FieldT Tryd.prog 161 2 2 0 := ⟨by kernel_rfl⟩
instance : FieldT Tryd.prog 161 3 3 0 := ⟨by kernel_rfl⟩
instance : FieldT Tryd.prog 161 4 4 0 := ⟨by kernel_rfl⟩
instance : FieldT Tryd.prog 161 5 5 0 := ⟨by kernel_rfl⟩
instance : FieldT Tryd.prog 161 6 6 0 := ⟨by kernel_rfl⟩
instance : FieldT Tryd.prog 161 7 7 0 := ⟨by kernel_rfl⟩
instance : FieldT Tryd.prog 161 8 8 0 := ⟨by kernel_rfl⟩
instance : FieldT Tryd.prog 161 9 9 0 := ⟨by kernel_rfl⟩
instance : FieldT Tryd.prog 161 10 10 0 := ⟨by kernel_rfl⟩
instance : StructT Tryd.prog 161 [(.int .u64 0), (.int .u64 0), (.int .u32 0), (.int .u8 0), (.int .u8 0), (.int .u8 0), (.int .u8 0), (.nilFunc), (.pointer none), (.int .i32 0), (.int .i32 0)] [(0, 1), (1, 1), (2, 1), (3, 1), (4, 1), (5, 1), (6, 1), (7, 1), (8, 1), (9, 1), (10, 1)] := ⟨by kernel_rfl⟩
instance : ZeroT Tryd.prog 162 [(.val (.int .u64 0)), (.val (.int .u64 0)), (.val (.int .u32 0)), (.val (.int .u8 0)), (.val (.int .u8 0)), (.val (.int .u8 0)), (.val (.int .u8 0)), (.val (.nilFunc)), (.val (.pointer none)), (.val (.int .i32 0)), (.val (.int .i32 0))] := ⟨by kernel_rfl⟩
instance : AggT Tryd.prog 162 11 := ⟨by kernel_rfl⟩
instance : FieldT Tryd.prog 162 0 0 0 := ⟨by kernel_rfl⟩
instance : FieldT Tryd.prog 162 1 1 0 := ⟨by kernel_rfl⟩
instance : FieldT Tryd.prog 162 2 2 0 := ⟨by kernel_rfl⟩
instance : FieldT Tryd.prog 162 3 3 0 := ⟨by kernel_rfl⟩
instance : FieldT Tryd.prog 162 4 4 0 := ⟨by kernel_rfl⟩
instance : FieldT Tryd.prog 162 5 5 0 := ⟨by kernel_rfl⟩
instance : FieldT Tryd.prog 162 6 6 0 := ⟨by kernel_rfl⟩
instance : FieldT Tryd.prog 162 7 7 0 := ⟨by kernel_rfl⟩
instance : FieldT Tryd.prog 162 8 8 0 := ⟨by kernel_rfl⟩
instance : FieldT Tryd.prog 162 9 9 0 := ⟨by kernel_rfl⟩
instance : FieldT Tryd.prog 162 10 10 0 := ⟨by kernel_rfl⟩
instance : StructT Tryd.prog 162 [(.int .u64 0), (.int .u64 0), (.int .u32 0), (.int .u8 0), (.int .u8 0), (.int .u8 0), (.int .u8 0), (.nilFunc), (.pointer none), (.int .i32 0), (.int .i32 0)] [(0, 1), (1, 1), (2, 1), (3, 1), (4, 1), (5, 1), (6, 1), (7, 1), (8, 1), (9, 1), (10, 1)] := ⟨by kernel_rfl⟩
end Go.Proofs.YtfmadklfcoebhaaDoor
end
section
namespace Go.Lg
open Go Go.RowKit
theorem strs_eq {p q : ByteArray} {r : Bool} (h : (p.data.toList == q.data.toList) = r) : (p.toList == q.toList) = r := by rw [ByteArray.toList_eq, ByteArray.toList_eq, h]
theorem strs_ne {p q : ByteArray} {r : Bool} (h : (!(p.data.toList == q.data.toList)) = r) : (!(p.toList == q.toList)) = r := by rw [ByteArray.toList_eq, ByteArray.toList_eq, h]
theorem str_at {l : List UInt8} {i : Nat} {b : UInt8} (h : l[i]? = some b) : (⟨l.toArray⟩ : ByteArray)[i]? = some b := by
  obtain ⟨hi, h⟩ := List.getElem?_eq_some_iff.1 h
  have hs : i < (⟨l.toArray⟩ : ByteArray).size := by simpa [ByteArray.size] using hi
  rw [getElem?_pos _ i hs]
  exact congrArg some h
theorem str_add (a b : List UInt8) : (⟨a.toArray⟩ : ByteArray) ++ ⟨b.toArray⟩ = ⟨(a ++ b).toArray⟩ := by
  apply ByteArray.ext
  rw [ByteArray.data_append]
  simp
theorem str_cut (l : List UInt8) (a b : Nat) : (⟨l.toArray⟩ : ByteArray).extract a b = ⟨((l.drop a).take (b - a)).toArray⟩ := by
  apply ByteArray.ext
  apply Array.ext'
  rw [Lib.extract_data]
theorem ev_bool {b c : Bool} (h : b = c) : some (LV.sv (.one (.val (.bool b)))) = some (LV.sv (.one (.val (.bool c)))) := by rw [h]
end Go.Lg
namespace Go.Proofs.YtfmadklfcoebhaaDoor
open Go Go.Lg
abbrev Lb (b : Bool) : LV := .sv (.one (.val (.bool b)))
abbrev Ln (k : IntKind) (n : Int) : LV := .sv (.one (.val (.int k n)))
abbrev Ls (l : List UInt8) : LV := .sv (.one (.val (.string ⟨l.toArray⟩)))
abbrev Sb (b : Bool) : SV := .one (.val (.bool b))
abbrev Sn (k : IntKind) (n : Int) : SV := .one (.val (.int k n))
abbrev Ss (l : List UInt8) : SV := .one (.val (.string ⟨l.toArray⟩))
/-- a pointer; nil; a text's cell -/
abbrev Lp (k : Nat) : LV := .sv (.one (.ptr k 0))
abbrev L0 : LV := .sv (.one (.val (.pointer none)))
abbrev vs (l : List UInt8) : CV := .val (.string ⟨l.toArray⟩)
end Go.Proofs.YtfmadklfcoebhaaDoor
end
section
namespace Go.Proofs.YtfmadklfcoebhaaDoor
open Go Go.Lg
abbrev Li (b : Bool) (h l : Int) : LV := .sv (.agg [.val (.bool b), .val (.int .u64 h), .val (.int .u64 l)])
abbrev Lz (h l : Int) : LV := .sv (.agg [.val (.int .u64 h), .val (.int .u64 l)])
abbrev LI (b : Bool) (N : Int) : LV := Li b (N / 18446744073709551616) (N % 18446744073709551616)
abbrev LZ (N : Int) : LV := Lz (N / 18446744073709551616) (N % 18446744073709551616)
abbrev SZ (N : Int) : SV := .agg [.val (.int .u64 (N / 18446744073709551616)), .val (.int .u64 (N % 18446744073709551616))]
abbrev SI (b : Bool) (N : Int) : SV := .agg [.val (.bool b), .val (.int .u64 (N / 18446744073709551616)), .val (.int .u64 (N % 18446744073709551616))]
/-- below 2 to the 128, not below 0 -/
def In2 (N : Int) : Prop := 0 ≤ N ∧ N < 340282366920938463463374607431768211456
variable (X : Nat → Option Obj)
theorem sizeOf_spec (b : Bool) (h l : Int) : PSpec Tryd.prog X 58 [Li b h l] (Lz h l) := by
  refine PSpec.intro Tryd.func58 rfl (by kernel_rfl) rfl rfl ?_
  intro C
  (refine LWP.seq <| LWP.region (by kernel_rfl) <| K.box rfl rfl rfl .plain <| K.alloc rfl .plain ?_; refine RunK.nil <| LWP.seq <| LWP.region (by kernel_rfl) <| kfa rfl rfl ?_; refine kl1 rfl rfl rfl <| kfa rfl rfl ?_; refine kl1 rfl rfl rfl <| K.build rfl rfl (by exact rfl) (by exact nl2 rfl rfl rfl) .plain ?_; refine K.storeAll rfl rfl rfl rfl rfl rfl .plain ?_; refine RunK.nil <| LWP.ret ?_)
  exact ⟨[_], ⟨⟨_, _, rfl, rfl, rfl, .inl ⟨AggT.h, rfl⟩⟩, trivial⟩, rfl⟩
theorem zero_spec (N : Int) (hN : In2 N) (r : Bool) (hr : (N == 0) = r) : PSpec Tryd.prog X 60 [LZ N] (Lb r) := by
  subst hr
  obtain ⟨h0, h1⟩ := hN
  refine PSpec.intro Tryd.func60 rfl (by kernel_rfl) rfl rfl ?_
  intro C
  by_cases ha : N / 18446744073709551616 = 0
  · by_cases hb : N % 18446744073709551616 = 0
    · (refine LWP.seq <| LWP.region (by kernel_rfl) <| K.box rfl rfl rfl .plain <| kas rfl <| RunK.nil <| LWP.seq <| LWP.region (by kernel_rfl) <| kfa rfl rfl ?_; refine kl1 rfl rfl rfl <| keq rfl rfl (beq_iff_eq.2 (by omega)) <| kmv rfl <| K.fieldAddr rfl rfl (.taken rfl rfl) ?_; refine K.loadOne rfl rfl rfl (.taken rfl rfl) ?_; refine K.eql rfl rfl (beq_iff_eq.2 (by omega)) (.taken rfl rfl) ?_; refine kpt rfl rfl <| kas rfl <| RunK.nil <| LWP.ret ?_)
      exact ⟨[_], ⟨rfl, trivial⟩, by rw [show (N == 0) = true from beq_iff_eq.2 (by omega)]; rfl⟩
    · (refine LWP.seq <| LWP.region (by kernel_rfl) <| K.box rfl rfl rfl .plain <| kas rfl <| RunK.nil <| LWP.seq <| LWP.region (by kernel_rfl) <| kfa rfl rfl ?_; refine kl1 rfl rfl rfl <| keq rfl rfl (beq_iff_eq.2 (by omega)) <| kmv rfl <| K.fieldAddr rfl rfl (.taken rfl rfl) ?_; refine K.loadOne rfl rfl rfl (.taken rfl rfl) ?_; refine K.eql rfl rfl (beq_eq_false_iff_ne.2 (by omega)) (.taken rfl rfl) ?_; refine kpt rfl rfl <| kas rfl <| RunK.nil <| LWP.ret ?_)
      exact ⟨[_], ⟨rfl, trivial⟩, by rw [show (N == 0) = false from beq_eq_false_iff_ne.2 (by omega)]; rfl⟩
  · (refine LWP.seq <| LWP.region (by kernel_rfl) <| K.box rfl rfl rfl .plain <| kas rfl <| RunK.nil <| LWP.seq <| LWP.region (by kernel_rfl) <| kfa rfl rfl ?_; refine kl1 rfl rfl rfl <| keq rfl rfl (beq_eq_false_iff_ne.2 (by omega)) <| kmv rfl <| RunK.passed rfl rfl rfl <| RunK.passed rfl rfl rfl <| RunK.passed rfl rfl rfl <| kpf rfl rfl <| kas rfl <| RunK.nil <| LWP.ret ?_)
    exact ⟨[_], ⟨rfl, trivial⟩, by rw [show (N == 0) = false from beq_eq_false_iff_ne.2 (by omega)]; rfl⟩
theorem fits_spec (N : Int) (hN : In2 N) (r : Bool) (hr : decide (N < 170141183460469231731687303715884105728) = r) : PSpec Tryd.prog X 59 [LZ N] (Lb r) := by
  subst hr
  obtain ⟨h0, h1⟩ := hN
  refine PSpec.intro Tryd.func59 rfl (by kernel_rfl) rfl rfl ?_
  intro C
  (refine LWP.seq <| LWP.region (by kernel_rfl) <| K.box rfl rfl rfl .plain <| kas rfl <| RunK.nil <| LWP.seq <| LWP.region (by kernel_rfl) <| kfa rfl rfl ?_; refine kl1 rfl rfl rfl <| klt rfl rfl rfl <| kas rfl <| RunK.nil <| LWP.ret ?_)
  exact ⟨[_], ⟨rfl, trivial⟩, by rw [decide_eq_decide.2 (show (N / 18446744073709551616 < 9223372036854775808) ↔ N < 170141183460469231731687303715884105728 by omega)]; rfl⟩
/-- in form -/
def formB (b : Bool) (N : Int) : Bool := decide (N < 170141183460469231731687303715884105728) && !(b && N == 0)
theorem Form_spec (b : Bool) (N : Int) (hN : In2 N) (r : Bool) (hr : formB b N = r) : PSpec Tryd.prog X 42 [LI b N] (Lb r) := by
  subst hr
  refine PSpec.intro Tryd.func42 rfl (by kernel_rfl) rfl rfl ?_
  intro C
  cases b
  · (refine LWP.seq <| LWP.region (by kernel_rfl) <| K.box rfl rfl rfl .plain <| kas rfl <| RunK.nil <| LWP.seq <| LWP.seq <| LWP.region (by kernel_rfl) <| kfa rfl rfl ?_; refine kl1 rfl rfl rfl <| RunK.nil <| LWP.condF rfl ?_; refine LWP.skip ?_; refine LWP.seq <| LWP.region (by kernel_rfl) <| K.loadAll rfl rfl rfl .plain ?_; refine kca rfl rfl (sizeOf_spec _ _ _ _) <| kca rfl rfl (fits_spec _ _ hN _ rfl) <| kas rfl <| RunK.nil <| LWP.ret ?_)
    exact ⟨[_], ⟨rfl, trivial⟩, by simp [formB, resOf]⟩
  · by_cases hf : N < 170141183460469231731687303715884105728
    · (refine LWP.seq <| LWP.region (by kernel_rfl) <| K.box rfl rfl rfl .plain <| kas rfl <| RunK.nil <| LWP.seq <| LWP.seq <| LWP.region (by kernel_rfl) <| kfa rfl rfl ?_; refine kl1 rfl rfl rfl <| RunK.nil <| LWP.condT rfl ?_; refine LWP.seq <| LWP.region (by kernel_rfl) <| K.loadAll rfl rfl rfl .plain ?_; refine kca rfl rfl (sizeOf_spec _ _ _ _) <| kca rfl rfl (fits_spec _ _ hN true (decide_eq_true hf)) <| kmv rfl <| K.loadAll rfl rfl rfl (.taken rfl rfl) ?_; refine gca rfl rfl (sizeOf_spec _ _ _ _) rfl rfl <| gca rfl rfl (zero_spec _ _ hN _ rfl) rfl rfl <| K.not rfl rfl (.taken rfl rfl) ?_; refine kpt rfl rfl <| kas rfl <| RunK.nil <| LWP.ret ?_)
      exact ⟨[_], ⟨rfl, trivial⟩, by simp [formB, resOf, hf]⟩
    · (refine LWP.seq <| LWP.region (by kernel_rfl) <| K.box rfl rfl rfl .plain <| kas rfl <| RunK.nil <| LWP.seq <| LWP.seq <| LWP.region (by kernel_rfl) <| kfa rfl rfl ?_; refine kl1 rfl rfl rfl <| RunK.nil <| LWP.condT rfl ?_; refine LWP.seq <| LWP.region (by kernel_rfl) <| K.loadAll rfl rfl rfl .plain ?_; refine kca rfl rfl (sizeOf_spec _ _ _ _) <| kca rfl rfl (fits_spec _ _ hN false (decide_eq_false hf)) <| kmv rfl <| RunK.passed rfl rfl rfl <| RunK.passed rfl rfl rfl <| RunK.passed rfl rfl rfl <| RunK.passed rfl rfl rfl <| kpf rfl rfl <| kas rfl <| RunK.nil <| LWP.ret ?_)
      exact ⟨[_], ⟨rfl, trivial⟩, by simp [formB, resOf, hf]⟩
end Go.Proofs.YtfmadklfcoebhaaDoor
end
section
namespace Go.Proofs.YtfmadklfcoebhaaDoor
open Go Go.Lg
variable (X : Nat → Option Obj)
theorem bothForm_spec (b c : Bool) (M N : Int) (hM : In2 M) (hN : In2 N) (r : Bool) (hr : (formB b M && formB c N) = r) : PSpec Tryd.prog X 61 [LI b M, LI c N] (Lb r) := by
  subst hr
  refine PSpec.intro Tryd.func61 rfl (by kernel_rfl) rfl rfl ?_
  intro C
  cases h1 : formB b M
  · (refine LWP.seq <| LWP.region (by kernel_rfl) <| K.box rfl rfl rfl .plain <| K.box rfl rfl rfl .plain <| kas rfl <| RunK.nil <| LWP.seq <| LWP.region (by kernel_rfl) <| K.loadAll rfl rfl rfl .plain ?_; refine kca rfl rfl (Form_spec _ _ _ hM _ h1) <| kmv rfl <| RunK.passed rfl rfl rfl <| RunK.passed rfl rfl rfl <| kpf rfl rfl <| kas rfl <| RunK.nil <| LWP.ret ?_)
    exact ⟨[_], ⟨rfl, trivial⟩, by simp [resOf]⟩
  · (refine LWP.seq <| LWP.region (by kernel_rfl) <| K.box rfl rfl rfl .plain <| K.box rfl rfl rfl .plain <| kas rfl <| RunK.nil <| LWP.seq <| LWP.region (by kernel_rfl) <| K.loadAll rfl rfl rfl .plain ?_; refine kca rfl rfl (Form_spec _ _ _ hM _ h1) <| kmv rfl <| K.loadAll rfl rfl rfl (.taken rfl rfl) ?_; refine gca rfl rfl (Form_spec _ _ _ hN _ rfl) rfl rfl <| kpt rfl rfl <| kas rfl <| RunK.nil <| LWP.ret ?_)
    exact ⟨[_], ⟨rfl, trivial⟩, by simp [resOf]⟩
/-- a number's sign, where it is not 0 -/
def sg (b : Bool) (N : Int) : Bool := b && !(N == 0)
theorem number_spec (b : Bool) (N : Int) (hN : In2 N) (r : Bool) (hr : sg b N = r) : PSpec Tryd.prog X 80 [Lb b, LZ N] (LI r N) := by
  subst hr
  refine PSpec.intro Tryd.func80 rfl (by kernel_rfl) rfl rfl ?_
  intro C
  cases b
  · (refine LWP.seq <| LWP.region (by kernel_rfl) <| K.box rfl rfl rfl .plain <| K.alloc rfl .plain ?_; refine RunK.nil <| LWP.seq <| LWP.draws mixed (by kernel_rfl) <| kmv rfl <| kmv rfl <| RunK.passed rfl rfl rfl <| RunK.passed rfl rfl rfl <| RunK.passed rfl rfl rfl <| kpf rfl rfl <| kfa rfl rfl ?_; refine kl1 rfl rfl rfl <| kfa rfl rfl ?_; refine kl1 rfl rfl rfl <| K.build rfl rfl (by exact rfl) (by exact nl3 rfl rfl rfl rfl) .plain ?_; refine K.storeAll rfl rfl rfl rfl rfl rfl .plain ?_; refine RunK.nil <| And.intro (by kernel_rfl) ?_; refine LWP.ret ?_)
    exact ⟨[_], ⟨⟨_, _, rfl, rfl, rfl, .inl ⟨AggT.h, rfl⟩⟩, trivial⟩, rfl⟩
  · (refine LWP.seq <| LWP.region (by kernel_rfl) <| K.box rfl rfl rfl .plain <| K.alloc rfl .plain ?_; refine RunK.nil <| LWP.seq <| LWP.draws mixed (by kernel_rfl) <| kmv rfl <| kmv rfl <| K.loadAll rfl rfl rfl (.taken rfl rfl) ?_; refine gca rfl rfl (zero_spec _ _ hN _ rfl) rfl rfl <| K.not rfl rfl (.taken rfl rfl) ?_; refine kpt rfl rfl <| kfa rfl rfl ?_; refine kl1 rfl rfl rfl <| kfa rfl rfl ?_; refine kl1 rfl rfl rfl <| K.build rfl rfl (by exact rfl) (by exact nl3 rfl rfl rfl rfl) .plain ?_; refine K.storeAll rfl rfl rfl rfl rfl rfl .plain ?_; refine RunK.nil <| And.intro (by kernel_rfl) ?_; refine LWP.ret ?_)
    exact ⟨[_], ⟨⟨_, _, rfl, rfl, rfl, .inl ⟨AggT.h, rfl⟩⟩, trivial⟩, rfl⟩
end Go.Proofs.YtfmadklfcoebhaaDoor
end
section
namespace Go.Proofs.YtfmadklfcoebhaaDoor
open Go Go.Lg
variable (X : Nat → Option Obj)
theorem isNaN_spec (a : Int) : PSpec Tryd.prog X 87 [Ln .u64 a] (Lb false) := by
  refine PSpec.intro Tryd.func87 rfl (by kernel_rfl) rfl rfl ?_
  intro C
  (refine LWP.seq <| LWP.region (by kernel_rfl) <| kas rfl <| RunK.nil <| LWP.seq <| LWP.region (by kernel_rfl) <| kmv rfl <| kmv rfl <| kne rfl rfl ((bne_eq_false_iff_eq.2 (by omega))) <| kas rfl <| RunK.nil <| LWP.ret ?_)
  exact ⟨[_], ⟨rfl, trivial⟩, rfl⟩
def cmpI (a b : Int) : Int := if a < b then -1 else if b < a then 1 else 0
theorem Compare_spec (a b : Int) (r : Int) (hr : cmpI a b = r) : PSpec Tryd.prog X 81 [Ln .u64 a, Ln .u64 b] (Ln .i64 r) := by
  subst hr
  refine PSpec.intro Tryd.func81 rfl (by kernel_rfl) rfl rfl ?_
  intro C
  by_cases h : a < b
  · (refine LWP.seq <| LWP.region (by kernel_rfl) <| kas rfl <| RunK.nil <| LWP.seq <| LWP.region (by kernel_rfl) <| kmv rfl <| kca rfl rfl (isNaN_spec _ _) <| kas rfl <| RunK.nil <| LWP.seq <| LWP.region (by kernel_rfl) <| kmv rfl <| kca rfl rfl (isNaN_spec _ _) ?_; refine kas rfl <| RunK.nil <| LWP.seq <| LWP.seq <| LWP.region (by kernel_rfl) <| kmv rfl <| RunK.nil <| LWP.condF rfl ?_; refine LWP.skip ?_; refine LWP.seq <| LWP.seq <| LWP.region (by kernel_rfl) <| kmv rfl <| RunK.nil <| LWP.condF rfl ?_; refine LWP.skip ?_; refine LWP.seq <| LWP.seq <| LWP.region (by kernel_rfl) <| kmv rfl <| kmv rfl <| klt rfl rfl (decide_eq_true (by omega)) <| RunK.nil <| LWP.condT rfl ?_; refine LWP.seq <| LWP.region (by kernel_rfl) <| kas rfl <| RunK.nil <| LWP.ret ?_)
    exact ⟨[_], ⟨rfl, trivial⟩, by simp [cmpI, h, resOf]⟩
  · by_cases h' : b < a
    · (refine LWP.seq <| LWP.region (by kernel_rfl) <| kas rfl <| RunK.nil <| LWP.seq <| LWP.region (by kernel_rfl) <| kmv rfl <| kca rfl rfl (isNaN_spec _ _) <| kas rfl <| RunK.nil <| LWP.seq <| LWP.region (by kernel_rfl) <| kmv rfl <| kca rfl rfl (isNaN_spec _ _) ?_; refine kas rfl <| RunK.nil <| LWP.seq <| LWP.seq <| LWP.region (by kernel_rfl) <| kmv rfl <| RunK.nil <| LWP.condF rfl ?_; refine LWP.skip ?_; refine LWP.seq <| LWP.seq <| LWP.region (by kernel_rfl) <| kmv rfl <| RunK.nil <| LWP.condF rfl ?_; refine LWP.skip ?_; refine LWP.seq <| LWP.seq <| LWP.region (by kernel_rfl) <| kmv rfl <| kmv rfl <| klt rfl rfl (decide_eq_false (by omega)) <| RunK.nil <| LWP.condF rfl ?_; refine LWP.skip ?_; refine LWP.seq <| LWP.seq <| LWP.region (by kernel_rfl) <| kmv rfl <| kmv rfl <| K.gtr rfl rfl (decide_eq_true (by omega)) .plain <| RunK.nil <| LWP.condT rfl ?_; refine LWP.seq <| LWP.region (by kernel_rfl) <| kas rfl <| RunK.nil <| LWP.ret ?_)
      exact ⟨[_], ⟨rfl, trivial⟩, by simp [cmpI, h, h', resOf]⟩
    · (refine LWP.seq <| LWP.region (by kernel_rfl) <| kas rfl <| RunK.nil <| LWP.seq <| LWP.region (by kernel_rfl) <| kmv rfl <| kca rfl rfl (isNaN_spec _ _) <| kas rfl <| RunK.nil <| LWP.seq <| LWP.region (by kernel_rfl) <| kmv rfl <| kca rfl rfl (isNaN_spec _ _) ?_; refine kas rfl <| RunK.nil <| LWP.seq <| LWP.seq <| LWP.region (by kernel_rfl) <| kmv rfl <| RunK.nil <| LWP.condF rfl ?_; refine LWP.skip ?_; refine LWP.seq <| LWP.seq <| LWP.region (by kernel_rfl) <| kmv rfl <| RunK.nil <| LWP.condF rfl ?_; refine LWP.skip ?_; refine LWP.seq <| LWP.seq <| LWP.region (by kernel_rfl) <| kmv rfl <| kmv rfl <| klt rfl rfl (decide_eq_false (by omega)) <| RunK.nil <| LWP.condF rfl ?_; refine LWP.skip ?_; refine LWP.seq <| LWP.seq <| LWP.region (by kernel_rfl) <| kmv rfl <| kmv rfl <| K.gtr rfl rfl (decide_eq_false (by omega)) .plain <| RunK.nil <| LWP.condF rfl ?_; refine LWP.skip ?_; refine LWP.seq <| LWP.region (by kernel_rfl) <| kas rfl <| RunK.nil <| LWP.ret ?_)
      exact ⟨[_], ⟨rfl, trivial⟩, by simp [cmpI, h, h', resOf]⟩
theorem compare_spec (M N : Int) (r : Int) (hr : cmpI M N = r) : PSpec Tryd.prog X 62 [LZ M, LZ N] (Ln .i64 r) := by
  refine PSpec.intro Tryd.func62 rfl (by kernel_rfl) rfl rfl ?_
  intro C
  by_cases h : M / 18446744073709551616 = N / 18446744073709551616
  · (refine LWP.seq <| LWP.region (by kernel_rfl) <| K.box rfl rfl rfl .plain <| K.box rfl rfl rfl .plain <| kas rfl <| RunK.nil <| LWP.seq <| LWP.seq <| LWP.region (by kernel_rfl) <| kfa rfl rfl ?_; refine kl1 rfl rfl rfl <| kfa rfl rfl ?_; refine kl1 rfl rfl rfl <| kne rfl rfl ((bne_eq_false_iff_eq.2 (by omega))) <| RunK.nil <| LWP.condF rfl ?_; refine LWP.skip ?_; refine LWP.seq <| LWP.region (by kernel_rfl) <| kfa rfl rfl ?_; refine kl1 rfl rfl rfl <| kfa rfl rfl ?_; refine kl1 rfl rfl rfl <| kca rfl rfl (Compare_spec _ _ _ r (by subst hr; unfold cmpI; (repeat' split) <;> omega)) <| kas rfl <| RunK.nil <| LWP.ret ?_)
    exact ⟨[_], ⟨rfl, trivial⟩, rfl⟩
  · (refine LWP.seq <| LWP.region (by kernel_rfl) <| K.box rfl rfl rfl .plain <| K.box rfl rfl rfl .plain <| kas rfl <| RunK.nil <| LWP.seq <| LWP.seq <| LWP.region (by kernel_rfl) <| kfa rfl rfl ?_; refine kl1 rfl rfl rfl <| kfa rfl rfl ?_; refine kl1 rfl rfl rfl <| kne rfl rfl (bne_iff_ne.2 (by omega)) <| RunK.nil <| LWP.condT rfl ?_; refine LWP.seq <| LWP.region (by kernel_rfl) <| kfa rfl rfl ?_; refine kl1 rfl rfl rfl <| kfa rfl rfl ?_; refine kl1 rfl rfl rfl <| kca rfl rfl (Compare_spec _ _ _ r (by subst hr; unfold cmpI; (repeat' split) <;> omega)) <| kas rfl <| RunK.nil <| LWP.ret ?_)
    exact ⟨[_], ⟨rfl, trivial⟩, rfl⟩
abbrev S0 : SV := .agg [.val (.bool false), .val (.int .u64 0), .val (.int .u64 0)]
def Lim (N : Int) : Prop := 0 ≤ N ∧ N < 170141183460469231731687303715884105728
theorem Lim.in2 {N : Int} (h : Lim N) : In2 N := ⟨h.1, by have := h.2; omega⟩
theorem formB_lim {b : Bool} {N : Int} (hN : In2 N) (h : formB b N = true) : Lim N ∧ (b = true → N ≠ 0) := by
  simp only [formB, Bool.and_eq_true, decide_eq_true_eq, Bool.not_eq_true', Bool.and_eq_false_iff, beq_eq_false_iff_ne] at h
  refine ⟨⟨hN.1, h.1⟩, fun hb => ?_⟩
  rcases h.2 with h2 | h2
  · rw [hb] at h2; simp at h2
  · exact h2
end Go.Proofs.YtfmadklfcoebhaaDoor
end
section
namespace Go.Proofs.YtfmadklfcoebhaaDoor
open Go Go.Lg
variable (X : Nat → Option Obj)
/-- a size -/
def mg (z : Int) : Int := if z < 0 then -z else z
def R127 (z : Int) : Prop := -170141183460469231731687303715884105728 < z ∧ z < 170141183460469231731687303715884105728
abbrev LQ (z : Int) : LV := LI (decide (z < 0)) (mg z)
abbrev SQ (z : Int) : SV := SI (decide (z < 0)) (mg z)
theorem mg_neg {z : Int} (h : z < 0) : mg z = -z := if_pos h
theorem mg_pos {z : Int} (h : 0 ≤ z) : mg z = z := if_neg (by omega)
theorem mg_in2 {z : Int} (h : R127 z) : In2 (mg z) := by unfold mg In2 R127 at *; split <;> omega
theorem mg_lim {z : Int} (h : R127 z) : mg z < 170141183460469231731687303715884105728 := by unfold mg R127 at *; split <;> omega
theorem formB_q {z : Int} (h : R127 z) : formB (decide (z < 0)) (mg z) = true := by
  have := mg_lim h
  simp only [formB, decide_eq_true this, Bool.true_and, Bool.not_eq_true', Bool.and_eq_false_iff, decide_eq_false_iff_not, beq_eq_false_iff_ne]
  unfold mg
  split <;> omega
theorem both_q {x y : Int} (hx : R127 x) (hy : R127 y) : (formB (decide (x < 0)) (mg x) && formB (decide (y < 0)) (mg y)) = true := by rw [formB_q hx, formB_q hy]; rfl
/-- a sign and a size are a number -/
def zv (b : Bool) (N : Int) : Int := if b = true then -N else N
theorem zv_in {b : Bool} {N : Int} (hN : In2 N) (h : formB b N = true) : R127 (zv b N) ∧ decide (zv b N < 0) = b ∧ mg (zv b N) = N := by
  obtain ⟨⟨h0, h1⟩, h2⟩ := formB_lim hN h
  cases b
  · refine ⟨?_, ?_, ?_⟩ <;> simp only [zv, Bool.false_eq_true, if_false, R127, mg, decide_eq_false_iff_not]
    · omega
    · omega
    · exact if_neg (by omega)
  · have := h2 rfl
    refine ⟨?_, ?_, ?_⟩ <;> simp only [zv, if_true, R127, mg, decide_eq_true_eq]
    · omega
    · omega
    · rw [if_pos (by omega)]; omega
theorem LI_q {b : Bool} {N : Int} (hN : In2 N) (h : formB b N = true) : LI b N = LQ (zv b N) := by
  obtain ⟨_, h1, h2⟩ := zv_in hN h
  unfold LQ
  rw [h1, h2]
theorem sg_q {b : Bool} {N z : Int} (hN : 0 ≤ N) (h : zv b N = z) : sg b N = decide (z < 0) ∧ N = mg z := by
  subst h
  cases b
  · simp only [zv, sg, Bool.false_and, Bool.false_eq_true, if_false, mg]
    exact ⟨(decide_eq_false (by omega)).symm, (if_neg (by omega)).symm⟩
  · simp only [zv, sg, Bool.true_and, if_true, mg]
    refine ⟨?_, by split <;> omega⟩
    by_cases h0 : N = 0
    · subst h0; rfl
    · rw [show (N == 0) = false from beq_eq_false_iff_ne.2 h0, decide_eq_true (by omega)]; rfl
/-- what Add answers -/
def addR (z : Int) : LV := if -170141183460469231731687303715884105728 < z ∧ z < 170141183460469231731687303715884105728 then .tup [SQ z, Sn .i64 0] else .tup [S0, Sn .i64 3]
theorem addR_in {z : Int} (h : R127 z) : addR z = .tup [SQ z, Sn .i64 0] := if_pos h
theorem addR_out {z : Int} (h : ¬ R127 z) : addR z = .tup [S0, Sn .i64 3] := if_neg h
theorem tup_q {b : Bool} {N z : Int} (hN : 0 ≤ N) (h : zv b N = z) : (LV.tup [SI (sg b N) N, Sn .i64 0]) = .tup [SQ z, Sn .i64 0] := by
  obtain ⟨h1, h2⟩ := sg_q hN h
  unfold SQ
  rw [h1, ← h2]
theorem Neg_q (x : Int) (hx : R127 x) : PSpec Tryd.prog X 57 [LQ x] (LQ (-x)) := by
  have h1 := mg_in2 hx
  have hn := number_spec X (!decide (x < 0)) (mg x) h1 (decide (-x < 0)) (by
    have := sg_q (b := !decide (x < 0)) (N := mg x) (z := -x) h1.1 (by unfold zv mg; by_cases c : x < 0 <;> simp [c])
    exact this.1)
  have e : mg (-x) = mg x := by unfold mg; (repeat' split) <;> omega
  refine PSpec.intro Tryd.func57 rfl (by kernel_rfl) rfl rfl ?_
  intro C
  (refine LWP.seq <| LWP.region (by kernel_rfl) <| K.box rfl rfl rfl .plain <| K.alloc rfl .plain ?_; refine RunK.nil <| LWP.seq <| LWP.seq <| LWP.region (by kernel_rfl) <| K.loadAll rfl rfl rfl .plain ?_; refine kca rfl rfl (Form_spec _ _ _ h1 true (formB_q hx)) <| K.not rfl rfl .plain <| RunK.nil <| LWP.condF rfl ?_; refine LWP.skip ?_; refine LWP.seq <| LWP.draws mixed (by kernel_rfl) <| kfa rfl rfl ?_; refine kl1 rfl rfl rfl <| K.not rfl rfl .plain <| K.loadAll rfl rfl rfl .plain ?_; refine kca rfl rfl (sizeOf_spec _ _ _ _) <| kca rfl rfl (hn) <| K.storeAll rfl rfl rfl rfl rfl rfl .plain ?_; refine RunK.nil <| And.intro (by kernel_rfl) ?_; refine LWP.ret ?_)
  unfold LQ
  rw [e]
  exact ⟨[_], ⟨⟨_, _, rfl, rfl, rfl, .inl ⟨AggT.h, rfl⟩⟩, trivial⟩, rfl⟩
theorem Neg_bad (b : Bool) (N : Int) (hN : In2 N) (hf : formB b N = false) : PSpec Tryd.prog X 57 [LI b N] (.sv S0) := by
  refine PSpec.intro Tryd.func57 rfl (by kernel_rfl) rfl rfl ?_
  intro C
  (refine LWP.seq <| LWP.region (by kernel_rfl) <| K.box rfl rfl rfl .plain <| K.alloc rfl .plain ?_; refine RunK.nil <| LWP.seq <| LWP.seq <| LWP.region (by kernel_rfl) <| K.loadAll rfl rfl rfl .plain ?_; refine kca rfl rfl (Form_spec _ _ _ hN false hf) <| K.not rfl rfl .plain <| RunK.nil <| LWP.condT rfl ?_; refine LWP.seq <| LWP.region (by kernel_rfl) <| K.build rfl rfl (by exact rfl) (by exact nl3 rfl rfl rfl rfl) .plain ?_; refine K.storeAll rfl rfl rfl rfl rfl rfl .plain ?_; refine RunK.nil <| LWP.ret ?_)
  exact ⟨[_], ⟨⟨_, _, rfl, rfl, rfl, .inl ⟨AggT.h, rfl⟩⟩, trivial⟩, rfl⟩
def sgnI (z : Int) : Int := if z < 0 then -1 else if 0 < z then 1 else 0
theorem Cmp_bad (b c : Bool) (M N : Int) (hM : In2 M) (hN : In2 N) (hf : (formB b M && formB c N) = false) : PSpec Tryd.prog X 43 [LI b M, LI c N] (Ln .i64 0) := by
  refine PSpec.intro Tryd.func43 rfl (by kernel_rfl) rfl rfl ?_
  intro C
  (refine LWP.seq <| LWP.region (by kernel_rfl) <| K.box rfl rfl rfl .plain <| K.box rfl rfl rfl .plain <| kas rfl <| RunK.nil <| LWP.seq <| LWP.block <| LWP.seq <| LWP.region (by kernel_rfl) <| K.loadAll rfl rfl rfl .plain ?_; refine K.loadAll rfl rfl rfl .plain ?_; refine kca rfl rfl (bothForm_spec _ _ _ _ _ hM hN _ hf) <| K.not rfl rfl .plain <| kas rfl <| RunK.nil <| LWP.condT rfl ?_; refine LWP.seq <| LWP.region (by kernel_rfl) <| kas rfl <| RunK.nil <| LWP.ret ?_)
  exact ⟨[_], ⟨rfl, trivial⟩, rfl⟩
theorem Cmp_q (x y : Int) (hx : R127 x) (hy : R127 y) (r : Int) (hr : cmpI x y = r) : PSpec Tryd.prog X 43 [LQ x, LQ y] (Ln .i64 r) := by
  have hB := bothForm_spec X _ _ _ _ (mg_in2 hx) (mg_in2 hy) true (both_q hx hy)
  refine PSpec.intro Tryd.func43 rfl (by kernel_rfl) rfl rfl ?_
  intro C
  by_cases cx : x < 0 <;> by_cases cy : y < 0
  all_goals
    unfold LQ at hB ⊢
    simp only [cx, cy, decide_true, decide_false] at hB ⊢
  · have e : cmpI (mg y) (mg x) = r := by rw [mg_neg cx, mg_neg cy, ← hr]; unfold cmpI; (repeat' split) <;> omega
    (refine LWP.seq <| LWP.region (by kernel_rfl) <| K.box rfl rfl rfl .plain <| K.box rfl rfl rfl .plain <| kas rfl <| RunK.nil <| LWP.seq <| LWP.block <| LWP.seq <| LWP.region (by kernel_rfl) <| K.loadAll rfl rfl rfl .plain ?_; refine K.loadAll rfl rfl rfl .plain ?_; refine kca rfl rfl (hB) <| K.not rfl rfl .plain <| kas rfl <| RunK.nil <| LWP.condF rfl ?_; refine LWP.seq <| LWP.region (by kernel_rfl) <| kfa rfl rfl ?_; refine kl1 rfl rfl rfl <| kmv rfl <| K.fieldAddr rfl rfl (.taken rfl rfl) ?_; refine K.loadOne rfl rfl rfl (.taken rfl rfl) ?_; refine kpt rfl rfl <| kas rfl <| RunK.nil <| LWP.condT rfl ?_; refine LWP.seq <| LWP.draws mixed (by kernel_rfl) <| K.loadAll rfl rfl rfl .plain ?_; refine kca rfl rfl (sizeOf_spec _ _ _ _) <| K.loadAll rfl rfl rfl .plain ?_; refine kca rfl rfl (sizeOf_spec _ _ _ _) <| kca rfl rfl (compare_spec _ _ _ r e) <| kas rfl <| RunK.nil <| And.intro (by kernel_rfl) ?_; refine LWP.ret ?_)
    exact ⟨[_], ⟨rfl, trivial⟩, rfl⟩
  · have e : r = -1 := by rw [← hr]; unfold cmpI; rw [if_pos (by omega)]
    subst e
    (refine LWP.seq <| LWP.region (by kernel_rfl) <| K.box rfl rfl rfl .plain <| K.box rfl rfl rfl .plain <| kas rfl <| RunK.nil <| LWP.seq <| LWP.block <| LWP.seq <| LWP.region (by kernel_rfl) <| K.loadAll rfl rfl rfl .plain ?_; refine K.loadAll rfl rfl rfl .plain ?_; refine kca rfl rfl (hB) <| K.not rfl rfl .plain <| kas rfl <| RunK.nil <| LWP.condF rfl ?_; refine LWP.seq <| LWP.region (by kernel_rfl) <| kfa rfl rfl ?_; refine kl1 rfl rfl rfl <| kmv rfl <| K.fieldAddr rfl rfl (.taken rfl rfl) ?_; refine K.loadOne rfl rfl rfl (.taken rfl rfl) ?_; refine kpt rfl rfl <| kas rfl <| RunK.nil <| LWP.condF rfl ?_; refine LWP.seq <| LWP.region (by kernel_rfl) <| kfa rfl rfl ?_; refine kl1 rfl rfl rfl <| kas rfl <| RunK.nil <| LWP.condT rfl ?_; refine LWP.seq <| LWP.region (by kernel_rfl) <| kas rfl <| RunK.nil <| LWP.ret ?_)
    exact ⟨[_], ⟨rfl, trivial⟩, rfl⟩
  · have e : r = 1 := by rw [← hr]; unfold cmpI; rw [if_neg (by omega), if_pos (by omega)]
    subst e
    (refine LWP.seq <| LWP.region (by kernel_rfl) <| K.box rfl rfl rfl .plain <| K.box rfl rfl rfl .plain <| kas rfl <| RunK.nil <| LWP.seq <| LWP.block <| LWP.seq <| LWP.region (by kernel_rfl) <| K.loadAll rfl rfl rfl .plain ?_; refine K.loadAll rfl rfl rfl .plain ?_; refine kca rfl rfl (hB) <| K.not rfl rfl .plain <| kas rfl <| RunK.nil <| LWP.condF rfl ?_; refine LWP.seq <| LWP.region (by kernel_rfl) <| kfa rfl rfl ?_; refine kl1 rfl rfl rfl <| kmv rfl <| RunK.passed rfl rfl rfl <| RunK.passed rfl rfl rfl <| kpf rfl rfl <| kas rfl <| RunK.nil <| LWP.condF rfl ?_; refine LWP.seq <| LWP.region (by kernel_rfl) <| kfa rfl rfl ?_; refine kl1 rfl rfl rfl <| kas rfl <| RunK.nil <| LWP.condF rfl ?_; refine LWP.seq <| LWP.region (by kernel_rfl) <| kfa rfl rfl ?_; refine kl1 rfl rfl rfl <| kas rfl <| RunK.nil <| LWP.condT rfl ?_; refine LWP.seq <| LWP.region (by kernel_rfl) <| kas rfl <| RunK.nil <| LWP.ret ?_)
    exact ⟨[_], ⟨rfl, trivial⟩, rfl⟩
  · have e : cmpI (mg x) (mg y) = r := by rw [mg_pos (Int.not_lt.1 cx), mg_pos (Int.not_lt.1 cy), ← hr]
    (refine LWP.seq <| LWP.region (by kernel_rfl) <| K.box rfl rfl rfl .plain <| K.box rfl rfl rfl .plain <| kas rfl <| RunK.nil <| LWP.seq <| LWP.block <| LWP.seq <| LWP.region (by kernel_rfl) <| K.loadAll rfl rfl rfl .plain ?_; refine K.loadAll rfl rfl rfl .plain ?_; refine kca rfl rfl (hB) <| K.not rfl rfl .plain <| kas rfl <| RunK.nil <| LWP.condF rfl ?_; refine LWP.seq <| LWP.region (by kernel_rfl) <| kfa rfl rfl ?_; refine kl1 rfl rfl rfl <| kmv rfl <| RunK.passed rfl rfl rfl <| RunK.passed rfl rfl rfl <| kpf rfl rfl <| kas rfl <| RunK.nil <| LWP.condF rfl ?_; refine LWP.seq <| LWP.region (by kernel_rfl) <| kfa rfl rfl ?_; refine kl1 rfl rfl rfl <| kas rfl <| RunK.nil <| LWP.condF rfl ?_; refine LWP.seq <| LWP.region (by kernel_rfl) <| kfa rfl rfl ?_; refine kl1 rfl rfl rfl <| kas rfl <| RunK.nil <| LWP.condF rfl ?_; refine LWP.skip ?_; refine LWP.seq <| LWP.draws mixed (by kernel_rfl) <| K.loadAll rfl rfl rfl .plain ?_; refine kca rfl rfl (sizeOf_spec _ _ _ _) <| K.loadAll rfl rfl rfl .plain ?_; refine kca rfl rfl (sizeOf_spec _ _ _ _) <| kca rfl rfl (compare_spec _ _ _ r e) <| kas rfl <| RunK.nil <| And.intro (by kernel_rfl) ?_; refine LWP.ret ?_)
    exact ⟨[_], ⟨rfl, trivial⟩, rfl⟩
end Go.Proofs.YtfmadklfcoebhaaDoor
end
section
namespace Go.Proofs.YtfmadklfcoebhaaDoor
open Go Go.Lg Go.Lg.Arith Go.RowKit
variable (X : Nat → Option Obj)
theorem mg_nonneg (z : Int) : 0 ≤ mg z := by unfold mg; split <;> omega
theorem OfWord_spec (n : Int) : PSpec Tryd.prog X 44 [Ln .u64 n] (.sv (.agg [.val (.bool false), .val (.int .u64 0), .val (.int .u64 n)])) := by
  refine PSpec.intro Tryd.func44 rfl (by kernel_rfl) rfl rfl ?_
  intro C
  (refine LWP.seq <| LWP.region (by kernel_rfl) <| K.alloc rfl .plain ?_; refine RunK.nil <| LWP.seq <| LWP.region (by kernel_rfl) <| kmv rfl <| K.build rfl rfl (by exact rfl) (by exact nl3 rfl rfl rfl rfl) .plain ?_; refine K.storeAll rfl rfl rfl rfl rfl rfl .plain ?_; refine RunK.nil <| LWP.ret ?_)
  exact ⟨[_], ⟨⟨_, _, rfl, rfl, rfl, .inl ⟨AggT.h, rfl⟩⟩, trivial⟩, rfl⟩
theorem Of_spec (n : Int) (hn : -9223372036854775808 ≤ n ∧ n < 9223372036854775808) : PSpec Tryd.prog X 25 [Ln .i64 n] (LQ n) := by
  refine PSpec.intro Tryd.func25 rfl (by kernel_rfl) rfl rfl ?_
  intro C
  by_cases c : n < 0
  · have w1 : IntKind.u64.wrap n = n + 18446744073709551616 := by rw [IntKind.wrap_u64]; omega
    have w2 : IntKind.u64.wrap (0 - (n + 18446744073709551616)) = -n := by rw [IntKind.wrap_u64]; omega
    (refine LWP.seq <| LWP.region (by kernel_rfl) <| K.alloc rfl .plain ?_; refine RunK.nil <| LWP.seq <| LWP.seq <| LWP.region (by kernel_rfl) <| kmv rfl <| klt rfl rfl (decide_eq_true (by omega)) <| RunK.nil <| LWP.condT rfl ?_; refine LWP.seq <| LWP.region (by kernel_rfl) <| kmv rfl <| kcv rfl w1 ?_; refine K.neg rfl w2 .plain <| K.build rfl rfl (by exact rfl) (by exact nl3 rfl rfl rfl rfl) .plain ?_; refine K.storeAll rfl rfl rfl rfl rfl rfl .plain ?_; refine RunK.nil <| LWP.ret ?_)
    refine ⟨[_], ⟨⟨_, _, rfl, rfl, rfl, .inl ⟨AggT.h, rfl⟩⟩, trivial⟩, ?_⟩
    unfold LQ LI
    rw [mg_neg c, decide_eq_true c, show -n / 18446744073709551616 = 0 by omega, show -n % 18446744073709551616 = -n by omega]
    rfl
  · (refine LWP.seq <| LWP.region (by kernel_rfl) <| K.alloc rfl .plain ?_; refine RunK.nil <| LWP.seq <| LWP.seq <| LWP.region (by kernel_rfl) <| kmv rfl <| klt rfl rfl (decide_eq_false (by omega)) <| RunK.nil <| LWP.condF rfl ?_; refine LWP.skip ?_; refine LWP.seq <| LWP.region (by kernel_rfl) <| kmv rfl <| kcv rfl (by exact wrap_u64 (by omega)) ?_; refine kca rfl rfl (OfWord_spec _ _) <| K.storeAll rfl rfl rfl rfl rfl rfl .plain ?_; refine RunK.nil <| LWP.ret ?_)
    refine ⟨[_], ⟨⟨_, _, rfl, rfl, rfl, .inl ⟨AggT.h, rfl⟩⟩, trivial⟩, ?_⟩
    unfold LQ LI
    rw [mg_pos (by omega), decide_eq_false c, show n / 18446744073709551616 = 0 by omega, show n % 18446744073709551616 = n by omega]
    rfl
theorem eqI {b b' : Bool} {h l h' l' : Int} (r : Bool) (hr : (b == b' && (h == h' && l == l')) = r) (w : World) :
    (Op.equalIn 10000 42 (.agg [.bool b, .int .u64 h, .int .u64 l].toArray) (.agg [.bool b', .int .u64 h', .int .u64 l'].toArray)).run Tryd.prog w = .ok r w := by
  subst hr
  rw [show (10000 : Nat) = 9999 + 1 from rfl, run_equalIn_agg w 9999 42 _ _ (by kernel_rfl) (by kernel_rfl)]
  simp only [Program.fieldsOf, Tryd.underlying42]
  go_simp
  cases b <;> cases b' <;> by_cases h1 : h = h' <;> by_cases h2 : l = l' <;> simp [h1, h2]
theorem eqQ (x y : Int) (r : Bool) (hr : decide (x = y) = r) (w : World) :
    (Op.equalIn 10000 42 (.agg [.bool (decide (x < 0)), .int .u64 (mg x / 18446744073709551616), .int .u64 (mg x % 18446744073709551616)].toArray)
      (.agg [.bool (decide (y < 0)), .int .u64 (mg y / 18446744073709551616), .int .u64 (mg y % 18446744073709551616)].toArray)).run Tryd.prog w = .ok r w := by
  refine eqI r ?_ w
  rw [← hr]
  by_cases e : x = y
  · subst e; simp
  · rw [decide_eq_false e]
    have h : ¬ ((decide (x < 0) = decide (y < 0)) ∧ mg x / 18446744073709551616 = mg y / 18446744073709551616 ∧ mg x % 18446744073709551616 = mg y % 18446744073709551616) := by
      rintro ⟨h1, h2, h3⟩
      have : mg x = mg y := by omega
      unfold mg at this
      by_cases cx : x < 0 <;> by_cases cy : y < 0 <;> simp only [cx, cy, decide_true, decide_false, if_true, if_false] at h1 this <;> first | omega | cases h1
    cases hc : (decide (x < 0) == decide (y < 0) && (mg x / 18446744073709551616 == mg y / 18446744073709551616 && mg x % 18446744073709551616 == mg y % 18446744073709551616)) with
    | false => rfl
    | true =>
      simp only [Bool.and_eq_true, beq_iff_eq] at hc
      exact absurd hc h
end Go.Proofs.YtfmadklfcoebhaaDoor
end
section
namespace Go.Proofs.YtfmadklfcoebhaaDoor
open Go Go.Lg
/-- a Reader: what is left, and whether it is bad -/
abbrev rd (k : Nat) (l : List UInt8) (b : Bool) : List (Nat × Option Box) := [(k, some ⟨123, [vs l, .val (.bool b)], false⟩)]
variable (X : Nat → Option Obj)
def isW (n : Int) : Bool := decide (n = 1) || (decide (n = 2) || (decide (n = 4) || decide (n = 8)))
theorem isWidth_spec (n : Int) (r : Bool) (hr : isW n = r) : PSpec Tryd.prog X 65 [Ln .i64 n] (Lb r) := by
  refine PSpec.intro Tryd.func65 rfl (by kernel_rfl) rfl rfl ?_
  intro C
  subst hr
  by_cases h1 : n = 1
  · (refine LWP.seq <| LWP.region (by kernel_rfl) <| kas rfl <| RunK.nil <| LWP.seq <| LWP.region (by kernel_rfl) <| kmv rfl <| keq rfl rfl (beq_iff_eq.2 (by omega)) <| kmv rfl <| RunK.passed rfl rfl rfl <| RunK.passed rfl rfl rfl <| kpt rfl rfl <| kmv rfl <| RunK.passed rfl rfl rfl ?_; refine RunK.passed rfl rfl rfl <| kpt rfl rfl <| kmv rfl <| RunK.passed rfl rfl rfl <| RunK.passed rfl rfl rfl <| kpt rfl rfl <| kas rfl <| RunK.nil <| LWP.ret ?_)
    exact ⟨[_], ⟨rfl, trivial⟩, by unfold isW; rw [decide_eq_true h1]; rfl⟩
  · by_cases h2 : n = 2
    · (refine LWP.seq <| LWP.region (by kernel_rfl) <| kas rfl <| RunK.nil <| LWP.seq <| LWP.region (by kernel_rfl) <| kmv rfl <| keq rfl rfl (beq_eq_false_iff_ne.2 (by omega)) <| kmv rfl <| gmv rfl rfl rfl <| K.eql rfl rfl (beq_iff_eq.2 (by omega)) (.taken rfl rfl) ?_; refine kpf rfl rfl <| kmv rfl <| RunK.passed rfl rfl rfl <| RunK.passed rfl rfl rfl <| kpt rfl rfl <| kmv rfl <| RunK.passed rfl rfl rfl <| RunK.passed rfl rfl rfl <| kpt rfl rfl <| kas rfl <| RunK.nil <| LWP.ret ?_)
      exact ⟨[_], ⟨rfl, trivial⟩, by unfold isW; rw [decide_eq_false h1, decide_eq_true h2]; rfl⟩
    · by_cases h4 : n = 4
      · (refine LWP.seq <| LWP.region (by kernel_rfl) <| kas rfl <| RunK.nil <| LWP.seq <| LWP.region (by kernel_rfl) <| kmv rfl <| keq rfl rfl (beq_eq_false_iff_ne.2 (by omega)) <| kmv rfl <| gmv rfl rfl rfl <| K.eql rfl rfl (beq_eq_false_iff_ne.2 (by omega)) (.taken rfl rfl) ?_; refine kpf rfl rfl <| kmv rfl <| gmv rfl rfl rfl <| K.eql rfl rfl (beq_iff_eq.2 (by omega)) (.taken rfl rfl) ?_; refine kpf rfl rfl <| kmv rfl <| RunK.passed rfl rfl rfl <| RunK.passed rfl rfl rfl <| kpt rfl rfl <| kas rfl <| RunK.nil <| LWP.ret ?_)
        exact ⟨[_], ⟨rfl, trivial⟩, by unfold isW; rw [decide_eq_false h1, decide_eq_false h2, decide_eq_true h4]; rfl⟩
      · by_cases h8 : n = 8
        · (refine LWP.seq <| LWP.region (by kernel_rfl) <| kas rfl <| RunK.nil <| LWP.seq <| LWP.region (by kernel_rfl) <| kmv rfl <| keq rfl rfl (beq_eq_false_iff_ne.2 (by omega)) <| kmv rfl <| gmv rfl rfl rfl <| K.eql rfl rfl (beq_eq_false_iff_ne.2 (by omega)) (.taken rfl rfl) ?_; refine kpf rfl rfl <| kmv rfl <| gmv rfl rfl rfl <| K.eql rfl rfl (beq_eq_false_iff_ne.2 (by omega)) (.taken rfl rfl) ?_; refine kpf rfl rfl <| kmv rfl <| gmv rfl rfl rfl <| K.eql rfl rfl (beq_iff_eq.2 (by omega)) (.taken rfl rfl) ?_; refine kpf rfl rfl <| kas rfl <| RunK.nil <| LWP.ret ?_)
          exact ⟨[_], ⟨rfl, trivial⟩, by unfold isW; rw [decide_eq_false h1, decide_eq_false h2, decide_eq_false h4, decide_eq_true h8]; rfl⟩
        · (refine LWP.seq <| LWP.region (by kernel_rfl) <| kas rfl <| RunK.nil <| LWP.seq <| LWP.region (by kernel_rfl) <| kmv rfl <| keq rfl rfl (beq_eq_false_iff_ne.2 (by omega)) <| kmv rfl <| gmv rfl rfl rfl <| K.eql rfl rfl (beq_eq_false_iff_ne.2 (by omega)) (.taken rfl rfl) ?_; refine kpf rfl rfl <| kmv rfl <| gmv rfl rfl rfl <| K.eql rfl rfl (beq_eq_false_iff_ne.2 (by omega)) (.taken rfl rfl) ?_; refine kpf rfl rfl <| kmv rfl <| gmv rfl rfl rfl <| K.eql rfl rfl (beq_eq_false_iff_ne.2 (by omega)) (.taken rfl rfl) ?_; refine kpf rfl rfl <| kas rfl <| RunK.nil <| LWP.ret ?_)
          exact ⟨[_], ⟨rfl, trivial⟩, by unfold isW; rw [decide_eq_false h1, decide_eq_false h2, decide_eq_false h4, decide_eq_false h8]; rfl⟩
-- the Reader
theorem Read_spec (l : List UInt8) : MSpec Tryd.prog X 52 [Ls l] [] (Lp 1000001) (rd 1000001 l false) := by
  refine MSpec.intro Tryd.func52 rfl (by kernel_rfl) rfl rfl rfl rfl rfl ?_
  intro C
  (refine LWP.seq <| LWP.region (by kernel_rfl) <| kas rfl <| RunK.nil <| LWP.seq <| LWP.region (by kernel_rfl) <| kmv rfl <| K.build rfl rfl (by exact rfl) (by exact nl2 rfl rfl rfl) .plain ?_; refine K.box rfl rfl rfl .plain <| kas rfl <| RunK.nil <| LWP.ret ?_)
  exact ⟨[(1000001, 5)], ⟨[_], ⟨rfl, trivial⟩, rfl⟩, ⟨⟨_, rfl, rfl⟩, trivial⟩, rfl, rfl⟩
theorem Bad_spec (l : List UInt8) (b : Bool) : MSpec Tryd.prog X 72 [Lp 1000000] (rd 1000000 l b) (Lb b) (rd 1000000 l b) := by
  refine MSpec.intro Tryd.func72 rfl (by kernel_rfl) rfl rfl rfl rfl rfl ?_
  intro C
  (refine LWP.seq <| LWP.region (by kernel_rfl) <| kas rfl <| RunK.nil <| LWP.seq <| LWP.region (by kernel_rfl) <| kmv rfl <| K.ptrNil rfl (by kernel_rfl) (.inl ⟨rfl, rfl⟩) .plain <| kmv rfl <| gmv rfl rfl rfl <| K.nilCheck rfl (.taken rfl rfl) ?_; refine K.fieldAddr rfl rfl (.taken rfl rfl) ?_; refine K.loadOne rfl rfl rfl (.taken rfl rfl) ?_; refine kpf rfl rfl <| kas rfl <| RunK.nil <| LWP.ret ?_)
  exact ⟨[], ⟨[_], ⟨rfl, trivial⟩, rfl⟩, ⟨⟨_, rfl, rfl⟩, trivial⟩, rfl, rfl⟩
theorem spoil_spec (l : List UInt8) (b : Bool) : MSpec Tryd.prog X 69 [Lp 1000000] (rd 1000000 l b) (.tup []) (rd 1000000 l true) := by
  refine MSpec.intro Tryd.func69 rfl (by kernel_rfl) rfl rfl rfl rfl rfl ?_
  intro C
  (refine LWP.seq <| LWP.region (by kernel_rfl) <| kmv rfl <| K.ptrNil rfl (by kernel_rfl) (.inr ⟨rfl, rfl⟩) .plain <| RunK.nil <| LWP.condT rfl ?_; refine LWP.region (by kernel_rfl) <| kmv rfl <| K.nilCheck rfl .plain <| kfa rfl rfl ?_; refine K.storeOne rfl rfl rfl rfl rfl (nl2 rfl rfl rfl) .plain <| RunK.nil ?_)
  exact ⟨[], ⟨[], trivial, rfl⟩, ⟨⟨_, rfl, rfl⟩, trivial⟩, rfl, rfl⟩
end Go.Proofs.YtfmadklfcoebhaaDoor
end
section
namespace Go.Lg
open Go
/-- the number of bytes, the lowest first -/
def le : List UInt8 → Nat
  | [] => 0
  | c :: t => c.toNat + 256 * le t
theorem le_lt : ∀ (l : List UInt8), le l < 256 ^ l.length
  | [] => by simp [le]
  | c :: t => by
    have := le_lt t
    have hc := c.toNat_lt
    simp only [le, List.length_cons, Nat.pow_succ]
    omega
theorem le_snoc : ∀ (l : List UInt8) (c : UInt8), le (l ++ [c]) = le l + c.toNat * 256 ^ l.length
  | [], c => by simp [le]
  | d :: t, c => by
    have e : 256 * (c.toNat * 256 ^ t.length) = c.toNat * (256 ^ t.length * 256) := by rw [Nat.mul_left_comm, Nat.mul_comm 256]
    simp only [List.cons_append, le, le_snoc t c, List.length_cons, Nat.pow_succ, Nat.mul_add]
    omega
theorem le_take {l : List UInt8} {i : Nat} {c : UInt8} (h : l[i]? = some c) : le (l.take (i + 1)) = le (l.take i) + c.toNat * 256 ^ i := by
  have hi := (List.getElem?_eq_some_iff.1 h).1
  rw [List.take_add_one, h]
  have := le_snoc (l.take i) c
  rw [List.length_take, Nat.min_eq_left (by omega)] at this
  exact this
/-- the bytes of a number, the lowest first -/
def leB : Nat → Nat → List UInt8
  | 0, _ => []
  | k + 1, n => UInt8.ofNat (n % 256) :: leB k (n / 256)
theorem leB_length : ∀ (k n : Nat), (leB k n).length = k
  | 0, _ => rfl
  | k + 1, n => by simp [leB, leB_length k]
theorem leB_get : ∀ (k n i : Nat), i < k → (leB k n)[i]? = some (UInt8.ofNat (n / 256 ^ i % 256))
  | 0, _, _, h => by omega
  | k + 1, n, 0, _ => by simp [leB]
  | k + 1, n, i + 1, h => by
    simp only [leB, List.getElem?_cons_succ]
    rw [leB_get k (n / 256) i (by omega), Nat.pow_succ, Nat.mul_comm, Nat.div_div_eq_div_mul]
theorem le_leB : ∀ (k n : Nat), n < 256 ^ k → le (leB k n) = n
  | 0, n, h => by simp at h; subst h; rfl
  | k + 1, n, h => by
    have e : (UInt8.ofNat (n % 256)).toNat = n % 256 := by rw [UInt8.toNat_ofNat']; exact Nat.mod_eq_of_lt (by omega)
    simp only [leB, le, e, le_leB k (n / 256) (by rw [Nat.pow_succ] at h; omega)]
    omega
theorem take_next {w n i : Nat} (h : i < w) : ((leB w n).take i).map bc ++ [bc (UInt8.ofNat (n / 256 ^ i % 256))] = ((leB w n).take (i + 1)).map bc := by
  rw [List.take_add_one, leB_get w n i h, List.map_append]
  rfl
/-- i bytes are put, the others are 0 -/
def lo (w n i : Nat) : List UInt8 := (leB w n).take i ++ List.replicate (w - i) 0
theorem lo_set {w n i : Nat} (h : i < w) : (((lo w n i).map bc).set (0 + i * 1) (bc (UInt8.ofNat (n / 256 ^ i % 256)))) = (lo w n (i + 1)).map bc := by
  rw [Nat.zero_add, Nat.mul_one, ← List.map_set]
  congr 1
  unfold lo
  have hl : ((leB w n).take i).length = i := by rw [List.length_take, leB_length]; omega
  rw [List.set_append_right _ _ (by omega), hl, Nat.sub_self, List.take_add_one, leB_get w n i h]
  have : w - i = (w - (i + 1)) + 1 := by omega
  rw [this, List.replicate_succ]
  simp
theorem lo_len (w n i : Nat) (h : i ≤ w) : ((lo w n i).map bc).length = w := by
  unfold lo
  rw [List.length_map, List.length_append, List.length_take, leB_length, List.length_replicate]
  omega
theorem lo_all (w n : Nat) : lo w n w = leB w n := by
  unfold lo
  rw [Nat.sub_self, List.take_of_length_le (by rw [leB_length]; exact Nat.le_refl _)]
  simp
theorem or_low {x y c : Int} {s : Nat} (hs : s ≤ 64) (hx : 0 ≤ x ∧ x * 2 ^ s < 18446744073709551616) (hy : 0 ≤ y ∧ y < 2 ^ s) (hc : y + x * 2 ^ s = c) : bits .or .u64 y (x * 2 ^ s) = c := by
  have h := or_apart hs hx hy
  obtain ⟨A, rfl⟩ := Int.eq_ofNat_of_zero_le hx.1
  obtain ⟨B, rfl⟩ := Int.eq_ofNat_of_zero_le hy.1
  have e : ((A : Int) * 2 ^ s) = ((A * 2 ^ s : Nat) : Int) := by rw [Int.natCast_mul, Int.natCast_pow]; rfl
  have e' : ((2 : Int) ^ s) = ((2 ^ s : Nat) : Int) := by rw [Int.natCast_pow]; rfl
  have h1 : A * 2 ^ s < 18446744073709551616 := by have := hx.2; rw [e] at this; omega
  have h3 : 2 ^ s ≤ 18446744073709551616 := by
    have : 2 ^ s ≤ 2 ^ 64 := Nat.pow_le_pow_right (by decide) hs
    exact this
  have h2 : B < 18446744073709551616 := by have := hy.2; rw [e'] at this; omega
  have hcomm : bits .or .u64 (B : Int) ((A : Int) * 2 ^ s) = bits .or .u64 ((A : Int) * 2 ^ s) B := by
    rw [e, u64_or_nat _ _ h2 h1, u64_or_nat _ _ h1 h2, Nat.or_comm]
  rw [hcomm, h]
  omega
end Go.Lg
namespace Go.Proofs.YtfmadklfcoebhaaDoor
open Go Go.Lg
variable (X : Nat → Option Obj)
theorem p256 (i : Nat) : (256 : Nat) ^ i = 2 ^ (8 * i) := by rw [Nat.pow_mul]
theorem onumber_spec (l : List UInt8) (hl : l.length ≤ 8) : PSpec Tryd.prog X 70 [Ls l] (Ln .u64 (le l : Nat)) := by
  refine PSpec.intro Tryd.func70 rfl (by kernel_rfl) rfl rfl ?_
  intro C
  (refine LWP.seq <| LWP.region (by kernel_rfl) <| kas rfl <| RunK.nil <| LWP.seq <| LWP.region (by kernel_rfl) <| kas rfl <| RunK.nil <| LWP.seq <| LWP.seq <| LWP.region (by kernel_rfl) <| kmv rfl <| kln rfl <| kmv rfl ?_; refine RunK.nil <| LWP.block ?_)
  refine LWP.loop (fun m σ => ∃ i : Nat, i ≤ l.length ∧ m = l.length - i ∧ σ = ⟨[(0, Ls l), (3, Ln .u64 (le (l.take i) : Nat)), (6, Ln .i64 (l.length : Nat)), (7, Ln .i64 (i : Nat))], [], X⟩) l.length
    ⟨_, Le.of (by exact ⟨rfl, rfl, rfl, rfl, trivial⟩) (by exact trivial) (by exact rfl) (by exact rfl) (by exact rfl), 0, Nat.zero_le _, rfl, rfl⟩ ?_
  rintro m σ ⟨i, hi, rfl, rfl⟩
  by_cases hlt : i < l.length
  · obtain ⟨b, hb⟩ : ∃ b, l[i]? = some b := ⟨_, List.getElem?_eq_getElem hlt⟩
    have hb' : (⟨l.toArray⟩ : ByteArray)[Int.toNat (i : Int)]? = some b := str_at hb
    have hnx := le_take hb
    have h8 : 8 * i ≤ 56 := by omega
    have w8 : IntKind.i64.wrap (8 * (i : Int)) = ((8 * i : Nat) : Int) := by rw [wrap_i64 (by omega)]; omega
    have hc := b.toNat_lt
    have hlo := le_lt (l.take i)
    rw [List.length_take, Nat.min_eq_left hi, p256] at hlo
    have hp : 2 ^ (8 * i) ≤ 2 ^ 56 := Nat.pow_le_pow_right (by decide) h8
    have hbb : b.toNat * 2 ^ (8 * i) ≤ 255 * 2 ^ 56 := Nat.mul_le_mul (by omega) hp
    have ec : ((b.toNat : Int)) * 2 ^ (8 * i) = ((b.toNat * 2 ^ (8 * i) : Nat) : Int) := by rw [Int.natCast_mul, Int.natCast_pow]; rfl
    have ep : ((2 : Int) ^ (8 * i)) = ((2 ^ (8 * i) : Nat) : Int) := by rw [Int.natCast_pow]; rfl
    have hs := shl_s (a := (b.toNat : Int)) (s := 8 * i) (c := (b.toNat : Int) * 2 ^ (8 * i)) (by omega) rfl (by rw [ec]; omega)
    have ho := or_low (x := (b.toNat : Int)) (y := (le (l.take i) : Nat)) (s := 8 * i) (c := (le (l.take (i + 1)) : Nat)) (by omega) (by rw [ec]; omega) (by rw [ep]; omega) (by rw [ec, hnx, p256]; omega)
    (refine LWP.seq <| LWP.region (by kernel_rfl) <| klt rfl rfl (decide_eq_true (by omega)) <| RunK.nil <| LWP.seq <| LWP.condT rfl ?_; refine LWP.skip ?_; refine LWP.seq <| LWP.block <| LWP.seq <| LWP.region (by kernel_rfl) <| kmv rfl <| kas rfl <| RunK.nil <| LWP.region (by kernel_rfl) <| kmv rfl <| kmv rfl <| kmv rfl <| K.indexStr rfl rfl (by omega) hb' .plain <| kcv rfl (by exact wrap_u64 (by omega)) ?_; refine kmv rfl <| K.mul rfl rfl w8 .plain <| K.shl rfl rfl (by omega) hs .plain <| K.bitop (by simp) rfl rfl ho .plain <| kas rfl <| RunK.nil <| LWP.region (by kernel_rfl) <| kad rfl rfl (wrap_i64 (by omega)) <| kmv rfl <| RunK.nil ?_)
    exact ⟨_, _, by omega, Le.of (by exact ⟨rfl, rfl, rfl, rfl, trivial⟩) (by exact trivial) (by exact rfl) (by exact rfl) (by exact rfl), i + 1, by omega, rfl, rfl⟩
  · have e : i = l.length := by omega
    subst e
    rw [List.take_length]
    (refine LWP.seq <| LWP.region (by kernel_rfl) <| klt rfl rfl (decide_eq_false (by omega)) <| RunK.nil <| LWP.seq <| LWP.condF rfl ?_; refine LWP.exit <| LWP.seq <| LWP.region (by kernel_rfl) <| kmv rfl <| kas rfl <| RunK.nil <| LWP.ret ?_)
    exact ⟨[_], ⟨rfl, trivial⟩, rfl⟩
end Go.Proofs.YtfmadklfcoebhaaDoor
end
section
namespace Go.Proofs.YtfmadklfcoebhaaDoor
open Go Go.Lg
variable (X : Nat → Option Obj)
theorem low_1 (n : Nat) (hn : n < 18446744073709551616) : PSpec Tryd.prog X 67 [Ln .i64 1, Ln .u64 (n : Nat)] (Ls (leB 1 n)) := by
  refine PSpec.intro Tryd.func67 rfl (by kernel_rfl) rfl rfl ?_
  intro C
  (refine LWP.seq <| LWP.region (by kernel_rfl) <| kas rfl <| RunK.nil <| LWP.seq <| LWP.region (by kernel_rfl) <| kmv rfl <| K.makeSlc (m := 1) (zs := List.replicate 1 (.int .u8 0)) (sz := 1) (e := 5) (bytes := 1) (zc := (lo 1 n 0).map bc) rfl rfl (by kernel_rfl) (by kernel_rfl) (by decide) rfl rfl .plain <| kas rfl <| RunK.nil <| LWP.seq <| LWP.seq <| LWP.region (by kernel_rfl) <| kmv rfl ?_; refine K.lenSlc rfl SliceT.h rfl .plain ?_; refine kmv rfl <| RunK.nil <| LWP.block ?_)
  refine LWP.loop (fun m σ => ∃ i : Nat, i ≤ 1 ∧ m = 1 - i ∧ σ = ⟨[(1, Ln .u64 (n : Nat)), (5, .sv (.one (.slc 8 0 1))), (10, Ln .i64 1), (11, Ln .i64 (i : Nat))], [(8, some ⟨5, (lo 1 n i).map bc, false⟩)], X⟩) 1
    ⟨_, Le.of (by exact ⟨rfl, rfl, rfl, rfl, trivial⟩) (by exact ⟨rfl, trivial⟩) (by exact rfl) (by exact rfl) (by repeat' (first | refine all_cons_true ?_ ?_ | rfl | exact bytes_inUse | exact vals_inUse)), 0, Nat.zero_le _, rfl, rfl⟩ ?_
  rintro m σ ⟨i, hi, rfl, rfl⟩
  by_cases hlt : i < 1
  · have w8 : IntKind.i64.wrap (8 * (i : Int)) = ((8 * i : Nat) : Int) := by rw [wrap_i64 (by omega)]; omega
    have ed : ((n : Nat) : Int) / 2 ^ (8 * i) = ((n / 256 ^ i : Nat) : Int) := by rw [p256, Int.natCast_ediv, Int.natCast_pow]; rfl
    have hs := (shr_s (a := ((n : Nat) : Int)) (s := 8 * i) (by omega)).trans ed
    have hv : IntKind.u8.wrap ((n / 256 ^ i : Nat) : Int) = ((UInt8.ofNat (n / 256 ^ i % 256)).toNat : Nat) := by
      rw [UInt8.toNat_ofNat', Nat.mod_eq_of_lt (Nat.mod_lt _ (by decide)), IntKind.wrap_u8]
      omega
    have hbl : Nat.blt (0 + i * 1) ((lo 1 n i).map bc).length = true := by rw [lo_len _ _ _ hi, Nat.blt_eq]; omega
    (refine LWP.seq <| LWP.region (by kernel_rfl) <| klt rfl rfl (decide_eq_true (by omega)) <| RunK.nil <| LWP.seq <| LWP.condT rfl ?_; refine LWP.skip ?_; refine LWP.seq <| LWP.block <| LWP.seq <| LWP.region (by kernel_rfl) <| kmv rfl <| kas rfl <| RunK.nil <| LWP.region (by kernel_rfl) <| kmv rfl <| kmv rfl <| kmv rfl <| kmv rfl <| K.mul rfl rfl w8 .plain <| K.shr rfl rfl (by omega) hs .plain ?_; refine kcv rfl hv ?_; refine K.indexSlc rfl rfl (by omega) rfl .plain ?_; refine K.storeOne rfl rfl rfl rfl hbl (lo_set hlt) .plain <| RunK.nil <| LWP.region (by kernel_rfl) <| kad rfl rfl (wrap_i64 (by omega)) <| kmv rfl <| RunK.nil ?_)
    exact ⟨_, _, by omega, Le.of (by exact ⟨rfl, rfl, rfl, rfl, trivial⟩) (by exact ⟨rfl, trivial⟩) (by exact rfl) (by exact rfl) (by repeat' (first | refine all_cons_true ?_ ?_ | rfl | exact bytes_inUse | exact vals_inUse)), i + 1, by omega, rfl, rfl⟩
  · have e : i = 1 := by omega
    subst e
    have hlen : 0 + 1 ≤ ((lo 1 n 1).map bc).length := by rw [lo_len _ _ _ (Nat.le_refl _)]; omega
    have hcut : (((lo 1 n 1).map bc).drop 0).take 1 = (leB 1 n).map bc := by
      rw [List.drop_zero, List.take_of_length_le (by rw [lo_len _ _ _ (Nat.le_refl _)]; exact Nat.le_refl _), lo_all]
    (refine LWP.seq <| LWP.region (by kernel_rfl) <| klt rfl rfl (decide_eq_false (by omega)) <| RunK.nil <| LWP.seq <| LWP.condF rfl ?_; refine LWP.exit <| LWP.seq <| LWP.region (by kernel_rfl) <| kmv rfl <| K.convStr rfl rfl (by kernel_rfl) StrT.u hlen hcut .plain <| kas rfl <| RunK.nil <| LWP.ret ?_)
    exact ⟨[_], ⟨rfl, trivial⟩, rfl⟩
theorem low_2 (n : Nat) (hn : n < 18446744073709551616) : PSpec Tryd.prog X 67 [Ln .i64 2, Ln .u64 (n : Nat)] (Ls (leB 2 n)) := by
  refine PSpec.intro Tryd.func67 rfl (by kernel_rfl) rfl rfl ?_
  intro C
  (refine LWP.seq <| LWP.region (by kernel_rfl) <| kas rfl <| RunK.nil <| LWP.seq <| LWP.region (by kernel_rfl) <| kmv rfl <| K.makeSlc (m := 2) (zs := List.replicate 2 (.int .u8 0)) (sz := 1) (e := 5) (bytes := 1) (zc := (lo 2 n 0).map bc) rfl rfl (by kernel_rfl) (by kernel_rfl) (by decide) rfl rfl .plain <| kas rfl <| RunK.nil <| LWP.seq <| LWP.seq <| LWP.region (by kernel_rfl) <| kmv rfl ?_; refine K.lenSlc rfl SliceT.h rfl .plain ?_; refine kmv rfl <| RunK.nil <| LWP.block ?_)
  refine LWP.loop (fun m σ => ∃ i : Nat, i ≤ 2 ∧ m = 2 - i ∧ σ = ⟨[(1, Ln .u64 (n : Nat)), (5, .sv (.one (.slc 8 0 2))), (10, Ln .i64 2), (11, Ln .i64 (i : Nat))], [(8, some ⟨5, (lo 2 n i).map bc, false⟩)], X⟩) 2
    ⟨_, Le.of (by exact ⟨rfl, rfl, rfl, rfl, trivial⟩) (by exact ⟨rfl, trivial⟩) (by exact rfl) (by exact rfl) (by repeat' (first | refine all_cons_true ?_ ?_ | rfl | exact bytes_inUse | exact vals_inUse)), 0, Nat.zero_le _, rfl, rfl⟩ ?_
  rintro m σ ⟨i, hi, rfl, rfl⟩
  by_cases hlt : i < 2
  · have w8 : IntKind.i64.wrap (8 * (i : Int)) = ((8 * i : Nat) : Int) := by rw [wrap_i64 (by omega)]; omega
    have ed : ((n : Nat) : Int) / 2 ^ (8 * i) = ((n / 256 ^ i : Nat) : Int) := by rw [p256, Int.natCast_ediv, Int.natCast_pow]; rfl
    have hs := (shr_s (a := ((n : Nat) : Int)) (s := 8 * i) (by omega)).trans ed
    have hv : IntKind.u8.wrap ((n / 256 ^ i : Nat) : Int) = ((UInt8.ofNat (n / 256 ^ i % 256)).toNat : Nat) := by
      rw [UInt8.toNat_ofNat', Nat.mod_eq_of_lt (Nat.mod_lt _ (by decide)), IntKind.wrap_u8]
      omega
    have hbl : Nat.blt (0 + i * 1) ((lo 2 n i).map bc).length = true := by rw [lo_len _ _ _ hi, Nat.blt_eq]; omega
    (refine LWP.seq <| LWP.region (by kernel_rfl) <| klt rfl rfl (decide_eq_true (by omega)) <| RunK.nil <| LWP.seq <| LWP.condT rfl ?_; refine LWP.skip ?_; refine LWP.seq <| LWP.block <| LWP.seq <| LWP.region (by kernel_rfl) <| kmv rfl <| kas rfl <| RunK.nil <| LWP.region (by kernel_rfl) <| kmv rfl <| kmv rfl <| kmv rfl <| kmv rfl <| K.mul rfl rfl w8 .plain <| K.shr rfl rfl (by omega) hs .plain ?_; refine kcv rfl hv ?_; refine K.indexSlc rfl rfl (by omega) rfl .plain ?_; refine K.storeOne rfl rfl rfl rfl hbl (lo_set hlt) .plain <| RunK.nil <| LWP.region (by kernel_rfl) <| kad rfl rfl (wrap_i64 (by omega)) <| kmv rfl <| RunK.nil ?_)
    exact ⟨_, _, by omega, Le.of (by exact ⟨rfl, rfl, rfl, rfl, trivial⟩) (by exact ⟨rfl, trivial⟩) (by exact rfl) (by exact rfl) (by repeat' (first | refine all_cons_true ?_ ?_ | rfl | exact bytes_inUse | exact vals_inUse)), i + 1, by omega, rfl, rfl⟩
  · have e : i = 2 := by omega
    subst e
    have hlen : 0 + 2 ≤ ((lo 2 n 2).map bc).length := by rw [lo_len _ _ _ (Nat.le_refl _)]; omega
    have hcut : (((lo 2 n 2).map bc).drop 0).take 2 = (leB 2 n).map bc := by
      rw [List.drop_zero, List.take_of_length_le (by rw [lo_len _ _ _ (Nat.le_refl _)]; exact Nat.le_refl _), lo_all]
    (refine LWP.seq <| LWP.region (by kernel_rfl) <| klt rfl rfl (decide_eq_false (by omega)) <| RunK.nil <| LWP.seq <| LWP.condF rfl ?_; refine LWP.exit <| LWP.seq <| LWP.region (by kernel_rfl) <| kmv rfl <| K.convStr rfl rfl (by kernel_rfl) StrT.u hlen hcut .plain <| kas rfl <| RunK.nil <| LWP.ret ?_)
    exact ⟨[_], ⟨rfl, trivial⟩, rfl⟩
theorem low_4 (n : Nat) (hn : n < 18446744073709551616) : PSpec Tryd.prog X 67 [Ln .i64 4, Ln .u64 (n : Nat)] (Ls (leB 4 n)) := by
  refine PSpec.intro Tryd.func67 rfl (by kernel_rfl) rfl rfl ?_
  intro C
  (refine LWP.seq <| LWP.region (by kernel_rfl) <| kas rfl <| RunK.nil <| LWP.seq <| LWP.region (by kernel_rfl) <| kmv rfl <| K.makeSlc (m := 4) (zs := List.replicate 4 (.int .u8 0)) (sz := 1) (e := 5) (bytes := 1) (zc := (lo 4 n 0).map bc) rfl rfl (by kernel_rfl) (by kernel_rfl) (by decide) rfl rfl .plain <| kas rfl <| RunK.nil <| LWP.seq <| LWP.seq <| LWP.region (by kernel_rfl) <| kmv rfl ?_; refine K.lenSlc rfl SliceT.h rfl .plain ?_; refine kmv rfl <| RunK.nil <| LWP.block ?_)
  refine LWP.loop (fun m σ => ∃ i : Nat, i ≤ 4 ∧ m = 4 - i ∧ σ = ⟨[(1, Ln .u64 (n : Nat)), (5, .sv (.one (.slc 8 0 4))), (10, Ln .i64 4), (11, Ln .i64 (i : Nat))], [(8, some ⟨5, (lo 4 n i).map bc, false⟩)], X⟩) 4
    ⟨_, Le.of (by exact ⟨rfl, rfl, rfl, rfl, trivial⟩) (by exact ⟨rfl, trivial⟩) (by exact rfl) (by exact rfl) (by repeat' (first | refine all_cons_true ?_ ?_ | rfl | exact bytes_inUse | exact vals_inUse)), 0, Nat.zero_le _, rfl, rfl⟩ ?_
  rintro m σ ⟨i, hi, rfl, rfl⟩
  by_cases hlt : i < 4
  · have w8 : IntKind.i64.wrap (8 * (i : Int)) = ((8 * i : Nat) : Int) := by rw [wrap_i64 (by omega)]; omega
    have ed : ((n : Nat) : Int) / 2 ^ (8 * i) = ((n / 256 ^ i : Nat) : Int) := by rw [p256, Int.natCast_ediv, Int.natCast_pow]; rfl
    have hs := (shr_s (a := ((n : Nat) : Int)) (s := 8 * i) (by omega)).trans ed
    have hv : IntKind.u8.wrap ((n / 256 ^ i : Nat) : Int) = ((UInt8.ofNat (n / 256 ^ i % 256)).toNat : Nat) := by
      rw [UInt8.toNat_ofNat', Nat.mod_eq_of_lt (Nat.mod_lt _ (by decide)), IntKind.wrap_u8]
      omega
    have hbl : Nat.blt (0 + i * 1) ((lo 4 n i).map bc).length = true := by rw [lo_len _ _ _ hi, Nat.blt_eq]; omega
    (refine LWP.seq <| LWP.region (by kernel_rfl) <| klt rfl rfl (decide_eq_true (by omega)) <| RunK.nil <| LWP.seq <| LWP.condT rfl ?_; refine LWP.skip ?_; refine LWP.seq <| LWP.block <| LWP.seq <| LWP.region (by kernel_rfl) <| kmv rfl <| kas rfl <| RunK.nil <| LWP.region (by kernel_rfl) <| kmv rfl <| kmv rfl <| kmv rfl <| kmv rfl <| K.mul rfl rfl w8 .plain <| K.shr rfl rfl (by omega) hs .plain ?_; refine kcv rfl hv ?_; refine K.indexSlc rfl rfl (by omega) rfl .plain ?_; refine K.storeOne rfl rfl rfl rfl hbl (lo_set hlt) .plain <| RunK.nil <| LWP.region (by kernel_rfl) <| kad rfl rfl (wrap_i64 (by omega)) <| kmv rfl <| RunK.nil ?_)
    exact ⟨_, _, by omega, Le.of (by exact ⟨rfl, rfl, rfl, rfl, trivial⟩) (by exact ⟨rfl, trivial⟩) (by exact rfl) (by exact rfl) (by repeat' (first | refine all_cons_true ?_ ?_ | rfl | exact bytes_inUse | exact vals_inUse)), i + 1, by omega, rfl, rfl⟩
  · have e : i = 4 := by omega
    subst e
    have hlen : 0 + 4 ≤ ((lo 4 n 4).map bc).length := by rw [lo_len _ _ _ (Nat.le_refl _)]; omega
    have hcut : (((lo 4 n 4).map bc).drop 0).take 4 = (leB 4 n).map bc := by
      rw [List.drop_zero, List.take_of_length_le (by rw [lo_len _ _ _ (Nat.le_refl _)]; exact Nat.le_refl _), lo_all]
    (refine LWP.seq <| LWP.region (by kernel_rfl) <| klt rfl rfl (decide_eq_false (by omega)) <| RunK.nil <| LWP.seq <| LWP.condF rfl ?_; refine LWP.exit <| LWP.seq <| LWP.region (by kernel_rfl) <| kmv rfl <| K.convStr rfl rfl (by kernel_rfl) StrT.u hlen hcut .plain <| kas rfl <| RunK.nil <| LWP.ret ?_)
    exact ⟨[_], ⟨rfl, trivial⟩, rfl⟩
theorem low_8 (n : Nat) (hn : n < 18446744073709551616) : PSpec Tryd.prog X 67 [Ln .i64 8, Ln .u64 (n : Nat)] (Ls (leB 8 n)) := by
  refine PSpec.intro Tryd.func67 rfl (by kernel_rfl) rfl rfl ?_
  intro C
  (refine LWP.seq <| LWP.region (by kernel_rfl) <| kas rfl <| RunK.nil <| LWP.seq <| LWP.region (by kernel_rfl) <| kmv rfl <| K.makeSlc (m := 8) (zs := List.replicate 8 (.int .u8 0)) (sz := 1) (e := 5) (bytes := 1) (zc := (lo 8 n 0).map bc) rfl rfl (by kernel_rfl) (by kernel_rfl) (by decide) rfl rfl .plain <| kas rfl <| RunK.nil <| LWP.seq <| LWP.seq <| LWP.region (by kernel_rfl) <| kmv rfl ?_; refine K.lenSlc rfl SliceT.h rfl .plain ?_; refine kmv rfl <| RunK.nil <| LWP.block ?_)
  refine LWP.loop (fun m σ => ∃ i : Nat, i ≤ 8 ∧ m = 8 - i ∧ σ = ⟨[(1, Ln .u64 (n : Nat)), (5, .sv (.one (.slc 8 0 8))), (10, Ln .i64 8), (11, Ln .i64 (i : Nat))], [(8, some ⟨5, (lo 8 n i).map bc, false⟩)], X⟩) 8
    ⟨_, Le.of (by exact ⟨rfl, rfl, rfl, rfl, trivial⟩) (by exact ⟨rfl, trivial⟩) (by exact rfl) (by exact rfl) (by repeat' (first | refine all_cons_true ?_ ?_ | rfl | exact bytes_inUse | exact vals_inUse)), 0, Nat.zero_le _, rfl, rfl⟩ ?_
  rintro m σ ⟨i, hi, rfl, rfl⟩
  by_cases hlt : i < 8
  · have w8 : IntKind.i64.wrap (8 * (i : Int)) = ((8 * i : Nat) : Int) := by rw [wrap_i64 (by omega)]; omega
    have ed : ((n : Nat) : Int) / 2 ^ (8 * i) = ((n / 256 ^ i : Nat) : Int) := by rw [p256, Int.natCast_ediv, Int.natCast_pow]; rfl
    have hs := (shr_s (a := ((n : Nat) : Int)) (s := 8 * i) (by omega)).trans ed
    have hv : IntKind.u8.wrap ((n / 256 ^ i : Nat) : Int) = ((UInt8.ofNat (n / 256 ^ i % 256)).toNat : Nat) := by
      rw [UInt8.toNat_ofNat', Nat.mod_eq_of_lt (Nat.mod_lt _ (by decide)), IntKind.wrap_u8]
      omega
    have hbl : Nat.blt (0 + i * 1) ((lo 8 n i).map bc).length = true := by rw [lo_len _ _ _ hi, Nat.blt_eq]; omega
    (refine LWP.seq <| LWP.region (by kernel_rfl) <| klt rfl rfl (decide_eq_true (by omega)) <| RunK.nil <| LWP.seq <| LWP.condT rfl ?_; refine LWP.skip ?_; refine LWP.seq <| LWP.block <| LWP.seq <| LWP.region (by kernel_rfl) <| kmv rfl <| kas rfl <| RunK.nil <| LWP.region (by kernel_rfl) <| kmv rfl <| kmv rfl <| kmv rfl <| kmv rfl <| K.mul rfl rfl w8 .plain <| K.shr rfl rfl (by omega) hs .plain ?_; refine kcv rfl hv ?_; refine K.indexSlc rfl rfl (by omega) rfl .plain ?_; refine K.storeOne rfl rfl rfl rfl hbl (lo_set hlt) .plain <| RunK.nil <| LWP.region (by kernel_rfl) <| kad rfl rfl (wrap_i64 (by omega)) <| kmv rfl <| RunK.nil ?_)
    exact ⟨_, _, by omega, Le.of (by exact ⟨rfl, rfl, rfl, rfl, trivial⟩) (by exact ⟨rfl, trivial⟩) (by exact rfl) (by exact rfl) (by repeat' (first | refine all_cons_true ?_ ?_ | rfl | exact bytes_inUse | exact vals_inUse)), i + 1, by omega, rfl, rfl⟩
  · have e : i = 8 := by omega
    subst e
    have hlen : 0 + 8 ≤ ((lo 8 n 8).map bc).length := by rw [lo_len _ _ _ (Nat.le_refl _)]; omega
    have hcut : (((lo 8 n 8).map bc).drop 0).take 8 = (leB 8 n).map bc := by
      rw [List.drop_zero, List.take_of_length_le (by rw [lo_len _ _ _ (Nat.le_refl _)]; exact Nat.le_refl _), lo_all]
    (refine LWP.seq <| LWP.region (by kernel_rfl) <| klt rfl rfl (decide_eq_false (by omega)) <| RunK.nil <| LWP.seq <| LWP.condF rfl ?_; refine LWP.exit <| LWP.seq <| LWP.region (by kernel_rfl) <| kmv rfl <| K.convStr rfl rfl (by kernel_rfl) StrT.u hlen hcut .plain <| kas rfl <| RunK.nil <| LWP.ret ?_)
    exact ⟨[_], ⟨rfl, trivial⟩, rfl⟩
end Go.Proofs.YtfmadklfcoebhaaDoor
end
section
namespace Go.Proofs.YtfmadklfcoebhaaDoor
open Go Go.Lg
variable (X : Nat → Option Obj)
/-- a Writer that has written nothing; one that has written l -/
abbrev w0 (k : Nat) : List (Nat × Option Box) := [(k, some ⟨96, [.val (.pointer none), .val (.int .i64 0)], false⟩)]
abbrev w1 (k ks kb : Nat) (l : List UInt8) : List (Nat × Option Box) :=
  [(k, some ⟨96, [.ptr ks 0, .val (.int .i64 (l.length : Nat))], false⟩), (ks, some ⟨121, [.slc kb 0 l.length], false⟩), (kb, some ⟨5, l.map bc, true⟩)]
theorem String_nil : PSpec Tryd.prog X 51 [L0] (Ls []) := by
  refine PSpec.intro Tryd.func51 rfl (by kernel_rfl) rfl rfl ?_
  intro C
  (refine LWP.seq <| LWP.region (by kernel_rfl) <| kas rfl <| RunK.nil <| LWP.seq <| LWP.seq <| LWP.region (by kernel_rfl) <| kmv rfl <| K.nilNil rfl (by kernel_rfl) (.inl ⟨rfl, rfl⟩) .plain <| kmv rfl <| RunK.passed rfl rfl rfl <| RunK.passed rfl rfl rfl <| RunK.passed rfl rfl rfl <| RunK.passed rfl rfl rfl ?_; refine RunK.passed rfl rfl rfl <| kpt rfl rfl <| RunK.nil <| LWP.condT rfl ?_; refine LWP.seq <| LWP.region (by kernel_rfl) <| kas rfl <| RunK.nil <| LWP.ret ?_)
  exact ⟨[_], ⟨rfl, trivial⟩, rfl⟩
theorem String_0 : MSpec Tryd.prog X 51 [Lp 1000000] (w0 1000000) (Ls []) (w0 1000000) := by
  refine MSpec.intro Tryd.func51 rfl (by kernel_rfl) rfl rfl rfl rfl rfl ?_
  intro C
  (refine LWP.seq <| LWP.region (by kernel_rfl) <| kas rfl <| RunK.nil <| LWP.seq <| LWP.seq <| LWP.region (by kernel_rfl) <| kmv rfl <| K.ptrNil rfl (by kernel_rfl) (.inl ⟨rfl, rfl⟩) .plain <| kmv rfl <| gmv rfl rfl rfl <| K.nilCheck rfl (.taken rfl rfl) ?_; refine K.fieldAddr rfl rfl (.taken rfl rfl) ?_; refine K.loadOne rfl rfl rfl (.taken rfl rfl) ?_; refine K.nilNil rfl (by kernel_rfl) (.inl ⟨rfl, rfl⟩) (.taken rfl rfl) ?_; refine kpf rfl rfl <| RunK.nil <| LWP.condT rfl ?_; refine LWP.seq <| LWP.region (by kernel_rfl) <| kas rfl <| RunK.nil <| LWP.ret ?_)
  exact ⟨[], ⟨[_], ⟨rfl, trivial⟩, rfl⟩, ⟨⟨_, rfl, rfl⟩, trivial⟩, rfl, rfl⟩
theorem String_1 (l : List UInt8) : MSpec Tryd.prog X 51 [Lp 1000000] (w1 1000000 1000001 1000002 l) (Ls l) (w1 1000000 1000001 1000002 l) := by
  refine MSpec.intro Tryd.func51 rfl (by kernel_rfl) rfl rfl (by repeat' (first | refine all_cons_true ?_ ?_ | rfl | exact bytes_inUse | exact vals_inUse)) rfl rfl ?_
  intro C
  have hlen : 0 + l.length ≤ (l.map bc).length := by rw [List.length_map]; omega
  have hcut : ((l.map bc).drop 0).take l.length = l.map bc := by rw [List.drop_zero, List.take_of_length_le (by rw [List.length_map]; exact Nat.le_refl _)]
  (refine LWP.seq <| LWP.region (by kernel_rfl) <| kas rfl <| RunK.nil <| LWP.seq <| LWP.seq <| LWP.region (by kernel_rfl) <| kmv rfl <| K.ptrNil rfl (by kernel_rfl) (.inl ⟨rfl, rfl⟩) .plain <| kmv rfl <| gmv rfl rfl rfl <| K.nilCheck rfl (.taken rfl rfl) ?_; refine K.fieldAddr rfl rfl (.taken rfl rfl) ?_; refine K.loadOne rfl rfl rfl (.taken rfl rfl) ?_; refine K.ptrNil rfl (by kernel_rfl) (.inl ⟨rfl, rfl⟩) (.taken rfl rfl) ?_; refine kpf rfl rfl <| RunK.nil <| LWP.condF rfl ?_; refine LWP.skip ?_; refine LWP.seq <| LWP.draws mixed (by kernel_rfl) <| kmv rfl <| K.nilCheck rfl .plain <| kfa rfl rfl ?_; refine kl1 rfl rfl rfl <| K.nilCheck rfl .plain <| kfa rfl rfl ?_; refine kl1 rfl rfl rfl <| kmv rfl <| K.nilCheck rfl .plain <| kfa rfl rfl ?_; refine kl1 rfl rfl rfl <| K.cutSlc rfl rfl SliceT.h (Nat.le_refl _) .plain <| K.convStr rfl rfl (by kernel_rfl) StrT.u hlen hcut .plain <| kas rfl <| RunK.nil <| And.intro (by kernel_rfl) ?_; refine LWP.ret ?_)
  exact ⟨[], ⟨[_], ⟨rfl, trivial⟩, rfl⟩, (by repeat' (first | exact trivial | refine And.intro ⟨_, rfl, ?_⟩ ?_ | refine And.intro ⟨_, rfl⟩ ?_ | rfl | exact Box.ren_bytes _ _ _ _ | exact Box.ren_vals _ _ _ _)), rfl, rfl⟩
theorem WRaw_nil (s : List UInt8) : PSpec Tryd.prog X 66 [L0, Ls s] (Lb false) := by
  refine PSpec.intro Tryd.func66 rfl (by kernel_rfl) rfl rfl ?_
  intro C
  (refine LWP.seq <| LWP.region (by kernel_rfl) <| kas rfl <| RunK.nil <| LWP.seq <| LWP.seq <| LWP.region (by kernel_rfl) <| kmv rfl <| K.nilNil rfl (by kernel_rfl) (.inl ⟨rfl, rfl⟩) .plain <| RunK.nil <| LWP.condT rfl ?_; refine LWP.seq <| LWP.region (by kernel_rfl) <| kas rfl <| RunK.nil <| LWP.ret ?_)
  exact ⟨[_], ⟨rfl, trivial⟩, rfl⟩
theorem WRaw_0 (s : List UInt8) (hs : s.length < 1000000000) : MSpec Tryd.prog X 66 [Lp 1000000, Ls s] (w0 1000000) (Lb true) (w1 1000000 1000001 1000002 s) := by
  refine MSpec.intro Tryd.func66 rfl (by kernel_rfl) rfl rfl (by repeat' (first | refine all_cons_true ?_ ?_ | rfl | exact bytes_inUse | exact vals_inUse)) rfl rfl ?_
  intro C
  (refine LWP.seq <| LWP.region (by kernel_rfl) <| kas rfl <| RunK.nil <| LWP.seq <| LWP.seq <| LWP.region (by kernel_rfl) <| kmv rfl <| K.ptrNil rfl (by kernel_rfl) (.inl ⟨rfl, rfl⟩) .plain <| RunK.nil <| LWP.condF rfl ?_; refine LWP.skip ?_; refine LWP.seq <| LWP.seq <| LWP.draws mixed (by kernel_rfl) <| kmv rfl <| K.nilCheck rfl .plain <| kfa rfl rfl ?_; refine kl1 rfl rfl rfl <| K.nilNil rfl (by kernel_rfl) (.inl ⟨rfl, rfl⟩) .plain <| kmv rfl <| RunK.passed rfl rfl rfl <| RunK.passed rfl rfl rfl <| RunK.passed rfl rfl rfl <| RunK.passed rfl rfl rfl <| RunK.passed rfl rfl rfl <| RunK.passed rfl rfl rfl <| RunK.passed rfl rfl rfl <| RunK.passed rfl rfl rfl <| RunK.passed rfl rfl rfl <| RunK.passed rfl rfl rfl <| RunK.passed rfl rfl rfl ?_; refine RunK.passed rfl rfl rfl <| RunK.passed rfl rfl rfl <| kpt rfl rfl <| RunK.nil <| And.intro (by kernel_rfl) ?_; refine LWP.condT rfl ?_; refine LWP.region (by kernel_rfl) <| kmv rfl <| kmv rfl <| K.callM [] (w0 1000000) (String_0 X) rfl rfl (by exact (And.intro ⟨_, rfl, rfl⟩ trivial)) (by exact (all_cons_true (all_cons_true rfl (all_cons_true rfl rfl)) rfl)) rfl rfl rfl rfl (by exact (.box rfl rfl .nil)) .plain <| K.strBytes (e := 5) rfl StrT.u (by kernel_rfl) (by kernel_rfl) rfl .plain <| K.build rfl rfl (by exact rfl) (by exact nl1 rfl rfl) .plain ?_; refine K.box rfl rfl rfl .plain <| K.nilCheck rfl .plain <| kfa rfl rfl ?_; refine K.storeOne rfl rfl rfl rfl rfl (nl2 rfl rfl rfl) .plain <| RunK.nil <| LWP.seq <| LWP.draws mixed (by kernel_rfl) <| kmv rfl <| K.nilCheck rfl .plain <| kfa rfl rfl ?_; refine kl1 rfl rfl rfl <| kmv rfl <| K.nilCheck rfl .plain <| kfa rfl rfl ?_; refine kl1 rfl rfl rfl <| K.nilCheck rfl .plain <| kfa rfl rfl ?_; refine kl1 rfl rfl rfl <| kmv rfl <| K.appendStr (by_ := 1) rfl rfl rfl rfl (by kernel_rfl) StrT.u (by simp only [List.length_nil]; omega) (by simp only [List.length_nil]; omega) rfl (Nat.zero_add _) (List.nil_append _) .plain <| K.nilCheck rfl .plain <| kfa rfl rfl ?_; refine K.storeOne rfl rfl rfl rfl rfl (nl1 rfl rfl) .plain <| RunK.nil <| And.intro (by kernel_rfl) ?_; refine LWP.seq <| LWP.region (by kernel_rfl) <| kmv rfl <| kmv rfl <| K.nilCheck rfl .plain <| kfa rfl rfl ?_; refine kl1 rfl rfl rfl <| K.nilCheck rfl .plain <| kfa rfl rfl ?_; refine kl1 rfl rfl rfl <| K.lenSlc rfl SliceT.h rfl .plain ?_; refine K.nilCheck rfl .plain <| kfa rfl rfl ?_; refine K.storeOne rfl rfl rfl rfl rfl (nl2 rfl rfl rfl) .plain <| RunK.nil <| LWP.seq <| LWP.region (by kernel_rfl) <| kas rfl <| RunK.nil <| LWP.ret ?_)
  exact ⟨[(1000001, 32), (1000002, 47)], ⟨[_], ⟨rfl, trivial⟩, rfl⟩, (by repeat' (first | exact trivial | refine And.intro ⟨_, rfl, ?_⟩ ?_ | refine And.intro ⟨_, rfl⟩ ?_ | rfl | exact Box.ren_bytes _ _ _ _ | exact Box.ren_vals _ _ _ _)), rfl, rfl⟩
theorem WRaw_1 (l s : List UInt8) (hs : l.length + s.length < 1000000000) : MSpec Tryd.prog X 66 [Lp 1000000, Ls s] (w1 1000000 1000001 1000002 l) (Lb true) (w1 1000000 1000001 1000003 (l ++ s) ++ [(1000002, none)]) := by
  refine MSpec.intro Tryd.func66 rfl (by kernel_rfl) rfl rfl (by repeat' (first | refine all_cons_true ?_ ?_ | rfl | exact bytes_inUse | exact vals_inUse)) rfl rfl ?_
  intro C
  ((refine LWP.seq <| LWP.region (by kernel_rfl) <| kas rfl <| RunK.nil <| LWP.seq <| LWP.seq <| LWP.region (by kernel_rfl) <| kmv rfl <| K.ptrNil rfl (by kernel_rfl) (.inl ⟨rfl, rfl⟩) .plain <| RunK.nil <| LWP.condF rfl ?_; refine LWP.skip ?_; refine LWP.seq <| LWP.seq <| LWP.draws mixed (by kernel_rfl) <| kmv rfl <| K.nilCheck rfl .plain <| kfa rfl rfl ?_; refine kl1 rfl rfl rfl <| K.ptrNil rfl (by kernel_rfl) (.inl ⟨rfl, rfl⟩) .plain <| kmv rfl <| gmv rfl rfl rfl <| K.nilCheck rfl (.taken rfl rfl) ?_; refine K.fieldAddr rfl rfl (.taken rfl rfl) ?_; refine K.loadOne rfl rfl rfl (.taken rfl rfl) ?_; refine gmv rfl rfl rfl <| K.nilCheck rfl (.taken rfl rfl) ?_; refine K.fieldAddr rfl rfl (.taken rfl rfl) ?_; refine K.loadOne rfl rfl rfl (.taken rfl rfl) ?_; refine K.nilCheck rfl (.taken rfl rfl) ?_; refine K.fieldAddr rfl rfl (.taken rfl rfl) ?_; refine K.loadOne rfl rfl rfl (.taken rfl rfl) ?_); (refine K.lenSlc rfl SliceT.h rfl (.taken rfl rfl) ?_; refine K.neq rfl rfl ((bne_eq_false_iff_eq.2 (by omega))) (.taken rfl rfl) ?_; refine kpf rfl rfl <| RunK.nil <| And.intro (by kernel_rfl) ?_; refine LWP.condF rfl ?_; refine LWP.skip ?_; refine LWP.seq <| LWP.draws mixed (by kernel_rfl) <| kmv rfl <| K.nilCheck rfl .plain <| kfa rfl rfl ?_; refine kl1 rfl rfl rfl <| kmv rfl <| K.nilCheck rfl .plain <| kfa rfl rfl ?_; refine kl1 rfl rfl rfl <| K.nilCheck rfl .plain <| kfa rfl rfl ?_; refine kl1 rfl rfl rfl <| kmv rfl <| K.appendStr (by_ := 1) rfl rfl (List.length_map _) rfl (by kernel_rfl) StrT.u (by omega) (by omega) rfl (List.length_append).symm (List.map_append).symm .plain <| K.nilCheck rfl .plain <| kfa rfl rfl ?_; refine K.storeOne rfl rfl rfl rfl rfl (nl1 rfl rfl) .plain <| RunK.nil <| And.intro (by kernel_rfl) ?_; refine LWP.seq <| LWP.region (by kernel_rfl) <| kmv rfl <| kmv rfl <| K.nilCheck rfl .plain <| kfa rfl rfl ?_; refine kl1 rfl rfl rfl <| K.nilCheck rfl .plain <| kfa rfl rfl ?_); (refine kl1 rfl rfl rfl <| K.lenSlc rfl SliceT.h rfl .plain ?_; refine K.nilCheck rfl .plain <| kfa rfl rfl ?_; refine K.storeOne rfl rfl rfl rfl rfl (nl2 rfl rfl rfl) .plain <| RunK.nil <| LWP.seq <| LWP.region (by kernel_rfl) <| kas rfl <| RunK.nil <| LWP.ret ?_))
  exact ⟨[(1000003, 47)], ⟨[_], ⟨rfl, trivial⟩, rfl⟩, (by repeat' (first | exact trivial | refine And.intro ⟨_, rfl, ?_⟩ ?_ | refine And.intro ⟨_, rfl⟩ ?_ | rfl | exact Box.ren_bytes _ _ _ _ | exact Box.ren_vals _ _ _ _)), rfl, rfl⟩
end Go.Proofs.YtfmadklfcoebhaaDoor
end
section
namespace Go.Proofs.YtfmadklfcoebhaaDoor
open Go Go.Lg
variable (X : Nat → Option Obj)
theorem isW_w {n : Int} (h : isW n = true) : n = 1 ∨ n = 2 ∨ n = 4 ∨ n = 8 := by
  unfold isW at h
  simpa only [Bool.or_eq_true, decide_eq_true_eq] using h
/-- a number of so many bytes -/
def fitW (w : Int) (n : Nat) : Bool := isW w && decide (n < 256 ^ w.toNat)
theorem shr_1 (n : Nat) : ((n : Nat) : Int).fdiv (2 ^ (min (((8 * 1 : Nat) : Int)).toNat IntKind.u64.bits)) = ((n / 256 ^ 1 : Nat) : Int) := by
  have ed : ((n : Nat) : Int) / 2 ^ (8 * 1) = ((n / 256 ^ 1 : Nat) : Int) := by rw [p256, Int.natCast_ediv, Int.natCast_pow]; rfl
  exact (shr_s (a := ((n : Nat) : Int)) (s := 8 * 1) (by omega)).trans ed
theorem WNum_0_1 (n : Nat) (hn : n < 18446744073709551616) (h : n < 256 ^ 1) : MSpec Tryd.prog X 49 [Lp 1000000, Ln .i64 1, Ln .u64 (n : Nat)] (w0 1000000) (Lb true) (w1 1000000 1000001 1000002 (leB 1 n)) := by
  refine MSpec.intro Tryd.func49 rfl (by kernel_rfl) rfl rfl (by repeat' (first | refine all_cons_true ?_ ?_ | rfl | exact bytes_inUse | exact vals_inUse)) rfl rfl ?_
  intro C
  have hz : ((n / 256 ^ 1 : Nat) : Int) = 0 := by rw [Nat.div_eq_of_lt h]; rfl
  have hs := (shr_1 n).trans hz
  (refine LWP.seq <| LWP.region (by kernel_rfl) <| kas rfl <| RunK.nil <| LWP.seq <| LWP.seq <| LWP.region (by kernel_rfl) <| kmv rfl <| kca rfl rfl (isWidth_spec X _ true rfl) <| K.not rfl rfl .plain <| kmv rfl <| gmv rfl rfl rfl <| gmv rfl rfl rfl <| K.mul rfl rfl (c := ((8 * 1 : Nat) : Int)) rfl (.taken rfl rfl) ?_; refine K.shr rfl rfl (by decide) hs (.taken rfl rfl) ?_; refine K.neq rfl rfl ((bne_eq_false_iff_eq.2 (by omega))) (.taken rfl rfl) ?_; refine kpf rfl rfl <| RunK.nil <| LWP.condF rfl ?_; refine LWP.skip ?_; refine LWP.seq <| LWP.region (by kernel_rfl) <| kmv rfl <| kmv rfl <| kmv rfl <| kca rfl rfl (low_1 X n hn) <| K.callM [(1000001, 501), (1000002, 502)] (w1 1000000 501 502 (leB 1 n)) (WRaw_0 X _ (by rw [leB_length]; decide)) rfl rfl (by exact (And.intro ⟨_, rfl, rfl⟩ trivial)) (by exact (all_cons_true (all_cons_true rfl (all_cons_true rfl rfl)) rfl)) rfl rfl rfl rfl (by exact (.box rfl rfl (.box rfl rfl (.box rfl rfl .nil)))) .plain <| kas rfl <| RunK.nil <| LWP.ret ?_)
  exact ⟨[(1000001, 501), (1000002, 502)], ⟨[_], ⟨rfl, trivial⟩, rfl⟩, (by repeat' (first | exact trivial | refine And.intro ⟨_, rfl, ?_⟩ ?_ | refine And.intro ⟨_, rfl⟩ ?_ | rfl | exact Box.ren_bytes _ _ _ _ | exact Box.ren_vals _ _ _ _)), rfl, rfl⟩
theorem WNum_1_1 (l : List UInt8) (n : Nat) (hn : n < 18446744073709551616) (h : n < 256 ^ 1) (hl : l.length < 900000000) : MSpec Tryd.prog X 49 [Lp 1000000, Ln .i64 1, Ln .u64 (n : Nat)] (w1 1000000 1000001 1000002 l) (Lb true) (w1 1000000 1000001 1000003 (l ++ leB 1 n) ++ [(1000002, none)]) := by
  refine MSpec.intro Tryd.func49 rfl (by kernel_rfl) rfl rfl (by repeat' (first | refine all_cons_true ?_ ?_ | rfl | exact bytes_inUse | exact vals_inUse)) rfl rfl ?_
  intro C
  have hz : ((n / 256 ^ 1 : Nat) : Int) = 0 := by rw [Nat.div_eq_of_lt h]; rfl
  have hs := (shr_1 n).trans hz
  (refine LWP.seq <| LWP.region (by kernel_rfl) <| kas rfl <| RunK.nil <| LWP.seq <| LWP.seq <| LWP.region (by kernel_rfl) <| kmv rfl <| kca rfl rfl (isWidth_spec X _ true rfl) <| K.not rfl rfl .plain <| kmv rfl <| gmv rfl rfl rfl <| gmv rfl rfl rfl <| K.mul rfl rfl (c := ((8 * 1 : Nat) : Int)) rfl (.taken rfl rfl) ?_; refine K.shr rfl rfl (by decide) hs (.taken rfl rfl) ?_; refine K.neq rfl rfl ((bne_eq_false_iff_eq.2 (by omega))) (.taken rfl rfl) ?_; refine kpf rfl rfl <| RunK.nil <| LWP.condF rfl ?_; refine LWP.skip ?_; refine LWP.seq <| LWP.region (by kernel_rfl) <| kmv rfl <| kmv rfl <| kmv rfl <| kca rfl rfl (low_1 X n hn) <| K.callM [(1000003, 503)] (w1 1000000 1000001 503 (l ++ leB 1 n) ++ [(1000002, none)]) (WRaw_1 X l _ (by rw [leB_length]; omega)) rfl rfl (by exact (And.intro ⟨_, rfl, rfl⟩ (And.intro ⟨_, rfl, rfl⟩ (And.intro ⟨_, rfl, (Box.ren_bytes _ _ _ _)⟩ trivial)))) (by exact (all_cons_true (all_cons_true rfl (all_cons_true rfl rfl)) (all_cons_true (all_cons_true rfl rfl) (all_cons_true bytes_inUse rfl)))) rfl rfl rfl rfl (by exact (.box rfl rfl (.box rfl rfl (.box rfl (Box.ren_bytes _ _ _ _) (.dead rfl .nil))))) .plain <| kas rfl <| RunK.nil <| LWP.ret ?_)
  exact ⟨[(1000003, 503)], ⟨[_], ⟨rfl, trivial⟩, rfl⟩, (by repeat' (first | exact trivial | refine And.intro ⟨_, rfl, ?_⟩ ?_ | refine And.intro ⟨_, rfl⟩ ?_ | rfl | exact Box.ren_bytes _ _ _ _ | exact Box.ren_vals _ _ _ _)), rfl, rfl⟩
theorem shr_2 (n : Nat) : ((n : Nat) : Int).fdiv (2 ^ (min (((8 * 2 : Nat) : Int)).toNat IntKind.u64.bits)) = ((n / 256 ^ 2 : Nat) : Int) := by
  have ed : ((n : Nat) : Int) / 2 ^ (8 * 2) = ((n / 256 ^ 2 : Nat) : Int) := by rw [p256, Int.natCast_ediv, Int.natCast_pow]; rfl
  exact (shr_s (a := ((n : Nat) : Int)) (s := 8 * 2) (by omega)).trans ed
theorem WNum_0_2 (n : Nat) (hn : n < 18446744073709551616) (h : n < 256 ^ 2) : MSpec Tryd.prog X 49 [Lp 1000000, Ln .i64 2, Ln .u64 (n : Nat)] (w0 1000000) (Lb true) (w1 1000000 1000001 1000002 (leB 2 n)) := by
  refine MSpec.intro Tryd.func49 rfl (by kernel_rfl) rfl rfl (by repeat' (first | refine all_cons_true ?_ ?_ | rfl | exact bytes_inUse | exact vals_inUse)) rfl rfl ?_
  intro C
  have hz : ((n / 256 ^ 2 : Nat) : Int) = 0 := by rw [Nat.div_eq_of_lt h]; rfl
  have hs := (shr_2 n).trans hz
  (refine LWP.seq <| LWP.region (by kernel_rfl) <| kas rfl <| RunK.nil <| LWP.seq <| LWP.seq <| LWP.region (by kernel_rfl) <| kmv rfl <| kca rfl rfl (isWidth_spec X _ true rfl) <| K.not rfl rfl .plain <| kmv rfl <| gmv rfl rfl rfl <| gmv rfl rfl rfl <| K.mul rfl rfl (c := ((8 * 2 : Nat) : Int)) rfl (.taken rfl rfl) ?_; refine K.shr rfl rfl (by decide) hs (.taken rfl rfl) ?_; refine K.neq rfl rfl ((bne_eq_false_iff_eq.2 (by omega))) (.taken rfl rfl) ?_; refine kpf rfl rfl <| RunK.nil <| LWP.condF rfl ?_; refine LWP.skip ?_; refine LWP.seq <| LWP.region (by kernel_rfl) <| kmv rfl <| kmv rfl <| kmv rfl <| kca rfl rfl (low_2 X n hn) <| K.callM [(1000001, 501), (1000002, 502)] (w1 1000000 501 502 (leB 2 n)) (WRaw_0 X _ (by rw [leB_length]; decide)) rfl rfl (by exact (And.intro ⟨_, rfl, rfl⟩ trivial)) (by exact (all_cons_true (all_cons_true rfl (all_cons_true rfl rfl)) rfl)) rfl rfl rfl rfl (by exact (.box rfl rfl (.box rfl rfl (.box rfl rfl .nil)))) .plain <| kas rfl <| RunK.nil <| LWP.ret ?_)
  exact ⟨[(1000001, 501), (1000002, 502)], ⟨[_], ⟨rfl, trivial⟩, rfl⟩, (by repeat' (first | exact trivial | refine And.intro ⟨_, rfl, ?_⟩ ?_ | refine And.intro ⟨_, rfl⟩ ?_ | rfl | exact Box.ren_bytes _ _ _ _ | exact Box.ren_vals _ _ _ _)), rfl, rfl⟩
theorem WNum_1_2 (l : List UInt8) (n : Nat) (hn : n < 18446744073709551616) (h : n < 256 ^ 2) (hl : l.length < 900000000) : MSpec Tryd.prog X 49 [Lp 1000000, Ln .i64 2, Ln .u64 (n : Nat)] (w1 1000000 1000001 1000002 l) (Lb true) (w1 1000000 1000001 1000003 (l ++ leB 2 n) ++ [(1000002, none)]) := by
  refine MSpec.intro Tryd.func49 rfl (by kernel_rfl) rfl rfl (by repeat' (first | refine all_cons_true ?_ ?_ | rfl | exact bytes_inUse | exact vals_inUse)) rfl rfl ?_
  intro C
  have hz : ((n / 256 ^ 2 : Nat) : Int) = 0 := by rw [Nat.div_eq_of_lt h]; rfl
  have hs := (shr_2 n).trans hz
  (refine LWP.seq <| LWP.region (by kernel_rfl) <| kas rfl <| RunK.nil <| LWP.seq <| LWP.seq <| LWP.region (by kernel_rfl) <| kmv rfl <| kca rfl rfl (isWidth_spec X _ true rfl) <| K.not rfl rfl .plain <| kmv rfl <| gmv rfl rfl rfl <| gmv rfl rfl rfl <| K.mul rfl rfl (c := ((8 * 2 : Nat) : Int)) rfl (.taken rfl rfl) ?_; refine K.shr rfl rfl (by decide) hs (.taken rfl rfl) ?_; refine K.neq rfl rfl ((bne_eq_false_iff_eq.2 (by omega))) (.taken rfl rfl) ?_; refine kpf rfl rfl <| RunK.nil <| LWP.condF rfl ?_; refine LWP.skip ?_; refine LWP.seq <| LWP.region (by kernel_rfl) <| kmv rfl <| kmv rfl <| kmv rfl <| kca rfl rfl (low_2 X n hn) <| K.callM [(1000003, 503)] (w1 1000000 1000001 503 (l ++ leB 2 n) ++ [(1000002, none)]) (WRaw_1 X l _ (by rw [leB_length]; omega)) rfl rfl (by exact (And.intro ⟨_, rfl, rfl⟩ (And.intro ⟨_, rfl, rfl⟩ (And.intro ⟨_, rfl, (Box.ren_bytes _ _ _ _)⟩ trivial)))) (by exact (all_cons_true (all_cons_true rfl (all_cons_true rfl rfl)) (all_cons_true (all_cons_true rfl rfl) (all_cons_true bytes_inUse rfl)))) rfl rfl rfl rfl (by exact (.box rfl rfl (.box rfl rfl (.box rfl (Box.ren_bytes _ _ _ _) (.dead rfl .nil))))) .plain <| kas rfl <| RunK.nil <| LWP.ret ?_)
  exact ⟨[(1000003, 503)], ⟨[_], ⟨rfl, trivial⟩, rfl⟩, (by repeat' (first | exact trivial | refine And.intro ⟨_, rfl, ?_⟩ ?_ | refine And.intro ⟨_, rfl⟩ ?_ | rfl | exact Box.ren_bytes _ _ _ _ | exact Box.ren_vals _ _ _ _)), rfl, rfl⟩
theorem shr_4 (n : Nat) : ((n : Nat) : Int).fdiv (2 ^ (min (((8 * 4 : Nat) : Int)).toNat IntKind.u64.bits)) = ((n / 256 ^ 4 : Nat) : Int) := by
  have ed : ((n : Nat) : Int) / 2 ^ (8 * 4) = ((n / 256 ^ 4 : Nat) : Int) := by rw [p256, Int.natCast_ediv, Int.natCast_pow]; rfl
  exact (shr_s (a := ((n : Nat) : Int)) (s := 8 * 4) (by omega)).trans ed
theorem WNum_0_4 (n : Nat) (hn : n < 18446744073709551616) (h : n < 256 ^ 4) : MSpec Tryd.prog X 49 [Lp 1000000, Ln .i64 4, Ln .u64 (n : Nat)] (w0 1000000) (Lb true) (w1 1000000 1000001 1000002 (leB 4 n)) := by
  refine MSpec.intro Tryd.func49 rfl (by kernel_rfl) rfl rfl (by repeat' (first | refine all_cons_true ?_ ?_ | rfl | exact bytes_inUse | exact vals_inUse)) rfl rfl ?_
  intro C
  have hz : ((n / 256 ^ 4 : Nat) : Int) = 0 := by rw [Nat.div_eq_of_lt h]; rfl
  have hs := (shr_4 n).trans hz
  (refine LWP.seq <| LWP.region (by kernel_rfl) <| kas rfl <| RunK.nil <| LWP.seq <| LWP.seq <| LWP.region (by kernel_rfl) <| kmv rfl <| kca rfl rfl (isWidth_spec X _ true rfl) <| K.not rfl rfl .plain <| kmv rfl <| gmv rfl rfl rfl <| gmv rfl rfl rfl <| K.mul rfl rfl (c := ((8 * 4 : Nat) : Int)) rfl (.taken rfl rfl) ?_; refine K.shr rfl rfl (by decide) hs (.taken rfl rfl) ?_; refine K.neq rfl rfl ((bne_eq_false_iff_eq.2 (by omega))) (.taken rfl rfl) ?_; refine kpf rfl rfl <| RunK.nil <| LWP.condF rfl ?_; refine LWP.skip ?_; refine LWP.seq <| LWP.region (by kernel_rfl) <| kmv rfl <| kmv rfl <| kmv rfl <| kca rfl rfl (low_4 X n hn) <| K.callM [(1000001, 501), (1000002, 502)] (w1 1000000 501 502 (leB 4 n)) (WRaw_0 X _ (by rw [leB_length]; decide)) rfl rfl (by exact (And.intro ⟨_, rfl, rfl⟩ trivial)) (by exact (all_cons_true (all_cons_true rfl (all_cons_true rfl rfl)) rfl)) rfl rfl rfl rfl (by exact (.box rfl rfl (.box rfl rfl (.box rfl rfl .nil)))) .plain <| kas rfl <| RunK.nil <| LWP.ret ?_)
  exact ⟨[(1000001, 501), (1000002, 502)], ⟨[_], ⟨rfl, trivial⟩, rfl⟩, (by repeat' (first | exact trivial | refine And.intro ⟨_, rfl, ?_⟩ ?_ | refine And.intro ⟨_, rfl⟩ ?_ | rfl | exact Box.ren_bytes _ _ _ _ | exact Box.ren_vals _ _ _ _)), rfl, rfl⟩
theorem WNum_1_4 (l : List UInt8) (n : Nat) (hn : n < 18446744073709551616) (h : n < 256 ^ 4) (hl : l.length < 900000000) : MSpec Tryd.prog X 49 [Lp 1000000, Ln .i64 4, Ln .u64 (n : Nat)] (w1 1000000 1000001 1000002 l) (Lb true) (w1 1000000 1000001 1000003 (l ++ leB 4 n) ++ [(1000002, none)]) := by
  refine MSpec.intro Tryd.func49 rfl (by kernel_rfl) rfl rfl (by repeat' (first | refine all_cons_true ?_ ?_ | rfl | exact bytes_inUse | exact vals_inUse)) rfl rfl ?_
  intro C
  have hz : ((n / 256 ^ 4 : Nat) : Int) = 0 := by rw [Nat.div_eq_of_lt h]; rfl
  have hs := (shr_4 n).trans hz
  (refine LWP.seq <| LWP.region (by kernel_rfl) <| kas rfl <| RunK.nil <| LWP.seq <| LWP.seq <| LWP.region (by kernel_rfl) <| kmv rfl <| kca rfl rfl (isWidth_spec X _ true rfl) <| K.not rfl rfl .plain <| kmv rfl <| gmv rfl rfl rfl <| gmv rfl rfl rfl <| K.mul rfl rfl (c := ((8 * 4 : Nat) : Int)) rfl (.taken rfl rfl) ?_; refine K.shr rfl rfl (by decide) hs (.taken rfl rfl) ?_; refine K.neq rfl rfl ((bne_eq_false_iff_eq.2 (by omega))) (.taken rfl rfl) ?_; refine kpf rfl rfl <| RunK.nil <| LWP.condF rfl ?_; refine LWP.skip ?_; refine LWP.seq <| LWP.region (by kernel_rfl) <| kmv rfl <| kmv rfl <| kmv rfl <| kca rfl rfl (low_4 X n hn) <| K.callM [(1000003, 503)] (w1 1000000 1000001 503 (l ++ leB 4 n) ++ [(1000002, none)]) (WRaw_1 X l _ (by rw [leB_length]; omega)) rfl rfl (by exact (And.intro ⟨_, rfl, rfl⟩ (And.intro ⟨_, rfl, rfl⟩ (And.intro ⟨_, rfl, (Box.ren_bytes _ _ _ _)⟩ trivial)))) (by exact (all_cons_true (all_cons_true rfl (all_cons_true rfl rfl)) (all_cons_true (all_cons_true rfl rfl) (all_cons_true bytes_inUse rfl)))) rfl rfl rfl rfl (by exact (.box rfl rfl (.box rfl rfl (.box rfl (Box.ren_bytes _ _ _ _) (.dead rfl .nil))))) .plain <| kas rfl <| RunK.nil <| LWP.ret ?_)
  exact ⟨[(1000003, 503)], ⟨[_], ⟨rfl, trivial⟩, rfl⟩, (by repeat' (first | exact trivial | refine And.intro ⟨_, rfl, ?_⟩ ?_ | refine And.intro ⟨_, rfl⟩ ?_ | rfl | exact Box.ren_bytes _ _ _ _ | exact Box.ren_vals _ _ _ _)), rfl, rfl⟩
theorem shr_8 (n : Nat) : ((n : Nat) : Int).fdiv (2 ^ (min (((8 * 8 : Nat) : Int)).toNat IntKind.u64.bits)) = ((n / 256 ^ 8 : Nat) : Int) := by
  have ed : ((n : Nat) : Int) / 2 ^ (8 * 8) = ((n / 256 ^ 8 : Nat) : Int) := by rw [p256, Int.natCast_ediv, Int.natCast_pow]; rfl
  exact (shr_s (a := ((n : Nat) : Int)) (s := 8 * 8) (by omega)).trans ed
theorem WNum_0_8 (n : Nat) (hn : n < 18446744073709551616) (h : n < 256 ^ 8) : MSpec Tryd.prog X 49 [Lp 1000000, Ln .i64 8, Ln .u64 (n : Nat)] (w0 1000000) (Lb true) (w1 1000000 1000001 1000002 (leB 8 n)) := by
  refine MSpec.intro Tryd.func49 rfl (by kernel_rfl) rfl rfl (by repeat' (first | refine all_cons_true ?_ ?_ | rfl | exact bytes_inUse | exact vals_inUse)) rfl rfl ?_
  intro C
  have hz : ((n / 256 ^ 8 : Nat) : Int) = 0 := by rw [Nat.div_eq_of_lt h]; rfl
  have hs := (shr_8 n).trans hz
  (refine LWP.seq <| LWP.region (by kernel_rfl) <| kas rfl <| RunK.nil <| LWP.seq <| LWP.seq <| LWP.region (by kernel_rfl) <| kmv rfl <| kca rfl rfl (isWidth_spec X _ true rfl) <| K.not rfl rfl .plain <| kmv rfl <| gmv rfl rfl rfl <| gmv rfl rfl rfl <| K.mul rfl rfl (c := ((8 * 8 : Nat) : Int)) rfl (.taken rfl rfl) ?_; refine K.shr rfl rfl (by decide) hs (.taken rfl rfl) ?_; refine K.neq rfl rfl ((bne_eq_false_iff_eq.2 (by omega))) (.taken rfl rfl) ?_; refine kpf rfl rfl <| RunK.nil <| LWP.condF rfl ?_; refine LWP.skip ?_; refine LWP.seq <| LWP.region (by kernel_rfl) <| kmv rfl <| kmv rfl <| kmv rfl <| kca rfl rfl (low_8 X n hn) <| K.callM [(1000001, 501), (1000002, 502)] (w1 1000000 501 502 (leB 8 n)) (WRaw_0 X _ (by rw [leB_length]; decide)) rfl rfl (by exact (And.intro ⟨_, rfl, rfl⟩ trivial)) (by exact (all_cons_true (all_cons_true rfl (all_cons_true rfl rfl)) rfl)) rfl rfl rfl rfl (by exact (.box rfl rfl (.box rfl rfl (.box rfl rfl .nil)))) .plain <| kas rfl <| RunK.nil <| LWP.ret ?_)
  exact ⟨[(1000001, 501), (1000002, 502)], ⟨[_], ⟨rfl, trivial⟩, rfl⟩, (by repeat' (first | exact trivial | refine And.intro ⟨_, rfl, ?_⟩ ?_ | refine And.intro ⟨_, rfl⟩ ?_ | rfl | exact Box.ren_bytes _ _ _ _ | exact Box.ren_vals _ _ _ _)), rfl, rfl⟩
theorem WNum_1_8 (l : List UInt8) (n : Nat) (hn : n < 18446744073709551616) (h : n < 256 ^ 8) (hl : l.length < 900000000) : MSpec Tryd.prog X 49 [Lp 1000000, Ln .i64 8, Ln .u64 (n : Nat)] (w1 1000000 1000001 1000002 l) (Lb true) (w1 1000000 1000001 1000003 (l ++ leB 8 n) ++ [(1000002, none)]) := by
  refine MSpec.intro Tryd.func49 rfl (by kernel_rfl) rfl rfl (by repeat' (first | refine all_cons_true ?_ ?_ | rfl | exact bytes_inUse | exact vals_inUse)) rfl rfl ?_
  intro C
  have hz : ((n / 256 ^ 8 : Nat) : Int) = 0 := by rw [Nat.div_eq_of_lt h]; rfl
  have hs := (shr_8 n).trans hz
  (refine LWP.seq <| LWP.region (by kernel_rfl) <| kas rfl <| RunK.nil <| LWP.seq <| LWP.seq <| LWP.region (by kernel_rfl) <| kmv rfl <| kca rfl rfl (isWidth_spec X _ true rfl) <| K.not rfl rfl .plain <| kmv rfl <| gmv rfl rfl rfl <| gmv rfl rfl rfl <| K.mul rfl rfl (c := ((8 * 8 : Nat) : Int)) rfl (.taken rfl rfl) ?_; refine K.shr rfl rfl (by decide) hs (.taken rfl rfl) ?_; refine K.neq rfl rfl ((bne_eq_false_iff_eq.2 (by omega))) (.taken rfl rfl) ?_; refine kpf rfl rfl <| RunK.nil <| LWP.condF rfl ?_; refine LWP.skip ?_; refine LWP.seq <| LWP.region (by kernel_rfl) <| kmv rfl <| kmv rfl <| kmv rfl <| kca rfl rfl (low_8 X n hn) <| K.callM [(1000003, 503)] (w1 1000000 1000001 503 (l ++ leB 8 n) ++ [(1000002, none)]) (WRaw_1 X l _ (by rw [leB_length]; omega)) rfl rfl (by exact (And.intro ⟨_, rfl, rfl⟩ (And.intro ⟨_, rfl, rfl⟩ (And.intro ⟨_, rfl, (Box.ren_bytes _ _ _ _)⟩ trivial)))) (by exact (all_cons_true (all_cons_true rfl (all_cons_true rfl rfl)) (all_cons_true (all_cons_true rfl rfl) (all_cons_true bytes_inUse rfl)))) rfl rfl rfl rfl (by exact (.box rfl rfl (.box rfl rfl (.box rfl (Box.ren_bytes _ _ _ _) (.dead rfl .nil))))) .plain <| kas rfl <| RunK.nil <| LWP.ret ?_)
  exact ⟨[(1000003, 503)], ⟨[_], ⟨rfl, trivial⟩, rfl⟩, (by repeat' (first | exact trivial | refine And.intro ⟨_, rfl, ?_⟩ ?_ | refine And.intro ⟨_, rfl⟩ ?_ | rfl | exact Box.ren_bytes _ _ _ _ | exact Box.ren_vals _ _ _ _)), rfl, rfl⟩
theorem numNo {w : Int} {n : Nat} (h : fitW w n = false) : isW w = false ∨ ∃ m : Nat, (m = 1 ∨ m = 2 ∨ m = 4 ∨ m = 8) ∧ w = (m : Nat) ∧ 256 ^ m ≤ n := by
  cases hw : isW w with
  | false => exact .inl rfl
  | true =>
    right
    unfold fitW at h
    rw [hw] at h
    have h2 : ¬ n < 256 ^ w.toNat := by simpa using h
    refine ⟨w.toNat, ?_, ?_, by omega⟩
    · rcases isW_w hw with rfl | rfl | rfl | rfl <;> simp
    · rcases isW_w hw with rfl | rfl | rfl | rfl <;> simp
theorem WNumNo_0 (l : List UInt8) (w : Int) (n : Nat) (h : fitW w n = false) : MSpec Tryd.prog X 49 [Lp 1000000, Ln .i64 w, Ln .u64 (n : Nat)] (if 0 = 0 then w0 1000000 else w1 1000000 1000001 1000002 l) (Lb false) (if 0 = 0 then w0 1000000 else w1 1000000 1000001 1000002 l) := by
  refine MSpec.intro Tryd.func49 rfl (by kernel_rfl) rfl rfl (by repeat' (first | refine all_cons_true ?_ ?_ | rfl | exact bytes_inUse | exact vals_inUse)) rfl rfl ?_
  intro C
  rcases numNo h with hw | ⟨m, hm, rfl, hge⟩
  · (refine LWP.seq <| LWP.region (by kernel_rfl) <| kas rfl <| RunK.nil <| LWP.seq <| LWP.seq <| LWP.region (by kernel_rfl) <| kmv rfl <| kca rfl rfl (isWidth_spec X _ false hw) <| K.not rfl rfl .plain <| kmv rfl <| RunK.passed rfl rfl rfl <| RunK.passed rfl rfl rfl <| RunK.passed rfl rfl rfl ?_; refine RunK.passed rfl rfl rfl <| RunK.passed rfl rfl rfl <| kpt rfl rfl <| RunK.nil <| LWP.condT rfl ?_; refine LWP.seq <| LWP.region (by kernel_rfl) <| kas rfl <| RunK.nil <| LWP.ret ?_)
    exact ⟨[], ⟨[_], ⟨rfl, trivial⟩, rfl⟩, (by repeat' (first | exact trivial | refine And.intro ⟨_, rfl, ?_⟩ ?_ | refine And.intro ⟨_, rfl⟩ ?_ | rfl | exact Box.ren_bytes _ _ _ _ | exact Box.ren_vals _ _ _ _)), rfl, rfl⟩
  · rcases hm with rfl | rfl | rfl | rfl
    · have hz : ((n / 256 ^ 1 : Nat) : Int) ≠ 0 := by
        have := Nat.div_pos hge (by decide); omega
      (refine LWP.seq <| LWP.region (by kernel_rfl) <| kas rfl <| RunK.nil <| LWP.seq <| LWP.seq <| LWP.region (by kernel_rfl) <| kmv rfl <| kca rfl rfl (isWidth_spec X _ true rfl) <| K.not rfl rfl .plain <| kmv rfl <| gmv rfl rfl rfl <| gmv rfl rfl rfl <| K.mul rfl rfl (c := ((8 * 1 : Nat) : Int)) rfl (.taken rfl rfl) ?_; refine K.shr rfl rfl (by decide) (shr_1 n) (.taken rfl rfl) ?_; refine K.neq rfl rfl (bne_iff_ne.2 (by omega)) (.taken rfl rfl) ?_; refine kpf rfl rfl <| RunK.nil <| LWP.condT rfl ?_; refine LWP.seq <| LWP.region (by kernel_rfl) <| kas rfl <| RunK.nil <| LWP.ret ?_)
      exact ⟨[], ⟨[_], ⟨rfl, trivial⟩, rfl⟩, (by repeat' (first | exact trivial | refine And.intro ⟨_, rfl, ?_⟩ ?_ | refine And.intro ⟨_, rfl⟩ ?_ | rfl | exact Box.ren_bytes _ _ _ _ | exact Box.ren_vals _ _ _ _)), rfl, rfl⟩
    · have hz : ((n / 256 ^ 2 : Nat) : Int) ≠ 0 := by
        have := Nat.div_pos hge (by decide); omega
      (refine LWP.seq <| LWP.region (by kernel_rfl) <| kas rfl <| RunK.nil <| LWP.seq <| LWP.seq <| LWP.region (by kernel_rfl) <| kmv rfl <| kca rfl rfl (isWidth_spec X _ true rfl) <| K.not rfl rfl .plain <| kmv rfl <| gmv rfl rfl rfl <| gmv rfl rfl rfl <| K.mul rfl rfl (c := ((8 * 2 : Nat) : Int)) rfl (.taken rfl rfl) ?_; refine K.shr rfl rfl (by decide) (shr_2 n) (.taken rfl rfl) ?_; refine K.neq rfl rfl (bne_iff_ne.2 (by omega)) (.taken rfl rfl) ?_; refine kpf rfl rfl <| RunK.nil <| LWP.condT rfl ?_; refine LWP.seq <| LWP.region (by kernel_rfl) <| kas rfl <| RunK.nil <| LWP.ret ?_)
      exact ⟨[], ⟨[_], ⟨rfl, trivial⟩, rfl⟩, (by repeat' (first | exact trivial | refine And.intro ⟨_, rfl, ?_⟩ ?_ | refine And.intro ⟨_, rfl⟩ ?_ | rfl | exact Box.ren_bytes _ _ _ _ | exact Box.ren_vals _ _ _ _)), rfl, rfl⟩
    · have hz : ((n / 256 ^ 4 : Nat) : Int) ≠ 0 := by
        have := Nat.div_pos hge (by decide); omega
      (refine LWP.seq <| LWP.region (by kernel_rfl) <| kas rfl <| RunK.nil <| LWP.seq <| LWP.seq <| LWP.region (by kernel_rfl) <| kmv rfl <| kca rfl rfl (isWidth_spec X _ true rfl) <| K.not rfl rfl .plain <| kmv rfl <| gmv rfl rfl rfl <| gmv rfl rfl rfl <| K.mul rfl rfl (c := ((8 * 4 : Nat) : Int)) rfl (.taken rfl rfl) ?_; refine K.shr rfl rfl (by decide) (shr_4 n) (.taken rfl rfl) ?_; refine K.neq rfl rfl (bne_iff_ne.2 (by omega)) (.taken rfl rfl) ?_; refine kpf rfl rfl <| RunK.nil <| LWP.condT rfl ?_; refine LWP.seq <| LWP.region (by kernel_rfl) <| kas rfl <| RunK.nil <| LWP.ret ?_)
      exact ⟨[], ⟨[_], ⟨rfl, trivial⟩, rfl⟩, (by repeat' (first | exact trivial | refine And.intro ⟨_, rfl, ?_⟩ ?_ | refine And.intro ⟨_, rfl⟩ ?_ | rfl | exact Box.ren_bytes _ _ _ _ | exact Box.ren_vals _ _ _ _)), rfl, rfl⟩
    · have hz : ((n / 256 ^ 8 : Nat) : Int) ≠ 0 := by
        have := Nat.div_pos hge (by decide); omega
      (refine LWP.seq <| LWP.region (by kernel_rfl) <| kas rfl <| RunK.nil <| LWP.seq <| LWP.seq <| LWP.region (by kernel_rfl) <| kmv rfl <| kca rfl rfl (isWidth_spec X _ true rfl) <| K.not rfl rfl .plain <| kmv rfl <| gmv rfl rfl rfl <| gmv rfl rfl rfl <| K.mul rfl rfl (c := ((8 * 8 : Nat) : Int)) rfl (.taken rfl rfl) ?_; refine K.shr rfl rfl (by decide) (shr_8 n) (.taken rfl rfl) ?_; refine K.neq rfl rfl (bne_iff_ne.2 (by omega)) (.taken rfl rfl) ?_; refine kpf rfl rfl <| RunK.nil <| LWP.condT rfl ?_; refine LWP.seq <| LWP.region (by kernel_rfl) <| kas rfl <| RunK.nil <| LWP.ret ?_)
      exact ⟨[], ⟨[_], ⟨rfl, trivial⟩, rfl⟩, (by repeat' (first | exact trivial | refine And.intro ⟨_, rfl, ?_⟩ ?_ | refine And.intro ⟨_, rfl⟩ ?_ | rfl | exact Box.ren_bytes _ _ _ _ | exact Box.ren_vals _ _ _ _)), rfl, rfl⟩
theorem WNumNo_1 (l : List UInt8) (w : Int) (n : Nat) (h : fitW w n = false) : MSpec Tryd.prog X 49 [Lp 1000000, Ln .i64 w, Ln .u64 (n : Nat)] (if 1 = 0 then w0 1000000 else w1 1000000 1000001 1000002 l) (Lb false) (if 1 = 0 then w0 1000000 else w1 1000000 1000001 1000002 l) := by
  refine MSpec.intro Tryd.func49 rfl (by kernel_rfl) rfl rfl (by repeat' (first | refine all_cons_true ?_ ?_ | rfl | exact bytes_inUse | exact vals_inUse)) rfl rfl ?_
  intro C
  rcases numNo h with hw | ⟨m, hm, rfl, hge⟩
  · (refine LWP.seq <| LWP.region (by kernel_rfl) <| kas rfl <| RunK.nil <| LWP.seq <| LWP.seq <| LWP.region (by kernel_rfl) <| kmv rfl <| kca rfl rfl (isWidth_spec X _ false hw) <| K.not rfl rfl .plain <| kmv rfl <| RunK.passed rfl rfl rfl <| RunK.passed rfl rfl rfl <| RunK.passed rfl rfl rfl ?_; refine RunK.passed rfl rfl rfl <| RunK.passed rfl rfl rfl <| kpt rfl rfl <| RunK.nil <| LWP.condT rfl ?_; refine LWP.seq <| LWP.region (by kernel_rfl) <| kas rfl <| RunK.nil <| LWP.ret ?_)
    exact ⟨[], ⟨[_], ⟨rfl, trivial⟩, rfl⟩, (by repeat' (first | exact trivial | refine And.intro ⟨_, rfl, ?_⟩ ?_ | refine And.intro ⟨_, rfl⟩ ?_ | rfl | exact Box.ren_bytes _ _ _ _ | exact Box.ren_vals _ _ _ _)), rfl, rfl⟩
  · rcases hm with rfl | rfl | rfl | rfl
    · have hz : ((n / 256 ^ 1 : Nat) : Int) ≠ 0 := by
        have := Nat.div_pos hge (by decide); omega
      (refine LWP.seq <| LWP.region (by kernel_rfl) <| kas rfl <| RunK.nil <| LWP.seq <| LWP.seq <| LWP.region (by kernel_rfl) <| kmv rfl <| kca rfl rfl (isWidth_spec X _ true rfl) <| K.not rfl rfl .plain <| kmv rfl <| gmv rfl rfl rfl <| gmv rfl rfl rfl <| K.mul rfl rfl (c := ((8 * 1 : Nat) : Int)) rfl (.taken rfl rfl) ?_; refine K.shr rfl rfl (by decide) (shr_1 n) (.taken rfl rfl) ?_; refine K.neq rfl rfl (bne_iff_ne.2 (by omega)) (.taken rfl rfl) ?_; refine kpf rfl rfl <| RunK.nil <| LWP.condT rfl ?_; refine LWP.seq <| LWP.region (by kernel_rfl) <| kas rfl <| RunK.nil <| LWP.ret ?_)
      exact ⟨[], ⟨[_], ⟨rfl, trivial⟩, rfl⟩, (by repeat' (first | exact trivial | refine And.intro ⟨_, rfl, ?_⟩ ?_ | refine And.intro ⟨_, rfl⟩ ?_ | rfl | exact Box.ren_bytes _ _ _ _ | exact Box.ren_vals _ _ _ _)), rfl, rfl⟩
    · have hz : ((n / 256 ^ 2 : Nat) : Int) ≠ 0 := by
        have := Nat.div_pos hge (by decide); omega
      (refine LWP.seq <| LWP.region (by kernel_rfl) <| kas rfl <| RunK.nil <| LWP.seq <| LWP.seq <| LWP.region (by kernel_rfl) <| kmv rfl <| kca rfl rfl (isWidth_spec X _ true rfl) <| K.not rfl rfl .plain <| kmv rfl <| gmv rfl rfl rfl <| gmv rfl rfl rfl <| K.mul rfl rfl (c := ((8 * 2 : Nat) : Int)) rfl (.taken rfl rfl) ?_; refine K.shr rfl rfl (by decide) (shr_2 n) (.taken rfl rfl) ?_; refine K.neq rfl rfl (bne_iff_ne.2 (by omega)) (.taken rfl rfl) ?_; refine kpf rfl rfl <| RunK.nil <| LWP.condT rfl ?_; refine LWP.seq <| LWP.region (by kernel_rfl) <| kas rfl <| RunK.nil <| LWP.ret ?_)
      exact ⟨[], ⟨[_], ⟨rfl, trivial⟩, rfl⟩, (by repeat' (first | exact trivial | refine And.intro ⟨_, rfl, ?_⟩ ?_ | refine And.intro ⟨_, rfl⟩ ?_ | rfl | exact Box.ren_bytes _ _ _ _ | exact Box.ren_vals _ _ _ _)), rfl, rfl⟩
    · have hz : ((n / 256 ^ 4 : Nat) : Int) ≠ 0 := by
        have := Nat.div_pos hge (by decide); omega
      (refine LWP.seq <| LWP.region (by kernel_rfl) <| kas rfl <| RunK.nil <| LWP.seq <| LWP.seq <| LWP.region (by kernel_rfl) <| kmv rfl <| kca rfl rfl (isWidth_spec X _ true rfl) <| K.not rfl rfl .plain <| kmv rfl <| gmv rfl rfl rfl <| gmv rfl rfl rfl <| K.mul rfl rfl (c := ((8 * 4 : Nat) : Int)) rfl (.taken rfl rfl) ?_; refine K.shr rfl rfl (by decide) (shr_4 n) (.taken rfl rfl) ?_; refine K.neq rfl rfl (bne_iff_ne.2 (by omega)) (.taken rfl rfl) ?_; refine kpf rfl rfl <| RunK.nil <| LWP.condT rfl ?_; refine LWP.seq <| LWP.region (by kernel_rfl) <| kas rfl <| RunK.nil <| LWP.ret ?_)
      exact ⟨[], ⟨[_], ⟨rfl, trivial⟩, rfl⟩, (by repeat' (first | exact trivial | refine And.intro ⟨_, rfl, ?_⟩ ?_ | refine And.intro ⟨_, rfl⟩ ?_ | rfl | exact Box.ren_bytes _ _ _ _ | exact Box.ren_vals _ _ _ _)), rfl, rfl⟩
    · have hz : ((n / 256 ^ 8 : Nat) : Int) ≠ 0 := by
        have := Nat.div_pos hge (by decide); omega
      (refine LWP.seq <| LWP.region (by kernel_rfl) <| kas rfl <| RunK.nil <| LWP.seq <| LWP.seq <| LWP.region (by kernel_rfl) <| kmv rfl <| kca rfl rfl (isWidth_spec X _ true rfl) <| K.not rfl rfl .plain <| kmv rfl <| gmv rfl rfl rfl <| gmv rfl rfl rfl <| K.mul rfl rfl (c := ((8 * 8 : Nat) : Int)) rfl (.taken rfl rfl) ?_; refine K.shr rfl rfl (by decide) (shr_8 n) (.taken rfl rfl) ?_; refine K.neq rfl rfl (bne_iff_ne.2 (by omega)) (.taken rfl rfl) ?_; refine kpf rfl rfl <| RunK.nil <| LWP.condT rfl ?_; refine LWP.seq <| LWP.region (by kernel_rfl) <| kas rfl <| RunK.nil <| LWP.ret ?_)
      exact ⟨[], ⟨[_], ⟨rfl, trivial⟩, rfl⟩, (by repeat' (first | exact trivial | refine And.intro ⟨_, rfl, ?_⟩ ?_ | refine And.intro ⟨_, rfl⟩ ?_ | rfl | exact Box.ren_bytes _ _ _ _ | exact Box.ren_vals _ _ _ _)), rfl, rfl⟩
end Go.Proofs.YtfmadklfcoebhaaDoor
end
section
namespace Go.Proofs.YtfmadklfcoebhaaDoor
open Go Go.Lg
variable (X : Nat → Option Obj)
theorem rlen (l : List UInt8) : (⟨l.toArray⟩ : ByteArray).size = l.length := rfl
theorem Left_spec (l : List UInt8) (b : Bool) : MSpec Tryd.prog X 82 [Lp 1000000] (rd 1000000 l b) (Ln .i64 (if b = true then 0 else (l.length : Nat))) (rd 1000000 l b) := by
  refine MSpec.intro Tryd.func82 rfl (by kernel_rfl) rfl rfl rfl rfl rfl ?_
  intro C
  cases b with
  | false =>
    (refine LWP.seq <| LWP.region (by kernel_rfl) <| kas rfl <| RunK.nil <| LWP.seq <| LWP.seq <| LWP.region (by kernel_rfl) <| kmv rfl <| K.callM [] (rd 1000000 l false) (Bad_spec X l false) rfl rfl (by exact (And.intro ⟨_, rfl, rfl⟩ trivial)) (by exact (all_cons_true (all_cons_true rfl (all_cons_true rfl rfl)) rfl)) rfl rfl rfl rfl (by exact (.box rfl rfl .nil)) .plain <| RunK.nil <| LWP.condF rfl ?_; refine LWP.skip ?_; refine LWP.seq <| LWP.region (by kernel_rfl) <| kmv rfl <| K.nilCheck rfl .plain <| kfa rfl rfl ?_; refine kl1 rfl rfl rfl <| kln rfl <| kas rfl <| RunK.nil <| LWP.ret ?_)
    exact ⟨[], ⟨[_], ⟨rfl, trivial⟩, rfl⟩, ⟨⟨_, rfl, rfl⟩, trivial⟩, rfl, rfl⟩
  | true =>
    (refine LWP.seq <| LWP.region (by kernel_rfl) <| kas rfl <| RunK.nil <| LWP.seq <| LWP.seq <| LWP.region (by kernel_rfl) <| kmv rfl <| K.callM [] (rd 1000000 l true) (Bad_spec X l true) rfl rfl (by exact (And.intro ⟨_, rfl, rfl⟩ trivial)) (by exact (all_cons_true (all_cons_true rfl (all_cons_true rfl rfl)) rfl)) rfl rfl rfl rfl (by exact (.box rfl rfl .nil)) .plain <| RunK.nil <| LWP.condT rfl ?_; refine LWP.seq <| LWP.region (by kernel_rfl) <| kas rfl <| RunK.nil <| LWP.ret ?_)
    exact ⟨[], ⟨[_], ⟨rfl, trivial⟩, rfl⟩, ⟨⟨_, rfl, rfl⟩, trivial⟩, rfl, rfl⟩
theorem Done_spec (l : List UInt8) (b : Bool) (e : Bool) (he : (l == []) = e) : MSpec Tryd.prog X 55 [Lp 1000000] (rd 1000000 l b) (Lb (!b && e)) (rd 1000000 l b) := by
  refine MSpec.intro Tryd.func55 rfl (by kernel_rfl) rfl rfl rfl rfl rfl ?_
  intro C
  cases b with
  | false =>
    (refine LWP.seq <| LWP.region (by kernel_rfl) <| kas rfl <| RunK.nil <| LWP.seq <| LWP.region (by kernel_rfl) <| kmv rfl <| K.callM [] (rd 1000000 l false) (Bad_spec X l false) rfl rfl (by exact (And.intro ⟨_, rfl, rfl⟩ trivial)) (by exact (all_cons_true (all_cons_true rfl (all_cons_true rfl rfl)) rfl)) rfl rfl rfl rfl (by exact (.box rfl rfl .nil)) .plain <| K.not rfl rfl .plain <| kmv rfl <| gmv rfl rfl rfl <| K.nilCheck rfl (.taken rfl rfl) ?_; refine K.fieldAddr rfl rfl (.taken rfl rfl) ?_; refine K.loadOne rfl rfl rfl (.taken rfl rfl) ?_; refine K.strEq rfl rfl (strs_eq he) (.taken rfl rfl) ?_; refine kpt rfl rfl <| kas rfl <| RunK.nil <| LWP.ret ?_)
    exact ⟨[], ⟨[_], ⟨rfl, trivial⟩, rfl⟩, ⟨⟨_, rfl, rfl⟩, trivial⟩, rfl, rfl⟩
  | true =>
    (refine LWP.seq <| LWP.region (by kernel_rfl) <| kas rfl <| RunK.nil <| LWP.seq <| LWP.region (by kernel_rfl) <| kmv rfl <| K.callM [] (rd 1000000 l true) (Bad_spec X l true) rfl rfl (by exact (And.intro ⟨_, rfl, rfl⟩ trivial)) (by exact (all_cons_true (all_cons_true rfl (all_cons_true rfl rfl)) rfl)) rfl rfl rfl rfl (by exact (.box rfl rfl .nil)) .plain <| K.not rfl rfl .plain <| kmv rfl <| RunK.passed rfl rfl rfl <| RunK.passed rfl rfl rfl <| RunK.passed rfl rfl rfl <| RunK.passed rfl rfl rfl ?_; refine RunK.passed rfl rfl rfl <| kpf rfl rfl <| kas rfl <| RunK.nil <| LWP.ret ?_)
    exact ⟨[], ⟨[_], ⟨rfl, trivial⟩, rfl⟩, ⟨⟨_, rfl, rfl⟩, trivial⟩, rfl, rfl⟩
/-- the next n bytes can be read -/
def rawOk (l : List UInt8) (b : Bool) (n : Int) : Bool := !b && decide (0 ≤ n ∧ n ≤ l.length)
theorem Raw_ok (l : List UInt8) (n : Nat) (hn : n ≤ l.length) (hl : l.length < 4611686018427387904) : MSpec Tryd.prog X 71 [Lp 1000000, Ln .i64 (n : Nat)] (rd 1000000 l false) (Ls (l.take n)) (rd 1000000 (l.drop n) false) := by
  refine MSpec.intro Tryd.func71 rfl (by kernel_rfl) rfl rfl rfl rfl rfl ?_
  intro C
  have hz := rlen l
  have c1 : (⟨l.toArray⟩ : ByteArray).extract 0 n = ⟨(l.take n).toArray⟩ := by rw [str_cut, List.drop_zero, Nat.sub_zero]
  have c2 : (⟨l.toArray⟩ : ByteArray).extract n (⟨l.toArray⟩ : ByteArray).size = ⟨(l.drop n).toArray⟩ := by
    rw [str_cut, hz, List.take_of_length_le (by rw [List.length_drop]; exact Nat.le_refl _)]
  have hL := Left_spec X l false
  rw [if_neg (by simp)] at hL
  (refine LWP.seq <| LWP.region (by kernel_rfl) <| kas rfl <| RunK.nil <| LWP.seq <| LWP.seq <| LWP.region (by kernel_rfl) <| kmv rfl <| klt rfl rfl (decide_eq_false (by omega)) <| kmv rfl <| gmv rfl rfl rfl <| gmv rfl rfl rfl <| K.callM [] (rd 1000000 l false) (hL) rfl rfl (by exact (And.intro ⟨_, rfl, rfl⟩ trivial)) (by exact (all_cons_true (all_cons_true rfl (all_cons_true rfl rfl)) rfl)) rfl rfl rfl rfl (by exact (.box rfl rfl .nil)) (.taken rfl rfl) ?_; refine K.gtr rfl rfl (decide_eq_false (by omega)) (.taken rfl rfl) ?_; refine kpf rfl rfl <| RunK.nil <| LWP.condF rfl ?_; refine LWP.skip ?_; refine LWP.seq <| LWP.seq <| LWP.region (by kernel_rfl) <| kmv rfl <| K.callM [] (rd 1000000 l false) (Bad_spec X l false) rfl rfl (by exact (And.intro ⟨_, rfl, rfl⟩ trivial)) (by exact (all_cons_true (all_cons_true rfl (all_cons_true rfl rfl)) rfl)) rfl rfl rfl rfl (by exact (.box rfl rfl .nil)) .plain <| RunK.nil <| LWP.condF rfl ?_; refine LWP.skip ?_; refine LWP.seq <| LWP.region (by kernel_rfl) <| kmv rfl <| K.nilCheck rfl .plain <| kfa rfl rfl ?_; refine kl1 rfl rfl rfl <| kmv rfl <| K.sliceStr (l := 0) (h := n) (kl := .i64) (kh := .i64) rfl StrT.u rfl rfl ⟨(by omega), (by omega)⟩ c1 .plain <| kas rfl <| RunK.nil <| LWP.seq <| LWP.region (by kernel_rfl) <| kmv rfl <| kmv rfl <| K.nilCheck rfl .plain <| kfa rfl rfl ?_; refine kl1 rfl rfl rfl <| kmv rfl <| K.sliceStr (l := n) (h := (⟨l.toArray⟩ : ByteArray).size) (kl := .i64) (kh := .i64) rfl StrT.u rfl rfl ⟨(by omega), (by omega)⟩ c2 .plain <| K.nilCheck rfl .plain <| kfa rfl rfl ?_; refine K.storeOne rfl rfl rfl rfl rfl (nl2 rfl rfl rfl) .plain <| RunK.nil <| LWP.seq <| LWP.region (by kernel_rfl) <| kmv rfl <| kas rfl <| RunK.nil <| LWP.ret ?_)
  exact ⟨[], ⟨[_], ⟨rfl, trivial⟩, rfl⟩, ⟨⟨_, rfl, rfl⟩, trivial⟩, rfl, rfl⟩
theorem Raw_no (l : List UInt8) (b : Bool) (n : Int) (h : rawOk l b n = false) : MSpec Tryd.prog X 71 [Lp 1000000, Ln .i64 n] (rd 1000000 l b) (Ls []) (rd 1000000 l true) := by
  refine MSpec.intro Tryd.func71 rfl (by kernel_rfl) rfl rfl rfl rfl rfl ?_
  intro C
  have hL := Left_spec X l b
  by_cases h0 : n < 0
  · (refine LWP.seq <| LWP.region (by kernel_rfl) <| kas rfl <| RunK.nil <| LWP.seq <| LWP.seq <| LWP.region (by kernel_rfl) <| kmv rfl <| klt rfl rfl (decide_eq_true (by omega)) <| kmv rfl <| RunK.passed rfl rfl rfl <| RunK.passed rfl rfl rfl <| RunK.passed rfl rfl rfl <| RunK.passed rfl rfl rfl ?_; refine kpt rfl rfl <| RunK.nil <| LWP.condT rfl ?_; refine LWP.region (by kernel_rfl) <| kmv rfl <| K.callM [] (rd 1000000 l true) (spoil_spec X l b) rfl rfl (by exact (And.intro ⟨_, rfl, rfl⟩ trivial)) (by exact (all_cons_true (all_cons_true rfl (all_cons_true rfl rfl)) rfl)) rfl rfl rfl rfl (by exact (.box rfl rfl .nil)) .plain <| RunK.nil <| LWP.seq <| LWP.seq <| LWP.region (by kernel_rfl) <| kmv rfl <| K.callM [] (rd 1000000 l true) (Bad_spec X l true) rfl rfl (by exact (And.intro ⟨_, rfl, rfl⟩ trivial)) (by exact (all_cons_true (all_cons_true rfl (all_cons_true rfl rfl)) rfl)) rfl rfl rfl rfl (by exact (.box rfl rfl .nil)) .plain <| RunK.nil <| LWP.condT rfl ?_; refine LWP.seq <| LWP.region (by kernel_rfl) <| kas rfl <| RunK.nil <| LWP.ret ?_)
    exact ⟨[], ⟨[_], ⟨rfl, trivial⟩, rfl⟩, ⟨⟨_, rfl, rfl⟩, trivial⟩, rfl, rfl⟩
  · cases b with
    | false =>
      rw [if_neg (by simp)] at hL
      have hgt : (l.length : Int) < n := by
        have : ¬ (0 ≤ n ∧ n ≤ l.length) := by simpa [rawOk] using h
        omega
      (refine LWP.seq <| LWP.region (by kernel_rfl) <| kas rfl <| RunK.nil <| LWP.seq <| LWP.seq <| LWP.region (by kernel_rfl) <| kmv rfl <| klt rfl rfl (decide_eq_false (by omega)) <| kmv rfl <| gmv rfl rfl rfl <| gmv rfl rfl rfl <| K.callM [] (rd 1000000 l false) (hL) rfl rfl (by exact (And.intro ⟨_, rfl, rfl⟩ trivial)) (by exact (all_cons_true (all_cons_true rfl (all_cons_true rfl rfl)) rfl)) rfl rfl rfl rfl (by exact (.box rfl rfl .nil)) (.taken rfl rfl) ?_; refine K.gtr rfl rfl (decide_eq_true (by omega)) (.taken rfl rfl) ?_; refine kpf rfl rfl <| RunK.nil <| LWP.condT rfl ?_; refine LWP.region (by kernel_rfl) <| kmv rfl <| K.callM [] (rd 1000000 l true) (spoil_spec X l false) rfl rfl (by exact (And.intro ⟨_, rfl, rfl⟩ trivial)) (by exact (all_cons_true (all_cons_true rfl (all_cons_true rfl rfl)) rfl)) rfl rfl rfl rfl (by exact (.box rfl rfl .nil)) .plain <| RunK.nil <| LWP.seq <| LWP.seq <| LWP.region (by kernel_rfl) <| kmv rfl <| K.callM [] (rd 1000000 l true) (Bad_spec X l true) rfl rfl (by exact (And.intro ⟨_, rfl, rfl⟩ trivial)) (by exact (all_cons_true (all_cons_true rfl (all_cons_true rfl rfl)) rfl)) rfl rfl rfl rfl (by exact (.box rfl rfl .nil)) .plain <| RunK.nil <| LWP.condT rfl ?_; refine LWP.seq <| LWP.region (by kernel_rfl) <| kas rfl <| RunK.nil <| LWP.ret ?_)
      exact ⟨[], ⟨[_], ⟨rfl, trivial⟩, rfl⟩, ⟨⟨_, rfl, rfl⟩, trivial⟩, rfl, rfl⟩
    | true =>
      rw [if_pos rfl] at hL
      by_cases hp : 0 < n
      · (refine LWP.seq <| LWP.region (by kernel_rfl) <| kas rfl <| RunK.nil <| LWP.seq <| LWP.seq <| LWP.region (by kernel_rfl) <| kmv rfl <| klt rfl rfl (decide_eq_false (by omega)) <| kmv rfl <| gmv rfl rfl rfl <| gmv rfl rfl rfl <| K.callM [] (rd 1000000 l true) (hL) rfl rfl (by exact (And.intro ⟨_, rfl, rfl⟩ trivial)) (by exact (all_cons_true (all_cons_true rfl (all_cons_true rfl rfl)) rfl)) rfl rfl rfl rfl (by exact (.box rfl rfl .nil)) (.taken rfl rfl) ?_; refine K.gtr rfl rfl (decide_eq_true (by omega)) (.taken rfl rfl) ?_; refine kpf rfl rfl <| RunK.nil <| LWP.condT rfl ?_; refine LWP.region (by kernel_rfl) <| kmv rfl <| K.callM [] (rd 1000000 l true) (spoil_spec X l true) rfl rfl (by exact (And.intro ⟨_, rfl, rfl⟩ trivial)) (by exact (all_cons_true (all_cons_true rfl (all_cons_true rfl rfl)) rfl)) rfl rfl rfl rfl (by exact (.box rfl rfl .nil)) .plain <| RunK.nil <| LWP.seq <| LWP.seq <| LWP.region (by kernel_rfl) <| kmv rfl <| K.callM [] (rd 1000000 l true) (Bad_spec X l true) rfl rfl (by exact (And.intro ⟨_, rfl, rfl⟩ trivial)) (by exact (all_cons_true (all_cons_true rfl (all_cons_true rfl rfl)) rfl)) rfl rfl rfl rfl (by exact (.box rfl rfl .nil)) .plain <| RunK.nil <| LWP.condT rfl ?_; refine LWP.seq <| LWP.region (by kernel_rfl) <| kas rfl <| RunK.nil <| LWP.ret ?_)
        exact ⟨[], ⟨[_], ⟨rfl, trivial⟩, rfl⟩, ⟨⟨_, rfl, rfl⟩, trivial⟩, rfl, rfl⟩
      · (refine LWP.seq <| LWP.region (by kernel_rfl) <| kas rfl <| RunK.nil <| LWP.seq <| LWP.seq <| LWP.region (by kernel_rfl) <| kmv rfl <| klt rfl rfl (decide_eq_false (by omega)) <| kmv rfl <| gmv rfl rfl rfl <| gmv rfl rfl rfl <| K.callM [] (rd 1000000 l true) (hL) rfl rfl (by exact (And.intro ⟨_, rfl, rfl⟩ trivial)) (by exact (all_cons_true (all_cons_true rfl (all_cons_true rfl rfl)) rfl)) rfl rfl rfl rfl (by exact (.box rfl rfl .nil)) (.taken rfl rfl) ?_; refine K.gtr rfl rfl (decide_eq_false (by omega)) (.taken rfl rfl) ?_; refine kpf rfl rfl <| RunK.nil <| LWP.condF rfl ?_; refine LWP.skip ?_; refine LWP.seq <| LWP.seq <| LWP.region (by kernel_rfl) <| kmv rfl <| K.callM [] (rd 1000000 l true) (Bad_spec X l true) rfl rfl (by exact (And.intro ⟨_, rfl, rfl⟩ trivial)) (by exact (all_cons_true (all_cons_true rfl (all_cons_true rfl rfl)) rfl)) rfl rfl rfl rfl (by exact (.box rfl rfl .nil)) .plain <| RunK.nil <| LWP.condT rfl ?_; refine LWP.seq <| LWP.region (by kernel_rfl) <| kas rfl <| RunK.nil <| LWP.ret ?_)
        exact ⟨[], ⟨[_], ⟨rfl, trivial⟩, rfl⟩, ⟨⟨_, rfl, rfl⟩, trivial⟩, rfl, rfl⟩
end Go.Proofs.YtfmadklfcoebhaaDoor
end
section
namespace Go.Proofs.YtfmadklfcoebhaaDoor
open Go Go.Lg
variable (X : Nat → Option Obj)
theorem isW_bound {n : Int} (h : isW n = true) : 1 ≤ n ∧ n ≤ 8 := by
  unfold isW at h
  simp only [Bool.or_eq_true, decide_eq_true_eq] at h
  omega
theorem Num_ok (l : List UInt8) (w : Nat) (hw : isW (w : Int) = true) (hn : w ≤ l.length) (hl : l.length < 4611686018427387904) : MSpec Tryd.prog X 54 [Lp 1000000, Ln .i64 (w : Nat)] (rd 1000000 l false) (Ln .u64 (le (l.take w) : Nat)) (rd 1000000 (l.drop w) false) := by
  have hb := isW_bound hw
  refine MSpec.intro Tryd.func54 rfl (by kernel_rfl) rfl rfl rfl rfl rfl ?_
  intro C
  (refine LWP.seq <| LWP.region (by kernel_rfl) <| kas rfl <| RunK.nil <| LWP.seq <| LWP.seq <| LWP.region (by kernel_rfl) <| kmv rfl <| kca rfl rfl (isWidth_spec X _ true hw) <| K.not rfl rfl .plain <| RunK.nil <| LWP.condF rfl ?_; refine LWP.skip ?_; refine LWP.seq <| LWP.region (by kernel_rfl) <| kmv rfl <| kmv rfl <| K.callM [] (rd 1000000 (l.drop w) false) (Raw_ok X l w hn hl) rfl rfl (by exact (And.intro ⟨_, rfl, rfl⟩ trivial)) (by exact (all_cons_true (all_cons_true rfl (all_cons_true rfl rfl)) rfl)) rfl rfl rfl rfl (by exact (.box rfl rfl .nil)) .plain <| kca rfl rfl (onumber_spec X _ (by rw [List.length_take]; omega)) <| kas rfl <| RunK.nil <| LWP.ret ?_)
  exact ⟨[], ⟨[_], ⟨rfl, trivial⟩, rfl⟩, ⟨⟨_, rfl, rfl⟩, trivial⟩, rfl, rfl⟩
theorem Num_no (l : List UInt8) (b : Bool) (w : Int) (h : (isW w && rawOk l b w) = false) : MSpec Tryd.prog X 54 [Lp 1000000, Ln .i64 w] (rd 1000000 l b) (Ln .u64 0) (rd 1000000 l true) := by
  refine MSpec.intro Tryd.func54 rfl (by kernel_rfl) rfl rfl rfl rfl rfl ?_
  intro C
  cases hw : isW w with
  | false =>
    (refine LWP.seq <| LWP.region (by kernel_rfl) <| kas rfl <| RunK.nil <| LWP.seq <| LWP.seq <| LWP.region (by kernel_rfl) <| kmv rfl <| kca rfl rfl (isWidth_spec X _ false hw) <| K.not rfl rfl .plain <| RunK.nil <| LWP.condT rfl ?_; refine LWP.seq <| LWP.region (by kernel_rfl) <| kmv rfl <| K.callM [] (rd 1000000 l true) (spoil_spec X l b) rfl rfl (by exact (And.intro ⟨_, rfl, rfl⟩ trivial)) (by exact (all_cons_true (all_cons_true rfl (all_cons_true rfl rfl)) rfl)) rfl rfl rfl rfl (by exact (.box rfl rfl .nil)) .plain <| RunK.nil <| LWP.seq <| LWP.region (by kernel_rfl) <| kas rfl <| RunK.nil <| LWP.ret ?_)
    exact ⟨[], ⟨[_], ⟨rfl, trivial⟩, rfl⟩, ⟨⟨_, rfl, rfl⟩, trivial⟩, rfl, rfl⟩
  | true =>
    have h2 : rawOk l b w = false := by rw [hw] at h; simpa using h
    (refine LWP.seq <| LWP.region (by kernel_rfl) <| kas rfl <| RunK.nil <| LWP.seq <| LWP.seq <| LWP.region (by kernel_rfl) <| kmv rfl <| kca rfl rfl (isWidth_spec X _ true hw) <| K.not rfl rfl .plain <| RunK.nil <| LWP.condF rfl ?_; refine LWP.skip ?_; refine LWP.seq <| LWP.region (by kernel_rfl) <| kmv rfl <| kmv rfl <| K.callM [] (rd 1000000 l true) (Raw_no X l b w h2) rfl rfl (by exact (And.intro ⟨_, rfl, rfl⟩ trivial)) (by exact (all_cons_true (all_cons_true rfl (all_cons_true rfl rfl)) rfl)) rfl rfl rfl rfl (by exact (.box rfl rfl .nil)) .plain <| kca rfl rfl (onumber_spec X [] (by decide)) <| kas rfl <| RunK.nil <| LWP.ret ?_)
    exact ⟨[], ⟨[_], ⟨rfl, trivial⟩, rfl⟩, ⟨⟨_, rfl, rfl⟩, trivial⟩, rfl, rfl⟩
/-- a short text is there -/
def nameOk (l : List UInt8) (b : Bool) : Bool := !b && match l with | [] => false | c :: t => decide (c.toNat ≤ t.length)
theorem le4 (l : List UInt8) : le (l.take 4) < 4294967296 := by
  have h := le_lt (l.take 4)
  refine Nat.lt_of_lt_of_le h ?_
  exact Nat.le_trans (Nat.pow_le_pow_right (by decide) (by rw [List.length_take]; omega)) (show 256 ^ 4 ≤ 4294967296 by decide)
/-- a part of so many bytes at most is there -/
def partOk (l : List UInt8) (b : Bool) (most : Int) : Bool := !b && (decide (4 ≤ l.length) && (decide ((le (l.take 4) : Int) ≤ most) && decide (le (l.take 4) ≤ l.length - 4)))
end Go.Proofs.YtfmadklfcoebhaaDoor
end
section
namespace Go.Lg.Fld
open Go Go.Lg
/-- a kind's name, how many bytes it has, the size of its least number, its greatest number -/
def kN (k : Int) : List UInt8 := if k = 1 then [98, 111, 111, 108] else if k = 2 then [105, 56] else if k = 3 then [105, 49, 54] else if k = 4 then [105, 51, 50] else if k = 5 then [105, 54, 52] else if k = 6 then [117, 56] else if k = 7 then [117, 49, 54] else if k = 8 then [117, 51, 50] else if k = 9 then [117, 54, 52] else if k = 10 then [114, 101, 102] else []
def kW (k : Int) : Nat := if k = 1 then 1 else if k = 2 then 1 else if k = 3 then 2 else if k = 4 then 4 else if k = 5 then 8 else if k = 6 then 1 else if k = 7 then 2 else if k = 8 then 4 else if k = 9 then 8 else if k = 10 then 8 else 0
def kB (k : Int) : Int := if k = 1 then 0 else if k = 2 then 128 else if k = 3 then 32768 else if k = 4 then 2147483648 else if k = 5 then 9223372036854775808 else if k = 6 then 0 else if k = 7 then 0 else if k = 8 then 0 else if k = 9 then 0 else if k = 10 then 0 else 0
def kA (k : Int) : Int := if k = 1 then 1 else if k = 2 then 127 else if k = 3 then 32767 else if k = 4 then 2147483647 else if k = 5 then 9223372036854775807 else if k = 6 then 255 else if k = 7 then 65535 else if k = 8 then 4294967295 else if k = 9 then 18446744073709551615 else if k = 10 then 18446744073709551615 else 0
/-- a kind -/
def kK (k : Int) : Bool := decide (1 ≤ k) && decide (k ≤ 10)
theorem kcases (k : Int) : k = 1 ∨ k = 2 ∨ k = 3 ∨ k = 4 ∨ k = 5 ∨ k = 6 ∨ k = 7 ∨ k = 8 ∨ k = 9 ∨ k = 10 ∨ (k < 1 ∨ 10 < k) := by omega
theorem kin {k : Int} (h : kK k = true) : k = 1 ∨ k = 2 ∨ k = 3 ∨ k = 4 ∨ k = 5 ∨ k = 6 ∨ k = 7 ∨ k = 8 ∨ k = 9 ∨ k = 10 := by
  simp only [kK, Bool.and_eq_true, decide_eq_true_eq] at h; omega
theorem knot {k : Int} (h : kK k = false) : k < 1 ∨ 10 < k := by
  by_cases h1 : 1 ≤ k <;> by_cases h2 : k ≤ 10 <;> first | omega | (rw [kK, decide_eq_true h1, decide_eq_true h2] at h; cases h)
theorem kK_iff (k : Int) : kK k = true ↔ 1 ≤ k ∧ k ≤ 10 := by simp only [kK, Bool.and_eq_true, decide_eq_true_eq]
theorem kN_no {k : Int} (h : k < 1 ∨ 10 < k) : kN k = [] := by
  unfold kN
  rw [if_neg (show ¬ k = 1 by omega), if_neg (show ¬ k = 2 by omega), if_neg (show ¬ k = 3 by omega), if_neg (show ¬ k = 4 by omega), if_neg (show ¬ k = 5 by omega), if_neg (show ¬ k = 6 by omega), if_neg (show ¬ k = 7 by omega), if_neg (show ¬ k = 8 by omega), if_neg (show ¬ k = 9 by omega), if_neg (show ¬ k = 10 by omega)]
theorem kW_no {k : Int} (h : k < 1 ∨ 10 < k) : kW k = 0 := by
  unfold kW
  rw [if_neg (show ¬ k = 1 by omega), if_neg (show ¬ k = 2 by omega), if_neg (show ¬ k = 3 by omega), if_neg (show ¬ k = 4 by omega), if_neg (show ¬ k = 5 by omega), if_neg (show ¬ k = 6 by omega), if_neg (show ¬ k = 7 by omega), if_neg (show ¬ k = 8 by omega), if_neg (show ¬ k = 9 by omega), if_neg (show ¬ k = 10 by omega)]
theorem kB_no {k : Int} (h : k < 1 ∨ 10 < k) : kB k = 0 := by
  unfold kB
  rw [if_neg (show ¬ k = 1 by omega), if_neg (show ¬ k = 2 by omega), if_neg (show ¬ k = 3 by omega), if_neg (show ¬ k = 4 by omega), if_neg (show ¬ k = 5 by omega), if_neg (show ¬ k = 6 by omega), if_neg (show ¬ k = 7 by omega), if_neg (show ¬ k = 8 by omega), if_neg (show ¬ k = 9 by omega), if_neg (show ¬ k = 10 by omega)]
theorem kA_no {k : Int} (h : k < 1 ∨ 10 < k) : kA k = 0 := by
  unfold kA
  rw [if_neg (show ¬ k = 1 by omega), if_neg (show ¬ k = 2 by omega), if_neg (show ¬ k = 3 by omega), if_neg (show ¬ k = 4 by omega), if_neg (show ¬ k = 5 by omega), if_neg (show ¬ k = 6 by omega), if_neg (show ¬ k = 7 by omega), if_neg (show ¬ k = 8 by omega), if_neg (show ¬ k = 9 by omega), if_neg (show ¬ k = 10 by omega)]
/-- what a kind's shape keeps -/
theorem kfacts (k : Int) : 0 ≤ kB k ∧ kB k ≤ 9223372036854775808 ∧ 0 ≤ kA k ∧ kA k < 18446744073709551616 ∧ kW k ≤ 8 := by
  rcases kcases k with rfl | rfl | rfl | rfl | rfl | rfl | rfl | rfl | rfl | rfl | h
  all_goals first | (rw [kW_no h, kB_no h, kA_no h]; omega) | decide
theorem kW_in {k : Int} (h : kK k = true) : kW k = 1 ∨ kW k = 2 ∨ kW k = 4 ∨ kW k = 8 := by
  rcases kin h with rfl | rfl | rfl | rfl | rfl | rfl | rfl | rfl | rfl | rfl <;> decide
theorem kW_zero (k : Int) : kW k = 0 ↔ kK k = false := by
  cases h : kK k with
  | false => simp [kW_no (knot h)]
  | true => rcases kW_in h with e | e | e | e <;> simp [e]
end Go.Lg.Fld
namespace Go.Proofs.YtfmadklfcoebhaaDoor
open Go Go.Lg Go.Lg.Fld
set_option maxRecDepth 100000
variable (X : Nat → Option Obj)
theorem shapeOf_spec (k : Int) : PSpec Tryd.prog X 39 [Ln .i64 k] (.sv (.agg [.val (.string ⟨(kN k).toArray⟩), .val (.int .i64 (kW k : Nat)), .val (.int .u64 (kB k)), .val (.int .u64 (kA k))])) := by
  refine PSpec.intro Tryd.func39 rfl (by kernel_rfl) rfl rfl ?_
  intro C
  rcases kcases k with rfl | rfl | rfl | rfl | rfl | rfl | rfl | rfl | rfl | rfl | h
  · (refine LWP.seq <| LWP.region (by kernel_rfl) <| K.alloc rfl .plain ?_; refine RunK.nil <| LWP.seq <| LWP.seq <| LWP.region (by kernel_rfl) <| kmv rfl <| RunK.nil <| LWP.block <| LWP.seq <| LWP.region (by kernel_rfl) <| keq rfl rfl (beq_iff_eq.2 (by omega)) <| kas rfl <| RunK.nil <| LWP.condT rfl ?_; refine LWP.seq <| LWP.region (by kernel_rfl) <| K.build rfl rfl (by exact rfl) (by exact nl4 rfl rfl rfl rfl rfl) .plain ?_; refine K.storeAll rfl rfl rfl rfl rfl rfl .plain ?_; refine RunK.nil <| LWP.ret ?_)
    exact ⟨[_], ⟨⟨_, _, rfl, rfl, rfl, .inl ⟨AggT.h, rfl⟩⟩, trivial⟩, rfl⟩
  · (refine LWP.seq <| LWP.region (by kernel_rfl) <| K.alloc rfl .plain ?_; refine RunK.nil <| LWP.seq <| LWP.seq <| LWP.region (by kernel_rfl) <| kmv rfl <| RunK.nil <| LWP.block <| LWP.seq <| LWP.region (by kernel_rfl) <| keq rfl rfl (beq_eq_false_iff_ne.2 (by omega)) <| kas rfl <| RunK.nil <| LWP.condF rfl ?_; refine LWP.seq <| LWP.region (by kernel_rfl) <| keq rfl rfl (beq_iff_eq.2 (by omega)) <| kas rfl <| RunK.nil <| LWP.condT rfl ?_; refine LWP.seq <| LWP.region (by kernel_rfl) <| K.build rfl rfl (by exact rfl) (by exact nl4 rfl rfl rfl rfl rfl) .plain ?_; refine K.storeAll rfl rfl rfl rfl rfl rfl .plain ?_; refine RunK.nil <| LWP.ret ?_)
    exact ⟨[_], ⟨⟨_, _, rfl, rfl, rfl, .inl ⟨AggT.h, rfl⟩⟩, trivial⟩, rfl⟩
  · (refine LWP.seq <| LWP.region (by kernel_rfl) <| K.alloc rfl .plain ?_; refine RunK.nil <| LWP.seq <| LWP.seq <| LWP.region (by kernel_rfl) <| kmv rfl <| RunK.nil <| LWP.block <| LWP.seq <| LWP.region (by kernel_rfl) <| keq rfl rfl (beq_eq_false_iff_ne.2 (by omega)) <| kas rfl <| RunK.nil <| LWP.condF rfl ?_; refine LWP.seq <| LWP.region (by kernel_rfl) <| keq rfl rfl (beq_eq_false_iff_ne.2 (by omega)) <| kas rfl <| RunK.nil <| LWP.condF rfl ?_; refine LWP.seq <| LWP.region (by kernel_rfl) <| keq rfl rfl (beq_iff_eq.2 (by omega)) <| kas rfl <| RunK.nil <| LWP.condT rfl ?_; refine LWP.seq <| LWP.region (by kernel_rfl) <| K.build rfl rfl (by exact rfl) (by exact nl4 rfl rfl rfl rfl rfl) .plain ?_; refine K.storeAll rfl rfl rfl rfl rfl rfl .plain ?_; refine RunK.nil <| LWP.ret ?_)
    exact ⟨[_], ⟨⟨_, _, rfl, rfl, rfl, .inl ⟨AggT.h, rfl⟩⟩, trivial⟩, rfl⟩
  · (refine LWP.seq <| LWP.region (by kernel_rfl) <| K.alloc rfl .plain ?_; refine RunK.nil <| LWP.seq <| LWP.seq <| LWP.region (by kernel_rfl) <| kmv rfl <| RunK.nil <| LWP.block <| LWP.seq <| LWP.region (by kernel_rfl) <| keq rfl rfl (beq_eq_false_iff_ne.2 (by omega)) <| kas rfl <| RunK.nil <| LWP.condF rfl ?_; refine LWP.seq <| LWP.region (by kernel_rfl) <| keq rfl rfl (beq_eq_false_iff_ne.2 (by omega)) <| kas rfl <| RunK.nil <| LWP.condF rfl ?_; refine LWP.seq <| LWP.region (by kernel_rfl) <| keq rfl rfl (beq_eq_false_iff_ne.2 (by omega)) <| kas rfl <| RunK.nil <| LWP.condF rfl ?_; refine LWP.seq <| LWP.region (by kernel_rfl) <| keq rfl rfl (beq_iff_eq.2 (by omega)) <| kas rfl <| RunK.nil <| LWP.condT rfl ?_; refine LWP.seq <| LWP.region (by kernel_rfl) <| K.build rfl rfl (by exact rfl) (by exact nl4 rfl rfl rfl rfl rfl) .plain ?_; refine K.storeAll rfl rfl rfl rfl rfl rfl .plain ?_; refine RunK.nil <| LWP.ret ?_)
    exact ⟨[_], ⟨⟨_, _, rfl, rfl, rfl, .inl ⟨AggT.h, rfl⟩⟩, trivial⟩, rfl⟩
  · (refine LWP.seq <| LWP.region (by kernel_rfl) <| K.alloc rfl .plain ?_; refine RunK.nil <| LWP.seq <| LWP.seq <| LWP.region (by kernel_rfl) <| kmv rfl <| RunK.nil <| LWP.block <| LWP.seq <| LWP.region (by kernel_rfl) <| keq rfl rfl (beq_eq_false_iff_ne.2 (by omega)) <| kas rfl <| RunK.nil <| LWP.condF rfl ?_; refine LWP.seq <| LWP.region (by kernel_rfl) <| keq rfl rfl (beq_eq_false_iff_ne.2 (by omega)) <| kas rfl <| RunK.nil <| LWP.condF rfl ?_; refine LWP.seq <| LWP.region (by kernel_rfl) <| keq rfl rfl (beq_eq_false_iff_ne.2 (by omega)) <| kas rfl <| RunK.nil <| LWP.condF rfl ?_; refine LWP.seq <| LWP.region (by kernel_rfl) <| keq rfl rfl (beq_eq_false_iff_ne.2 (by omega)) <| kas rfl <| RunK.nil <| LWP.condF rfl ?_; refine LWP.seq <| LWP.region (by kernel_rfl) <| keq rfl rfl (beq_iff_eq.2 (by omega)) <| kas rfl <| RunK.nil <| LWP.condT rfl ?_; refine LWP.seq <| LWP.region (by kernel_rfl) <| K.build rfl rfl (by exact rfl) (by exact nl4 rfl rfl rfl rfl rfl) .plain ?_; refine K.storeAll rfl rfl rfl rfl rfl rfl .plain ?_; refine RunK.nil <| LWP.ret ?_)
    exact ⟨[_], ⟨⟨_, _, rfl, rfl, rfl, .inl ⟨AggT.h, rfl⟩⟩, trivial⟩, rfl⟩
  · (refine LWP.seq <| LWP.region (by kernel_rfl) <| K.alloc rfl .plain ?_; refine RunK.nil <| LWP.seq <| LWP.seq <| LWP.region (by kernel_rfl) <| kmv rfl <| RunK.nil <| LWP.block <| LWP.seq <| LWP.region (by kernel_rfl) <| keq rfl rfl (beq_eq_false_iff_ne.2 (by omega)) <| kas rfl <| RunK.nil <| LWP.condF rfl ?_; refine LWP.seq <| LWP.region (by kernel_rfl) <| keq rfl rfl (beq_eq_false_iff_ne.2 (by omega)) <| kas rfl <| RunK.nil <| LWP.condF rfl ?_; refine LWP.seq <| LWP.region (by kernel_rfl) <| keq rfl rfl (beq_eq_false_iff_ne.2 (by omega)) <| kas rfl <| RunK.nil <| LWP.condF rfl ?_; refine LWP.seq <| LWP.region (by kernel_rfl) <| keq rfl rfl (beq_eq_false_iff_ne.2 (by omega)) <| kas rfl <| RunK.nil <| LWP.condF rfl ?_; refine LWP.seq <| LWP.region (by kernel_rfl) <| keq rfl rfl (beq_eq_false_iff_ne.2 (by omega)) <| kas rfl <| RunK.nil <| LWP.condF rfl ?_; refine LWP.seq <| LWP.region (by kernel_rfl) <| keq rfl rfl (beq_iff_eq.2 (by omega)) <| kas rfl <| RunK.nil <| LWP.condT rfl ?_; refine LWP.seq <| LWP.region (by kernel_rfl) <| K.build rfl rfl (by exact rfl) (by exact nl4 rfl rfl rfl rfl rfl) .plain ?_; refine K.storeAll rfl rfl rfl rfl rfl rfl .plain ?_; refine RunK.nil <| LWP.ret ?_)
    exact ⟨[_], ⟨⟨_, _, rfl, rfl, rfl, .inl ⟨AggT.h, rfl⟩⟩, trivial⟩, rfl⟩
  · (refine LWP.seq <| LWP.region (by kernel_rfl) <| K.alloc rfl .plain ?_; refine RunK.nil <| LWP.seq <| LWP.seq <| LWP.region (by kernel_rfl) <| kmv rfl <| RunK.nil <| LWP.block <| LWP.seq <| LWP.region (by kernel_rfl) <| keq rfl rfl (beq_eq_false_iff_ne.2 (by omega)) <| kas rfl <| RunK.nil <| LWP.condF rfl ?_; refine LWP.seq <| LWP.region (by kernel_rfl) <| keq rfl rfl (beq_eq_false_iff_ne.2 (by omega)) <| kas rfl <| RunK.nil <| LWP.condF rfl ?_; refine LWP.seq <| LWP.region (by kernel_rfl) <| keq rfl rfl (beq_eq_false_iff_ne.2 (by omega)) <| kas rfl <| RunK.nil <| LWP.condF rfl ?_; refine LWP.seq <| LWP.region (by kernel_rfl) <| keq rfl rfl (beq_eq_false_iff_ne.2 (by omega)) <| kas rfl <| RunK.nil <| LWP.condF rfl ?_; refine LWP.seq <| LWP.region (by kernel_rfl) <| keq rfl rfl (beq_eq_false_iff_ne.2 (by omega)) <| kas rfl <| RunK.nil <| LWP.condF rfl ?_; refine LWP.seq <| LWP.region (by kernel_rfl) <| keq rfl rfl (beq_eq_false_iff_ne.2 (by omega)) <| kas rfl <| RunK.nil <| LWP.condF rfl ?_; refine LWP.seq <| LWP.region (by kernel_rfl) <| keq rfl rfl (beq_iff_eq.2 (by omega)) <| kas rfl <| RunK.nil <| LWP.condT rfl ?_; refine LWP.seq <| LWP.region (by kernel_rfl) <| K.build rfl rfl (by exact rfl) (by exact nl4 rfl rfl rfl rfl rfl) .plain ?_; refine K.storeAll rfl rfl rfl rfl rfl rfl .plain ?_; refine RunK.nil <| LWP.ret ?_)
    exact ⟨[_], ⟨⟨_, _, rfl, rfl, rfl, .inl ⟨AggT.h, rfl⟩⟩, trivial⟩, rfl⟩
  · (refine LWP.seq <| LWP.region (by kernel_rfl) <| K.alloc rfl .plain ?_; refine RunK.nil <| LWP.seq <| LWP.seq <| LWP.region (by kernel_rfl) <| kmv rfl <| RunK.nil <| LWP.block <| LWP.seq <| LWP.region (by kernel_rfl) <| keq rfl rfl (beq_eq_false_iff_ne.2 (by omega)) <| kas rfl <| RunK.nil <| LWP.condF rfl ?_; refine LWP.seq <| LWP.region (by kernel_rfl) <| keq rfl rfl (beq_eq_false_iff_ne.2 (by omega)) <| kas rfl <| RunK.nil <| LWP.condF rfl ?_; refine LWP.seq <| LWP.region (by kernel_rfl) <| keq rfl rfl (beq_eq_false_iff_ne.2 (by omega)) <| kas rfl <| RunK.nil <| LWP.condF rfl ?_; refine LWP.seq <| LWP.region (by kernel_rfl) <| keq rfl rfl (beq_eq_false_iff_ne.2 (by omega)) <| kas rfl <| RunK.nil <| LWP.condF rfl ?_; refine LWP.seq <| LWP.region (by kernel_rfl) <| keq rfl rfl (beq_eq_false_iff_ne.2 (by omega)) <| kas rfl <| RunK.nil <| LWP.condF rfl ?_; refine LWP.seq <| LWP.region (by kernel_rfl) <| keq rfl rfl (beq_eq_false_iff_ne.2 (by omega)) <| kas rfl <| RunK.nil <| LWP.condF rfl ?_; refine LWP.seq <| LWP.region (by kernel_rfl) <| keq rfl rfl (beq_eq_false_iff_ne.2 (by omega)) <| kas rfl <| RunK.nil <| LWP.condF rfl ?_; refine LWP.seq <| LWP.region (by kernel_rfl) <| keq rfl rfl (beq_iff_eq.2 (by omega)) <| kas rfl <| RunK.nil <| LWP.condT rfl ?_; refine LWP.seq <| LWP.region (by kernel_rfl) <| K.build rfl rfl (by exact rfl) (by exact nl4 rfl rfl rfl rfl rfl) .plain ?_; refine K.storeAll rfl rfl rfl rfl rfl rfl .plain ?_; refine RunK.nil <| LWP.ret ?_)
    exact ⟨[_], ⟨⟨_, _, rfl, rfl, rfl, .inl ⟨AggT.h, rfl⟩⟩, trivial⟩, rfl⟩
  · (refine LWP.seq <| LWP.region (by kernel_rfl) <| K.alloc rfl .plain ?_; refine RunK.nil <| LWP.seq <| LWP.seq <| LWP.region (by kernel_rfl) <| kmv rfl <| RunK.nil <| LWP.block <| LWP.seq <| LWP.region (by kernel_rfl) <| keq rfl rfl (beq_eq_false_iff_ne.2 (by omega)) <| kas rfl <| RunK.nil <| LWP.condF rfl ?_; refine LWP.seq <| LWP.region (by kernel_rfl) <| keq rfl rfl (beq_eq_false_iff_ne.2 (by omega)) <| kas rfl <| RunK.nil <| LWP.condF rfl ?_; refine LWP.seq <| LWP.region (by kernel_rfl) <| keq rfl rfl (beq_eq_false_iff_ne.2 (by omega)) <| kas rfl <| RunK.nil <| LWP.condF rfl ?_; refine LWP.seq <| LWP.region (by kernel_rfl) <| keq rfl rfl (beq_eq_false_iff_ne.2 (by omega)) <| kas rfl <| RunK.nil <| LWP.condF rfl ?_; refine LWP.seq <| LWP.region (by kernel_rfl) <| keq rfl rfl (beq_eq_false_iff_ne.2 (by omega)) <| kas rfl <| RunK.nil <| LWP.condF rfl ?_; refine LWP.seq <| LWP.region (by kernel_rfl) <| keq rfl rfl (beq_eq_false_iff_ne.2 (by omega)) <| kas rfl <| RunK.nil <| LWP.condF rfl ?_; refine LWP.seq <| LWP.region (by kernel_rfl) <| keq rfl rfl (beq_eq_false_iff_ne.2 (by omega)) <| kas rfl <| RunK.nil <| LWP.condF rfl ?_; refine LWP.seq <| LWP.region (by kernel_rfl) <| keq rfl rfl (beq_eq_false_iff_ne.2 (by omega)) <| kas rfl <| RunK.nil <| LWP.condF rfl ?_; refine LWP.seq <| LWP.region (by kernel_rfl) <| keq rfl rfl (beq_iff_eq.2 (by omega)) <| kas rfl <| RunK.nil <| LWP.condT rfl ?_; refine LWP.seq <| LWP.region (by kernel_rfl) <| K.build rfl rfl (by exact rfl) (by exact nl4 rfl rfl rfl rfl rfl) .plain ?_; refine K.storeAll rfl rfl rfl rfl rfl rfl .plain ?_; refine RunK.nil <| LWP.ret ?_)
    exact ⟨[_], ⟨⟨_, _, rfl, rfl, rfl, .inl ⟨AggT.h, rfl⟩⟩, trivial⟩, rfl⟩
  · (refine LWP.seq <| LWP.region (by kernel_rfl) <| K.alloc rfl .plain ?_; refine RunK.nil <| LWP.seq <| LWP.seq <| LWP.region (by kernel_rfl) <| kmv rfl <| RunK.nil <| LWP.block <| LWP.seq <| LWP.region (by kernel_rfl) <| keq rfl rfl (beq_eq_false_iff_ne.2 (by omega)) <| kas rfl <| RunK.nil <| LWP.condF rfl ?_; refine LWP.seq <| LWP.region (by kernel_rfl) <| keq rfl rfl (beq_eq_false_iff_ne.2 (by omega)) <| kas rfl <| RunK.nil <| LWP.condF rfl ?_; refine LWP.seq <| LWP.region (by kernel_rfl) <| keq rfl rfl (beq_eq_false_iff_ne.2 (by omega)) <| kas rfl <| RunK.nil <| LWP.condF rfl ?_; refine LWP.seq <| LWP.region (by kernel_rfl) <| keq rfl rfl (beq_eq_false_iff_ne.2 (by omega)) <| kas rfl <| RunK.nil <| LWP.condF rfl ?_; refine LWP.seq <| LWP.region (by kernel_rfl) <| keq rfl rfl (beq_eq_false_iff_ne.2 (by omega)) <| kas rfl <| RunK.nil <| LWP.condF rfl ?_; refine LWP.seq <| LWP.region (by kernel_rfl) <| keq rfl rfl (beq_eq_false_iff_ne.2 (by omega)) <| kas rfl <| RunK.nil <| LWP.condF rfl ?_; refine LWP.seq <| LWP.region (by kernel_rfl) <| keq rfl rfl (beq_eq_false_iff_ne.2 (by omega)) <| kas rfl <| RunK.nil <| LWP.condF rfl ?_; refine LWP.seq <| LWP.region (by kernel_rfl) <| keq rfl rfl (beq_eq_false_iff_ne.2 (by omega)) <| kas rfl <| RunK.nil <| LWP.condF rfl ?_; refine LWP.seq <| LWP.region (by kernel_rfl) <| keq rfl rfl (beq_eq_false_iff_ne.2 (by omega)) <| kas rfl <| RunK.nil <| LWP.condF rfl ?_; refine LWP.seq <| LWP.region (by kernel_rfl) <| keq rfl rfl (beq_iff_eq.2 (by omega)) <| kas rfl <| RunK.nil <| LWP.condT rfl ?_; refine LWP.seq <| LWP.region (by kernel_rfl) <| K.build rfl rfl (by exact rfl) (by exact nl4 rfl rfl rfl rfl rfl) .plain ?_; refine K.storeAll rfl rfl rfl rfl rfl rfl .plain ?_; refine RunK.nil <| LWP.ret ?_)
    exact ⟨[_], ⟨⟨_, _, rfl, rfl, rfl, .inl ⟨AggT.h, rfl⟩⟩, trivial⟩, rfl⟩
  · rw [kN_no h, kW_no h, kB_no h, kA_no h]
    (refine LWP.seq <| LWP.region (by kernel_rfl) <| K.alloc rfl .plain ?_; refine RunK.nil <| LWP.seq <| LWP.seq <| LWP.region (by kernel_rfl) <| kmv rfl <| RunK.nil <| LWP.block <| LWP.seq <| LWP.region (by kernel_rfl) <| keq rfl rfl (beq_eq_false_iff_ne.2 (by omega)) <| kas rfl <| RunK.nil <| LWP.condF rfl ?_; refine LWP.seq <| LWP.region (by kernel_rfl) <| keq rfl rfl (beq_eq_false_iff_ne.2 (by omega)) <| kas rfl <| RunK.nil <| LWP.condF rfl ?_; refine LWP.seq <| LWP.region (by kernel_rfl) <| keq rfl rfl (beq_eq_false_iff_ne.2 (by omega)) <| kas rfl <| RunK.nil <| LWP.condF rfl ?_; refine LWP.seq <| LWP.region (by kernel_rfl) <| keq rfl rfl (beq_eq_false_iff_ne.2 (by omega)) <| kas rfl <| RunK.nil <| LWP.condF rfl ?_; refine LWP.seq <| LWP.region (by kernel_rfl) <| keq rfl rfl (beq_eq_false_iff_ne.2 (by omega)) <| kas rfl <| RunK.nil <| LWP.condF rfl ?_; refine LWP.seq <| LWP.region (by kernel_rfl) <| keq rfl rfl (beq_eq_false_iff_ne.2 (by omega)) <| kas rfl <| RunK.nil <| LWP.condF rfl ?_; refine LWP.seq <| LWP.region (by kernel_rfl) <| keq rfl rfl (beq_eq_false_iff_ne.2 (by omega)) <| kas rfl <| RunK.nil <| LWP.condF rfl ?_; refine LWP.seq <| LWP.region (by kernel_rfl) <| keq rfl rfl (beq_eq_false_iff_ne.2 (by omega)) <| kas rfl <| RunK.nil <| LWP.condF rfl ?_; refine LWP.seq <| LWP.region (by kernel_rfl) <| keq rfl rfl (beq_eq_false_iff_ne.2 (by omega)) <| kas rfl <| RunK.nil <| LWP.condF rfl ?_; refine LWP.seq <| LWP.region (by kernel_rfl) <| keq rfl rfl (beq_eq_false_iff_ne.2 (by omega)) <| kas rfl <| RunK.nil <| LWP.condF rfl ?_; refine LWP.skip ?_; refine LWP.seq <| LWP.region (by kernel_rfl) <| K.build rfl rfl (by exact rfl) (by exact nl4 rfl rfl rfl rfl rfl) .plain ?_; refine K.storeAll rfl rfl rfl rfl rfl rfl .plain ?_; refine RunK.nil <| LWP.ret ?_)
    exact ⟨[_], ⟨⟨_, _, rfl, rfl, rfl, .inl ⟨AggT.h, rfl⟩⟩, trivial⟩, rfl⟩
theorem fSize_spec (k : Int) : PSpec Tryd.prog X 23 [Ln .i64 k] (Ln .i64 (kW k : Nat)) := by
  refine PSpec.intro Tryd.func23 rfl (by kernel_rfl) rfl rfl ?_
  intro C
  (refine LWP.seq <| LWP.region (by kernel_rfl) <| kas rfl <| RunK.nil <| LWP.seq <| LWP.region (by kernel_rfl) <| kmv rfl <| kca rfl rfl (shapeOf_spec X k) <| K.fieldOne rfl Tryd.underlying83 rfl (by kernel_rfl) rfl .plain <| kas rfl <| RunK.nil <| LWP.ret ?_)
  exact ⟨[_], ⟨rfl, trivial⟩, rfl⟩
theorem OfWord_q (n : Int) (hn : 0 ≤ n ∧ n < 18446744073709551616) : PSpec Tryd.prog X 44 [Ln .u64 n] (LQ n) := by
  have h := OfWord_spec X n
  unfold LQ LI
  rw [mg_pos hn.1, decide_eq_false (by omega), show n / 18446744073709551616 = 0 by omega, show n % 18446744073709551616 = n by omega]
  exact h
theorem Greatest_spec (k : Int) : PSpec Tryd.prog X 41 [Ln .i64 k] (LQ (kA k)) := by
  obtain ⟨_, _, h2, h3, _⟩ := kfacts k
  refine PSpec.intro Tryd.func41 rfl (by kernel_rfl) rfl rfl ?_
  intro C
  (refine LWP.seq <| LWP.region (by kernel_rfl) <| K.alloc rfl .plain ?_; refine RunK.nil <| LWP.seq <| LWP.region (by kernel_rfl) <| kmv rfl <| kca rfl rfl (shapeOf_spec X k) <| K.fieldOne rfl Tryd.underlying83 rfl (by kernel_rfl) rfl .plain <| kca rfl rfl (OfWord_q X (kA k) ⟨h2, h3⟩) <| K.storeAll rfl rfl rfl rfl rfl rfl .plain ?_; refine RunK.nil <| LWP.ret ?_)
  exact ⟨[_], ⟨⟨_, _, rfl, rfl, rfl, .inl ⟨AggT.h, rfl⟩⟩, trivial⟩, rfl⟩
theorem kB_R (k : Int) : R127 (kB k) := by
  have := kfacts k
  unfold R127; omega
theorem kBn_R (k : Int) : R127 (-kB k) := by
  have := kfacts k
  unfold R127; omega
theorem kA_R (k : Int) : R127 (kA k) := by
  have := kfacts k
  unfold R127; omega
theorem Least_spec (k : Int) : PSpec Tryd.prog X 40 [Ln .i64 k] (LQ (-kB k)) := by
  obtain ⟨h0, h1, _⟩ := kfacts k
  refine PSpec.intro Tryd.func40 rfl (by kernel_rfl) rfl rfl ?_
  intro C
  (refine LWP.seq <| LWP.region (by kernel_rfl) <| K.alloc rfl .plain ?_; refine RunK.nil <| LWP.seq <| LWP.region (by kernel_rfl) <| kmv rfl <| kca rfl rfl (shapeOf_spec X k) <| K.fieldOne rfl Tryd.underlying83 rfl (by kernel_rfl) rfl .plain <| kca rfl rfl (OfWord_q X (kB k) ⟨h0, by omega⟩) <| kca rfl rfl (Neg_q X (kB k) (kB_R k)) <| K.storeAll rfl rfl rfl rfl rfl rfl .plain ?_; refine RunK.nil <| LWP.ret ?_)
  exact ⟨[_], ⟨⟨_, _, rfl, rfl, rfl, .inl ⟨AggT.h, rfl⟩⟩, trivial⟩, rfl⟩
theorem isKind_spec (k : Int) (r : Bool) (hr : kK k = r) : PSpec Tryd.prog X 48 [Ln .i64 k] (Lb r) := by
  subst hr
  refine PSpec.intro Tryd.func48 rfl (by kernel_rfl) rfl rfl ?_
  intro C
  by_cases h1 : 1 ≤ k
  · (refine LWP.seq <| LWP.region (by kernel_rfl) <| kas rfl <| RunK.nil <| LWP.seq <| LWP.region (by kernel_rfl) <| kmv rfl <| K.leq rfl rfl (decide_eq_true (by omega)) .plain <| kmv rfl <| gmv rfl rfl rfl <| K.leq rfl rfl rfl (.taken rfl rfl) ?_; refine kpt rfl rfl <| kas rfl <| RunK.nil <| LWP.ret ?_)
    exact ⟨[_], ⟨rfl, trivial⟩, by unfold kK; rw [decide_eq_true h1]; rfl⟩
  · (refine LWP.seq <| LWP.region (by kernel_rfl) <| kas rfl <| RunK.nil <| LWP.seq <| LWP.region (by kernel_rfl) <| kmv rfl <| K.leq rfl rfl (decide_eq_false (by omega)) .plain <| kmv rfl <| RunK.passed rfl rfl rfl <| RunK.passed rfl rfl rfl <| kpf rfl rfl <| kas rfl <| RunK.nil ?_; refine LWP.ret ?_)
    exact ⟨[_], ⟨rfl, trivial⟩, by unfold kK; rw [decide_eq_false h1]; rfl⟩
end Go.Proofs.YtfmadklfcoebhaaDoor
end
