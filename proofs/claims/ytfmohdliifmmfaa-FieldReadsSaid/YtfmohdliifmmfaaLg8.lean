/- A piece of a proof over this program: contracts of its functions, and a logic to prove them by. -/
import Derived.Test.YtfmohdliifmmfaaLg7
import Derived.IntWalk
namespace Go.Lg
open Go Go.RowKit

class ZeroT (P : Program) (t : TypeId) (zs : outParam (List CV)) : Prop where
  h : (zeroOf P t).map (fun l => l.map CV.val) = some zs
class AggT (P : Program) (t : TypeId) (m : outParam Nat) : Prop where
  h : aggSize P t = some m
class OneT (P : Program) (t : TypeId) : Prop where
  h : (oneType P t, sizeIs P t) = (true, some 1)
class FieldT (P : Program) (t : TypeId) (i : Nat) (o : outParam Nat) (m : outParam Nat) : Prop where
  h : fieldOf P t i = some (o, m + 1)
class StructT (P : Program) (t : TypeId) (zs : outParam (List Value)) (places : outParam (List (Nat × Nat))) : Prop where
  h : structOf P t = some (zs, places)
class ArrT (P : Program) (t : TypeId) (len : outParam Nat) (sz : outParam Nat) : Prop where
  h : arrOf P t = some (len, sz)
class SliceT (P : Program) (t : TypeId) (sz : outParam Nat) : Prop where
  h : sliceOf P t = some sz
def isStr (P : Program) (t : TypeId) : Bool := match P.underlying t with | some .string => true | _ => false
def isBool (P : Program) (t : TypeId) : Bool := match P.underlying t with | some .bool => true | _ => false
def intOfT (P : Program) (t : TypeId) : Option IntKind := match P.underlying t with | some (.int k) => some k | _ => none
class StrT (P : Program) (t : TypeId) : Prop where
  h : isStr P t = true
class BoolT (P : Program) (t : TypeId) : Prop where
  h : isBool P t = true
class IntT (P : Program) (t : TypeId) (k : outParam IntKind) : Prop where
  h : intOfT P t = some k

theorem StrT.u {P : Program} {t : TypeId} [i : StrT P t] : P.underlying t = some .string := by
  have := i.h
  unfold isStr at this
  split at this <;> simp_all
theorem BoolT.u {P : Program} {t : TypeId} [i : BoolT P t] : P.underlying t = some .bool := by
  have := i.h
  unfold isBool at this
  split at this <;> simp_all
theorem IntT.u {P : Program} {t : TypeId} {k : IntKind} [i : IntT P t k] : P.underlying t = some (.int k) := by
  have := i.h
  unfold intOfT at this
  split at this <;> simp_all

theorem ZeroT.z {P : Program} {t : TypeId} {zs : List CV} [i : ZeroT P t zs] : ∃ l, zeroOf P t = some l ∧ l.map CV.val = zs := by
  have := i.h
  cases h : zeroOf P t with
  | none => simp [h] at this
  | some l => simp [h] at this; exact ⟨l, rfl, this⟩

/- a list, laid out cell by cell -/
theorem nl0 {α : Type} {l : List α} (h0 : l = []) : l = [] := by
  subst_vars
  rfl
theorem nl1 {α : Type} {l t1 : List α} {a0 : α} (h0 : l = a0 :: t1) (h1 : t1 = []) : l = [a0] := by
  subst_vars
  rfl
theorem nl2 {α : Type} {l t1 t2 : List α} {a0 a1 : α} (h0 : l = a0 :: t1) (h1 : t1 = a1 :: t2) (h2 : t2 = []) : l = [a0, a1] := by
  subst_vars
  rfl
theorem nl3 {α : Type} {l t1 t2 t3 : List α} {a0 a1 a2 : α} (h0 : l = a0 :: t1) (h1 : t1 = a1 :: t2) (h2 : t2 = a2 :: t3) (h3 : t3 = []) : l = [a0, a1, a2] := by
  subst_vars
  rfl
theorem nl4 {α : Type} {l t1 t2 t3 t4 : List α} {a0 a1 a2 a3 : α} (h0 : l = a0 :: t1) (h1 : t1 = a1 :: t2) (h2 : t2 = a2 :: t3) (h3 : t3 = a3 :: t4) (h4 : t4 = []) : l = [a0, a1, a2, a3] := by
  subst_vars
  rfl
theorem nl5 {α : Type} {l t1 t2 t3 t4 t5 : List α} {a0 a1 a2 a3 a4 : α} (h0 : l = a0 :: t1) (h1 : t1 = a1 :: t2) (h2 : t2 = a2 :: t3) (h3 : t3 = a3 :: t4) (h4 : t4 = a4 :: t5) (h5 : t5 = []) : l = [a0, a1, a2, a3, a4] := by
  subst_vars
  rfl
theorem nl6 {α : Type} {l t1 t2 t3 t4 t5 t6 : List α} {a0 a1 a2 a3 a4 a5 : α} (h0 : l = a0 :: t1) (h1 : t1 = a1 :: t2) (h2 : t2 = a2 :: t3) (h3 : t3 = a3 :: t4) (h4 : t4 = a4 :: t5) (h5 : t5 = a5 :: t6) (h6 : t6 = []) : l = [a0, a1, a2, a3, a4, a5] := by
  subst_vars
  rfl
theorem nl7 {α : Type} {l t1 t2 t3 t4 t5 t6 t7 : List α} {a0 a1 a2 a3 a4 a5 a6 : α} (h0 : l = a0 :: t1) (h1 : t1 = a1 :: t2) (h2 : t2 = a2 :: t3) (h3 : t3 = a3 :: t4) (h4 : t4 = a4 :: t5) (h5 : t5 = a5 :: t6) (h6 : t6 = a6 :: t7) (h7 : t7 = []) : l = [a0, a1, a2, a3, a4, a5, a6] := by
  subst_vars
  rfl
theorem nl8 {α : Type} {l t1 t2 t3 t4 t5 t6 t7 t8 : List α} {a0 a1 a2 a3 a4 a5 a6 a7 : α} (h0 : l = a0 :: t1) (h1 : t1 = a1 :: t2) (h2 : t2 = a2 :: t3) (h3 : t3 = a3 :: t4) (h4 : t4 = a4 :: t5) (h5 : t5 = a5 :: t6) (h6 : t6 = a6 :: t7) (h7 : t7 = a7 :: t8) (h8 : t8 = []) : l = [a0, a1, a2, a3, a4, a5, a6, a7] := by
  subst_vars
  rfl
theorem nl9 {α : Type} {l t1 t2 t3 t4 t5 t6 t7 t8 t9 : List α} {a0 a1 a2 a3 a4 a5 a6 a7 a8 : α} (h0 : l = a0 :: t1) (h1 : t1 = a1 :: t2) (h2 : t2 = a2 :: t3) (h3 : t3 = a3 :: t4) (h4 : t4 = a4 :: t5) (h5 : t5 = a5 :: t6) (h6 : t6 = a6 :: t7) (h7 : t7 = a7 :: t8) (h8 : t8 = a8 :: t9) (h9 : t9 = []) : l = [a0, a1, a2, a3, a4, a5, a6, a7, a8] := by
  subst_vars
  rfl
theorem nl10 {α : Type} {l t1 t2 t3 t4 t5 t6 t7 t8 t9 t10 : List α} {a0 a1 a2 a3 a4 a5 a6 a7 a8 a9 : α} (h0 : l = a0 :: t1) (h1 : t1 = a1 :: t2) (h2 : t2 = a2 :: t3) (h3 : t3 = a3 :: t4) (h4 : t4 = a4 :: t5) (h5 : t5 = a5 :: t6) (h6 : t6 = a6 :: t7) (h7 : t7 = a7 :: t8) (h8 : t8 = a8 :: t9) (h9 : t9 = a9 :: t10) (h10 : t10 = []) : l = [a0, a1, a2, a3, a4, a5, a6, a7, a8, a9] := by
  subst_vars
  rfl

inductive Want (ops : List Oper) (s : List (Nat × LV)) : Option (Nat × Bool) → Prop
  | plain : Want ops s none
  | taken {j t : Nat} {b : Bool} (ht : (ops[j]?).bind (·.dst) = some t) (hb : look t s = some (.sv (.one (.val (.bool b))))) : Want ops s (some (j, b))

section
variable {P : Program} {n : Nat} {ops os : List Oper} {acc : List Eff} {K : List Eff → St → Prop}
variable {s : List (Nat × LV)} {bx : List (Nat × Option Box)} {X : Nat → Option Obj}
variable {dst : Option Nat} {op : Op} {ty : TypeId} {pos : String} {after : Array Edge} {g : Option (Nat × Bool)}

theorem RunK.gen {σ : St} {o : Oper} {e : Eff} (hw : Want ops σ.slots o.guard) (h : LOK P n ops o σ e) (k : RunK P n ops os (e.app σ) (e :: acc) K) : RunK P n ops (o :: os) σ acc K := by
  obtain ⟨dst, op, ty, pos, after, g⟩ := o
  cases hw with
  | plain => exact RunK.step (.plain rfl h.out) k
  | taken ht hb => exact RunK.step (.taken _ _ _ rfl ht hb h.out) k

theorem RunK.g1 {d : Nat} {lv : LV} {ft : List Nat} (h : LOK P n ops ⟨dst, op, ty, pos, after, g⟩ ⟨s, bx, X⟩ ⟨[(d, lv)], ft, []⟩) (hw : Want ops s g)
    (k : RunK P n ops os ⟨(d, lv) :: s, bx, X⟩ (⟨[(d, lv)], ft, []⟩ :: acc) K) : RunK P n ops (⟨dst, op, ty, pos, after, g⟩ :: os) ⟨s, bx, X⟩ acc K := RunK.gen hw h k
theorem RunK.g2 {d kk : Nat} {lv : LV} {ft : List Nat} {b : Option Box} (h : LOK P n ops ⟨dst, op, ty, pos, after, g⟩ ⟨s, bx, X⟩ ⟨[(d, lv)], ft, [(kk, b)]⟩) (hw : Want ops s g)
    (k : RunK P n ops os ⟨(d, lv) :: s, (kk, b) :: bx, X⟩ (⟨[(d, lv)], ft, [(kk, b)]⟩ :: acc) K) : RunK P n ops (⟨dst, op, ty, pos, after, g⟩ :: os) ⟨s, bx, X⟩ acc K := RunK.gen hw h k
theorem RunK.g3 {kk : Nat} {ft : List Nat} {b : Option Box} (h : LOK P n ops ⟨dst, op, ty, pos, after, g⟩ ⟨s, bx, X⟩ ⟨[], ft, [(kk, b)]⟩) (hw : Want ops s g)
    (k : RunK P n ops os ⟨s, (kk, b) :: bx, X⟩ (⟨[], ft, [(kk, b)]⟩ :: acc) K) : RunK P n ops (⟨dst, op, ty, pos, after, g⟩ :: os) ⟨s, bx, X⟩ acc K := RunK.gen hw h k
end

section
variable {P : Program} {n : Nat} {ops : List Oper} {σ : St}
variable {d : Nat} {t t' : TypeId} {x y : Operand} {ty : TypeId} {pos : String} {after : Array Edge} {g : Option (Nat × Bool)}

theorem I.alloc {el : TypeId} {zs : List CV} [ZeroT P el zs] (hk : σ.fresh d = true) :
    LOK P n ops ⟨some d, .alloc el, ty, pos, after, g⟩ σ ⟨[(d, .sv (.one (.ptr d 0)))], [], [(d, some ⟨el, zs, false⟩)]⟩ := by
  obtain ⟨l, h1, h2⟩ := ZeroT.z (P := P) (t := el) (zs := zs)
  exact LOK.alloc h1 hk h2
theorem I.box {el : TypeId} {l : List CV} (hx : σ.ev x = some (.sv (.agg l))) (hs : l.all CV.solid = true) (hk : σ.fresh d = true) :
    LOK P n ops ⟨some d, .box el x, ty, pos, after, g⟩ σ ⟨[(d, .sv (.one (.ptr d 0)))], [], [(d, some ⟨el, l, false⟩)]⟩ := LOK.box hx hs hk rfl
theorem I.box1 {el : TypeId} {c : CV} (hx : σ.ev x = some (.sv (.one c))) (hs : c.solid = true) (hk : σ.fresh d = true) :
    LOK P n ops ⟨some d, .box el x, ty, pos, after, g⟩ σ ⟨[(d, .sv (.one (.ptr d 0)))], [], [(d, some ⟨el, [c], false⟩)]⟩ := LOK.box hx hs hk rfl
theorem I.loadAll {k m : Nat} {el : TypeId} {cs : List CV} [i : AggT P t m] (hx : σ.ev x = some (.sv (.one (.ptr k 0)))) (hk : σ.stat k = some (some ⟨el, cs, false⟩)) (hm : m = cs.length) :
    LOK P n ops ⟨some d, .load t x, ty, pos, after, g⟩ σ ⟨[(d, .sv (.agg cs))], [k], []⟩ := LOK.loadAll hx hk (by rw [← hm]; exact i.h)
theorem I.loadPart {k off m : Nat} {b : Box} {l : List CV} [i : AggT P t m] (hx : σ.ev x = some (.sv (.one (.ptr k off)))) (hk : σ.stat k = some (some b)) (hm : Nat.ble (off + m) b.cells.length = true) (hl : (b.cells.drop off).take m = l) :
    LOK P n ops ⟨some d, .load t x, ty, pos, after, g⟩ σ ⟨[(d, .sv (.agg l))], [k], []⟩ := LOK.loadPart hx hk i.h (Nat.le_of_ble_eq_true hm) hl
theorem I.loadOne {k off : Nat} {b : Box} {c : CV} [i : OneT P t] (hx : σ.ev x = some (.sv (.one (.ptr k off)))) (hk : σ.stat k = some (some b)) (hc : b.cells[off]? = some c) :
    LOK P n ops ⟨some d, .load t x, ty, pos, after, g⟩ σ ⟨[(d, .sv (.one c))], [k], []⟩ := LOK.loadOne hx hk (by have := i.h; simp at this; exact this.1) hc
theorem I.storeAll {k m : Nat} {el : TypeId} {cs l : List CV} {row : Bool} [i : AggT P t m] (hx : σ.ev x = some (.sv (.one (.ptr k 0)))) (hy : σ.ev y = some (.sv (.agg l))) (hk : σ.stat k = some (some ⟨el, cs, row⟩)) (hs : l.all CV.solid = true)
    (hm : m = l.length) (hm' : l.length = cs.length) :
    LOK P n ops ⟨none, .store t x y, ty, pos, after, g⟩ σ ⟨[], [], [(k, some ⟨el, l, row⟩)]⟩ := by
  have hz : sizeIs P t = some (SV.agg l).cells.length := by
    have := i.h
    unfold aggSize at this
    unfold sizeIs
    simp only [SV.cells]
    rw [← hm]
    split at this <;> simp_all
  exact LOK.store hx hy hk hs hz (by simp [SV.cells]; omega) (by simp [splice, SV.cells, hm'])
theorem I.storeOne {k off : Nat} {el : TypeId} {cs l : List CV} {c : CV} {row : Bool} [i : OneT P t] (hx : σ.ev x = some (.sv (.one (.ptr k off)))) (hy : σ.ev y = some (.sv (.one c))) (hk : σ.stat k = some (some ⟨el, cs, row⟩)) (hs : c.solid = true)
    (hm : Nat.blt off cs.length = true) (hl : cs.set off c = l) :
    LOK P n ops ⟨none, .store t x y, ty, pos, after, g⟩ σ ⟨[], [], [(k, some ⟨el, l, row⟩)]⟩ := by
  have hlt : off < cs.length := by simpa [Nat.blt_eq] using hm
  have hz : sizeIs P t = some (SV.one c).cells.length := by have := i.h; simp at this; simp [SV.cells, this.2]
  refine LOK.store hx hy hk hs hz (by simp [SV.cells]; omega) ?_
  rw [← hl]
  simp only [splice, SV.cells, List.length_singleton]
  apply List.ext_getElem?
  intro j
  simp only [List.getElem?_append, List.length_append, List.length_take, List.length_singleton, List.getElem?_take, List.getElem?_drop, List.getElem?_set]
  rcases Nat.lt_trichotomy j off with h | h | h
  · simp [show j < min off cs.length + 1 by omega, show j < min off cs.length by omega, h, show off ≠ j by omega]
  · subst h
    simp [show min j cs.length = j by omega, hlt]
  · simp [show min off cs.length = off by omega, show ¬ j < off + 1 by omega, show off ≠ j by omega, show off + 1 + (j - (off + 1)) = j by omega]
theorem I.fieldAddr {i k off o m : Nat} [f : FieldT P t i o m] (hx : σ.ev x = some (.sv (.one (.ptr k off)))) {off' : Nat} (ho : Nat.add off o = off') :
    LOK P n ops ⟨some d, .fieldAddr t x i, ty, pos, after, g⟩ σ ⟨[(d, .sv (.one (.ptr k off')))], [], []⟩ := LOK.fieldAddr hx f.h ho
theorem I.build {parts : List (Nat × Operand)} {ps : List (Nat × SV)} {zs : List Value} {places : List (Nat × Nat)} {cs cs' : List CV} [i : StructT P t zs places]
    (hp : evParts σ parts = some ps) (hso : ps.all (fun p => p.2.solid) = true) (hf : fillL (fun i => places[i]?) (zs.map .val) ps = some cs) (hn : cs = cs') :
    LOK P n ops ⟨some d, .build t parts.toArray, ty, pos, after, g⟩ σ ⟨[(d, .sv (.agg cs'))], [], []⟩ := LOK.build i.h hp hso (by rw [← hn]; exact hf)
theorem I.indexArr {k off len sz off' : Nat} {kk : IntKind} {i : Int} [a : ArrT P t len sz] (hx : σ.ev x = some (.sv (.one (.ptr k off)))) (hy : σ.ev y = some (.sv (.one (.val (.int kk i))))) (hi : 0 ≤ i ∧ i < len) (ho : off + i.toNat * sz = off') :
    LOK P n ops ⟨some d, .indexAddr t x y, ty, pos, after, g⟩ σ ⟨[(d, .sv (.one (.ptr k off')))], [], []⟩ := LOK.indexArr hx hy a.h hi ho
theorem I.indexSlc {k off len sz off' es : Nat} {kk : IntKind} {i : Int} [a : SliceT P t sz] (hx : σ.ev x = some (.sv (.one (.slc k off len es)))) (hy : σ.ev y = some (.sv (.one (.val (.int kk i))))) (hi : 0 ≤ i ∧ i < len) (ho : off + i.toNat * sz = off') :
    LOK P n ops ⟨some d, .indexAddr t x y, ty, pos, after, g⟩ σ ⟨[(d, .sv (.one (.ptr k off')))], [], []⟩ := LOK.indexSlc hx hy a.h hi ho
theorem I.indexStr {s : ByteArray} {kk : IntKind} {i : Int} {b : UInt8} [StrT P t] (hx : σ.ev x = some (.sv (.one (.val (.string s))))) (hy : σ.ev y = some (.sv (.one (.val (.int kk i))))) (hi : 0 ≤ i) (hb : s[i.toNat]? = some b) :
    LOK P n ops ⟨some d, .index t x y, ty, pos, after, g⟩ σ ⟨[(d, .sv (.one (.val (.int .u8 b.toNat))))], [], []⟩ := LOK.indexStr hx hy StrT.u hi hb rfl
theorem I.lenStr {s : ByteArray} [StrT P t] (hx : σ.ev x = some (.sv (.one (.val (.string s))))) :
    LOK P n ops ⟨some d, .call ⟨.builtin .len, #[x], #[t]⟩, ty, pos, after, g⟩ σ ⟨[(d, .sv (.one (.val (.int .i64 s.size))))], [], []⟩ := LOK.lenStr hx StrT.u rfl
theorem I.eqlB {p q r : Bool} [BoolT P t] (hx : σ.ev x = some (.sv (.one (.val (.bool p))))) (hy : σ.ev y = some (.sv (.one (.val (.bool q))))) (hc : (p == q) = r) :
    LOK P n ops ⟨some d, .binOp .eql t x y t', ty, pos, after, g⟩ σ ⟨[(d, .sv (.one (.val (.bool r))))], [], []⟩ := LOK.eqlB hx hy BoolT.u hc
theorem I.neqB {p q r : Bool} [BoolT P t] (hx : σ.ev x = some (.sv (.one (.val (.bool p))))) (hy : σ.ev y = some (.sv (.one (.val (.bool q))))) (hc : (p != q) = r) :
    LOK P n ops ⟨some d, .binOp .neq t x y t', ty, pos, after, g⟩ σ ⟨[(d, .sv (.one (.val (.bool r))))], [], []⟩ := LOK.neqB hx hy BoolT.u hc
theorem I.conv {k k' : IntKind} {a c : Int} {ks : IntKind} [i : IntT P t ks] [i' : IntT P t' k'] (hx : σ.ev x = some (.sv (.one (.val (.int k a))))) (hc : k'.wrap a = c) :
    LOK P n ops ⟨some d, .convert t t' x, ty, pos, after, g⟩ σ ⟨[(d, .sv (.one (.val (.int k' c))))], [], []⟩ := LOK.conv hx (by rw [i.u]; rfl) i'.u hc
end

theorem wrap_u64 {n : Int} (h : 0 ≤ n ∧ n < 18446744073709551616) : IntKind.u64.wrap n = n := by
  simp only [IntKind.wrap, IntKind.bits, IntKind.signed]
  simp
  omega
theorem wrap_u8 {n : Int} (h : 0 ≤ n ∧ n < 256) : IntKind.u8.wrap n = n := by
  simp only [IntKind.wrap, IntKind.bits, IntKind.signed]
  simp
  omega
theorem wrap_u16 {n : Int} (h : 0 ≤ n ∧ n < 65536) : IntKind.u16.wrap n = n := by
  simp only [IntKind.wrap, IntKind.bits, IntKind.signed]
  simp
  omega
theorem wrap_u32 {n : Int} (h : 0 ≤ n ∧ n < 4294967296) : IntKind.u32.wrap n = n := by
  simp only [IntKind.wrap, IntKind.bits, IntKind.signed]
  simp
  omega
theorem wrap_i64 {n : Int} (h : -9223372036854775808 ≤ n ∧ n < 9223372036854775808) : IntKind.i64.wrap n = n := by
  simp only [IntKind.wrap, IntKind.bits, IntKind.signed]
  simp
  omega
end Go.Lg
