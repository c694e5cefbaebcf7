/- A piece of a proof over this program: contracts of its functions, and a logic to prove them by. -/
import Derived.Test.YtimpjdbhalnofaaGreatDoorQ2
import Derived.Test.YtimpjdbhalnofaaGreatDoorRows
import Derived.Lib.Strings
import Derived.Lib.AppendZerosOnto
import Derived.Lib.TrimByte
import Derived.Lib.SmallJoins
section
namespace Go.Lg
open Go Go.RowKit
section
variable {P : Program} {n : Nat} {ops os : List Oper} {acc : List Eff} {K : List Eff → St → Prop} {s : List (Nat × LV)} {bx : List (Nat × Option Box)} {X : Nat → Option Obj}
theorem kmv {d : Nat} {x : Operand} {ty : TypeId} {pos : String} {after : Array Edge} {lv : LV} (hx : (⟨s, bx, X⟩ : St).ev x = some lv) (kont : RunK P n ops os ⟨(d, lv) :: s, bx, X⟩ (⟨[(d, lv)], [], []⟩ :: acc) K) :
    RunK P n ops (⟨some d, .move x, ty, pos, after, none⟩ :: os) ⟨s, bx, X⟩ acc K := Go.Lg.K.move hx .plain kont
theorem gmv {d : Nat} {x : Operand} {ty : TypeId} {pos : String} {after : Array Edge} {lv : LV} (hx : (⟨s, bx, X⟩ : St).ev x = some lv) {gj gt : Nat} {gb : Bool} (g1 : (ops[gj]?).bind (·.dst) = some gt) (g2 : look gt s = some (.sv (.one (.val (.bool gb))))) (kont : RunK P n ops os ⟨(d, lv) :: s, bx, X⟩ (⟨[(d, lv)], [], []⟩ :: acc) K) :
    RunK P n ops (⟨some d, .move x, ty, pos, after, some (gj, gb)⟩ :: os) ⟨s, bx, X⟩ acc K := Go.Lg.K.move hx (.taken g1 g2) kont
theorem kas {d : Nat} {x : Operand} {ty : TypeId} {pos : String} {after : Array Edge} {lv : LV} (hx : (⟨s, bx, X⟩ : St).ev x = some lv) (kont : RunK P n ops os ⟨(d, lv) :: s, bx, X⟩ (⟨[(d, lv)], [], []⟩ :: acc) K) :
    RunK P n ops (⟨some d, .assign x, ty, pos, after, none⟩ :: os) ⟨s, bx, X⟩ acc K := Go.Lg.K.assign hx .plain kont
theorem kpt {d : Nat} {c x y : Operand} {ty : TypeId} {pos : String} {after : Array Edge} {lv : LV} (hc : (⟨s, bx, X⟩ : St).ev c = some (.sv (.one (.val (.bool true))))) (hx : (⟨s, bx, X⟩ : St).ev x = some lv) (kont : RunK P n ops os ⟨(d, lv) :: s, bx, X⟩ (⟨[(d, lv)], [], []⟩ :: acc) K) :
    RunK P n ops (⟨some d, .pick c x y, ty, pos, after, none⟩ :: os) ⟨s, bx, X⟩ acc K := Go.Lg.K.pickT hc hx .plain kont
theorem kpf {d : Nat} {c x y : Operand} {ty : TypeId} {pos : String} {after : Array Edge} {lv : LV} (hc : (⟨s, bx, X⟩ : St).ev c = some (.sv (.one (.val (.bool false))))) (hy : (⟨s, bx, X⟩ : St).ev y = some lv) (kont : RunK P n ops os ⟨(d, lv) :: s, bx, X⟩ (⟨[(d, lv)], [], []⟩ :: acc) K) :
    RunK P n ops (⟨some d, .pick c x y, ty, pos, after, none⟩ :: os) ⟨s, bx, X⟩ acc K := Go.Lg.K.pickF hc hy .plain kont
theorem kex {s0 : List (Nat × LV)} {d : Nat} {x : Operand} {i : Nat} {ty : TypeId} {pos : String} {after : Array Edge} {l : List SV} {s : SV} (hx : (⟨s0, bx, X⟩ : St).ev x = some (.tup l)) (hi : l[i]? = some s) (kont : RunK P n ops os ⟨(d, .sv s) :: s0, bx, X⟩ (⟨[(d, .sv s)], [], []⟩ :: acc) K) :
    RunK P n ops (⟨some d, .extract x i, ty, pos, after, none⟩ :: os) ⟨s0, bx, X⟩ acc K := Go.Lg.K.extract hx hi .plain kont
theorem kad {d : Nat} {t : TypeId} {t' : TypeId} {x : Operand} {y : Operand} {ty : TypeId} {pos : String} {after : Array Edge} {k : IntKind} {a : Int} {b : Int} {c : Int} (hx : (⟨s, bx, X⟩ : St).ev x = some (.sv (.one (.val (.int k a))))) (hy : (⟨s, bx, X⟩ : St).ev y = some (.sv (.one (.val (.int k b))))) (hc : k.wrap (a + b) = c) (kont : RunK P n ops os ⟨(d, .sv (.one (.val (.int k c)))) :: s, bx, X⟩ (⟨[(d, .sv (.one (.val (.int k c))))], [], []⟩ :: acc) K) :
    RunK P n ops (⟨some d, .binOp .add t x y t', ty, pos, after, none⟩ :: os) ⟨s, bx, X⟩ acc K := Go.Lg.K.add hx hy hc .plain kont
theorem keq {d : Nat} {t : TypeId} {t' : TypeId} {x : Operand} {y : Operand} {ty : TypeId} {pos : String} {after : Array Edge} {k : IntKind} {a : Int} {b : Int} {r : Bool} (hx : (⟨s, bx, X⟩ : St).ev x = some (.sv (.one (.val (.int k a))))) (hy : (⟨s, bx, X⟩ : St).ev y = some (.sv (.one (.val (.int k b))))) (hc : (a == b) = r) (kont : RunK P n ops os ⟨(d, .sv (.one (.val (.bool r)))) :: s, bx, X⟩ (⟨[(d, .sv (.one (.val (.bool r))))], [], []⟩ :: acc) K) :
    RunK P n ops (⟨some d, .binOp .eql t x y t', ty, pos, after, none⟩ :: os) ⟨s, bx, X⟩ acc K := Go.Lg.K.eql hx hy hc .plain kont
theorem kne {d : Nat} {t : TypeId} {t' : TypeId} {x : Operand} {y : Operand} {ty : TypeId} {pos : String} {after : Array Edge} {k : IntKind} {a : Int} {b : Int} {r : Bool} (hx : (⟨s, bx, X⟩ : St).ev x = some (.sv (.one (.val (.int k a))))) (hy : (⟨s, bx, X⟩ : St).ev y = some (.sv (.one (.val (.int k b))))) (hc : (a != b) = r) (kont : RunK P n ops os ⟨(d, .sv (.one (.val (.bool r)))) :: s, bx, X⟩ (⟨[(d, .sv (.one (.val (.bool r))))], [], []⟩ :: acc) K) :
    RunK P n ops (⟨some d, .binOp .neq t x y t', ty, pos, after, none⟩ :: os) ⟨s, bx, X⟩ acc K := Go.Lg.K.neq hx hy hc .plain kont
theorem klt {d : Nat} {t : TypeId} {t' : TypeId} {x : Operand} {y : Operand} {ty : TypeId} {pos : String} {after : Array Edge} {k : IntKind} {a : Int} {b : Int} {r : Bool} (hx : (⟨s, bx, X⟩ : St).ev x = some (.sv (.one (.val (.int k a))))) (hy : (⟨s, bx, X⟩ : St).ev y = some (.sv (.one (.val (.int k b))))) (hc : decide (a < b) = r) (kont : RunK P n ops os ⟨(d, .sv (.one (.val (.bool r)))) :: s, bx, X⟩ (⟨[(d, .sv (.one (.val (.bool r))))], [], []⟩ :: acc) K) :
    RunK P n ops (⟨some d, .binOp .lss t x y t', ty, pos, after, none⟩ :: os) ⟨s, bx, X⟩ acc K := Go.Lg.K.lss hx hy hc .plain kont
theorem kse {d : Nat} {t : TypeId} {t' : TypeId} {x : Operand} {y : Operand} {ty : TypeId} {pos : String} {after : Array Edge} {r : Bool} {p q : ByteArray} (hx : (⟨s, bx, X⟩ : St).ev x = some (.sv (.one (.val (.string p))))) (hy : (⟨s, bx, X⟩ : St).ev y = some (.sv (.one (.val (.string q))))) (hc : (p.toList == q.toList) = r) (kont : RunK P n ops os ⟨(d, .sv (.one (.val (.bool r)))) :: s, bx, X⟩ (⟨[(d, .sv (.one (.val (.bool r))))], [], []⟩ :: acc) K) :
    RunK P n ops (⟨some d, .binOp .eql t x y t', ty, pos, after, none⟩ :: os) ⟨s, bx, X⟩ acc K := Go.Lg.K.strEq hx hy hc .plain kont
theorem kca {d : Nat} {f : FuncId} {args : List Operand} {tys : Array TypeId} {ty : TypeId} {pos : String} {after : Array Edge} {lvs : List LV} {r : LV} (hargs : evs ⟨s, bx, X⟩ args = some lvs) (hcl : lvs.all LV.closed = true) (hs : PSpec P X f lvs r) (kont : RunK P n ops os ⟨(d, r) :: s, bx, X⟩ (⟨[(d, r)], [], []⟩ :: acc) K) :
    RunK P n ops (⟨some d, .call ⟨.value (.func f), args.toArray, tys⟩, ty, pos, after, none⟩ :: os) ⟨s, bx, X⟩ acc K := Go.Lg.K.call hargs hcl hs .plain kont
theorem gca {d : Nat} {f : FuncId} {args : List Operand} {tys : Array TypeId} {ty : TypeId} {pos : String} {after : Array Edge} {lvs : List LV} {r : LV} (hargs : evs ⟨s, bx, X⟩ args = some lvs) (hcl : lvs.all LV.closed = true) (hs : PSpec P X f lvs r) {gj gt : Nat} {gb : Bool} (g1 : (ops[gj]?).bind (·.dst) = some gt) (g2 : look gt s = some (.sv (.one (.val (.bool gb))))) (kont : RunK P n ops os ⟨(d, r) :: s, bx, X⟩ (⟨[(d, r)], [], []⟩ :: acc) K) :
    RunK P n ops (⟨some d, .call ⟨.value (.func f), args.toArray, tys⟩, ty, pos, after, some (gj, gb)⟩ :: os) ⟨s, bx, X⟩ acc K := Go.Lg.K.call hargs hcl hs (.taken g1 g2) kont
theorem kl1 {d : Nat} {t : TypeId} {x : Operand} {ty : TypeId} {pos : String} {after : Array Edge} {k off : Nat} {e : TypeId} {cs : List CV} {row : Bool} {c : CV} [i : OneT P t] (hx : (⟨s, bx, X⟩ : St).ev x = some (.sv (.one (.ptr k off)))) (hk : (⟨s, bx, X⟩ : St).stat k = some (some ⟨e, cs, row⟩)) (hc : cs[off]? = some c) (kont : RunK P n ops os ⟨(d, .sv (.one c)) :: s, bx, X⟩ (⟨[(d, .sv (.one c))], [k], []⟩ :: acc) K) :
    RunK P n ops (⟨some d, .load t x, ty, pos, after, none⟩ :: os) ⟨s, bx, X⟩ acc K := Go.Lg.K.loadOne hx hk hc .plain kont
theorem kfa {d : Nat} {t : TypeId} {x : Operand} {ty : TypeId} {pos : String} {after : Array Edge} {i k off o m : Nat} [f : FieldT P t i o m] (hx : (⟨s, bx, X⟩ : St).ev x = some (.sv (.one (.ptr k off)))) {off' : Nat} (ho : Nat.add off o = off') (kont : RunK P n ops os ⟨(d, .sv (.one (.ptr k off'))) :: s, bx, X⟩ (⟨[(d, .sv (.one (.ptr k off')))], [], []⟩ :: acc) K) :
    RunK P n ops (⟨some d, .fieldAddr t x i, ty, pos, after, none⟩ :: os) ⟨s, bx, X⟩ acc K := Go.Lg.K.fieldAddr hx ho .plain kont
theorem kln {d : Nat} {t : TypeId} {x : Operand} {ty : TypeId} {pos : String} {after : Array Edge} {s0 : List (Nat × LV)} {s : ByteArray} [StrT P t] (hx : (⟨s0, bx, X⟩ : St).ev x = some (.sv (.one (.val (.string s))))) (kont : RunK P n ops os ⟨(d, .sv (.one (.val (.int .i64 s.size)))) :: s0, bx, X⟩ (⟨[(d, .sv (.one (.val (.int .i64 s.size))))], [], []⟩ :: acc) K) :
    RunK P n ops (⟨some d, .call ⟨.builtin .len, #[x], #[t]⟩, ty, pos, after, none⟩ :: os) ⟨s0, bx, X⟩ acc K := Go.Lg.K.lenStr hx .plain kont
theorem kcv {d : Nat} {t : TypeId} {t' : TypeId} {x : Operand} {ty : TypeId} {pos : String} {after : Array Edge} {k k' : IntKind} {a c : Int} {ks : IntKind} [i : IntT P t ks] [i' : IntT P t' k'] (hx : (⟨s, bx, X⟩ : St).ev x = some (.sv (.one (.val (.int k a))))) (hc : k'.wrap a = c) (kont : RunK P n ops os ⟨(d, .sv (.one (.val (.int k' c)))) :: s, bx, X⟩ (⟨[(d, .sv (.one (.val (.int k' c))))], [], []⟩ :: acc) K) :
    RunK P n ops (⟨some d, .convert t t' x, ty, pos, after, none⟩ :: os) ⟨s, bx, X⟩ acc K := Go.Lg.K.conv hx hc .plain kont
end
section
variable {P : Program} {n : Nat} {C : Ctx} {Q : Exit → St → Prop} {σ : St} {id : Nat} {ops : List Oper}
theorem rgN (h : RunK P n ops ops σ [] fun _ σ' => Q .normal σ') (hd : dstsOK n ops = true := by kernel_rfl) : LWP P n C (.region id ops.toArray false) Q σ := LWP.region hd h
theorem rgD (hm : P.follows .mixedOrders = true) (h : RunK P n ops ops σ [] fun es σ' => check ops es = true ∧ Q .normal σ') (hd : dstsOK n ops = true := by kernel_rfl) : LWP P n C (.region id ops.toArray true) Q σ := LWP.draws hm hd h
theorem rgA {a b : Prop} (h : b) (ha : a := by kernel_rfl) : a ∧ b := ⟨ha, h⟩
end
end Go.Lg
end
section
namespace Go.Proofs.YtimpjdbhalnofaaGreatDoor
open Go Go.Lg
theorem mixed : Tryz.prog.follows .mixedOrders = true := by kernel_rfl
instance : OneT Tryz.prog 3 := ⟨by kernel_rfl⟩
instance : IntT Tryz.prog 3 .i64 := ⟨by kernel_rfl⟩
instance : OneT Tryz.prog 4 := ⟨by kernel_rfl⟩
instance : BoolT Tryz.prog 4 := ⟨by kernel_rfl⟩
instance : OneT Tryz.prog 5 := ⟨by kernel_rfl⟩
instance : IntT Tryz.prog 5 .u8 := ⟨by kernel_rfl⟩
instance : OneT Tryz.prog 9 := ⟨by kernel_rfl⟩
instance : StrT Tryz.prog 9 := ⟨by kernel_rfl⟩
instance : SliceT Tryz.prog 22 6 := ⟨by kernel_rfl⟩
instance : OneT Tryz.prog 23 := ⟨by kernel_rfl⟩
instance : SliceT Tryz.prog 23 1 := ⟨by kernel_rfl⟩
instance : SliceT Tryz.prog 26 6 := ⟨by kernel_rfl⟩
instance : OneT Tryz.prog 28 := ⟨by kernel_rfl⟩
instance : IntT Tryz.prog 28 .u64 := ⟨by kernel_rfl⟩
instance : ZeroT Tryz.prog 30 [(.val (.bool false)), (.val (.int .u64 0)), (.val (.int .u64 0))] := ⟨by kernel_rfl⟩
instance : AggT Tryz.prog 30 3 := ⟨by kernel_rfl⟩
instance : FieldT Tryz.prog 30 0 0 0 := ⟨by kernel_rfl⟩
instance : FieldT Tryz.prog 30 1 1 0 := ⟨by kernel_rfl⟩
instance : FieldT Tryz.prog 30 2 2 0 := ⟨by kernel_rfl⟩
instance : StructT Tryz.prog 30 [(.bool false), (.int .u64 0), (.int .u64 0)] [(0, 1), (1, 1), (2, 1)] := ⟨by kernel_rfl⟩
instance : AggT Tryz.prog 35 2 := ⟨by kernel_rfl⟩
instance : FieldT Tryz.prog 35 0 0 0 := ⟨by kernel_rfl⟩
instance : FieldT Tryz.prog 35 1 1 0 := ⟨by kernel_rfl⟩
instance : StructT Tryz.prog 35 [(.slice none 0 0), (.int .i64 0)] [(0, 1), (1, 1)] := ⟨by kernel_rfl⟩
instance : ZeroT Tryz.prog 44 [(.val (.int .i64 0)), (.val (.int .i64 0)), (.val (.int .i64 0)), (.val (.bool false)), (.val (.int .u64 0)), (.val (.int .u64 0))] := ⟨by kernel_rfl⟩
instance : AggT Tryz.prog 44 6 := ⟨by kernel_rfl⟩
instance : FieldT Tryz.prog 44 0 0 0 := ⟨by kernel_rfl⟩
instance : FieldT Tryz.prog 44 1 1 0 := ⟨by kernel_rfl⟩
instance : FieldT Tryz.prog 44 2 2 0 := ⟨by kernel_rfl⟩
instance : FieldT Tryz.prog 44 3 3 2 := ⟨by kernel_rfl⟩
instance : StructT Tryz.prog 44 [(.int .i64 0), (.int .i64 0), (.int .i64 0), (.bool false), (.int .u64 0), (.int .u64 0)] [(0, 1), (1, 1), (2, 1), (3, 3)] := ⟨by kernel_rfl⟩
instance : ZeroT Tryz.prog 54 [(.val (.int .i64 0)), (.val (.int .i64 0)), (.val (.int .i64 0)), (.val (.bool false)), (.val (.int .u64 0)), (.val (.int .u64 0))] := ⟨by kernel_rfl⟩
instance : AggT Tryz.prog 54 6 := ⟨by kernel_rfl⟩
instance : FieldT Tryz.prog 54 0 0 0 := ⟨by kernel_rfl⟩
instance : FieldT Tryz.prog 54 1 1 0 := ⟨by kernel_rfl⟩
instance : FieldT Tryz.prog 54 2 2 0 := ⟨by kernel_rfl⟩
instance : FieldT Tryz.prog 54 3 3 2 := ⟨by kernel_rfl⟩
instance : StructT Tryz.prog 54 [(.int .i64 0), (.int .i64 0), (.int .i64 0), (.bool false), (.int .u64 0), (.int .u64 0)] [(0, 1), (1, 1), (2, 1), (3, 3)] := ⟨by kernel_rfl⟩
instance : OneT Tryz.prog 56 := ⟨by kernel_rfl⟩
instance : SliceT Tryz.prog 56 1 := ⟨by kernel_rfl⟩
instance : SliceT Tryz.prog 58 3 := ⟨by kernel_rfl⟩
instance : IntT Tryz.prog 60 .u64 := ⟨by kernel_rfl⟩
instance : SliceT Tryz.prog 64 6 := ⟨by kernel_rfl⟩
instance : ZeroT Tryz.prog 69 [(.val (.bool false)), (.val (.bool false)), (.val (.bool false))] := ⟨by kernel_rfl⟩
instance : AggT Tryz.prog 69 3 := ⟨by kernel_rfl⟩
instance : FieldT Tryz.prog 69 0 0 0 := ⟨by kernel_rfl⟩
instance : FieldT Tryz.prog 69 1 1 0 := ⟨by kernel_rfl⟩
instance : FieldT Tryz.prog 69 2 2 0 := ⟨by kernel_rfl⟩
instance : StructT Tryz.prog 69 [(.bool false), (.bool false), (.bool false)] [(0, 1), (1, 1), (2, 1)] := ⟨by kernel_rfl⟩
instance : OneT Tryz.prog 71 := ⟨by kernel_rfl⟩
instance : ZeroT Tryz.prog 73 [(.val (.string ⟨#[]⟩)), (.val (.int .i64 0)), (.val (.bool false)), (.val (.bool false)), (.val (.bool false)), (.val (.nilFunc))] := ⟨by kernel_rfl⟩
instance : AggT Tryz.prog 73 6 := ⟨by kernel_rfl⟩
instance : FieldT Tryz.prog 73 0 0 0 := ⟨by kernel_rfl⟩
instance : FieldT Tryz.prog 73 1 1 0 := ⟨by kernel_rfl⟩
instance : FieldT Tryz.prog 73 2 2 2 := ⟨by kernel_rfl⟩
instance : FieldT Tryz.prog 73 3 5 0 := ⟨by kernel_rfl⟩
instance : StructT Tryz.prog 73 [(.string ⟨#[]⟩), (.int .i64 0), (.bool false), (.bool false), (.bool false), (.nilFunc)] [(0, 1), (1, 1), (2, 3), (5, 1)] := ⟨by kernel_rfl⟩
instance : SliceT Tryz.prog 79 1 := ⟨by kernel_rfl⟩
instance : OneT Tryz.prog 84 := ⟨by kernel_rfl⟩
instance : FieldT Tryz.prog 86 0 0 0 := ⟨by kernel_rfl⟩
instance : FieldT Tryz.prog 86 1 1 0 := ⟨by kernel_rfl⟩
instance : StructT Tryz.prog 86 [(.pointer none), (.int .i64 0)] [(0, 1), (1, 1)] := ⟨by kernel_rfl⟩
instance : ZeroT Tryz.prog 100 [(.val (.int .u64 0)), (.val (.int .u64 0))] := ⟨by kernel_rfl⟩
instance : AggT Tryz.prog 100 2 := ⟨by kernel_rfl⟩
instance : FieldT Tryz.prog 100 0 0 0 := ⟨by kernel_rfl⟩
instance : FieldT Tryz.prog 100 1 1 0 := ⟨by kernel_rfl⟩
instance : StructT Tryz.prog 100 [(.int .u64 0), (.int .u64 0)] [(0, 1), (1, 1)] := ⟨by kernel_rfl⟩
instance : SliceT Tryz.prog 114 1 := ⟨by kernel_rfl⟩
instance : ZeroT Tryz.prog 117 (List.replicate 18 (.val (.int .i64 0))) := ⟨by kernel_rfl⟩
instance : AggT Tryz.prog 117 18 := ⟨by kernel_rfl⟩
instance : ArrT Tryz.prog 117 18 1 := ⟨by kernel_rfl⟩
instance : ZeroT Tryz.prog 121 (List.replicate 18 (.val (.string ⟨#[]⟩))) := ⟨by kernel_rfl⟩
instance : AggT Tryz.prog 121 18 := ⟨by kernel_rfl⟩
instance : ArrT Tryz.prog 121 18 1 := ⟨by kernel_rfl⟩
instance : FieldT Tryz.prog 125 0 0 0 := ⟨by kernel_rfl⟩
instance : StructT Tryz.prog 125 [(.slice none 0 0)] [(0, 1)] := ⟨by kernel_rfl⟩
instance : FieldT Tryz.prog 127 0 0 0 := ⟨by kernel_rfl⟩
instance : FieldT Tryz.prog 127 1 1 0 := ⟨by kernel_rfl⟩
instance : StructT Tryz.prog 127 [(.string ⟨#[]⟩), (.bool false)] [(0, 1), (1, 1)] := ⟨by kernel_rfl⟩
instance : AggT Tryz.prog 158 40 := ⟨by kernel_rfl⟩
instance : ArrT Tryz.prog 158 40 1 := ⟨by kernel_rfl⟩
instance : ZeroT Tryz.prog 160 ([(.val (.bool false))] ++ List.replicate 40 (.val (.int .i64 0))) := ⟨by kernel_rfl⟩
instance : AggT Tryz.prog 160 41 := ⟨by kernel_rfl⟩
instance : FieldT Tryz.prog 160 0 0 0 := ⟨by kernel_rfl⟩
instance : FieldT Tryz.prog 160 1 1 39 := ⟨by kernel_rfl⟩
instance : StructT Tryz.prog 160 ([(.bool false)] ++ List.replicate 40 (.int .i64 0)) [(0, 1), (1, 40)] := ⟨by kernel_rfl⟩
end Go.Proofs.YtimpjdbhalnofaaGreatDoor
end
section
namespace Go.Lg
open Go Go.RowKit
theorem strs_eq {p q : ByteArray} {r : Bool} (h : (p.data.toList == q.data.toList) = r) : (p.toList == q.toList) = r := by rw [ByteArray.toList_eq, ByteArray.toList_eq, h]
theorem strs_ne {p q : ByteArray} {r : Bool} (h : (!(p.data.toList == q.data.toList)) = r) : (!(p.toList == q.toList)) = r := by rw [ByteArray.toList_eq, ByteArray.toList_eq, h]
theorem str_at {l : List UInt8} {i : Nat} {b : UInt8} (h : l[i]? = some b) : (⟨l.toArray⟩ : ByteArray)[i]? = some b := by
  obtain ⟨hi, h⟩ := List.getElem?_eq_some_iff.1 h
  have hs : i < (⟨l.toArray⟩ : ByteArray).size := by simpa [ByteArray.size] using hi
  rw [getElem?_pos _ i hs]
  exact congrArg some h
theorem str_add (a b : List UInt8) : (⟨a.toArray⟩ : ByteArray) ++ ⟨b.toArray⟩ = ⟨(a ++ b).toArray⟩ := by
  apply ByteArray.ext
  rw [ByteArray.data_append]
  simp
theorem str_cut (l : List UInt8) (a b : Nat) : (⟨l.toArray⟩ : ByteArray).extract a b = ⟨((l.drop a).take (b - a)).toArray⟩ := by
  apply ByteArray.ext
  apply Array.ext'
  rw [Lib.extract_data]
theorem ev_bool {b c : Bool} (h : b = c) : some (LV.sv (.one (.val (.bool b)))) = some (LV.sv (.one (.val (.bool c)))) := by rw [h]
end Go.Lg
namespace Go.Proofs.YtimpjdbhalnofaaGreatDoor
open Go Go.Lg
abbrev Lb (b : Bool) : LV := .sv (.one (.val (.bool b)))
abbrev Ln (k : IntKind) (n : Int) : LV := .sv (.one (.val (.int k n)))
abbrev Ls (l : List UInt8) : LV := .sv (.one (.val (.string ⟨l.toArray⟩)))
abbrev Sb (b : Bool) : SV := .one (.val (.bool b))
abbrev Sn (k : IntKind) (n : Int) : SV := .one (.val (.int k n))
abbrev Ss (l : List UInt8) : SV := .one (.val (.string ⟨l.toArray⟩))
abbrev Lp (k : Nat) : LV := .sv (.one (.ptr k 0))
abbrev vs (l : List UInt8) : CV := .val (.string ⟨l.toArray⟩)
end Go.Proofs.YtimpjdbhalnofaaGreatDoor
end
section
namespace Go.Proofs.YtimpjdbhalnofaaGreatDoor
open Go Go.Lg
abbrev Li (b : Bool) (h l : Int) : LV := .sv (.agg [.val (.bool b), .val (.int .u64 h), .val (.int .u64 l)])
abbrev Lz (h l : Int) : LV := .sv (.agg [.val (.int .u64 h), .val (.int .u64 l)])
abbrev LI (b : Bool) (N : Int) : LV := Li b (N / 18446744073709551616) (N % 18446744073709551616)
abbrev LZ (N : Int) : LV := Lz (N / 18446744073709551616) (N % 18446744073709551616)
abbrev SZ (N : Int) : SV := .agg [.val (.int .u64 (N / 18446744073709551616)), .val (.int .u64 (N % 18446744073709551616))]
abbrev SI (b : Bool) (N : Int) : SV := .agg [.val (.bool b), .val (.int .u64 (N / 18446744073709551616)), .val (.int .u64 (N % 18446744073709551616))]
def In2 (N : Int) : Prop := 0 ≤ N ∧ N < 340282366920938463463374607431768211456
variable (X : Nat → Option Obj)
theorem sizeOf_spec (b : Bool) (h l : Int) : PSpec Tryz.prog X 50 [Li b h l] (Lz h l) := by
  refine PSpec.intro Tryz.func50 rfl (by kernel_rfl) rfl rfl ?_
  intro C
  (refine LWP.seq <| rgN <| K.box rfl rfl rfl .plain <| K.alloc rfl .plain ?_; refine RunK.nil <| LWP.seq <| rgN <| kfa rfl rfl ?_; refine kl1 rfl rfl rfl <| kfa rfl rfl ?_; refine kl1 rfl rfl rfl <| K.build rfl rfl (by exact rfl) (by exact nl2 rfl rfl rfl) .plain ?_; refine K.storeAll rfl rfl rfl rfl rfl rfl .plain ?_; refine RunK.nil <| LWP.ret ?_)
  exact ⟨[_], ⟨⟨_, _, rfl, rfl, rfl, .inl ⟨AggT.h, rfl⟩⟩, trivial⟩, rfl⟩
theorem zero_spec (N : Int) (hN : In2 N) (r : Bool) (hr : (N == 0) = r) : PSpec Tryz.prog X 64 [LZ N] (Lb r) := by
  subst hr
  obtain ⟨h0, h1⟩ := hN
  refine PSpec.intro Tryz.func64 rfl (by kernel_rfl) rfl rfl ?_
  intro C
  by_cases ha : N / 18446744073709551616 = 0
  · by_cases hb : N % 18446744073709551616 = 0
    · (refine LWP.seq <| rgN <| K.box rfl rfl rfl .plain <| kas rfl <| RunK.nil <| LWP.seq <| rgN <| kfa rfl rfl ?_; refine kl1 rfl rfl rfl <| keq rfl rfl (beq_iff_eq.2 (by omega)) <| kmv rfl <| K.fieldAddr rfl rfl (.taken rfl rfl) ?_; refine K.loadOne rfl rfl rfl (.taken rfl rfl) ?_; refine K.eql rfl rfl (beq_iff_eq.2 (by omega)) (.taken rfl rfl) ?_; refine kpt rfl rfl <| kas rfl <| RunK.nil <| LWP.ret ?_)
      exact ⟨[_], ⟨rfl, trivial⟩, by rw [show (N == 0) = true from beq_iff_eq.2 (by omega)]; rfl⟩
    · (refine LWP.seq <| rgN <| K.box rfl rfl rfl .plain <| kas rfl <| RunK.nil <| LWP.seq <| rgN <| kfa rfl rfl ?_; refine kl1 rfl rfl rfl <| keq rfl rfl (beq_iff_eq.2 (by omega)) <| kmv rfl <| K.fieldAddr rfl rfl (.taken rfl rfl) ?_; refine K.loadOne rfl rfl rfl (.taken rfl rfl) ?_; refine K.eql rfl rfl (beq_eq_false_iff_ne.2 (by omega)) (.taken rfl rfl) ?_; refine kpt rfl rfl <| kas rfl <| RunK.nil <| LWP.ret ?_)
      exact ⟨[_], ⟨rfl, trivial⟩, by rw [show (N == 0) = false from beq_eq_false_iff_ne.2 (by omega)]; rfl⟩
  · (refine LWP.seq <| rgN <| K.box rfl rfl rfl .plain <| kas rfl <| RunK.nil <| LWP.seq <| rgN <| kfa rfl rfl ?_; refine kl1 rfl rfl rfl <| keq rfl rfl (beq_eq_false_iff_ne.2 (by omega)) <| kmv rfl <| RunK.passed rfl rfl rfl <| RunK.passed rfl rfl rfl <| RunK.passed rfl rfl rfl <| kpf rfl rfl <| kas rfl <| RunK.nil <| LWP.ret ?_)
    exact ⟨[_], ⟨rfl, trivial⟩, by rw [show (N == 0) = false from beq_eq_false_iff_ne.2 (by omega)]; rfl⟩
theorem fits_spec (N : Int) (hN : In2 N) (r : Bool) (hr : decide (N < 170141183460469231731687303715884105728) = r) : PSpec Tryz.prog X 63 [LZ N] (Lb r) := by
  subst hr
  obtain ⟨h0, h1⟩ := hN
  refine PSpec.intro Tryz.func63 rfl (by kernel_rfl) rfl rfl ?_
  intro C
  (refine LWP.seq <| rgN <| K.box rfl rfl rfl .plain <| kas rfl <| RunK.nil <| LWP.seq <| rgN <| kfa rfl rfl ?_; refine kl1 rfl rfl rfl <| klt rfl rfl rfl <| kas rfl <| RunK.nil <| LWP.ret ?_)
  exact ⟨[_], ⟨rfl, trivial⟩, by rw [decide_eq_decide.2 (show (N / 18446744073709551616 < 9223372036854775808) ↔ N < 170141183460469231731687303715884105728 by omega)]; rfl⟩
def formB (b : Bool) (N : Int) : Bool := decide (N < 170141183460469231731687303715884105728) && !(b && N == 0)
theorem Form_spec (b : Bool) (N : Int) (hN : In2 N) (r : Bool) (hr : formB b N = r) : PSpec Tryz.prog X 31 [LI b N] (Lb r) := by
  subst hr
  refine PSpec.intro Tryz.func31 rfl (by kernel_rfl) rfl rfl ?_
  intro C
  cases b
  · (refine LWP.seq <| rgN <| K.box rfl rfl rfl .plain <| kas rfl <| RunK.nil <| LWP.seq <| LWP.seq <| rgN <| kfa rfl rfl ?_; refine kl1 rfl rfl rfl <| RunK.nil <| LWP.condF rfl ?_; refine LWP.skip ?_; refine LWP.seq <| rgN <| K.loadAll rfl rfl rfl .plain ?_; refine kca rfl rfl (sizeOf_spec _ _ _ _) <| kca rfl rfl (fits_spec _ _ hN _ rfl) <| kas rfl <| RunK.nil <| LWP.ret ?_)
    exact ⟨[_], ⟨rfl, trivial⟩, by simp [formB, resOf]⟩
  · by_cases hf : N < 170141183460469231731687303715884105728
    · (refine LWP.seq <| rgN <| K.box rfl rfl rfl .plain <| kas rfl <| RunK.nil <| LWP.seq <| LWP.seq <| rgN <| kfa rfl rfl ?_; refine kl1 rfl rfl rfl <| RunK.nil <| LWP.condT rfl ?_; refine LWP.seq <| rgN <| K.loadAll rfl rfl rfl .plain ?_; refine kca rfl rfl (sizeOf_spec _ _ _ _) <| kca rfl rfl (fits_spec _ _ hN true (decide_eq_true hf)) <| kmv rfl <| K.loadAll rfl rfl rfl (.taken rfl rfl) ?_; refine gca rfl rfl (sizeOf_spec _ _ _ _) rfl rfl <| gca rfl rfl (zero_spec _ _ hN _ rfl) rfl rfl <| K.not rfl rfl (.taken rfl rfl) ?_; refine kpt rfl rfl <| kas rfl <| RunK.nil <| LWP.ret ?_)
      exact ⟨[_], ⟨rfl, trivial⟩, by simp [formB, resOf, hf]⟩
    · (refine LWP.seq <| rgN <| K.box rfl rfl rfl .plain <| kas rfl <| RunK.nil <| LWP.seq <| LWP.seq <| rgN <| kfa rfl rfl ?_; refine kl1 rfl rfl rfl <| RunK.nil <| LWP.condT rfl ?_; refine LWP.seq <| rgN <| K.loadAll rfl rfl rfl .plain ?_; refine kca rfl rfl (sizeOf_spec _ _ _ _) <| kca rfl rfl (fits_spec _ _ hN false (decide_eq_false hf)) <| kmv rfl <| RunK.passed rfl rfl rfl <| RunK.passed rfl rfl rfl <| RunK.passed rfl rfl rfl <| RunK.passed rfl rfl rfl <| kpf rfl rfl <| kas rfl <| RunK.nil <| LWP.ret ?_)
      exact ⟨[_], ⟨rfl, trivial⟩, by simp [formB, resOf, hf]⟩
end Go.Proofs.YtimpjdbhalnofaaGreatDoor
end
section
namespace Go.Proofs.YtimpjdbhalnofaaGreatDoor
open Go Go.Lg
variable (X : Nat → Option Obj)
theorem add64 {x y c : Int} (hb : 0 ≤ x ∧ 0 ≤ y ∧ 0 ≤ c ∧ c ≤ 1) {s t : Int} (hs : (x + y + c) % 18446744073709551616 = s) (ht : (x + y + c) / 18446744073709551616 = t) :
    NSpec Tryz.prog 78 [.int .u64 x, .int .u64 y, .int .u64 c] (.tuple #[.int .u64 s, .int .u64 t]) :=
  NSpec.add64 Tryz.func78 (by kernel_rfl) (by kernel_rfl) (by kernel_rfl) (by kernel_rfl) x y c hb hs ht
theorem sub64 {x y c : Int} (hb : 0 ≤ x ∧ 0 ≤ y ∧ 0 ≤ c ∧ c ≤ 1 ∧ y ≤ 18446744073709551615) {s t : Int} (hs : (x - y - c) % 18446744073709551616 = s) (ht : (if x < y + c then 1 else 0) = t) :
    NSpec Tryz.prog 80 [.int .u64 x, .int .u64 y, .int .u64 c] (.tuple #[.int .u64 s, .int .u64 t]) :=
  NSpec.sub64 Tryz.func80 (by kernel_rfl) (by kernel_rfl) (by kernel_rfl) (by kernel_rfl) x y c hb hs ht
theorem bothForm_spec (b c : Bool) (M N : Int) (hM : In2 M) (hN : In2 N) (r : Bool) (hr : (formB b M && formB c N) = r) : PSpec Tryz.prog X 49 [LI b M, LI c N] (Lb r) := by
  subst hr
  refine PSpec.intro Tryz.func49 rfl (by kernel_rfl) rfl rfl ?_
  intro C
  cases h1 : formB b M
  · (refine LWP.seq <| rgN <| K.box rfl rfl rfl .plain <| K.box rfl rfl rfl .plain <| kas rfl <| RunK.nil <| LWP.seq <| rgN <| K.loadAll rfl rfl rfl .plain ?_; refine kca rfl rfl (Form_spec _ _ _ hM _ h1) <| kmv rfl <| RunK.passed rfl rfl rfl <| RunK.passed rfl rfl rfl <| kpf rfl rfl <| kas rfl <| RunK.nil <| LWP.ret ?_)
    exact ⟨[_], ⟨rfl, trivial⟩, by simp [resOf]⟩
  · (refine LWP.seq <| rgN <| K.box rfl rfl rfl .plain <| K.box rfl rfl rfl .plain <| kas rfl <| RunK.nil <| LWP.seq <| rgN <| K.loadAll rfl rfl rfl .plain ?_; refine kca rfl rfl (Form_spec _ _ _ hM _ h1) <| kmv rfl <| K.loadAll rfl rfl rfl (.taken rfl rfl) ?_; refine gca rfl rfl (Form_spec _ _ _ hN _ rfl) rfl rfl <| kpt rfl rfl <| kas rfl <| RunK.nil <| LWP.ret ?_)
    exact ⟨[_], ⟨rfl, trivial⟩, by simp [resOf]⟩
def sg (b : Bool) (N : Int) : Bool := b && !(N == 0)
theorem number_spec (b : Bool) (N : Int) (hN : In2 N) (r : Bool) (hr : sg b N = r) : PSpec Tryz.prog X 54 [Lb b, LZ N] (LI r N) := by
  subst hr
  refine PSpec.intro Tryz.func54 rfl (by kernel_rfl) rfl rfl ?_
  intro C
  cases b
  · (refine LWP.seq <| rgN <| K.box rfl rfl rfl .plain <| K.alloc rfl .plain ?_; refine RunK.nil <| LWP.seq <| rgD mixed <| kmv rfl <| kmv rfl <| RunK.passed rfl rfl rfl <| RunK.passed rfl rfl rfl <| RunK.passed rfl rfl rfl <| kpf rfl rfl <| kfa rfl rfl ?_; refine kl1 rfl rfl rfl <| kfa rfl rfl ?_; refine kl1 rfl rfl rfl <| K.build rfl rfl (by exact rfl) (by exact nl3 rfl rfl rfl rfl) .plain ?_; refine K.storeAll rfl rfl rfl rfl rfl rfl .plain ?_; refine RunK.nil <| rgA ?_; refine LWP.ret ?_)
    exact ⟨[_], ⟨⟨_, _, rfl, rfl, rfl, .inl ⟨AggT.h, rfl⟩⟩, trivial⟩, rfl⟩
  · (refine LWP.seq <| rgN <| K.box rfl rfl rfl .plain <| K.alloc rfl .plain ?_; refine RunK.nil <| LWP.seq <| rgD mixed <| kmv rfl <| kmv rfl <| K.loadAll rfl rfl rfl (.taken rfl rfl) ?_; refine gca rfl rfl (zero_spec _ _ hN _ rfl) rfl rfl <| K.not rfl rfl (.taken rfl rfl) ?_; refine kpt rfl rfl <| kfa rfl rfl ?_; refine kl1 rfl rfl rfl <| kfa rfl rfl ?_; refine kl1 rfl rfl rfl <| K.build rfl rfl (by exact rfl) (by exact nl3 rfl rfl rfl rfl) .plain ?_; refine K.storeAll rfl rfl rfl rfl rfl rfl .plain ?_; refine RunK.nil <| rgA ?_; refine LWP.ret ?_)
    exact ⟨[_], ⟨⟨_, _, rfl, rfl, rfl, .inl ⟨AggT.h, rfl⟩⟩, trivial⟩, rfl⟩
theorem plus_spec (M N : Int) (hM : In2 M) (hN : In2 N) (hS : In2 (M + N)) : PSpec Tryz.prog X 52 [LZ M, LZ N] (LZ (M + N)) := by
  unfold In2 at *
  refine PSpec.intro Tryz.func52 rfl (by kernel_rfl) rfl rfl ?_
  intro C
  (refine LWP.seq <| rgN <| K.box rfl rfl rfl .plain <| K.box rfl rfl rfl .plain <| K.alloc rfl .plain ?_; refine RunK.nil <| LWP.seq <| rgN <| kfa rfl rfl ?_; refine kl1 rfl rfl rfl <| kfa rfl rfl ?_; refine kl1 rfl rfl rfl <| K.callN rfl rfl (add64 (s := (M + N) % 18446744073709551616) (t := (M % 18446744073709551616 + N % 18446744073709551616) / 18446744073709551616) (by omega) (by omega) (by omega)) rfl .plain <| kmv rfl <| kex rfl rfl <| kex rfl rfl <| kas rfl <| kas rfl <| RunK.nil <| LWP.seq <| rgN <| kfa rfl rfl ?_; refine kl1 rfl rfl rfl <| kfa rfl rfl ?_; refine kl1 rfl rfl rfl <| kmv rfl <| K.callN rfl rfl (add64 (s := (M + N) / 18446744073709551616) (t := 0) (by omega) (by omega) (by omega)) rfl .plain <| kmv rfl <| kex rfl rfl <| kex rfl rfl <| kas rfl <| kas rfl <| RunK.nil <| LWP.seq <| rgN <| kmv rfl <| kmv rfl <| K.build rfl rfl (by exact rfl) (by exact nl2 rfl rfl rfl) .plain ?_; refine K.storeAll rfl rfl rfl rfl rfl rfl .plain ?_; refine RunK.nil <| LWP.ret ?_)
  exact ⟨[_], ⟨⟨_, _, rfl, rfl, rfl, .inl ⟨AggT.h, rfl⟩⟩, trivial⟩, rfl⟩
theorem minus_spec (M N : Int) (hM : In2 M) (hN : In2 N) (hS : N ≤ M) : PSpec Tryz.prog X 55 [LZ M, LZ N] (LZ (M - N)) := by
  unfold In2 at *
  refine PSpec.intro Tryz.func55 rfl (by kernel_rfl) rfl rfl ?_
  intro C
  (refine LWP.seq <| rgN <| K.box rfl rfl rfl .plain <| K.box rfl rfl rfl .plain <| K.alloc rfl .plain ?_; refine RunK.nil <| LWP.seq <| rgN <| kfa rfl rfl ?_; refine kl1 rfl rfl rfl <| kfa rfl rfl ?_; refine kl1 rfl rfl rfl <| K.callN rfl rfl (sub64 (s := (M - N) % 18446744073709551616) (t := (if M % 18446744073709551616 < N % 18446744073709551616 then 1 else 0)) (by omega) (by omega) (by simp)) rfl .plain <| kmv rfl <| kex rfl rfl <| kex rfl rfl <| kas rfl <| kas rfl <| RunK.nil <| LWP.seq <| rgN <| kfa rfl rfl ?_; refine kl1 rfl rfl rfl <| kfa rfl rfl ?_; refine kl1 rfl rfl rfl <| kmv rfl <| K.callN rfl rfl (sub64 (s := (M - N) / 18446744073709551616) (t := 0) (by omega) (by omega) (by omega)) rfl .plain <| kmv rfl <| kex rfl rfl <| kex rfl rfl <| kas rfl <| kas rfl <| RunK.nil <| LWP.seq <| rgN <| kmv rfl <| kmv rfl <| K.build rfl rfl (by exact rfl) (by exact nl2 rfl rfl rfl) .plain ?_; refine K.storeAll rfl rfl rfl rfl rfl rfl .plain ?_; refine RunK.nil <| LWP.ret ?_)
  exact ⟨[_], ⟨⟨_, _, rfl, rfl, rfl, .inl ⟨AggT.h, rfl⟩⟩, trivial⟩, rfl⟩
end Go.Proofs.YtimpjdbhalnofaaGreatDoor
end
section
namespace Go.Proofs.YtimpjdbhalnofaaGreatDoor
open Go Go.Lg
variable (X : Nat → Option Obj)
theorem isNaN_spec (a : Int) : PSpec Tryz.prog X 117 [Ln .u64 a] (Lb false) := by
  refine PSpec.intro Tryz.func117 rfl (by kernel_rfl) rfl rfl ?_
  intro C
  (refine LWP.seq <| rgN <| kas rfl <| RunK.nil <| LWP.seq <| rgN <| kmv rfl <| kmv rfl <| kne rfl rfl ((bne_eq_false_iff_eq.2 (by omega))) <| kas rfl <| RunK.nil <| LWP.ret ?_)
  exact ⟨[_], ⟨rfl, trivial⟩, rfl⟩
def cmpI (a b : Int) : Int := if a < b then -1 else if b < a then 1 else 0
theorem Compare_spec (a b : Int) (r : Int) (hr : cmpI a b = r) : PSpec Tryz.prog X 79 [Ln .u64 a, Ln .u64 b] (Ln .i64 r) := by
  subst hr
  refine PSpec.intro Tryz.func79 rfl (by kernel_rfl) rfl rfl ?_
  intro C
  by_cases h : a < b
  · (refine LWP.seq <| rgN <| kas rfl <| RunK.nil <| LWP.seq <| rgN <| kmv rfl <| kca rfl rfl (isNaN_spec _ _) <| kas rfl <| RunK.nil <| LWP.seq <| rgN <| kmv rfl <| kca rfl rfl (isNaN_spec _ _) ?_; refine kas rfl <| RunK.nil <| LWP.seq <| LWP.seq <| rgN <| kmv rfl <| RunK.nil <| LWP.condF rfl ?_; refine LWP.skip ?_; refine LWP.seq <| LWP.seq <| rgN <| kmv rfl <| RunK.nil <| LWP.condF rfl ?_; refine LWP.skip ?_; refine LWP.seq <| LWP.seq <| rgN <| kmv rfl <| kmv rfl <| klt rfl rfl (decide_eq_true (by omega)) <| RunK.nil <| LWP.condT rfl ?_; refine LWP.seq <| rgN <| kas rfl <| RunK.nil <| LWP.ret ?_)
    exact ⟨[_], ⟨rfl, trivial⟩, by simp [cmpI, h, resOf]⟩
  · by_cases h' : b < a
    · (refine LWP.seq <| rgN <| kas rfl <| RunK.nil <| LWP.seq <| rgN <| kmv rfl <| kca rfl rfl (isNaN_spec _ _) <| kas rfl <| RunK.nil <| LWP.seq <| rgN <| kmv rfl <| kca rfl rfl (isNaN_spec _ _) ?_; refine kas rfl <| RunK.nil <| LWP.seq <| LWP.seq <| rgN <| kmv rfl <| RunK.nil <| LWP.condF rfl ?_; refine LWP.skip ?_; refine LWP.seq <| LWP.seq <| rgN <| kmv rfl <| RunK.nil <| LWP.condF rfl ?_; refine LWP.skip ?_; refine LWP.seq <| LWP.seq <| rgN <| kmv rfl <| kmv rfl <| klt rfl rfl (decide_eq_false (by omega)) <| RunK.nil <| LWP.condF rfl ?_; refine LWP.skip ?_; refine LWP.seq <| LWP.seq <| rgN <| kmv rfl <| kmv rfl <| K.gtr rfl rfl (decide_eq_true (by omega)) .plain <| RunK.nil <| LWP.condT rfl ?_; refine LWP.seq <| rgN <| kas rfl <| RunK.nil <| LWP.ret ?_)
      exact ⟨[_], ⟨rfl, trivial⟩, by simp [cmpI, h, h', resOf]⟩
    · (refine LWP.seq <| rgN <| kas rfl <| RunK.nil <| LWP.seq <| rgN <| kmv rfl <| kca rfl rfl (isNaN_spec _ _) <| kas rfl <| RunK.nil <| LWP.seq <| rgN <| kmv rfl <| kca rfl rfl (isNaN_spec _ _) ?_; refine kas rfl <| RunK.nil <| LWP.seq <| LWP.seq <| rgN <| kmv rfl <| RunK.nil <| LWP.condF rfl ?_; refine LWP.skip ?_; refine LWP.seq <| LWP.seq <| rgN <| kmv rfl <| RunK.nil <| LWP.condF rfl ?_; refine LWP.skip ?_; refine LWP.seq <| LWP.seq <| rgN <| kmv rfl <| kmv rfl <| klt rfl rfl (decide_eq_false (by omega)) <| RunK.nil <| LWP.condF rfl ?_; refine LWP.skip ?_; refine LWP.seq <| LWP.seq <| rgN <| kmv rfl <| kmv rfl <| K.gtr rfl rfl (decide_eq_false (by omega)) .plain <| RunK.nil <| LWP.condF rfl ?_; refine LWP.skip ?_; refine LWP.seq <| rgN <| kas rfl <| RunK.nil <| LWP.ret ?_)
      exact ⟨[_], ⟨rfl, trivial⟩, by simp [cmpI, h, h', resOf]⟩
theorem compare_spec (M N : Int) (r : Int) (hr : cmpI M N = r) : PSpec Tryz.prog X 53 [LZ M, LZ N] (Ln .i64 r) := by
  refine PSpec.intro Tryz.func53 rfl (by kernel_rfl) rfl rfl ?_
  intro C
  by_cases h : M / 18446744073709551616 = N / 18446744073709551616
  · (refine LWP.seq <| rgN <| K.box rfl rfl rfl .plain <| K.box rfl rfl rfl .plain <| kas rfl <| RunK.nil <| LWP.seq <| LWP.seq <| rgN <| kfa rfl rfl ?_; refine kl1 rfl rfl rfl <| kfa rfl rfl ?_; refine kl1 rfl rfl rfl <| kne rfl rfl ((bne_eq_false_iff_eq.2 (by omega))) <| RunK.nil <| LWP.condF rfl ?_; refine LWP.skip ?_; refine LWP.seq <| rgN <| kfa rfl rfl ?_; refine kl1 rfl rfl rfl <| kfa rfl rfl ?_; refine kl1 rfl rfl rfl <| kca rfl rfl (Compare_spec _ _ _ r (by subst hr; unfold cmpI; (repeat' split) <;> omega)) <| kas rfl <| RunK.nil <| LWP.ret ?_)
    exact ⟨[_], ⟨rfl, trivial⟩, rfl⟩
  · (refine LWP.seq <| rgN <| K.box rfl rfl rfl .plain <| K.box rfl rfl rfl .plain <| kas rfl <| RunK.nil <| LWP.seq <| LWP.seq <| rgN <| kfa rfl rfl ?_; refine kl1 rfl rfl rfl <| kfa rfl rfl ?_; refine kl1 rfl rfl rfl <| kne rfl rfl (bne_iff_ne.2 (by omega)) <| RunK.nil <| LWP.condT rfl ?_; refine LWP.seq <| rgN <| kfa rfl rfl ?_; refine kl1 rfl rfl rfl <| kfa rfl rfl ?_; refine kl1 rfl rfl rfl <| kca rfl rfl (Compare_spec _ _ _ r (by subst hr; unfold cmpI; (repeat' split) <;> omega)) <| kas rfl <| RunK.nil <| LWP.ret ?_)
    exact ⟨[_], ⟨rfl, trivial⟩, rfl⟩
abbrev S0 : SV := .agg [.val (.bool false), .val (.int .u64 0), .val (.int .u64 0)]
theorem bounded_ok (b : Bool) (S : Int) (hS : 0 ≤ S ∧ S < 170141183460469231731687303715884105728) (r : Bool) (hr : sg b S = r) : PSpec Tryz.prog X 51 [Lb b, LZ S] (.tup [SI r S, Sn .i64 0]) := by
  have h2 : In2 S := ⟨hS.1, by omega⟩
  refine PSpec.intro Tryz.func51 rfl (by kernel_rfl) rfl rfl ?_
  intro C
  (refine LWP.seq <| rgN <| K.box rfl rfl rfl .plain <| K.alloc rfl .plain ?_; refine kas rfl <| RunK.nil <| LWP.seq <| LWP.seq <| rgN <| K.loadAll rfl rfl rfl .plain ?_; refine kca rfl rfl (fits_spec _ _ h2 true (decide_eq_true (by omega))) <| K.not rfl rfl .plain <| RunK.nil <| LWP.condF rfl ?_; refine LWP.skip ?_; refine LWP.seq <| rgN <| kmv rfl <| K.loadAll rfl rfl rfl .plain ?_; refine kca rfl rfl (number_spec _ _ _ h2 _ hr) <| K.storeAll rfl rfl rfl rfl rfl rfl .plain ?_; refine kas rfl <| RunK.nil <| LWP.ret ?_)
  exact ⟨[_, _], ⟨⟨_, _, rfl, rfl, rfl, .inl ⟨AggT.h, rfl⟩⟩, rfl, trivial⟩, rfl⟩
theorem bounded_no (b : Bool) (S : Int) (hS : 170141183460469231731687303715884105728 ≤ S) (h2 : In2 S) : PSpec Tryz.prog X 51 [Lb b, LZ S] (.tup [S0, Sn .i64 3]) := by
  refine PSpec.intro Tryz.func51 rfl (by kernel_rfl) rfl rfl ?_
  intro C
  (refine LWP.seq <| rgN <| K.box rfl rfl rfl .plain <| K.alloc rfl .plain ?_; refine kas rfl <| RunK.nil <| LWP.seq <| LWP.seq <| rgN <| K.loadAll rfl rfl rfl .plain ?_; refine kca rfl rfl (fits_spec _ _ h2 false (decide_eq_false (by omega))) <| K.not rfl rfl .plain <| RunK.nil <| LWP.condT rfl ?_; refine LWP.seq <| rgN <| K.build rfl rfl (by exact rfl) (by exact nl3 rfl rfl rfl rfl) .plain ?_; refine K.storeAll rfl rfl rfl rfl rfl rfl .plain ?_; refine kas rfl <| RunK.nil <| LWP.ret ?_)
  exact ⟨[_, _], ⟨⟨_, _, rfl, rfl, rfl, .inl ⟨AggT.h, rfl⟩⟩, rfl, trivial⟩, rfl⟩
def Lim (N : Int) : Prop := 0 ≤ N ∧ N < 170141183460469231731687303715884105728
theorem formB_lim {b : Bool} {N : Int} (hN : In2 N) (h : formB b N = true) : Lim N ∧ (b = true → N ≠ 0) := by
  simp only [formB, Bool.and_eq_true, decide_eq_true_eq, Bool.not_eq_true', Bool.and_eq_false_iff, beq_eq_false_iff_ne] at h
  refine ⟨⟨hN.1, h.1⟩, fun hb => ?_⟩
  rcases h.2 with h2 | h2
  · rw [hb] at h2; simp at h2
  · exact h2
theorem Add_arg (b c : Bool) (M N : Int) (hM : In2 M) (hN : In2 N) (hf : (formB b M && formB c N) = false) : PSpec Tryz.prog X 22 [LI b M, LI c N] (.tup [S0, Sn .i64 1]) := by
  refine PSpec.intro Tryz.func22 rfl (by kernel_rfl) rfl rfl ?_
  intro C
  (refine LWP.seq <| rgN <| K.box rfl rfl rfl .plain <| K.box rfl rfl rfl .plain <| K.alloc rfl .plain ?_; refine kas rfl <| RunK.nil <| LWP.seq <| LWP.seq <| rgN <| K.loadAll rfl rfl rfl .plain ?_; refine K.loadAll rfl rfl rfl .plain ?_; refine kca rfl rfl (bothForm_spec _ _ _ _ _ hM hN _ hf) <| K.not rfl rfl .plain <| RunK.nil <| LWP.condT rfl ?_; refine LWP.seq <| rgN <| K.build rfl rfl (by exact rfl) (by exact nl3 rfl rfl rfl rfl) .plain ?_; refine K.storeAll rfl rfl rfl rfl rfl rfl .plain ?_; refine kas rfl <| RunK.nil <| LWP.ret ?_)
  exact ⟨[_, _], ⟨⟨_, _, rfl, rfl, rfl, .inl ⟨AggT.h, rfl⟩⟩, rfl, trivial⟩, rfl⟩
theorem Add_same (b : Bool) (M N : Int) (hM : In2 M) (hN : In2 N) (hf : (formB b M && formB b N) = true) (hS : M + N < 170141183460469231731687303715884105728) (r : Bool) (hr : sg b (M + N) = r) :
    PSpec Tryz.prog X 22 [LI b M, LI b N] (.tup [SI r (M + N), Sn .i64 0]) := by
  have h3 : In2 (M + N) := by unfold In2 at *; omega
  refine PSpec.intro Tryz.func22 rfl (by kernel_rfl) rfl rfl ?_
  intro C
  have hp := plus_spec X M N hM hN h3
  have hb := bounded_ok X b (M + N) ⟨h3.1, hS⟩ r hr
  cases b
  all_goals
    ((refine LWP.seq <| rgN <| K.box rfl rfl rfl .plain <| K.box rfl rfl rfl .plain <| K.alloc rfl .plain ?_; refine kas rfl <| RunK.nil <| LWP.seq <| LWP.seq <| rgN <| K.loadAll rfl rfl rfl .plain ?_; refine K.loadAll rfl rfl rfl .plain ?_; refine kca rfl rfl (bothForm_spec _ _ _ _ _ hM hN _ hf) <| K.not rfl rfl .plain <| RunK.nil <| LWP.condF rfl ?_; refine LWP.skip ?_; refine LWP.seq <| rgD mixed <| K.loadAll rfl rfl rfl .plain ?_; refine kca rfl rfl (sizeOf_spec _ _ _ _) <| K.loadAll rfl rfl rfl .plain ?_; refine kca rfl rfl (sizeOf_spec _ _ _ _) <| K.alloc rfl .plain ?_; refine K.alloc rfl .plain ?_; refine K.storeAll rfl rfl rfl rfl rfl rfl .plain ?_; refine K.storeAll rfl rfl rfl rfl rfl rfl .plain ?_; refine RunK.nil <| rgA ?_); (refine LWP.seq <| LWP.block <| LWP.seq <| rgN <| kfa rfl rfl ?_; refine kl1 rfl rfl rfl <| kfa rfl rfl ?_; refine kl1 rfl rfl rfl <| K.eqlB rfl rfl rfl .plain <| kas rfl <| RunK.nil <| LWP.condT rfl ?_; refine LWP.seq <| rgD mixed <| kfa rfl rfl ?_; refine kl1 rfl rfl rfl <| K.loadAll rfl rfl rfl .plain ?_; refine K.loadAll rfl rfl rfl .plain ?_; refine kca rfl rfl (hp) <| kca rfl rfl (hb) <| kex rfl rfl <| kex rfl rfl <| K.storeAll rfl rfl rfl rfl rfl rfl .plain ?_; refine kas rfl <| RunK.nil <| rgA ?_; refine LWP.ret ?_))
    exact ⟨[_, _], ⟨⟨_, _, rfl, rfl, rfl, .inl ⟨AggT.h, rfl⟩⟩, rfl, trivial⟩, rfl⟩
theorem Add_over (b : Bool) (M N : Int) (hM : In2 M) (hN : In2 N) (hf : (formB b M && formB b N) = true) (hS : 170141183460469231731687303715884105728 ≤ M + N) :
    PSpec Tryz.prog X 22 [LI b M, LI b N] (.tup [S0, Sn .i64 3]) := by
  have hf1 := (formB_lim hM (by simp at hf; exact hf.1)).1
  have hf2 := (formB_lim hN (by simp at hf; exact hf.2)).1
  have h3 : In2 (M + N) := by unfold Lim In2 at *; omega
  refine PSpec.intro Tryz.func22 rfl (by kernel_rfl) rfl rfl ?_
  intro C
  have hp := plus_spec X M N hM hN h3
  have hb := bounded_no X b (M + N) hS h3
  cases b
  all_goals
    ((refine LWP.seq <| rgN <| K.box rfl rfl rfl .plain <| K.box rfl rfl rfl .plain <| K.alloc rfl .plain ?_; refine kas rfl <| RunK.nil <| LWP.seq <| LWP.seq <| rgN <| K.loadAll rfl rfl rfl .plain ?_; refine K.loadAll rfl rfl rfl .plain ?_; refine kca rfl rfl (bothForm_spec _ _ _ _ _ hM hN _ hf) <| K.not rfl rfl .plain <| RunK.nil <| LWP.condF rfl ?_; refine LWP.skip ?_; refine LWP.seq <| rgD mixed <| K.loadAll rfl rfl rfl .plain ?_; refine kca rfl rfl (sizeOf_spec _ _ _ _) <| K.loadAll rfl rfl rfl .plain ?_; refine kca rfl rfl (sizeOf_spec _ _ _ _) <| K.alloc rfl .plain ?_; refine K.alloc rfl .plain ?_; refine K.storeAll rfl rfl rfl rfl rfl rfl .plain ?_; refine K.storeAll rfl rfl rfl rfl rfl rfl .plain ?_; refine RunK.nil <| rgA ?_); (refine LWP.seq <| LWP.block <| LWP.seq <| rgN <| kfa rfl rfl ?_; refine kl1 rfl rfl rfl <| kfa rfl rfl ?_; refine kl1 rfl rfl rfl <| K.eqlB rfl rfl rfl .plain <| kas rfl <| RunK.nil <| LWP.condT rfl ?_; refine LWP.seq <| rgD mixed <| kfa rfl rfl ?_; refine kl1 rfl rfl rfl <| K.loadAll rfl rfl rfl .plain ?_; refine K.loadAll rfl rfl rfl .plain ?_; refine kca rfl rfl (hp) <| kca rfl rfl (hb) <| kex rfl rfl <| kex rfl rfl <| K.storeAll rfl rfl rfl rfl rfl rfl .plain ?_; refine kas rfl <| RunK.nil <| rgA ?_; refine LWP.ret ?_))
    exact ⟨[_, _], ⟨⟨_, _, rfl, rfl, rfl, .inl ⟨AggT.h, rfl⟩⟩, rfl, trivial⟩, rfl⟩
theorem Add_less (b : Bool) (M N : Int) (hM : In2 M) (hN : In2 N) (hf : (formB b M && formB (!b) N) = true) (hS : M < N) (r : Bool) (hr : sg (!b) (N - M) = r) :
    PSpec Tryz.prog X 22 [LI b M, LI (!b) N] (.tup [SI r (N - M), Sn .i64 0]) := by
  have h3 : In2 (N - M) := by unfold In2 at *; omega
  refine PSpec.intro Tryz.func22 rfl (by kernel_rfl) rfl rfl ?_
  intro C
  have hb := number_spec X (!b) (N - M) h3 r hr
  cases b
  all_goals
    ((refine LWP.seq <| rgN <| K.box rfl rfl rfl .plain <| K.box rfl rfl rfl .plain <| K.alloc rfl .plain ?_; refine kas rfl <| RunK.nil <| LWP.seq <| LWP.seq <| rgN <| K.loadAll rfl rfl rfl .plain ?_; refine K.loadAll rfl rfl rfl .plain ?_; refine kca rfl rfl (bothForm_spec _ _ _ _ _ hM hN _ hf) <| K.not rfl rfl .plain <| RunK.nil <| LWP.condF rfl ?_; refine LWP.skip ?_; refine LWP.seq <| rgD mixed <| K.loadAll rfl rfl rfl .plain ?_; refine kca rfl rfl (sizeOf_spec _ _ _ _) <| K.loadAll rfl rfl rfl .plain ?_; refine kca rfl rfl (sizeOf_spec _ _ _ _) <| K.alloc rfl .plain ?_; refine K.alloc rfl .plain ?_; refine K.storeAll rfl rfl rfl rfl rfl rfl .plain ?_; refine K.storeAll rfl rfl rfl rfl rfl rfl .plain ?_; refine RunK.nil <| rgA ?_); (refine LWP.seq <| LWP.block <| LWP.seq <| rgN <| kfa rfl rfl ?_; refine kl1 rfl rfl rfl <| kfa rfl rfl ?_; refine kl1 rfl rfl rfl <| K.eqlB rfl rfl rfl .plain <| kas rfl <| RunK.nil <| LWP.condF rfl ?_; refine LWP.seq <| rgN <| K.loadAll rfl rfl rfl .plain ?_; refine K.loadAll rfl rfl rfl .plain ?_; refine kca rfl rfl (compare_spec _ _ _ (-1) (by simp [cmpI, hS])) <| klt rfl rfl (decide_eq_true (by omega)) <| kas rfl <| RunK.nil <| LWP.condT rfl ?_; refine LWP.seq <| rgD mixed <| kfa rfl rfl ?_; refine kl1 rfl rfl rfl <| K.loadAll rfl rfl rfl .plain ?_; refine K.loadAll rfl rfl rfl .plain ?_; refine kca rfl rfl (minus_spec _ _ _ hN hM (Int.le_of_lt hS)) <| kca rfl rfl (hb) <| K.storeAll rfl rfl rfl rfl rfl rfl .plain ?_; refine kas rfl <| RunK.nil <| rgA ?_; refine LWP.ret ?_))
    exact ⟨[_, _], ⟨⟨_, _, rfl, rfl, rfl, .inl ⟨AggT.h, rfl⟩⟩, rfl, trivial⟩, rfl⟩
theorem Add_more (b : Bool) (M N : Int) (hM : In2 M) (hN : In2 N) (hf : (formB b M && formB (!b) N) = true) (hS : N ≤ M) (r : Bool) (hr : sg b (M - N) = r) :
    PSpec Tryz.prog X 22 [LI b M, LI (!b) N] (.tup [SI r (M - N), Sn .i64 0]) := by
  have h3 : In2 (M - N) := by unfold In2 at *; omega
  have h5 : cmpI M N = 0 ∨ cmpI M N = 1 := by unfold cmpI; (repeat' split) <;> omega
  refine PSpec.intro Tryz.func22 rfl (by kernel_rfl) rfl rfl ?_
  intro C
  have hb := number_spec X b (M - N) h3 r hr
  rcases h5 with h5 | h5 <;> cases b
  all_goals
    ((refine LWP.seq <| rgN <| K.box rfl rfl rfl .plain <| K.box rfl rfl rfl .plain <| K.alloc rfl .plain ?_; refine kas rfl <| RunK.nil <| LWP.seq <| LWP.seq <| rgN <| K.loadAll rfl rfl rfl .plain ?_; refine K.loadAll rfl rfl rfl .plain ?_; refine kca rfl rfl (bothForm_spec _ _ _ _ _ hM hN _ hf) <| K.not rfl rfl .plain <| RunK.nil <| LWP.condF rfl ?_; refine LWP.skip ?_; refine LWP.seq <| rgD mixed <| K.loadAll rfl rfl rfl .plain ?_; refine kca rfl rfl (sizeOf_spec _ _ _ _) <| K.loadAll rfl rfl rfl .plain ?_; refine kca rfl rfl (sizeOf_spec _ _ _ _) <| K.alloc rfl .plain ?_; refine K.alloc rfl .plain ?_; refine K.storeAll rfl rfl rfl rfl rfl rfl .plain ?_; refine K.storeAll rfl rfl rfl rfl rfl rfl .plain ?_; refine RunK.nil <| rgA ?_); (refine LWP.seq <| LWP.block <| LWP.seq <| rgN <| kfa rfl rfl ?_; refine kl1 rfl rfl rfl <| kfa rfl rfl ?_; refine kl1 rfl rfl rfl <| K.eqlB rfl rfl rfl .plain <| kas rfl <| RunK.nil <| LWP.condF rfl ?_; refine LWP.seq <| rgN <| K.loadAll rfl rfl rfl .plain ?_; refine K.loadAll rfl rfl rfl .plain ?_; refine kca rfl rfl (compare_spec _ _ _ _ h5) <| klt rfl rfl (decide_eq_false (by omega)) <| kas rfl <| RunK.nil <| LWP.condF rfl ?_; refine LWP.skip ?_; refine LWP.seq <| rgD mixed <| kfa rfl rfl ?_; refine kl1 rfl rfl rfl <| K.loadAll rfl rfl rfl .plain ?_; refine K.loadAll rfl rfl rfl .plain ?_; refine kca rfl rfl (minus_spec _ _ _ hM hN hS) <| kca rfl rfl (hb) <| K.storeAll rfl rfl rfl rfl rfl rfl .plain ?_; refine kas rfl <| RunK.nil <| rgA ?_); (refine LWP.ret ?_))
    exact ⟨[_, _], ⟨⟨_, _, rfl, rfl, rfl, .inl ⟨AggT.h, rfl⟩⟩, rfl, trivial⟩, rfl⟩
end Go.Proofs.YtimpjdbhalnofaaGreatDoor
end
section
namespace Go.Proofs.YtimpjdbhalnofaaGreatDoor
open Go Go.Lg
variable (X : Nat → Option Obj)
def mg (z : Int) : Int := if z < 0 then -z else z
def R127 (z : Int) : Prop := -170141183460469231731687303715884105728 < z ∧ z < 170141183460469231731687303715884105728
abbrev LQ (z : Int) : LV := LI (decide (z < 0)) (mg z)
abbrev SQ (z : Int) : SV := SI (decide (z < 0)) (mg z)
theorem mg_neg {z : Int} (h : z < 0) : mg z = -z := if_pos h
theorem mg_pos {z : Int} (h : 0 ≤ z) : mg z = z := if_neg (by omega)
theorem mg_in2 {z : Int} (h : R127 z) : In2 (mg z) := by unfold mg In2 R127 at *; split <;> omega
theorem mg_lim {z : Int} (h : R127 z) : mg z < 170141183460469231731687303715884105728 := by unfold mg R127 at *; split <;> omega
theorem formB_q {z : Int} (h : R127 z) : formB (decide (z < 0)) (mg z) = true := by
  have := mg_lim h
  simp only [formB, decide_eq_true this, Bool.true_and, Bool.not_eq_true', Bool.and_eq_false_iff, decide_eq_false_iff_not, beq_eq_false_iff_ne]
  unfold mg
  split <;> omega
theorem both_q {x y : Int} (hx : R127 x) (hy : R127 y) : (formB (decide (x < 0)) (mg x) && formB (decide (y < 0)) (mg y)) = true := by rw [formB_q hx, formB_q hy]; rfl
def zv (b : Bool) (N : Int) : Int := if b = true then -N else N
theorem zv_in {b : Bool} {N : Int} (hN : In2 N) (h : formB b N = true) : R127 (zv b N) ∧ decide (zv b N < 0) = b ∧ mg (zv b N) = N := by
  obtain ⟨⟨h0, h1⟩, h2⟩ := formB_lim hN h
  cases b
  · refine ⟨?_, ?_, ?_⟩ <;> simp only [zv, Bool.false_eq_true, if_false, R127, mg, decide_eq_false_iff_not]
    · omega
    · omega
    · exact if_neg (by omega)
  · have := h2 rfl
    refine ⟨?_, ?_, ?_⟩ <;> simp only [zv, if_true, R127, mg, decide_eq_true_eq]
    · omega
    · omega
    · rw [if_pos (by omega)]; omega
theorem LI_q {b : Bool} {N : Int} (hN : In2 N) (h : formB b N = true) : LI b N = LQ (zv b N) := by
  obtain ⟨_, h1, h2⟩ := zv_in hN h
  unfold LQ
  rw [h1, h2]
theorem sg_q {b : Bool} {N z : Int} (hN : 0 ≤ N) (h : zv b N = z) : sg b N = decide (z < 0) ∧ N = mg z := by
  subst h
  cases b
  · simp only [zv, sg, Bool.false_and, Bool.false_eq_true, if_false, mg]
    exact ⟨(decide_eq_false (by omega)).symm, (if_neg (by omega)).symm⟩
  · simp only [zv, sg, Bool.true_and, if_true, mg]
    refine ⟨?_, by split <;> omega⟩
    by_cases h0 : N = 0
    · subst h0; rfl
    · rw [show (N == 0) = false from beq_eq_false_iff_ne.2 h0, decide_eq_true (by omega)]; rfl
def addR (z : Int) : LV := if -170141183460469231731687303715884105728 < z ∧ z < 170141183460469231731687303715884105728 then .tup [SQ z, Sn .i64 0] else .tup [S0, Sn .i64 3]
theorem addR_in {z : Int} (h : R127 z) : addR z = .tup [SQ z, Sn .i64 0] := if_pos h
theorem addR_out {z : Int} (h : ¬ R127 z) : addR z = .tup [S0, Sn .i64 3] := if_neg h
theorem tup_q {b : Bool} {N z : Int} (hN : 0 ≤ N) (h : zv b N = z) : (LV.tup [SI (sg b N) N, Sn .i64 0]) = .tup [SQ z, Sn .i64 0] := by
  obtain ⟨h1, h2⟩ := sg_q hN h
  unfold SQ
  rw [h1, ← h2]
theorem Add_q (x y : Int) (hx : R127 x) (hy : R127 y) : PSpec Tryz.prog X 22 [LQ x, LQ y] (addR (x + y)) := by
  have hf := both_q hx hy
  have h1 := mg_in2 hx
  have h2 := mg_in2 hy
  have h1' := hx
  have h2' := hy
  unfold R127 at h1' h2'
  by_cases cx : x < 0 <;> by_cases cy : y < 0
  all_goals
    unfold LQ
    simp only [cx, cy, decide_true, decide_false] at hf ⊢
  · have m1 := mg_neg cx
    have m2 := mg_neg cy
    by_cases hs : mg x + mg y < 170141183460469231731687303715884105728
    · have := Add_same X true (mg x) (mg y) h1 h2 hf hs _ rfl
      rw [tup_q (z := x + y) (by omega) (by simp [zv]; omega)] at this
      rw [addR_in (by unfold R127; omega)]
      exact this
    · rw [addR_out (by unfold R127; omega)]
      exact Add_over X true (mg x) (mg y) h1 h2 hf (by omega)
  · have m1 := mg_neg cx
    have m2 := mg_pos (Int.not_lt.1 cy)
    rw [addR_in (by unfold R127; omega)]
    by_cases hs : mg x < mg y
    · have := Add_less X true (mg x) (mg y) h1 h2 hf hs _ rfl
      rw [tup_q (z := x + y) (by omega) (by simp [zv]; omega)] at this
      exact this
    · have := Add_more X true (mg x) (mg y) h1 h2 hf (by omega) _ rfl
      rw [tup_q (z := x + y) (by omega) (by simp [zv]; omega)] at this
      exact this
  · have m1 := mg_pos (Int.not_lt.1 cx)
    have m2 := mg_neg cy
    rw [addR_in (by unfold R127; omega)]
    by_cases hs : mg x < mg y
    · have := Add_less X false (mg x) (mg y) h1 h2 hf hs _ rfl
      rw [tup_q (z := x + y) (by omega) (by simp [zv]; omega)] at this
      exact this
    · have := Add_more X false (mg x) (mg y) h1 h2 hf (by omega) _ rfl
      rw [tup_q (z := x + y) (by omega) (by simp [zv]; omega)] at this
      exact this
  · have m1 := mg_pos (Int.not_lt.1 cx)
    have m2 := mg_pos (Int.not_lt.1 cy)
    by_cases hs : mg x + mg y < 170141183460469231731687303715884105728
    · have := Add_same X false (mg x) (mg y) h1 h2 hf hs _ rfl
      rw [tup_q (z := x + y) (by omega) (by simp [zv]; omega)] at this
      rw [addR_in (by unfold R127; omega)]
      exact this
    · rw [addR_out (by unfold R127; omega)]
      exact Add_over X false (mg x) (mg y) h1 h2 hf (by omega)
theorem Neg_q (x : Int) (hx : R127 x) : PSpec Tryz.prog X 56 [LQ x] (LQ (-x)) := by
  have h1 := mg_in2 hx
  have hn := number_spec X (!decide (x < 0)) (mg x) h1 (decide (-x < 0)) (by
    have := sg_q (b := !decide (x < 0)) (N := mg x) (z := -x) h1.1 (by unfold zv mg; by_cases c : x < 0 <;> simp [c])
    exact this.1)
  have e : mg (-x) = mg x := by unfold mg; (repeat' split) <;> omega
  refine PSpec.intro Tryz.func56 rfl (by kernel_rfl) rfl rfl ?_
  intro C
  (refine LWP.seq <| rgN <| K.box rfl rfl rfl .plain <| K.alloc rfl .plain ?_; refine RunK.nil <| LWP.seq <| LWP.seq <| rgN <| K.loadAll rfl rfl rfl .plain ?_; refine kca rfl rfl (Form_spec _ _ _ h1 true (formB_q hx)) <| K.not rfl rfl .plain <| RunK.nil <| LWP.condF rfl ?_; refine LWP.skip ?_; refine LWP.seq <| rgD mixed <| kfa rfl rfl ?_; refine kl1 rfl rfl rfl <| K.not rfl rfl .plain <| K.loadAll rfl rfl rfl .plain ?_; refine kca rfl rfl (sizeOf_spec _ _ _ _) <| kca rfl rfl (hn) <| K.storeAll rfl rfl rfl rfl rfl rfl .plain ?_; refine RunK.nil <| rgA ?_; refine LWP.ret ?_)
  unfold LQ
  rw [e]
  exact ⟨[_], ⟨⟨_, _, rfl, rfl, rfl, .inl ⟨AggT.h, rfl⟩⟩, trivial⟩, rfl⟩
theorem Sub_arg (b c : Bool) (M N : Int) (hM : In2 M) (hN : In2 N) (hf : (formB b M && formB c N) = false) : PSpec Tryz.prog X 23 [LI b M, LI c N] (.tup [S0, Sn .i64 1]) := by
  refine PSpec.intro Tryz.func23 rfl (by kernel_rfl) rfl rfl ?_
  intro C
  (refine LWP.seq <| rgN <| K.box rfl rfl rfl .plain <| K.box rfl rfl rfl .plain <| K.alloc rfl .plain ?_; refine kas rfl <| RunK.nil <| LWP.seq <| LWP.seq <| rgN <| K.loadAll rfl rfl rfl .plain ?_; refine K.loadAll rfl rfl rfl .plain ?_; refine kca rfl rfl (bothForm_spec _ _ _ _ _ hM hN _ hf) <| K.not rfl rfl .plain <| RunK.nil <| LWP.condT rfl ?_; refine LWP.seq <| rgN <| K.build rfl rfl (by exact rfl) (by exact nl3 rfl rfl rfl rfl) .plain ?_; refine K.storeAll rfl rfl rfl rfl rfl rfl .plain ?_; refine kas rfl <| RunK.nil <| LWP.ret ?_)
  exact ⟨[_, _], ⟨⟨_, _, rfl, rfl, rfl, .inl ⟨AggT.h, rfl⟩⟩, rfl, trivial⟩, rfl⟩
theorem Sub_q (x y : Int) (hx : R127 x) (hy : R127 y) : PSpec Tryz.prog X 23 [LQ x, LQ y] (addR (x - y)) := by
  have hf := both_q hx hy
  have hny : R127 (-y) := by unfold R127 at *; omega
  have ha := Add_q X x (-y) hx hny
  have hn := Neg_q X y hy
  by_cases hz : R127 (x - y)
  all_goals
    first
      | rw [show x + -y = x - y by omega, addR_in hz] at ha; rw [addR_in hz]
      | rw [show x + -y = x - y by omega, addR_out hz] at ha; rw [addR_out hz]
    refine PSpec.intro Tryz.func23 rfl (by kernel_rfl) rfl rfl ?_
    intro C
    (refine LWP.seq <| rgN <| K.box rfl rfl rfl .plain <| K.box rfl rfl rfl .plain <| K.alloc rfl .plain ?_; refine kas rfl <| RunK.nil <| LWP.seq <| LWP.seq <| rgN <| K.loadAll rfl rfl rfl .plain ?_; refine K.loadAll rfl rfl rfl .plain ?_; refine kca rfl rfl (bothForm_spec _ _ _ _ _ (mg_in2 hx) (mg_in2 hy) _ hf) <| K.not rfl rfl .plain <| RunK.nil <| LWP.condF rfl ?_; refine LWP.skip ?_; refine LWP.seq <| rgD mixed <| K.loadAll rfl rfl rfl .plain ?_; refine K.loadAll rfl rfl rfl .plain ?_; refine kca rfl rfl (hn) <| kca rfl rfl (ha) <| kex rfl rfl <| kex rfl rfl <| K.storeAll rfl rfl rfl rfl rfl rfl .plain ?_; refine kas rfl <| RunK.nil <| rgA ?_; refine LWP.ret ?_)
    exact ⟨[_, _], ⟨⟨_, _, rfl, rfl, rfl, .inl ⟨AggT.h, rfl⟩⟩, rfl, trivial⟩, rfl⟩
def sgnI (z : Int) : Int := if z < 0 then -1 else if 0 < z then 1 else 0
theorem Sign_q (x : Int) (hx : R127 x) (r : Int) (hr : sgnI x = r) : PSpec Tryz.prog X 128 [LQ x] (Ln .i64 r) := by
  have h1 := mg_in2 hx
  have hz : ∀ r, (mg x == 0) = r → PSpec Tryz.prog X 64 [LZ (mg x)] (Lb r) := fun r hr => zero_spec X (mg x) h1 r hr
  have hF := Form_spec X _ _ h1 true (formB_q hx)
  refine PSpec.intro Tryz.func128 rfl (by kernel_rfl) rfl rfl ?_
  intro C
  by_cases c : x < 0
  · have hz' := hz false (beq_eq_false_iff_ne.2 (by rw [mg_neg c]; omega))
    have e : sgnI x = -1 := if_pos c
    unfold LQ at hF ⊢
    simp only [c, decide_true] at hF ⊢
    (refine LWP.seq <| rgN <| K.box rfl rfl rfl .plain <| kas rfl <| RunK.nil <| LWP.seq <| LWP.block <| LWP.seq <| rgN <| K.loadAll rfl rfl rfl .plain ?_; refine kca rfl rfl (hF) <| K.not rfl rfl .plain <| kmv rfl <| K.loadAll rfl rfl rfl (.taken rfl rfl) ?_; refine gca rfl rfl (sizeOf_spec _ _ _ _) rfl rfl <| gca rfl rfl (hz') rfl rfl <| kpf rfl rfl <| kas rfl <| RunK.nil <| LWP.condF rfl ?_; refine LWP.seq <| rgN <| kfa rfl rfl ?_; refine kl1 rfl rfl rfl <| kas rfl <| RunK.nil <| LWP.condT rfl ?_; refine LWP.seq <| rgN <| kas rfl <| RunK.nil <| LWP.ret ?_)
    exact ⟨[_], ⟨rfl, trivial⟩, by rw [← hr, e]; rfl⟩
  · unfold LQ at hF ⊢
    simp only [c, decide_false] at hF ⊢
    by_cases c0 : x = 0
    · have hz' := hz true (beq_iff_eq.2 (by rw [mg_pos (by omega)]; omega))
      have e : sgnI x = 0 := by unfold sgnI; rw [if_neg c, if_neg (by omega)]
      (refine LWP.seq <| rgN <| K.box rfl rfl rfl .plain <| kas rfl <| RunK.nil <| LWP.seq <| LWP.block <| LWP.seq <| rgN <| K.loadAll rfl rfl rfl .plain ?_; refine kca rfl rfl (hF) <| K.not rfl rfl .plain <| kmv rfl <| K.loadAll rfl rfl rfl (.taken rfl rfl) ?_; refine gca rfl rfl (sizeOf_spec _ _ _ _) rfl rfl <| gca rfl rfl (hz') rfl rfl <| kpf rfl rfl <| kas rfl <| RunK.nil <| LWP.condT rfl ?_; refine LWP.seq <| rgN <| kas rfl <| RunK.nil <| LWP.ret ?_)
      exact ⟨[_], ⟨rfl, trivial⟩, by rw [← hr, e]; rfl⟩
    · have hz' := hz false (beq_eq_false_iff_ne.2 (by rw [mg_pos (by omega)]; omega))
      have e : sgnI x = 1 := by unfold sgnI; rw [if_neg c, if_pos (by omega)]
      (refine LWP.seq <| rgN <| K.box rfl rfl rfl .plain <| kas rfl <| RunK.nil <| LWP.seq <| LWP.block <| LWP.seq <| rgN <| K.loadAll rfl rfl rfl .plain ?_; refine kca rfl rfl (hF) <| K.not rfl rfl .plain <| kmv rfl <| K.loadAll rfl rfl rfl (.taken rfl rfl) ?_; refine gca rfl rfl (sizeOf_spec _ _ _ _) rfl rfl <| gca rfl rfl (hz') rfl rfl <| kpf rfl rfl <| kas rfl <| RunK.nil <| LWP.condF rfl ?_; refine LWP.seq <| rgN <| kfa rfl rfl ?_; refine kl1 rfl rfl rfl <| kas rfl <| RunK.nil <| LWP.condF rfl ?_; refine LWP.skip ?_; refine LWP.seq <| rgN <| kas rfl <| RunK.nil <| LWP.ret ?_)
      exact ⟨[_], ⟨rfl, trivial⟩, by rw [← hr, e]; rfl⟩
theorem Cmp_bad (b c : Bool) (M N : Int) (hM : In2 M) (hN : In2 N) (hf : (formB b M && formB c N) = false) : PSpec Tryz.prog X 125 [LI b M, LI c N] (Ln .i64 0) := by
  refine PSpec.intro Tryz.func125 rfl (by kernel_rfl) rfl rfl ?_
  intro C
  (refine LWP.seq <| rgN <| K.box rfl rfl rfl .plain <| K.box rfl rfl rfl .plain <| kas rfl <| RunK.nil <| LWP.seq <| LWP.block <| LWP.seq <| rgN <| K.loadAll rfl rfl rfl .plain ?_; refine K.loadAll rfl rfl rfl .plain ?_; refine kca rfl rfl (bothForm_spec _ _ _ _ _ hM hN _ hf) <| K.not rfl rfl .plain <| kas rfl <| RunK.nil <| LWP.condT rfl ?_; refine LWP.seq <| rgN <| kas rfl <| RunK.nil <| LWP.ret ?_)
  exact ⟨[_], ⟨rfl, trivial⟩, rfl⟩
theorem Cmp_q (x y : Int) (hx : R127 x) (hy : R127 y) (r : Int) (hr : cmpI x y = r) : PSpec Tryz.prog X 125 [LQ x, LQ y] (Ln .i64 r) := by
  have hB := bothForm_spec X _ _ _ _ (mg_in2 hx) (mg_in2 hy) true (both_q hx hy)
  refine PSpec.intro Tryz.func125 rfl (by kernel_rfl) rfl rfl ?_
  intro C
  by_cases cx : x < 0 <;> by_cases cy : y < 0
  all_goals
    unfold LQ at hB ⊢
    simp only [cx, cy, decide_true, decide_false] at hB ⊢
  · have e : cmpI (mg y) (mg x) = r := by rw [mg_neg cx, mg_neg cy, ← hr]; unfold cmpI; (repeat' split) <;> omega
    (refine LWP.seq <| rgN <| K.box rfl rfl rfl .plain <| K.box rfl rfl rfl .plain <| kas rfl <| RunK.nil <| LWP.seq <| LWP.block <| LWP.seq <| rgN <| K.loadAll rfl rfl rfl .plain ?_; refine K.loadAll rfl rfl rfl .plain ?_; refine kca rfl rfl (hB) <| K.not rfl rfl .plain <| kas rfl <| RunK.nil <| LWP.condF rfl ?_; refine LWP.seq <| rgN <| kfa rfl rfl ?_; refine kl1 rfl rfl rfl <| kmv rfl <| K.fieldAddr rfl rfl (.taken rfl rfl) ?_; refine K.loadOne rfl rfl rfl (.taken rfl rfl) ?_; refine kpt rfl rfl <| kas rfl <| RunK.nil <| LWP.condT rfl ?_; refine LWP.seq <| rgD mixed <| K.loadAll rfl rfl rfl .plain ?_; refine kca rfl rfl (sizeOf_spec _ _ _ _) <| K.loadAll rfl rfl rfl .plain ?_; refine kca rfl rfl (sizeOf_spec _ _ _ _) <| kca rfl rfl (compare_spec _ _ _ r e) <| kas rfl <| RunK.nil <| rgA ?_; refine LWP.ret ?_)
    exact ⟨[_], ⟨rfl, trivial⟩, rfl⟩
  · have e : r = -1 := by rw [← hr]; unfold cmpI; rw [if_pos (by omega)]
    subst e
    (refine LWP.seq <| rgN <| K.box rfl rfl rfl .plain <| K.box rfl rfl rfl .plain <| kas rfl <| RunK.nil <| LWP.seq <| LWP.block <| LWP.seq <| rgN <| K.loadAll rfl rfl rfl .plain ?_; refine K.loadAll rfl rfl rfl .plain ?_; refine kca rfl rfl (hB) <| K.not rfl rfl .plain <| kas rfl <| RunK.nil <| LWP.condF rfl ?_; refine LWP.seq <| rgN <| kfa rfl rfl ?_; refine kl1 rfl rfl rfl <| kmv rfl <| K.fieldAddr rfl rfl (.taken rfl rfl) ?_; refine K.loadOne rfl rfl rfl (.taken rfl rfl) ?_; refine kpt rfl rfl <| kas rfl <| RunK.nil <| LWP.condF rfl ?_; refine LWP.seq <| rgN <| kfa rfl rfl ?_; refine kl1 rfl rfl rfl <| kas rfl <| RunK.nil <| LWP.condT rfl ?_; refine LWP.seq <| rgN <| kas rfl <| RunK.nil <| LWP.ret ?_)
    exact ⟨[_], ⟨rfl, trivial⟩, rfl⟩
  · have e : r = 1 := by rw [← hr]; unfold cmpI; rw [if_neg (by omega), if_pos (by omega)]
    subst e
    (refine LWP.seq <| rgN <| K.box rfl rfl rfl .plain <| K.box rfl rfl rfl .plain <| kas rfl <| RunK.nil <| LWP.seq <| LWP.block <| LWP.seq <| rgN <| K.loadAll rfl rfl rfl .plain ?_; refine K.loadAll rfl rfl rfl .plain ?_; refine kca rfl rfl (hB) <| K.not rfl rfl .plain <| kas rfl <| RunK.nil <| LWP.condF rfl ?_; refine LWP.seq <| rgN <| kfa rfl rfl ?_; refine kl1 rfl rfl rfl <| kmv rfl <| RunK.passed rfl rfl rfl <| RunK.passed rfl rfl rfl <| kpf rfl rfl <| kas rfl <| RunK.nil <| LWP.condF rfl ?_; refine LWP.seq <| rgN <| kfa rfl rfl ?_; refine kl1 rfl rfl rfl <| kas rfl <| RunK.nil <| LWP.condF rfl ?_; refine LWP.seq <| rgN <| kfa rfl rfl ?_; refine kl1 rfl rfl rfl <| kas rfl <| RunK.nil <| LWP.condT rfl ?_; refine LWP.seq <| rgN <| kas rfl <| RunK.nil <| LWP.ret ?_)
    exact ⟨[_], ⟨rfl, trivial⟩, rfl⟩
  · have e : cmpI (mg x) (mg y) = r := by rw [mg_pos (Int.not_lt.1 cx), mg_pos (Int.not_lt.1 cy), ← hr]
    (refine LWP.seq <| rgN <| K.box rfl rfl rfl .plain <| K.box rfl rfl rfl .plain <| kas rfl <| RunK.nil <| LWP.seq <| LWP.block <| LWP.seq <| rgN <| K.loadAll rfl rfl rfl .plain ?_; refine K.loadAll rfl rfl rfl .plain ?_; refine kca rfl rfl (hB) <| K.not rfl rfl .plain <| kas rfl <| RunK.nil <| LWP.condF rfl ?_; refine LWP.seq <| rgN <| kfa rfl rfl ?_; refine kl1 rfl rfl rfl <| kmv rfl <| RunK.passed rfl rfl rfl <| RunK.passed rfl rfl rfl <| kpf rfl rfl <| kas rfl <| RunK.nil <| LWP.condF rfl ?_; refine LWP.seq <| rgN <| kfa rfl rfl ?_; refine kl1 rfl rfl rfl <| kas rfl <| RunK.nil <| LWP.condF rfl ?_; refine LWP.seq <| rgN <| kfa rfl rfl ?_; refine kl1 rfl rfl rfl <| kas rfl <| RunK.nil <| LWP.condF rfl ?_; refine LWP.skip ?_; refine LWP.seq <| rgD mixed <| K.loadAll rfl rfl rfl .plain ?_; refine kca rfl rfl (sizeOf_spec _ _ _ _) <| K.loadAll rfl rfl rfl .plain ?_; refine kca rfl rfl (sizeOf_spec _ _ _ _) <| kca rfl rfl (compare_spec _ _ _ r e) <| kas rfl <| RunK.nil <| rgA ?_; refine LWP.ret ?_)
    exact ⟨[_], ⟨rfl, trivial⟩, rfl⟩
end Go.Proofs.YtimpjdbhalnofaaGreatDoor
end
section
namespace Go.Proofs.YtimpjdbhalnofaaGreatDoor
open Go Go.Lg Go.Lg.Arith Go.RowKit
variable (X : Nat → Option Obj)
theorem mg_nonneg (z : Int) : 0 ≤ mg z := by unfold mg; split <;> omega
theorem OfWord_spec (n : Int) : PSpec Tryz.prog X 60 [Ln .u64 n] (.sv (.agg [.val (.bool false), .val (.int .u64 0), .val (.int .u64 n)])) := by
  refine PSpec.intro Tryz.func60 rfl (by kernel_rfl) rfl rfl ?_
  intro C
  (refine LWP.seq <| rgN <| K.alloc rfl .plain ?_; refine RunK.nil <| LWP.seq <| rgN <| kmv rfl <| K.build rfl rfl (by exact rfl) (by exact nl3 rfl rfl rfl rfl) .plain ?_; refine K.storeAll rfl rfl rfl rfl rfl rfl .plain ?_; refine RunK.nil <| LWP.ret ?_)
  exact ⟨[_], ⟨⟨_, _, rfl, rfl, rfl, .inl ⟨AggT.h, rfl⟩⟩, trivial⟩, rfl⟩
theorem Of_spec (n : Int) (hn : -9223372036854775808 ≤ n ∧ n < 9223372036854775808) : PSpec Tryz.prog X 27 [Ln .i64 n] (LQ n) := by
  refine PSpec.intro Tryz.func27 rfl (by kernel_rfl) rfl rfl ?_
  intro C
  by_cases c : n < 0
  · have w1 : IntKind.u64.wrap n = n + 18446744073709551616 := by rw [IntKind.wrap_u64]; omega
    have w2 : IntKind.u64.wrap (0 - (n + 18446744073709551616)) = -n := by rw [IntKind.wrap_u64]; omega
    (refine LWP.seq <| rgN <| K.alloc rfl .plain ?_; refine RunK.nil <| LWP.seq <| LWP.seq <| rgN <| kmv rfl <| klt rfl rfl (decide_eq_true (by omega)) <| RunK.nil <| LWP.condT rfl ?_; refine LWP.seq <| rgN <| kmv rfl <| kcv rfl w1 ?_; refine K.neg rfl w2 .plain <| K.build rfl rfl (by exact rfl) (by exact nl3 rfl rfl rfl rfl) .plain ?_; refine K.storeAll rfl rfl rfl rfl rfl rfl .plain ?_; refine RunK.nil <| LWP.ret ?_)
    refine ⟨[_], ⟨⟨_, _, rfl, rfl, rfl, .inl ⟨AggT.h, rfl⟩⟩, trivial⟩, ?_⟩
    unfold LQ LI
    rw [mg_neg c, decide_eq_true c, show -n / 18446744073709551616 = 0 by omega, show -n % 18446744073709551616 = -n by omega]
    rfl
  · (refine LWP.seq <| rgN <| K.alloc rfl .plain ?_; refine RunK.nil <| LWP.seq <| LWP.seq <| rgN <| kmv rfl <| klt rfl rfl (decide_eq_false (by omega)) <| RunK.nil <| LWP.condF rfl ?_; refine LWP.skip ?_; refine LWP.seq <| rgN <| kmv rfl <| kcv rfl (by exact wrap_u64 (by omega)) ?_; refine kca rfl rfl (OfWord_spec _ _) <| K.storeAll rfl rfl rfl rfl rfl rfl .plain ?_; refine RunK.nil <| LWP.ret ?_)
    refine ⟨[_], ⟨⟨_, _, rfl, rfl, rfl, .inl ⟨AggT.h, rfl⟩⟩, trivial⟩, ?_⟩
    unfold LQ LI
    rw [mg_pos (by omega), decide_eq_false c, show n / 18446744073709551616 = 0 by omega, show n % 18446744073709551616 = n by omega]
    rfl
theorem eqI {b b' : Bool} {h l h' l' : Int} (r : Bool) (hr : (b == b' && (h == h' && l == l')) = r) (w : World) :
    (Op.equalIn 10000 30 (.agg [.bool b, .int .u64 h, .int .u64 l].toArray) (.agg [.bool b', .int .u64 h', .int .u64 l'].toArray)).run Tryz.prog w = .ok r w := by
  subst hr
  rw [show (10000 : Nat) = 9999 + 1 from rfl, run_equalIn_agg w 9999 30 _ _ (by kernel_rfl) (by kernel_rfl)]
  simp only [Program.fieldsOf, Tryz.underlying30]
  go_simp
  cases b <;> cases b' <;> by_cases h1 : h = h' <;> by_cases h2 : l = l' <;> simp [h1, h2]
theorem eqQ (x y : Int) (r : Bool) (hr : decide (x = y) = r) (w : World) :
    (Op.equalIn 10000 30 (.agg [.bool (decide (x < 0)), .int .u64 (mg x / 18446744073709551616), .int .u64 (mg x % 18446744073709551616)].toArray)
      (.agg [.bool (decide (y < 0)), .int .u64 (mg y / 18446744073709551616), .int .u64 (mg y % 18446744073709551616)].toArray)).run Tryz.prog w = .ok r w := by
  refine eqI r ?_ w
  rw [← hr]
  by_cases e : x = y
  · subst e; simp
  · rw [decide_eq_false e]
    have h : ¬ ((decide (x < 0) = decide (y < 0)) ∧ mg x / 18446744073709551616 = mg y / 18446744073709551616 ∧ mg x % 18446744073709551616 = mg y % 18446744073709551616) := by
      rintro ⟨h1, h2, h3⟩
      have : mg x = mg y := by omega
      unfold mg at this
      by_cases cx : x < 0 <;> by_cases cy : y < 0 <;> simp only [cx, cy, decide_true, decide_false, if_true, if_false] at h1 this <;> first | omega | cases h1
    cases hc : (decide (x < 0) == decide (y < 0) && (mg x / 18446744073709551616 == mg y / 18446744073709551616 && mg x % 18446744073709551616 == mg y % 18446744073709551616)) with
    | false => rfl
    | true =>
      simp only [Bool.and_eq_true, beq_iff_eq] at hc
      exact absurd hc h
end Go.Proofs.YtimpjdbhalnofaaGreatDoor
end
section
namespace Go.Proofs.YtimpjdbhalnofaaGreatDoor
open Go Go.Lg
abbrev rd (k : Nat) (l : List UInt8) (b : Bool) : List (Nat × Option Box) := [(k, some ⟨127, [vs l, .val (.bool b)], false⟩)]
variable (X : Nat → Option Obj)
def isW (n : Int) : Bool := decide (n = 1) || (decide (n = 2) || (decide (n = 4) || decide (n = 8)))
theorem isWidth_spec (n : Int) (r : Bool) (hr : isW n = r) : PSpec Tryz.prog X 111 [Ln .i64 n] (Lb r) := by
  refine PSpec.intro Tryz.func111 rfl (by kernel_rfl) rfl rfl ?_
  intro C
  subst hr
  by_cases h1 : n = 1
  · (refine LWP.seq <| rgN <| kas rfl <| RunK.nil <| LWP.seq <| rgN <| kmv rfl <| keq rfl rfl (beq_iff_eq.2 (by omega)) <| kmv rfl <| RunK.passed rfl rfl rfl <| RunK.passed rfl rfl rfl <| kpt rfl rfl <| kmv rfl <| RunK.passed rfl rfl rfl ?_; refine RunK.passed rfl rfl rfl <| kpt rfl rfl <| kmv rfl <| RunK.passed rfl rfl rfl <| RunK.passed rfl rfl rfl <| kpt rfl rfl <| kas rfl <| RunK.nil <| LWP.ret ?_)
    exact ⟨[_], ⟨rfl, trivial⟩, by unfold isW; rw [decide_eq_true h1]; rfl⟩
  · by_cases h2 : n = 2
    · (refine LWP.seq <| rgN <| kas rfl <| RunK.nil <| LWP.seq <| rgN <| kmv rfl <| keq rfl rfl (beq_eq_false_iff_ne.2 (by omega)) <| kmv rfl <| gmv rfl rfl rfl <| K.eql rfl rfl (beq_iff_eq.2 (by omega)) (.taken rfl rfl) ?_; refine kpf rfl rfl <| kmv rfl <| RunK.passed rfl rfl rfl <| RunK.passed rfl rfl rfl <| kpt rfl rfl <| kmv rfl <| RunK.passed rfl rfl rfl <| RunK.passed rfl rfl rfl <| kpt rfl rfl <| kas rfl <| RunK.nil <| LWP.ret ?_)
      exact ⟨[_], ⟨rfl, trivial⟩, by unfold isW; rw [decide_eq_false h1, decide_eq_true h2]; rfl⟩
    · by_cases h4 : n = 4
      · (refine LWP.seq <| rgN <| kas rfl <| RunK.nil <| LWP.seq <| rgN <| kmv rfl <| keq rfl rfl (beq_eq_false_iff_ne.2 (by omega)) <| kmv rfl <| gmv rfl rfl rfl <| K.eql rfl rfl (beq_eq_false_iff_ne.2 (by omega)) (.taken rfl rfl) ?_; refine kpf rfl rfl <| kmv rfl <| gmv rfl rfl rfl <| K.eql rfl rfl (beq_iff_eq.2 (by omega)) (.taken rfl rfl) ?_; refine kpf rfl rfl <| kmv rfl <| RunK.passed rfl rfl rfl <| RunK.passed rfl rfl rfl <| kpt rfl rfl <| kas rfl <| RunK.nil <| LWP.ret ?_)
        exact ⟨[_], ⟨rfl, trivial⟩, by unfold isW; rw [decide_eq_false h1, decide_eq_false h2, decide_eq_true h4]; rfl⟩
      · by_cases h8 : n = 8
        · (refine LWP.seq <| rgN <| kas rfl <| RunK.nil <| LWP.seq <| rgN <| kmv rfl <| keq rfl rfl (beq_eq_false_iff_ne.2 (by omega)) <| kmv rfl <| gmv rfl rfl rfl <| K.eql rfl rfl (beq_eq_false_iff_ne.2 (by omega)) (.taken rfl rfl) ?_; refine kpf rfl rfl <| kmv rfl <| gmv rfl rfl rfl <| K.eql rfl rfl (beq_eq_false_iff_ne.2 (by omega)) (.taken rfl rfl) ?_; refine kpf rfl rfl <| kmv rfl <| gmv rfl rfl rfl <| K.eql rfl rfl (beq_iff_eq.2 (by omega)) (.taken rfl rfl) ?_; refine kpf rfl rfl <| kas rfl <| RunK.nil <| LWP.ret ?_)
          exact ⟨[_], ⟨rfl, trivial⟩, by unfold isW; rw [decide_eq_false h1, decide_eq_false h2, decide_eq_false h4, decide_eq_true h8]; rfl⟩
        · (refine LWP.seq <| rgN <| kas rfl <| RunK.nil <| LWP.seq <| rgN <| kmv rfl <| keq rfl rfl (beq_eq_false_iff_ne.2 (by omega)) <| kmv rfl <| gmv rfl rfl rfl <| K.eql rfl rfl (beq_eq_false_iff_ne.2 (by omega)) (.taken rfl rfl) ?_; refine kpf rfl rfl <| kmv rfl <| gmv rfl rfl rfl <| K.eql rfl rfl (beq_eq_false_iff_ne.2 (by omega)) (.taken rfl rfl) ?_; refine kpf rfl rfl <| kmv rfl <| gmv rfl rfl rfl <| K.eql rfl rfl (beq_eq_false_iff_ne.2 (by omega)) (.taken rfl rfl) ?_; refine kpf rfl rfl <| kas rfl <| RunK.nil <| LWP.ret ?_)
          exact ⟨[_], ⟨rfl, trivial⟩, by unfold isW; rw [decide_eq_false h1, decide_eq_false h2, decide_eq_false h4, decide_eq_false h8]; rfl⟩
theorem Read_spec (l : List UInt8) : MSpec Tryz.prog X 44 [Ls l] [] (Lp 1000001) (rd 1000001 l false) := by
  refine MSpec.intro Tryz.func44 rfl (by kernel_rfl) rfl rfl rfl rfl rfl ?_
  intro C
  (refine LWP.seq <| rgN <| kas rfl <| RunK.nil <| LWP.seq <| rgN <| kmv rfl <| K.build rfl rfl (by exact rfl) (by exact nl2 rfl rfl rfl) .plain ?_; refine K.box rfl rfl rfl .plain <| kas rfl <| RunK.nil <| LWP.ret ?_)
  exact ⟨[(1000001, 5)], ⟨[_], ⟨rfl, trivial⟩, rfl⟩, ⟨⟨_, rfl, rfl⟩, trivial⟩, rfl, rfl⟩
theorem Bad_spec (l : List UInt8) (b : Bool) : MSpec Tryz.prog X 77 [Lp 1000000] (rd 1000000 l b) (Lb b) (rd 1000000 l b) := by
  refine MSpec.intro Tryz.func77 rfl (by kernel_rfl) rfl rfl rfl rfl rfl ?_
  intro C
  (refine LWP.seq <| rgN <| kas rfl <| RunK.nil <| LWP.seq <| rgN <| kmv rfl <| K.ptrNil rfl (by kernel_rfl) (.inl ⟨rfl, rfl⟩) .plain <| kmv rfl <| gmv rfl rfl rfl <| K.nilCheck rfl (.taken rfl rfl) ?_; refine K.fieldAddr rfl rfl (.taken rfl rfl) ?_; refine K.loadOne rfl rfl rfl (.taken rfl rfl) ?_; refine kpf rfl rfl <| kas rfl <| RunK.nil <| LWP.ret ?_)
  exact ⟨[], ⟨[_], ⟨rfl, trivial⟩, rfl⟩, ⟨⟨_, rfl, rfl⟩, trivial⟩, rfl, rfl⟩
theorem spoil_spec (l : List UInt8) (b : Bool) : MSpec Tryz.prog X 114 [Lp 1000000] (rd 1000000 l b) (.tup []) (rd 1000000 l true) := by
  refine MSpec.intro Tryz.func114 rfl (by kernel_rfl) rfl rfl rfl rfl rfl ?_
  intro C
  (refine LWP.seq <| rgN <| kmv rfl <| K.ptrNil rfl (by kernel_rfl) (.inr ⟨rfl, rfl⟩) .plain <| RunK.nil <| LWP.condT rfl ?_; refine rgN <| kmv rfl <| K.nilCheck rfl .plain <| kfa rfl rfl ?_; refine K.storeOne rfl rfl rfl rfl rfl (nl2 rfl rfl rfl) .plain <| RunK.nil ?_)
  exact ⟨[], ⟨[], trivial, rfl⟩, ⟨⟨_, rfl, rfl⟩, trivial⟩, rfl, rfl⟩
end Go.Proofs.YtimpjdbhalnofaaGreatDoor
end
section
namespace Go.Lg
open Go
def le : List UInt8 → Nat
  | [] => 0
  | c :: t => c.toNat + 256 * le t
theorem le_lt : ∀ (l : List UInt8), le l < 256 ^ l.length
  | [] => by simp [le]
  | c :: t => by
    have := le_lt t
    have hc := c.toNat_lt
    simp only [le, List.length_cons, Nat.pow_succ]
    omega
theorem le_snoc : ∀ (l : List UInt8) (c : UInt8), le (l ++ [c]) = le l + c.toNat * 256 ^ l.length
  | [], c => by simp [le]
  | d :: t, c => by
    have e : 256 * (c.toNat * 256 ^ t.length) = c.toNat * (256 ^ t.length * 256) := by rw [Nat.mul_left_comm, Nat.mul_comm 256]
    simp only [List.cons_append, le, le_snoc t c, List.length_cons, Nat.pow_succ, Nat.mul_add]
    omega
theorem le_take {l : List UInt8} {i : Nat} {c : UInt8} (h : l[i]? = some c) : le (l.take (i + 1)) = le (l.take i) + c.toNat * 256 ^ i := by
  have hi := (List.getElem?_eq_some_iff.1 h).1
  rw [List.take_add_one, h]
  have := le_snoc (l.take i) c
  rw [List.length_take, Nat.min_eq_left (by omega)] at this
  exact this
def leB : Nat → Nat → List UInt8
  | 0, _ => []
  | k + 1, n => UInt8.ofNat (n % 256) :: leB k (n / 256)
theorem leB_length : ∀ (k n : Nat), (leB k n).length = k
  | 0, _ => rfl
  | k + 1, n => by simp [leB, leB_length k]
theorem leB_get : ∀ (k n i : Nat), i < k → (leB k n)[i]? = some (UInt8.ofNat (n / 256 ^ i % 256))
  | 0, _, _, h => by omega
  | k + 1, n, 0, _ => by simp [leB]
  | k + 1, n, i + 1, h => by
    simp only [leB, List.getElem?_cons_succ]
    rw [leB_get k (n / 256) i (by omega), Nat.pow_succ, Nat.mul_comm, Nat.div_div_eq_div_mul]
def lo (w n i : Nat) : List UInt8 := (leB w n).take i ++ List.replicate (w - i) 0
theorem lo_set {w n i : Nat} (h : i < w) : (((lo w n i).map bc).set (0 + i * 1) (bc (UInt8.ofNat (n / 256 ^ i % 256)))) = (lo w n (i + 1)).map bc := by
  rw [Nat.zero_add, Nat.mul_one, ← List.map_set]
  congr 1
  unfold lo
  have hl : ((leB w n).take i).length = i := by rw [List.length_take, leB_length]; omega
  rw [List.set_append_right _ _ (by omega), hl, Nat.sub_self, List.take_add_one, leB_get w n i h]
  have : w - i = (w - (i + 1)) + 1 := by omega
  rw [this, List.replicate_succ]
  simp
theorem lo_len (w n i : Nat) (h : i ≤ w) : ((lo w n i).map bc).length = w := by
  unfold lo
  rw [List.length_map, List.length_append, List.length_take, leB_length, List.length_replicate]
  omega
theorem lo_all (w n : Nat) : lo w n w = leB w n := by
  unfold lo
  rw [Nat.sub_self, List.take_of_length_le (by rw [leB_length]; exact Nat.le_refl _)]
  simp
theorem or_low {x y c : Int} {s : Nat} (hs : s ≤ 64) (hx : 0 ≤ x ∧ x * 2 ^ s < 18446744073709551616) (hy : 0 ≤ y ∧ y < 2 ^ s) (hc : y + x * 2 ^ s = c) : bits .or .u64 y (x * 2 ^ s) = c := by
  have h := or_apart hs hx hy
  obtain ⟨A, rfl⟩ := Int.eq_ofNat_of_zero_le hx.1
  obtain ⟨B, rfl⟩ := Int.eq_ofNat_of_zero_le hy.1
  have e : ((A : Int) * 2 ^ s) = ((A * 2 ^ s : Nat) : Int) := by rw [Int.natCast_mul, Int.natCast_pow]; rfl
  have e' : ((2 : Int) ^ s) = ((2 ^ s : Nat) : Int) := by rw [Int.natCast_pow]; rfl
  have h1 : A * 2 ^ s < 18446744073709551616 := by have := hx.2; rw [e] at this; omega
  have h3 : 2 ^ s ≤ 18446744073709551616 := by
    have : 2 ^ s ≤ 2 ^ 64 := Nat.pow_le_pow_right (by decide) hs
    exact this
  have h2 : B < 18446744073709551616 := by have := hy.2; rw [e'] at this; omega
  have hcomm : bits .or .u64 (B : Int) ((A : Int) * 2 ^ s) = bits .or .u64 ((A : Int) * 2 ^ s) B := by
    rw [e, u64_or_nat _ _ h2 h1, u64_or_nat _ _ h1 h2, Nat.or_comm]
  rw [hcomm, h]
  omega
end Go.Lg
namespace Go.Proofs.YtimpjdbhalnofaaGreatDoor
open Go Go.Lg
variable (X : Nat → Option Obj)
theorem p256 (i : Nat) : (256 : Nat) ^ i = 2 ^ (8 * i) := by rw [Nat.pow_mul]
theorem onumber_spec (l : List UInt8) (hl : l.length ≤ 8) : PSpec Tryz.prog X 115 [Ls l] (Ln .u64 (le l : Nat)) := by
  refine PSpec.intro Tryz.func115 rfl (by kernel_rfl) rfl rfl ?_
  intro C
  (refine LWP.seq <| rgN <| kas rfl <| RunK.nil <| LWP.seq <| rgN <| kas rfl <| RunK.nil <| LWP.seq <| LWP.seq <| rgN <| kmv rfl <| kln rfl <| kmv rfl ?_; refine RunK.nil <| LWP.block ?_)
  refine LWP.loop (fun m σ => ∃ i : Nat, i ≤ l.length ∧ m = l.length - i ∧ σ = ⟨[(0, Ls l), (3, Ln .u64 (le (l.take i) : Nat)), (6, Ln .i64 (l.length : Nat)), (7, Ln .i64 (i : Nat))], [], X⟩) l.length
    ⟨_, Le.of (by exact ⟨rfl, rfl, rfl, rfl, trivial⟩) (by exact trivial) (by exact rfl) (by exact rfl) (by exact rfl), 0, Nat.zero_le _, rfl, rfl⟩ ?_
  rintro m σ ⟨i, hi, rfl, rfl⟩
  by_cases hlt : i < l.length
  · obtain ⟨b, hb⟩ : ∃ b, l[i]? = some b := ⟨_, List.getElem?_eq_getElem hlt⟩
    have hb' : (⟨l.toArray⟩ : ByteArray)[Int.toNat (i : Int)]? = some b := str_at hb
    have hnx := le_take hb
    have h8 : 8 * i ≤ 56 := by omega
    have w8 : IntKind.i64.wrap (8 * (i : Int)) = ((8 * i : Nat) : Int) := by rw [wrap_i64 (by omega)]; omega
    have hc := b.toNat_lt
    have hlo := le_lt (l.take i)
    rw [List.length_take, Nat.min_eq_left hi, p256] at hlo
    have hp : 2 ^ (8 * i) ≤ 2 ^ 56 := Nat.pow_le_pow_right (by decide) h8
    have hbb : b.toNat * 2 ^ (8 * i) ≤ 255 * 2 ^ 56 := Nat.mul_le_mul (by omega) hp
    have ec : ((b.toNat : Int)) * 2 ^ (8 * i) = ((b.toNat * 2 ^ (8 * i) : Nat) : Int) := by rw [Int.natCast_mul, Int.natCast_pow]; rfl
    have ep : ((2 : Int) ^ (8 * i)) = ((2 ^ (8 * i) : Nat) : Int) := by rw [Int.natCast_pow]; rfl
    have hs := shl_s (a := (b.toNat : Int)) (s := 8 * i) (c := (b.toNat : Int) * 2 ^ (8 * i)) (by omega) rfl (by rw [ec]; omega)
    have ho := or_low (x := (b.toNat : Int)) (y := (le (l.take i) : Nat)) (s := 8 * i) (c := (le (l.take (i + 1)) : Nat)) (by omega) (by rw [ec]; omega) (by rw [ep]; omega) (by rw [ec, hnx, p256]; omega)
    (refine LWP.seq <| rgN <| klt rfl rfl (decide_eq_true (by omega)) <| RunK.nil <| LWP.seq <| LWP.condT rfl ?_; refine LWP.skip ?_; refine LWP.seq <| LWP.block <| LWP.seq <| rgN <| kmv rfl <| kas rfl <| RunK.nil <| rgN <| kmv rfl <| kmv rfl <| kmv rfl <| K.indexStr rfl rfl (by omega) hb' .plain <| kcv rfl (by exact wrap_u64 (by omega)) ?_; refine kmv rfl <| K.mul rfl rfl w8 .plain <| K.shl rfl rfl (by omega) hs .plain <| K.bitop (by simp) rfl rfl ho .plain <| kas rfl <| RunK.nil <| rgN <| kad rfl rfl (wrap_i64 (by omega)) <| kmv rfl <| RunK.nil ?_)
    exact ⟨_, _, by omega, Le.of (by exact ⟨rfl, rfl, rfl, rfl, trivial⟩) (by exact trivial) (by exact rfl) (by exact rfl) (by exact rfl), i + 1, by omega, rfl, rfl⟩
  · have e : i = l.length := by omega
    subst e
    rw [List.take_length]
    (refine LWP.seq <| rgN <| klt rfl rfl (decide_eq_false (by omega)) <| RunK.nil <| LWP.seq <| LWP.condF rfl ?_; refine LWP.exit <| LWP.seq <| rgN <| kmv rfl <| kas rfl <| RunK.nil <| LWP.ret ?_)
    exact ⟨[_], ⟨rfl, trivial⟩, rfl⟩
end Go.Proofs.YtimpjdbhalnofaaGreatDoor
end
section
namespace Go.Proofs.YtimpjdbhalnofaaGreatDoor
open Go Go.Lg
variable (X : Nat → Option Obj)
theorem low_1 (n : Nat) (hn : n < 18446744073709551616) : PSpec Tryz.prog X 113 [Ln .i64 1, Ln .u64 (n : Nat)] (Ls (leB 1 n)) := by
  refine PSpec.intro Tryz.func113 rfl (by kernel_rfl) rfl rfl ?_
  intro C
  (refine LWP.seq <| rgN <| kas rfl <| RunK.nil <| LWP.seq <| rgN <| kmv rfl <| K.makeSlc (m := 1) (zs := List.replicate 1 (.int .u8 0)) (sz := 1) (e := 5) (bytes := 1) (zc := (lo 1 n 0).map bc) rfl rfl (by kernel_rfl) (by kernel_rfl) (by decide) rfl rfl .plain <| kas rfl <| RunK.nil <| LWP.seq <| LWP.seq <| rgN <| kmv rfl ?_; refine K.lenSlc rfl SliceT.h rfl .plain ?_; refine kmv rfl <| RunK.nil <| LWP.block ?_)
  refine LWP.loop (fun m σ => ∃ i : Nat, i ≤ 1 ∧ m = 1 - i ∧ σ = ⟨[(1, Ln .u64 (n : Nat)), (5, .sv (.one (.slc 8 0 1))), (10, Ln .i64 1), (11, Ln .i64 (i : Nat))], [(8, some ⟨5, (lo 1 n i).map bc, false⟩)], X⟩) 1
    ⟨_, Le.of (by exact ⟨rfl, rfl, rfl, rfl, trivial⟩) (by exact ⟨rfl, trivial⟩) (by exact rfl) (by exact rfl) (by repeat' (first | refine all_cons_true ?_ ?_ | rfl | exact bytes_inUse | exact vals_inUse | exact mid_inUse rfl)), 0, Nat.zero_le _, rfl, rfl⟩ ?_
  rintro m σ ⟨i, hi, rfl, rfl⟩
  by_cases hlt : i < 1
  · have w8 : IntKind.i64.wrap (8 * (i : Int)) = ((8 * i : Nat) : Int) := by rw [wrap_i64 (by omega)]; omega
    have ed : ((n : Nat) : Int) / 2 ^ (8 * i) = ((n / 256 ^ i : Nat) : Int) := by rw [p256, Int.natCast_ediv, Int.natCast_pow]; rfl
    have hs := (shr_s (a := ((n : Nat) : Int)) (s := 8 * i) (by omega)).trans ed
    have hv : IntKind.u8.wrap ((n / 256 ^ i : Nat) : Int) = ((UInt8.ofNat (n / 256 ^ i % 256)).toNat : Nat) := by
      rw [UInt8.toNat_ofNat', Nat.mod_eq_of_lt (Nat.mod_lt _ (by decide)), IntKind.wrap_u8]
      omega
    have hbl : Nat.blt (0 + i * 1) ((lo 1 n i).map bc).length = true := by rw [lo_len _ _ _ hi, Nat.blt_eq]; omega
    (refine LWP.seq <| rgN <| klt rfl rfl (decide_eq_true (by omega)) <| RunK.nil <| LWP.seq <| LWP.condT rfl ?_; refine LWP.skip ?_; refine LWP.seq <| LWP.block <| LWP.seq <| rgN <| kmv rfl <| kas rfl <| RunK.nil <| rgN <| kmv rfl <| kmv rfl <| kmv rfl <| kmv rfl <| K.mul rfl rfl w8 .plain <| K.shr rfl rfl (by omega) hs .plain ?_; refine kcv rfl hv ?_; refine K.indexSlc rfl rfl (by omega) rfl .plain ?_; refine K.storeOne rfl rfl rfl rfl hbl (lo_set hlt) .plain <| RunK.nil <| rgN <| kad rfl rfl (wrap_i64 (by omega)) <| kmv rfl <| RunK.nil ?_)
    exact ⟨_, _, by omega, Le.of (by exact ⟨rfl, rfl, rfl, rfl, trivial⟩) (by exact ⟨rfl, trivial⟩) (by exact rfl) (by exact rfl) (by repeat' (first | refine all_cons_true ?_ ?_ | rfl | exact bytes_inUse | exact vals_inUse | exact mid_inUse rfl)), i + 1, by omega, rfl, rfl⟩
  · have e : i = 1 := by omega
    subst e
    have hlen : 0 + 1 ≤ ((lo 1 n 1).map bc).length := by rw [lo_len _ _ _ (Nat.le_refl _)]; omega
    have hcut : (((lo 1 n 1).map bc).drop 0).take 1 = (leB 1 n).map bc := by
      rw [List.drop_zero, List.take_of_length_le (by rw [lo_len _ _ _ (Nat.le_refl _)]; exact Nat.le_refl _), lo_all]
    (refine LWP.seq <| rgN <| klt rfl rfl (decide_eq_false (by omega)) <| RunK.nil <| LWP.seq <| LWP.condF rfl ?_; refine LWP.exit <| LWP.seq <| rgN <| kmv rfl <| K.convStr rfl rfl (by kernel_rfl) StrT.u hlen hcut .plain <| kas rfl <| RunK.nil <| LWP.ret ?_)
    exact ⟨[_], ⟨rfl, trivial⟩, rfl⟩
theorem low_8 (n : Nat) (hn : n < 18446744073709551616) : PSpec Tryz.prog X 113 [Ln .i64 8, Ln .u64 (n : Nat)] (Ls (leB 8 n)) := by
  refine PSpec.intro Tryz.func113 rfl (by kernel_rfl) rfl rfl ?_
  intro C
  (refine LWP.seq <| rgN <| kas rfl <| RunK.nil <| LWP.seq <| rgN <| kmv rfl <| K.makeSlc (m := 8) (zs := List.replicate 8 (.int .u8 0)) (sz := 1) (e := 5) (bytes := 1) (zc := (lo 8 n 0).map bc) rfl rfl (by kernel_rfl) (by kernel_rfl) (by decide) rfl rfl .plain <| kas rfl <| RunK.nil <| LWP.seq <| LWP.seq <| rgN <| kmv rfl ?_; refine K.lenSlc rfl SliceT.h rfl .plain ?_; refine kmv rfl <| RunK.nil <| LWP.block ?_)
  refine LWP.loop (fun m σ => ∃ i : Nat, i ≤ 8 ∧ m = 8 - i ∧ σ = ⟨[(1, Ln .u64 (n : Nat)), (5, .sv (.one (.slc 8 0 8))), (10, Ln .i64 8), (11, Ln .i64 (i : Nat))], [(8, some ⟨5, (lo 8 n i).map bc, false⟩)], X⟩) 8
    ⟨_, Le.of (by exact ⟨rfl, rfl, rfl, rfl, trivial⟩) (by exact ⟨rfl, trivial⟩) (by exact rfl) (by exact rfl) (by repeat' (first | refine all_cons_true ?_ ?_ | rfl | exact bytes_inUse | exact vals_inUse | exact mid_inUse rfl)), 0, Nat.zero_le _, rfl, rfl⟩ ?_
  rintro m σ ⟨i, hi, rfl, rfl⟩
  by_cases hlt : i < 8
  · have w8 : IntKind.i64.wrap (8 * (i : Int)) = ((8 * i : Nat) : Int) := by rw [wrap_i64 (by omega)]; omega
    have ed : ((n : Nat) : Int) / 2 ^ (8 * i) = ((n / 256 ^ i : Nat) : Int) := by rw [p256, Int.natCast_ediv, Int.natCast_pow]; rfl
    have hs := (shr_s (a := ((n : Nat) : Int)) (s := 8 * i) (by omega)).trans ed
    have hv : IntKind.u8.wrap ((n / 256 ^ i : Nat) : Int) = ((UInt8.ofNat (n / 256 ^ i % 256)).toNat : Nat) := by
      rw [UInt8.toNat_ofNat', Nat.mod_eq_of_lt (Nat.mod_lt _ (by decide)), IntKind.wrap_u8]
      omega
    have hbl : Nat.blt (0 + i * 1) ((lo 8 n i).map bc).length = true := by rw [lo_len _ _ _ hi, Nat.blt_eq]; omega
    (refine LWP.seq <| rgN <| klt rfl rfl (decide_eq_true (by omega)) <| RunK.nil <| LWP.seq <| LWP.condT rfl ?_; refine LWP.skip ?_; refine LWP.seq <| LWP.block <| LWP.seq <| rgN <| kmv rfl <| kas rfl <| RunK.nil <| rgN <| kmv rfl <| kmv rfl <| kmv rfl <| kmv rfl <| K.mul rfl rfl w8 .plain <| K.shr rfl rfl (by omega) hs .plain ?_; refine kcv rfl hv ?_; refine K.indexSlc rfl rfl (by omega) rfl .plain ?_; refine K.storeOne rfl rfl rfl rfl hbl (lo_set hlt) .plain <| RunK.nil <| rgN <| kad rfl rfl (wrap_i64 (by omega)) <| kmv rfl <| RunK.nil ?_)
    exact ⟨_, _, by omega, Le.of (by exact ⟨rfl, rfl, rfl, rfl, trivial⟩) (by exact ⟨rfl, trivial⟩) (by exact rfl) (by exact rfl) (by repeat' (first | refine all_cons_true ?_ ?_ | rfl | exact bytes_inUse | exact vals_inUse | exact mid_inUse rfl)), i + 1, by omega, rfl, rfl⟩
  · have e : i = 8 := by omega
    subst e
    have hlen : 0 + 8 ≤ ((lo 8 n 8).map bc).length := by rw [lo_len _ _ _ (Nat.le_refl _)]; omega
    have hcut : (((lo 8 n 8).map bc).drop 0).take 8 = (leB 8 n).map bc := by
      rw [List.drop_zero, List.take_of_length_le (by rw [lo_len _ _ _ (Nat.le_refl _)]; exact Nat.le_refl _), lo_all]
    (refine LWP.seq <| rgN <| klt rfl rfl (decide_eq_false (by omega)) <| RunK.nil <| LWP.seq <| LWP.condF rfl ?_; refine LWP.exit <| LWP.seq <| rgN <| kmv rfl <| K.convStr rfl rfl (by kernel_rfl) StrT.u hlen hcut .plain <| kas rfl <| RunK.nil <| LWP.ret ?_)
    exact ⟨[_], ⟨rfl, trivial⟩, rfl⟩
end Go.Proofs.YtimpjdbhalnofaaGreatDoor
end
section
namespace Go.Proofs.YtimpjdbhalnofaaGreatDoor
open Go Go.Lg
variable (X : Nat → Option Obj)
abbrev w0 (k : Nat) : List (Nat × Option Box) := [(k, some ⟨86, [.val (.pointer none), .val (.int .i64 0)], false⟩)]
abbrev w1 (k ks kb : Nat) (l : List UInt8) : List (Nat × Option Box) :=
  [(k, some ⟨86, [.ptr ks 0, .val (.int .i64 (l.length : Nat))], false⟩), (ks, some ⟨125, [.slc kb 0 l.length], false⟩), (kb, some ⟨5, l.map bc, true⟩)]
theorem String_0 : MSpec Tryz.prog X 42 [Lp 1000000] (w0 1000000) (Ls []) (w0 1000000) := by
  refine MSpec.intro Tryz.func42 rfl (by kernel_rfl) rfl rfl rfl rfl rfl ?_
  intro C
  (refine LWP.seq <| rgN <| kas rfl <| RunK.nil <| LWP.seq <| LWP.seq <| rgN <| kmv rfl <| K.ptrNil rfl (by kernel_rfl) (.inl ⟨rfl, rfl⟩) .plain <| kmv rfl <| gmv rfl rfl rfl <| K.nilCheck rfl (.taken rfl rfl) ?_; refine K.fieldAddr rfl rfl (.taken rfl rfl) ?_; refine K.loadOne rfl rfl rfl (.taken rfl rfl) ?_; refine K.nilNil rfl (by kernel_rfl) (.inl ⟨rfl, rfl⟩) (.taken rfl rfl) ?_; refine kpf rfl rfl <| RunK.nil <| LWP.condT rfl ?_; refine LWP.seq <| rgN <| kas rfl <| RunK.nil <| LWP.ret ?_)
  exact ⟨[], ⟨[_], ⟨rfl, trivial⟩, rfl⟩, ⟨⟨_, rfl, rfl⟩, trivial⟩, rfl, rfl⟩
theorem String_1 (l : List UInt8) : MSpec Tryz.prog X 42 [Lp 1000000] (w1 1000000 1000001 1000002 l) (Ls l) (w1 1000000 1000001 1000002 l) := by
  refine MSpec.intro Tryz.func42 rfl (by kernel_rfl) rfl rfl (by repeat' (first | refine all_cons_true ?_ ?_ | rfl | exact bytes_inUse | exact vals_inUse | exact mid_inUse rfl)) rfl rfl ?_
  intro C
  have hlen : 0 + l.length ≤ (l.map bc).length := by rw [List.length_map]; omega
  have hcut : ((l.map bc).drop 0).take l.length = l.map bc := by rw [List.drop_zero, List.take_of_length_le (by rw [List.length_map]; exact Nat.le_refl _)]
  (refine LWP.seq <| rgN <| kas rfl <| RunK.nil <| LWP.seq <| LWP.seq <| rgN <| kmv rfl <| K.ptrNil rfl (by kernel_rfl) (.inl ⟨rfl, rfl⟩) .plain <| kmv rfl <| gmv rfl rfl rfl <| K.nilCheck rfl (.taken rfl rfl) ?_; refine K.fieldAddr rfl rfl (.taken rfl rfl) ?_; refine K.loadOne rfl rfl rfl (.taken rfl rfl) ?_; refine K.ptrNil rfl (by kernel_rfl) (.inl ⟨rfl, rfl⟩) (.taken rfl rfl) ?_; refine kpf rfl rfl <| RunK.nil <| LWP.condF rfl ?_; refine LWP.skip ?_; refine LWP.seq <| rgD mixed <| kmv rfl <| K.nilCheck rfl .plain <| kfa rfl rfl ?_; refine kl1 rfl rfl rfl <| K.nilCheck rfl .plain <| kfa rfl rfl ?_; refine kl1 rfl rfl rfl <| kmv rfl <| K.nilCheck rfl .plain <| kfa rfl rfl ?_; refine kl1 rfl rfl rfl <| K.cutSlc rfl rfl SliceT.h (Nat.le_refl _) .plain <| K.convStr rfl rfl (by kernel_rfl) StrT.u hlen hcut .plain <| kas rfl <| RunK.nil <| rgA ?_; refine LWP.ret ?_)
  exact ⟨[], ⟨[_], ⟨rfl, trivial⟩, rfl⟩, (by repeat' (first | exact trivial | refine And.intro ⟨_, rfl, ?_⟩ ?_ | refine And.intro ⟨_, rfl⟩ ?_ | rfl | exact Box.ren_bytes _ _ _ _ | exact Box.ren_vals _ _ _ _ | exact Box.ren_mid rfl)), rfl, rfl⟩
theorem WRaw_0 (s : List UInt8) (hs : s.length < 1000000000) : MSpec Tryz.prog X 112 [Lp 1000000, Ls s] (w0 1000000) (Lb true) (w1 1000000 1000001 1000002 s) := by
  refine MSpec.intro Tryz.func112 rfl (by kernel_rfl) rfl rfl (by repeat' (first | refine all_cons_true ?_ ?_ | rfl | exact bytes_inUse | exact vals_inUse | exact mid_inUse rfl)) rfl rfl ?_
  intro C
  (refine LWP.seq <| rgN <| kas rfl <| RunK.nil <| LWP.seq <| LWP.seq <| rgN <| kmv rfl <| K.ptrNil rfl (by kernel_rfl) (.inl ⟨rfl, rfl⟩) .plain <| RunK.nil <| LWP.condF rfl ?_; refine LWP.skip ?_; refine LWP.seq <| LWP.seq <| rgD mixed <| kmv rfl <| K.nilCheck rfl .plain <| kfa rfl rfl ?_; refine kl1 rfl rfl rfl <| K.nilNil rfl (by kernel_rfl) (.inl ⟨rfl, rfl⟩) .plain <| kmv rfl <| RunK.passed rfl rfl rfl <| RunK.passed rfl rfl rfl <| RunK.passed rfl rfl rfl <| RunK.passed rfl rfl rfl <| RunK.passed rfl rfl rfl <| RunK.passed rfl rfl rfl <| RunK.passed rfl rfl rfl <| RunK.passed rfl rfl rfl <| RunK.passed rfl rfl rfl <| RunK.passed rfl rfl rfl <| RunK.passed rfl rfl rfl ?_; refine RunK.passed rfl rfl rfl <| RunK.passed rfl rfl rfl <| kpt rfl rfl <| RunK.nil <| rgA ?_; refine LWP.condT rfl ?_; refine rgN <| kmv rfl <| kmv rfl <| K.callM [] (w0 1000000) (String_0 X) rfl rfl (by exact (And.intro ⟨_, rfl, rfl⟩ trivial)) (by exact (all_cons_true (all_cons_true rfl (all_cons_true rfl rfl)) rfl)) rfl rfl rfl rfl (by exact (.box rfl rfl .nil)) .plain <| K.strBytes (e := 5) rfl StrT.u (by kernel_rfl) (by kernel_rfl) rfl .plain <| K.build rfl rfl (by exact rfl) (by exact nl1 rfl rfl) .plain ?_; refine K.box rfl rfl rfl .plain <| K.nilCheck rfl .plain <| kfa rfl rfl ?_; refine K.storeOne rfl rfl rfl rfl rfl (nl2 rfl rfl rfl) .plain <| RunK.nil <| LWP.seq <| rgD mixed <| kmv rfl <| K.nilCheck rfl .plain <| kfa rfl rfl ?_; refine kl1 rfl rfl rfl <| kmv rfl <| K.nilCheck rfl .plain <| kfa rfl rfl ?_; refine kl1 rfl rfl rfl <| K.nilCheck rfl .plain <| kfa rfl rfl ?_; refine kl1 rfl rfl rfl <| kmv rfl <| K.appendStr (by_ := 1) rfl rfl rfl rfl (by kernel_rfl) StrT.u (by simp only [List.length_nil]; omega) (by simp only [List.length_nil]; omega) rfl (Nat.zero_add _) (List.nil_append _) .plain <| K.nilCheck rfl .plain <| kfa rfl rfl ?_; refine K.storeOne rfl rfl rfl rfl rfl (nl1 rfl rfl) .plain <| RunK.nil <| rgA ?_; refine LWP.seq <| rgN <| kmv rfl <| kmv rfl <| K.nilCheck rfl .plain <| kfa rfl rfl ?_; refine kl1 rfl rfl rfl <| K.nilCheck rfl .plain <| kfa rfl rfl ?_; refine kl1 rfl rfl rfl <| K.lenSlc rfl SliceT.h rfl .plain ?_; refine K.nilCheck rfl .plain <| kfa rfl rfl ?_; refine K.storeOne rfl rfl rfl rfl rfl (nl2 rfl rfl rfl) .plain <| RunK.nil <| LWP.seq <| rgN <| kas rfl <| RunK.nil <| LWP.ret ?_)
  exact ⟨[(1000001, 32), (1000002, 47)], ⟨[_], ⟨rfl, trivial⟩, rfl⟩, (by repeat' (first | exact trivial | refine And.intro ⟨_, rfl, ?_⟩ ?_ | refine And.intro ⟨_, rfl⟩ ?_ | rfl | exact Box.ren_bytes _ _ _ _ | exact Box.ren_vals _ _ _ _ | exact Box.ren_mid rfl)), rfl, rfl⟩
theorem WRaw_1 (l s : List UInt8) (hs : l.length + s.length < 1000000000) : MSpec Tryz.prog X 112 [Lp 1000000, Ls s] (w1 1000000 1000001 1000002 l) (Lb true) (w1 1000000 1000001 1000003 (l ++ s) ++ [(1000002, none)]) := by
  refine MSpec.intro Tryz.func112 rfl (by kernel_rfl) rfl rfl (by repeat' (first | refine all_cons_true ?_ ?_ | rfl | exact bytes_inUse | exact vals_inUse | exact mid_inUse rfl)) rfl rfl ?_
  intro C
  ((refine LWP.seq <| rgN <| kas rfl <| RunK.nil <| LWP.seq <| LWP.seq <| rgN <| kmv rfl <| K.ptrNil rfl (by kernel_rfl) (.inl ⟨rfl, rfl⟩) .plain <| RunK.nil <| LWP.condF rfl ?_; refine LWP.skip ?_; refine LWP.seq <| LWP.seq <| rgD mixed <| kmv rfl <| K.nilCheck rfl .plain <| kfa rfl rfl ?_; refine kl1 rfl rfl rfl <| K.ptrNil rfl (by kernel_rfl) (.inl ⟨rfl, rfl⟩) .plain <| kmv rfl <| gmv rfl rfl rfl <| K.nilCheck rfl (.taken rfl rfl) ?_; refine K.fieldAddr rfl rfl (.taken rfl rfl) ?_; refine K.loadOne rfl rfl rfl (.taken rfl rfl) ?_; refine gmv rfl rfl rfl <| K.nilCheck rfl (.taken rfl rfl) ?_; refine K.fieldAddr rfl rfl (.taken rfl rfl) ?_; refine K.loadOne rfl rfl rfl (.taken rfl rfl) ?_; refine K.nilCheck rfl (.taken rfl rfl) ?_; refine K.fieldAddr rfl rfl (.taken rfl rfl) ?_; refine K.loadOne rfl rfl rfl (.taken rfl rfl) ?_); (refine K.lenSlc rfl SliceT.h rfl (.taken rfl rfl) ?_; refine K.neq rfl rfl ((bne_eq_false_iff_eq.2 (by omega))) (.taken rfl rfl) ?_; refine kpf rfl rfl <| RunK.nil <| rgA ?_; refine LWP.condF rfl ?_; refine LWP.skip ?_; refine LWP.seq <| rgD mixed <| kmv rfl <| K.nilCheck rfl .plain <| kfa rfl rfl ?_; refine kl1 rfl rfl rfl <| kmv rfl <| K.nilCheck rfl .plain <| kfa rfl rfl ?_; refine kl1 rfl rfl rfl <| K.nilCheck rfl .plain <| kfa rfl rfl ?_; refine kl1 rfl rfl rfl <| kmv rfl <| K.appendStr (by_ := 1) rfl rfl (List.length_map _) rfl (by kernel_rfl) StrT.u (by omega) (by omega) rfl (List.length_append).symm (List.map_append).symm .plain <| K.nilCheck rfl .plain <| kfa rfl rfl ?_; refine K.storeOne rfl rfl rfl rfl rfl (nl1 rfl rfl) .plain <| RunK.nil <| rgA ?_; refine LWP.seq <| rgN <| kmv rfl <| kmv rfl <| K.nilCheck rfl .plain <| kfa rfl rfl ?_; refine kl1 rfl rfl rfl <| K.nilCheck rfl .plain <| kfa rfl rfl ?_); (refine kl1 rfl rfl rfl <| K.lenSlc rfl SliceT.h rfl .plain ?_; refine K.nilCheck rfl .plain <| kfa rfl rfl ?_; refine K.storeOne rfl rfl rfl rfl rfl (nl2 rfl rfl rfl) .plain <| RunK.nil <| LWP.seq <| rgN <| kas rfl <| RunK.nil <| LWP.ret ?_))
  exact ⟨[(1000003, 47)], ⟨[_], ⟨rfl, trivial⟩, rfl⟩, (by repeat' (first | exact trivial | refine And.intro ⟨_, rfl, ?_⟩ ?_ | refine And.intro ⟨_, rfl⟩ ?_ | rfl | exact Box.ren_bytes _ _ _ _ | exact Box.ren_vals _ _ _ _ | exact Box.ren_mid rfl)), rfl, rfl⟩
end Go.Proofs.YtimpjdbhalnofaaGreatDoor
end
section
namespace Go.Proofs.YtimpjdbhalnofaaGreatDoor
open Go Go.Lg
variable (X : Nat → Option Obj)
theorem oshr_1 (n : Nat) : ((n : Nat) : Int).fdiv (2 ^ (min (((8 * 1 : Nat) : Int)).toNat IntKind.u64.bits)) = ((n / 256 ^ 1 : Nat) : Int) := by
  have ed : ((n : Nat) : Int) / 2 ^ (8 * 1) = ((n / 256 ^ 1 : Nat) : Int) := by rw [p256, Int.natCast_ediv, Int.natCast_pow]; rfl
  exact (shr_s (a := ((n : Nat) : Int)) (s := 8 * 1) (by omega)).trans ed
theorem WNum_0_1 (n : Nat) (hn : n < 18446744073709551616) (h : n < 256 ^ 1) : MSpec Tryz.prog X 73 [Lp 1000000, Ln .i64 1, Ln .u64 (n : Nat)] (w0 1000000) (Lb true) (w1 1000000 1000001 1000002 (leB 1 n)) := by
  refine MSpec.intro Tryz.func73 rfl (by kernel_rfl) rfl rfl (by repeat' (first | refine all_cons_true ?_ ?_ | rfl | exact bytes_inUse | exact vals_inUse | exact mid_inUse rfl)) rfl rfl ?_
  intro C
  have hz : ((n / 256 ^ 1 : Nat) : Int) = 0 := by rw [Nat.div_eq_of_lt h]; rfl
  have hs := (oshr_1 n).trans hz
  (refine LWP.seq <| rgN <| kas rfl <| RunK.nil <| LWP.seq <| LWP.seq <| rgN <| kmv rfl <| kca rfl rfl (isWidth_spec X _ true rfl) <| K.not rfl rfl .plain <| kmv rfl <| gmv rfl rfl rfl <| gmv rfl rfl rfl <| K.mul rfl rfl (c := ((8 * 1 : Nat) : Int)) rfl (.taken rfl rfl) ?_; refine K.shr rfl rfl (by decide) hs (.taken rfl rfl) ?_; refine K.neq rfl rfl ((bne_eq_false_iff_eq.2 (by omega))) (.taken rfl rfl) ?_; refine kpf rfl rfl <| RunK.nil <| LWP.condF rfl ?_; refine LWP.skip ?_; refine LWP.seq <| rgN <| kmv rfl <| kmv rfl <| kmv rfl <| kca rfl rfl (low_1 X n hn) <| K.callM [(1000001, 501), (1000002, 502)] (w1 1000000 501 502 (leB 1 n)) (WRaw_0 X _ (by rw [leB_length]; decide)) rfl rfl (by exact (And.intro ⟨_, rfl, rfl⟩ trivial)) (by exact (all_cons_true (all_cons_true rfl (all_cons_true rfl rfl)) rfl)) rfl rfl rfl rfl (by exact (.box rfl rfl (.box rfl rfl (.box rfl rfl .nil)))) .plain <| kas rfl <| RunK.nil <| LWP.ret ?_)
  exact ⟨[(1000001, 501), (1000002, 502)], ⟨[_], ⟨rfl, trivial⟩, rfl⟩, (by repeat' (first | exact trivial | refine And.intro ⟨_, rfl, ?_⟩ ?_ | refine And.intro ⟨_, rfl⟩ ?_ | rfl | exact Box.ren_bytes _ _ _ _ | exact Box.ren_vals _ _ _ _ | exact Box.ren_mid rfl)), rfl, rfl⟩
theorem WNum_1_1 (l : List UInt8) (n : Nat) (hn : n < 18446744073709551616) (h : n < 256 ^ 1) (hl : l.length < 900000000) : MSpec Tryz.prog X 73 [Lp 1000000, Ln .i64 1, Ln .u64 (n : Nat)] (w1 1000000 1000001 1000002 l) (Lb true) (w1 1000000 1000001 1000003 (l ++ leB 1 n) ++ [(1000002, none)]) := by
  refine MSpec.intro Tryz.func73 rfl (by kernel_rfl) rfl rfl (by repeat' (first | refine all_cons_true ?_ ?_ | rfl | exact bytes_inUse | exact vals_inUse | exact mid_inUse rfl)) rfl rfl ?_
  intro C
  have hz : ((n / 256 ^ 1 : Nat) : Int) = 0 := by rw [Nat.div_eq_of_lt h]; rfl
  have hs := (oshr_1 n).trans hz
  (refine LWP.seq <| rgN <| kas rfl <| RunK.nil <| LWP.seq <| LWP.seq <| rgN <| kmv rfl <| kca rfl rfl (isWidth_spec X _ true rfl) <| K.not rfl rfl .plain <| kmv rfl <| gmv rfl rfl rfl <| gmv rfl rfl rfl <| K.mul rfl rfl (c := ((8 * 1 : Nat) : Int)) rfl (.taken rfl rfl) ?_; refine K.shr rfl rfl (by decide) hs (.taken rfl rfl) ?_; refine K.neq rfl rfl ((bne_eq_false_iff_eq.2 (by omega))) (.taken rfl rfl) ?_; refine kpf rfl rfl <| RunK.nil <| LWP.condF rfl ?_; refine LWP.skip ?_; refine LWP.seq <| rgN <| kmv rfl <| kmv rfl <| kmv rfl <| kca rfl rfl (low_1 X n hn) <| K.callM [(1000003, 503)] (w1 1000000 1000001 503 (l ++ leB 1 n) ++ [(1000002, none)]) (WRaw_1 X l _ (by rw [leB_length]; omega)) rfl rfl (by exact (And.intro ⟨_, rfl, rfl⟩ (And.intro ⟨_, rfl, rfl⟩ (And.intro ⟨_, rfl, (Box.ren_bytes _ _ _ _)⟩ trivial)))) (by exact (all_cons_true (all_cons_true rfl (all_cons_true rfl rfl)) (all_cons_true (all_cons_true rfl rfl) (all_cons_true bytes_inUse rfl)))) rfl rfl rfl rfl (by exact (.box rfl rfl (.box rfl rfl (.box rfl (Box.ren_bytes _ _ _ _) (.dead rfl .nil))))) .plain <| kas rfl <| RunK.nil <| LWP.ret ?_)
  exact ⟨[(1000003, 503)], ⟨[_], ⟨rfl, trivial⟩, rfl⟩, (by repeat' (first | exact trivial | refine And.intro ⟨_, rfl, ?_⟩ ?_ | refine And.intro ⟨_, rfl⟩ ?_ | rfl | exact Box.ren_bytes _ _ _ _ | exact Box.ren_vals _ _ _ _ | exact Box.ren_mid rfl)), rfl, rfl⟩
theorem oshr_8 (n : Nat) : ((n : Nat) : Int).fdiv (2 ^ (min (((8 * 8 : Nat) : Int)).toNat IntKind.u64.bits)) = ((n / 256 ^ 8 : Nat) : Int) := by
  have ed : ((n : Nat) : Int) / 2 ^ (8 * 8) = ((n / 256 ^ 8 : Nat) : Int) := by rw [p256, Int.natCast_ediv, Int.natCast_pow]; rfl
  exact (shr_s (a := ((n : Nat) : Int)) (s := 8 * 8) (by omega)).trans ed
theorem WNum_1_8 (l : List UInt8) (n : Nat) (hn : n < 18446744073709551616) (h : n < 256 ^ 8) (hl : l.length < 900000000) : MSpec Tryz.prog X 73 [Lp 1000000, Ln .i64 8, Ln .u64 (n : Nat)] (w1 1000000 1000001 1000002 l) (Lb true) (w1 1000000 1000001 1000003 (l ++ leB 8 n) ++ [(1000002, none)]) := by
  refine MSpec.intro Tryz.func73 rfl (by kernel_rfl) rfl rfl (by repeat' (first | refine all_cons_true ?_ ?_ | rfl | exact bytes_inUse | exact vals_inUse | exact mid_inUse rfl)) rfl rfl ?_
  intro C
  have hz : ((n / 256 ^ 8 : Nat) : Int) = 0 := by rw [Nat.div_eq_of_lt h]; rfl
  have hs := (oshr_8 n).trans hz
  (refine LWP.seq <| rgN <| kas rfl <| RunK.nil <| LWP.seq <| LWP.seq <| rgN <| kmv rfl <| kca rfl rfl (isWidth_spec X _ true rfl) <| K.not rfl rfl .plain <| kmv rfl <| gmv rfl rfl rfl <| gmv rfl rfl rfl <| K.mul rfl rfl (c := ((8 * 8 : Nat) : Int)) rfl (.taken rfl rfl) ?_; refine K.shr rfl rfl (by decide) hs (.taken rfl rfl) ?_; refine K.neq rfl rfl ((bne_eq_false_iff_eq.2 (by omega))) (.taken rfl rfl) ?_; refine kpf rfl rfl <| RunK.nil <| LWP.condF rfl ?_; refine LWP.skip ?_; refine LWP.seq <| rgN <| kmv rfl <| kmv rfl <| kmv rfl <| kca rfl rfl (low_8 X n hn) <| K.callM [(1000003, 503)] (w1 1000000 1000001 503 (l ++ leB 8 n) ++ [(1000002, none)]) (WRaw_1 X l _ (by rw [leB_length]; omega)) rfl rfl (by exact (And.intro ⟨_, rfl, rfl⟩ (And.intro ⟨_, rfl, rfl⟩ (And.intro ⟨_, rfl, (Box.ren_bytes _ _ _ _)⟩ trivial)))) (by exact (all_cons_true (all_cons_true rfl (all_cons_true rfl rfl)) (all_cons_true (all_cons_true rfl rfl) (all_cons_true bytes_inUse rfl)))) rfl rfl rfl rfl (by exact (.box rfl rfl (.box rfl rfl (.box rfl (Box.ren_bytes _ _ _ _) (.dead rfl .nil))))) .plain <| kas rfl <| RunK.nil <| LWP.ret ?_)
  exact ⟨[(1000003, 503)], ⟨[_], ⟨rfl, trivial⟩, rfl⟩, (by repeat' (first | exact trivial | refine And.intro ⟨_, rfl, ?_⟩ ?_ | refine And.intro ⟨_, rfl⟩ ?_ | rfl | exact Box.ren_bytes _ _ _ _ | exact Box.ren_vals _ _ _ _ | exact Box.ren_mid rfl)), rfl, rfl⟩
end Go.Proofs.YtimpjdbhalnofaaGreatDoor
end
section
namespace Go.Proofs.YtimpjdbhalnofaaGreatDoor
open Go Go.Lg
variable (X : Nat → Option Obj)
theorem rlen (l : List UInt8) : (⟨l.toArray⟩ : ByteArray).size = l.length := rfl
theorem Left_spec (l : List UInt8) (b : Bool) : MSpec Tryz.prog X 139 [Lp 1000000] (rd 1000000 l b) (Ln .i64 (if b = true then 0 else (l.length : Nat))) (rd 1000000 l b) := by
  refine MSpec.intro Tryz.func139 rfl (by kernel_rfl) rfl rfl rfl rfl rfl ?_
  intro C
  cases b with
  | false =>
    (refine LWP.seq <| rgN <| kas rfl <| RunK.nil <| LWP.seq <| LWP.seq <| rgN <| kmv rfl <| K.callM [] (rd 1000000 l false) (Bad_spec X l false) rfl rfl (by exact (And.intro ⟨_, rfl, rfl⟩ trivial)) (by exact (all_cons_true (all_cons_true rfl (all_cons_true rfl rfl)) rfl)) rfl rfl rfl rfl (by exact (.box rfl rfl .nil)) .plain <| RunK.nil <| LWP.condF rfl ?_; refine LWP.skip ?_; refine LWP.seq <| rgN <| kmv rfl <| K.nilCheck rfl .plain <| kfa rfl rfl ?_; refine kl1 rfl rfl rfl <| kln rfl <| kas rfl <| RunK.nil <| LWP.ret ?_)
    exact ⟨[], ⟨[_], ⟨rfl, trivial⟩, rfl⟩, ⟨⟨_, rfl, rfl⟩, trivial⟩, rfl, rfl⟩
  | true =>
    (refine LWP.seq <| rgN <| kas rfl <| RunK.nil <| LWP.seq <| LWP.seq <| rgN <| kmv rfl <| K.callM [] (rd 1000000 l true) (Bad_spec X l true) rfl rfl (by exact (And.intro ⟨_, rfl, rfl⟩ trivial)) (by exact (all_cons_true (all_cons_true rfl (all_cons_true rfl rfl)) rfl)) rfl rfl rfl rfl (by exact (.box rfl rfl .nil)) .plain <| RunK.nil <| LWP.condT rfl ?_; refine LWP.seq <| rgN <| kas rfl <| RunK.nil <| LWP.ret ?_)
    exact ⟨[], ⟨[_], ⟨rfl, trivial⟩, rfl⟩, ⟨⟨_, rfl, rfl⟩, trivial⟩, rfl, rfl⟩
theorem Done_spec (l : List UInt8) (b : Bool) (e : Bool) (he : (l == []) = e) : MSpec Tryz.prog X 47 [Lp 1000000] (rd 1000000 l b) (Lb (!b && e)) (rd 1000000 l b) := by
  refine MSpec.intro Tryz.func47 rfl (by kernel_rfl) rfl rfl rfl rfl rfl ?_
  intro C
  cases b with
  | false =>
    (refine LWP.seq <| rgN <| kas rfl <| RunK.nil <| LWP.seq <| rgN <| kmv rfl <| K.callM [] (rd 1000000 l false) (Bad_spec X l false) rfl rfl (by exact (And.intro ⟨_, rfl, rfl⟩ trivial)) (by exact (all_cons_true (all_cons_true rfl (all_cons_true rfl rfl)) rfl)) rfl rfl rfl rfl (by exact (.box rfl rfl .nil)) .plain <| K.not rfl rfl .plain <| kmv rfl <| gmv rfl rfl rfl <| K.nilCheck rfl (.taken rfl rfl) ?_; refine K.fieldAddr rfl rfl (.taken rfl rfl) ?_; refine K.loadOne rfl rfl rfl (.taken rfl rfl) ?_; refine K.strEq rfl rfl (strs_eq he) (.taken rfl rfl) ?_; refine kpt rfl rfl <| kas rfl <| RunK.nil <| LWP.ret ?_)
    exact ⟨[], ⟨[_], ⟨rfl, trivial⟩, rfl⟩, ⟨⟨_, rfl, rfl⟩, trivial⟩, rfl, rfl⟩
  | true =>
    (refine LWP.seq <| rgN <| kas rfl <| RunK.nil <| LWP.seq <| rgN <| kmv rfl <| K.callM [] (rd 1000000 l true) (Bad_spec X l true) rfl rfl (by exact (And.intro ⟨_, rfl, rfl⟩ trivial)) (by exact (all_cons_true (all_cons_true rfl (all_cons_true rfl rfl)) rfl)) rfl rfl rfl rfl (by exact (.box rfl rfl .nil)) .plain <| K.not rfl rfl .plain <| kmv rfl <| RunK.passed rfl rfl rfl <| RunK.passed rfl rfl rfl <| RunK.passed rfl rfl rfl <| RunK.passed rfl rfl rfl ?_; refine RunK.passed rfl rfl rfl <| kpf rfl rfl <| kas rfl <| RunK.nil <| LWP.ret ?_)
    exact ⟨[], ⟨[_], ⟨rfl, trivial⟩, rfl⟩, ⟨⟨_, rfl, rfl⟩, trivial⟩, rfl, rfl⟩
def rawOk (l : List UInt8) (b : Bool) (n : Int) : Bool := !b && decide (0 ≤ n ∧ n ≤ l.length)
theorem Raw_ok (l : List UInt8) (n : Nat) (hn : n ≤ l.length) (hl : l.length < 4611686018427387904) : MSpec Tryz.prog X 116 [Lp 1000000, Ln .i64 (n : Nat)] (rd 1000000 l false) (Ls (l.take n)) (rd 1000000 (l.drop n) false) := by
  refine MSpec.intro Tryz.func116 rfl (by kernel_rfl) rfl rfl rfl rfl rfl ?_
  intro C
  have hz := rlen l
  have c1 : (⟨l.toArray⟩ : ByteArray).extract 0 n = ⟨(l.take n).toArray⟩ := by rw [str_cut, List.drop_zero, Nat.sub_zero]
  have c2 : (⟨l.toArray⟩ : ByteArray).extract n (⟨l.toArray⟩ : ByteArray).size = ⟨(l.drop n).toArray⟩ := by
    rw [str_cut, hz, List.take_of_length_le (by rw [List.length_drop]; exact Nat.le_refl _)]
  have hL := Left_spec X l false
  rw [if_neg (by simp)] at hL
  (refine LWP.seq <| rgN <| kas rfl <| RunK.nil <| LWP.seq <| LWP.seq <| rgN <| kmv rfl <| klt rfl rfl (decide_eq_false (by omega)) <| kmv rfl <| gmv rfl rfl rfl <| gmv rfl rfl rfl <| K.callM [] (rd 1000000 l false) (hL) rfl rfl (by exact (And.intro ⟨_, rfl, rfl⟩ trivial)) (by exact (all_cons_true (all_cons_true rfl (all_cons_true rfl rfl)) rfl)) rfl rfl rfl rfl (by exact (.box rfl rfl .nil)) (.taken rfl rfl) ?_; refine K.gtr rfl rfl (decide_eq_false (by omega)) (.taken rfl rfl) ?_; refine kpf rfl rfl <| RunK.nil <| LWP.condF rfl ?_; refine LWP.skip ?_; refine LWP.seq <| LWP.seq <| rgN <| kmv rfl <| K.callM [] (rd 1000000 l false) (Bad_spec X l false) rfl rfl (by exact (And.intro ⟨_, rfl, rfl⟩ trivial)) (by exact (all_cons_true (all_cons_true rfl (all_cons_true rfl rfl)) rfl)) rfl rfl rfl rfl (by exact (.box rfl rfl .nil)) .plain <| RunK.nil <| LWP.condF rfl ?_; refine LWP.skip ?_; refine LWP.seq <| rgN <| kmv rfl <| K.nilCheck rfl .plain <| kfa rfl rfl ?_; refine kl1 rfl rfl rfl <| kmv rfl <| K.sliceStr (l := 0) (h := n) (kl := .i64) (kh := .i64) rfl StrT.u rfl rfl ⟨(by omega), (by omega)⟩ c1 .plain <| kas rfl <| RunK.nil <| LWP.seq <| rgN <| kmv rfl <| kmv rfl <| K.nilCheck rfl .plain <| kfa rfl rfl ?_; refine kl1 rfl rfl rfl <| kmv rfl <| K.sliceStr (l := n) (h := (⟨l.toArray⟩ : ByteArray).size) (kl := .i64) (kh := .i64) rfl StrT.u rfl rfl ⟨(by omega), (by omega)⟩ c2 .plain <| K.nilCheck rfl .plain <| kfa rfl rfl ?_; refine K.storeOne rfl rfl rfl rfl rfl (nl2 rfl rfl rfl) .plain <| RunK.nil <| LWP.seq <| rgN <| kmv rfl <| kas rfl <| RunK.nil <| LWP.ret ?_)
  exact ⟨[], ⟨[_], ⟨rfl, trivial⟩, rfl⟩, ⟨⟨_, rfl, rfl⟩, trivial⟩, rfl, rfl⟩
theorem Raw_no (l : List UInt8) (b : Bool) (n : Int) (h : rawOk l b n = false) : MSpec Tryz.prog X 116 [Lp 1000000, Ln .i64 n] (rd 1000000 l b) (Ls []) (rd 1000000 l true) := by
  refine MSpec.intro Tryz.func116 rfl (by kernel_rfl) rfl rfl rfl rfl rfl ?_
  intro C
  have hL := Left_spec X l b
  by_cases h0 : n < 0
  · (refine LWP.seq <| rgN <| kas rfl <| RunK.nil <| LWP.seq <| LWP.seq <| rgN <| kmv rfl <| klt rfl rfl (decide_eq_true (by omega)) <| kmv rfl <| RunK.passed rfl rfl rfl <| RunK.passed rfl rfl rfl <| RunK.passed rfl rfl rfl <| RunK.passed rfl rfl rfl ?_; refine kpt rfl rfl <| RunK.nil <| LWP.condT rfl ?_; refine rgN <| kmv rfl <| K.callM [] (rd 1000000 l true) (spoil_spec X l b) rfl rfl (by exact (And.intro ⟨_, rfl, rfl⟩ trivial)) (by exact (all_cons_true (all_cons_true rfl (all_cons_true rfl rfl)) rfl)) rfl rfl rfl rfl (by exact (.box rfl rfl .nil)) .plain <| RunK.nil <| LWP.seq <| LWP.seq <| rgN <| kmv rfl <| K.callM [] (rd 1000000 l true) (Bad_spec X l true) rfl rfl (by exact (And.intro ⟨_, rfl, rfl⟩ trivial)) (by exact (all_cons_true (all_cons_true rfl (all_cons_true rfl rfl)) rfl)) rfl rfl rfl rfl (by exact (.box rfl rfl .nil)) .plain <| RunK.nil <| LWP.condT rfl ?_; refine LWP.seq <| rgN <| kas rfl <| RunK.nil <| LWP.ret ?_)
    exact ⟨[], ⟨[_], ⟨rfl, trivial⟩, rfl⟩, ⟨⟨_, rfl, rfl⟩, trivial⟩, rfl, rfl⟩
  · cases b with
    | false =>
      rw [if_neg (by simp)] at hL
      have hgt : (l.length : Int) < n := by
        have : ¬ (0 ≤ n ∧ n ≤ l.length) := by simpa [rawOk] using h
        omega
      (refine LWP.seq <| rgN <| kas rfl <| RunK.nil <| LWP.seq <| LWP.seq <| rgN <| kmv rfl <| klt rfl rfl (decide_eq_false (by omega)) <| kmv rfl <| gmv rfl rfl rfl <| gmv rfl rfl rfl <| K.callM [] (rd 1000000 l false) (hL) rfl rfl (by exact (And.intro ⟨_, rfl, rfl⟩ trivial)) (by exact (all_cons_true (all_cons_true rfl (all_cons_true rfl rfl)) rfl)) rfl rfl rfl rfl (by exact (.box rfl rfl .nil)) (.taken rfl rfl) ?_; refine K.gtr rfl rfl (decide_eq_true (by omega)) (.taken rfl rfl) ?_; refine kpf rfl rfl <| RunK.nil <| LWP.condT rfl ?_; refine rgN <| kmv rfl <| K.callM [] (rd 1000000 l true) (spoil_spec X l false) rfl rfl (by exact (And.intro ⟨_, rfl, rfl⟩ trivial)) (by exact (all_cons_true (all_cons_true rfl (all_cons_true rfl rfl)) rfl)) rfl rfl rfl rfl (by exact (.box rfl rfl .nil)) .plain <| RunK.nil <| LWP.seq <| LWP.seq <| rgN <| kmv rfl <| K.callM [] (rd 1000000 l true) (Bad_spec X l true) rfl rfl (by exact (And.intro ⟨_, rfl, rfl⟩ trivial)) (by exact (all_cons_true (all_cons_true rfl (all_cons_true rfl rfl)) rfl)) rfl rfl rfl rfl (by exact (.box rfl rfl .nil)) .plain <| RunK.nil <| LWP.condT rfl ?_; refine LWP.seq <| rgN <| kas rfl <| RunK.nil <| LWP.ret ?_)
      exact ⟨[], ⟨[_], ⟨rfl, trivial⟩, rfl⟩, ⟨⟨_, rfl, rfl⟩, trivial⟩, rfl, rfl⟩
    | true =>
      rw [if_pos rfl] at hL
      by_cases hp : 0 < n
      · (refine LWP.seq <| rgN <| kas rfl <| RunK.nil <| LWP.seq <| LWP.seq <| rgN <| kmv rfl <| klt rfl rfl (decide_eq_false (by omega)) <| kmv rfl <| gmv rfl rfl rfl <| gmv rfl rfl rfl <| K.callM [] (rd 1000000 l true) (hL) rfl rfl (by exact (And.intro ⟨_, rfl, rfl⟩ trivial)) (by exact (all_cons_true (all_cons_true rfl (all_cons_true rfl rfl)) rfl)) rfl rfl rfl rfl (by exact (.box rfl rfl .nil)) (.taken rfl rfl) ?_; refine K.gtr rfl rfl (decide_eq_true (by omega)) (.taken rfl rfl) ?_; refine kpf rfl rfl <| RunK.nil <| LWP.condT rfl ?_; refine rgN <| kmv rfl <| K.callM [] (rd 1000000 l true) (spoil_spec X l true) rfl rfl (by exact (And.intro ⟨_, rfl, rfl⟩ trivial)) (by exact (all_cons_true (all_cons_true rfl (all_cons_true rfl rfl)) rfl)) rfl rfl rfl rfl (by exact (.box rfl rfl .nil)) .plain <| RunK.nil <| LWP.seq <| LWP.seq <| rgN <| kmv rfl <| K.callM [] (rd 1000000 l true) (Bad_spec X l true) rfl rfl (by exact (And.intro ⟨_, rfl, rfl⟩ trivial)) (by exact (all_cons_true (all_cons_true rfl (all_cons_true rfl rfl)) rfl)) rfl rfl rfl rfl (by exact (.box rfl rfl .nil)) .plain <| RunK.nil <| LWP.condT rfl ?_; refine LWP.seq <| rgN <| kas rfl <| RunK.nil <| LWP.ret ?_)
        exact ⟨[], ⟨[_], ⟨rfl, trivial⟩, rfl⟩, ⟨⟨_, rfl, rfl⟩, trivial⟩, rfl, rfl⟩
      · (refine LWP.seq <| rgN <| kas rfl <| RunK.nil <| LWP.seq <| LWP.seq <| rgN <| kmv rfl <| klt rfl rfl (decide_eq_false (by omega)) <| kmv rfl <| gmv rfl rfl rfl <| gmv rfl rfl rfl <| K.callM [] (rd 1000000 l true) (hL) rfl rfl (by exact (And.intro ⟨_, rfl, rfl⟩ trivial)) (by exact (all_cons_true (all_cons_true rfl (all_cons_true rfl rfl)) rfl)) rfl rfl rfl rfl (by exact (.box rfl rfl .nil)) (.taken rfl rfl) ?_; refine K.gtr rfl rfl (decide_eq_false (by omega)) (.taken rfl rfl) ?_; refine kpf rfl rfl <| RunK.nil <| LWP.condF rfl ?_; refine LWP.skip ?_; refine LWP.seq <| LWP.seq <| rgN <| kmv rfl <| K.callM [] (rd 1000000 l true) (Bad_spec X l true) rfl rfl (by exact (And.intro ⟨_, rfl, rfl⟩ trivial)) (by exact (all_cons_true (all_cons_true rfl (all_cons_true rfl rfl)) rfl)) rfl rfl rfl rfl (by exact (.box rfl rfl .nil)) .plain <| RunK.nil <| LWP.condT rfl ?_; refine LWP.seq <| rgN <| kas rfl <| RunK.nil <| LWP.ret ?_)
        exact ⟨[], ⟨[_], ⟨rfl, trivial⟩, rfl⟩, ⟨⟨_, rfl, rfl⟩, trivial⟩, rfl, rfl⟩
end Go.Proofs.YtimpjdbhalnofaaGreatDoor
end
section
namespace Go.Proofs.YtimpjdbhalnofaaGreatDoor
open Go Go.Lg
variable (X : Nat → Option Obj)
theorem isW_bound {n : Int} (h : isW n = true) : 1 ≤ n ∧ n ≤ 8 := by
  unfold isW at h
  simp only [Bool.or_eq_true, decide_eq_true_eq] at h
  omega
theorem Num_ok (l : List UInt8) (w : Nat) (hw : isW (w : Int) = true) (hn : w ≤ l.length) (hl : l.length < 4611686018427387904) : MSpec Tryz.prog X 75 [Lp 1000000, Ln .i64 (w : Nat)] (rd 1000000 l false) (Ln .u64 (le (l.take w) : Nat)) (rd 1000000 (l.drop w) false) := by
  have hb := isW_bound hw
  refine MSpec.intro Tryz.func75 rfl (by kernel_rfl) rfl rfl rfl rfl rfl ?_
  intro C
  (refine LWP.seq <| rgN <| kas rfl <| RunK.nil <| LWP.seq <| LWP.seq <| rgN <| kmv rfl <| kca rfl rfl (isWidth_spec X _ true hw) <| K.not rfl rfl .plain <| RunK.nil <| LWP.condF rfl ?_; refine LWP.skip ?_; refine LWP.seq <| rgN <| kmv rfl <| kmv rfl <| K.callM [] (rd 1000000 (l.drop w) false) (Raw_ok X l w hn hl) rfl rfl (by exact (And.intro ⟨_, rfl, rfl⟩ trivial)) (by exact (all_cons_true (all_cons_true rfl (all_cons_true rfl rfl)) rfl)) rfl rfl rfl rfl (by exact (.box rfl rfl .nil)) .plain <| kca rfl rfl (onumber_spec X _ (by rw [List.length_take]; omega)) <| kas rfl <| RunK.nil <| LWP.ret ?_)
  exact ⟨[], ⟨[_], ⟨rfl, trivial⟩, rfl⟩, ⟨⟨_, rfl, rfl⟩, trivial⟩, rfl, rfl⟩
theorem Num_no (l : List UInt8) (b : Bool) (w : Int) (h : (isW w && rawOk l b w) = false) : MSpec Tryz.prog X 75 [Lp 1000000, Ln .i64 w] (rd 1000000 l b) (Ln .u64 0) (rd 1000000 l true) := by
  refine MSpec.intro Tryz.func75 rfl (by kernel_rfl) rfl rfl rfl rfl rfl ?_
  intro C
  cases hw : isW w with
  | false =>
    (refine LWP.seq <| rgN <| kas rfl <| RunK.nil <| LWP.seq <| LWP.seq <| rgN <| kmv rfl <| kca rfl rfl (isWidth_spec X _ false hw) <| K.not rfl rfl .plain <| RunK.nil <| LWP.condT rfl ?_; refine LWP.seq <| rgN <| kmv rfl <| K.callM [] (rd 1000000 l true) (spoil_spec X l b) rfl rfl (by exact (And.intro ⟨_, rfl, rfl⟩ trivial)) (by exact (all_cons_true (all_cons_true rfl (all_cons_true rfl rfl)) rfl)) rfl rfl rfl rfl (by exact (.box rfl rfl .nil)) .plain <| RunK.nil <| LWP.seq <| rgN <| kas rfl <| RunK.nil <| LWP.ret ?_)
    exact ⟨[], ⟨[_], ⟨rfl, trivial⟩, rfl⟩, ⟨⟨_, rfl, rfl⟩, trivial⟩, rfl, rfl⟩
  | true =>
    have h2 : rawOk l b w = false := by rw [hw] at h; simpa using h
    (refine LWP.seq <| rgN <| kas rfl <| RunK.nil <| LWP.seq <| LWP.seq <| rgN <| kmv rfl <| kca rfl rfl (isWidth_spec X _ true hw) <| K.not rfl rfl .plain <| RunK.nil <| LWP.condF rfl ?_; refine LWP.skip ?_; refine LWP.seq <| rgN <| kmv rfl <| kmv rfl <| K.callM [] (rd 1000000 l true) (Raw_no X l b w h2) rfl rfl (by exact (And.intro ⟨_, rfl, rfl⟩ trivial)) (by exact (all_cons_true (all_cons_true rfl (all_cons_true rfl rfl)) rfl)) rfl rfl rfl rfl (by exact (.box rfl rfl .nil)) .plain <| kca rfl rfl (onumber_spec X [] (by decide)) <| kas rfl <| RunK.nil <| LWP.ret ?_)
    exact ⟨[], ⟨[_], ⟨rfl, trivial⟩, rfl⟩, ⟨⟨_, rfl, rfl⟩, trivial⟩, rfl, rfl⟩
end Go.Proofs.YtimpjdbhalnofaaGreatDoor
end
section
namespace Go.Lg.Fld
open Go Go.Lg
def kN (k : Int) : List UInt8 := if k = 1 then [98, 111, 111, 108] else if k = 2 then [105, 56] else if k = 3 then [105, 49, 54] else if k = 4 then [105, 51, 50] else if k = 5 then [105, 54, 52] else if k = 6 then [117, 56] else if k = 7 then [117, 49, 54] else if k = 8 then [117, 51, 50] else if k = 9 then [117, 54, 52] else if k = 10 then [114, 101, 102] else []
def kW (k : Int) : Nat := if k = 1 then 1 else if k = 2 then 1 else if k = 3 then 2 else if k = 4 then 4 else if k = 5 then 8 else if k = 6 then 1 else if k = 7 then 2 else if k = 8 then 4 else if k = 9 then 8 else if k = 10 then 8 else 0
def kK (k : Int) : Bool := decide (1 ≤ k) && decide (k ≤ 10)
end Go.Lg.Fld
namespace Go.Proofs.YtimpjdbhalnofaaGreatDoor
open Go Go.Lg Go.Lg.Fld
set_option maxRecDepth 100000
variable (X : Nat → Option Obj)
end Go.Proofs.YtimpjdbhalnofaaGreatDoor
end
section
namespace Go.Proofs.YtimpjdbhalnofaaGreatDoor
open Go Go.Lg Go.Lg.Fld
set_option maxRecDepth 100000
variable (X : Nat → Option Obj)
abbrev cI (b : Bool) (n : Int) : List CV := [.val (.bool b), .val (.int .u64 (n / 18446744073709551616)), .val (.int .u64 (n % 18446744073709551616))]
abbrev cQ (z : Int) : List CV := [.val (.bool (decide (z < 0))), .val (.int .u64 (mg z / 18446744073709551616)), .val (.int .u64 (mg z % 18446744073709551616))]
end Go.Proofs.YtimpjdbhalnofaaGreatDoor
end
section
namespace Go.Lg.Dig
open Go Go.Lg
def dg (n j : Nat) : Nat := n / 256 ^ j % 256
def dv (d : Nat) : CV := .val (.int .i64 (d : Nat))
def dlf (f : Nat → Nat) : List Nat := (List.range 40).map f
def num (b : Bool) (f : Nat → Nat) : List CV := .val (.bool b) :: (dlf f).map dv
theorem dlf_congr {f g : Nat → Nat} (h : ∀ j, j < 40 → f j = g j) : dlf f = dlf g := by
  unfold dlf
  exact List.map_congr_left fun j hj => h j (List.mem_range.1 hj)
theorem num_congr {b : Bool} {f g : Nat → Nat} (h : ∀ j, j < 40 → f j = g j) : num b f = num b g := by
  unfold num
  rw [dlf_congr h]
theorem num_at {b : Bool} {f : Nat → Nat} {i : Nat} (hi : i < 40) : (num b f)[1 + i * 1]? = some (dv (f i)) := by
  rw [Nat.mul_one, Nat.add_comm]
  simp [num, dlf, hi]
theorem num_set {b : Bool} {f : Nat → Nat} {i d : Nat} (hi : i < 40) : (num b f).set (1 + i * 1) (dv d) = num b (fun j => if j = i then d else f j) := by
  rw [Nat.mul_one, Nat.add_comm]
  unfold num
  rw [List.set_cons_succ]
  congr 1
  apply List.ext_getElem?
  intro j
  rw [List.getElem?_set]
  by_cases h : i = j
  · subst h
    simp [dlf, hi]
  · rw [if_neg h]
    by_cases hj : j < 40
    · simp [dlf, hj, show ¬ j = i from fun e => h e.symm]
    · simp [dlf, hj]
theorem num_sign {b c : Bool} {f : Nat → Nat} : (num b f).set 0 (.val (.bool c)) = num c f := rfl
theorem dg_lt (n j : Nat) : dg n j < 256 := Nat.mod_lt _ (by decide)
theorem pow_pos (j : Nat) : 0 < 256 ^ j := Nat.pow_pos (by decide)
theorem dg_high {n j : Nat} (h : n < 256 ^ j) : dg n j = 0 := by
  unfold dg
  rw [Nat.div_eq_of_lt h]
theorem dg_zero (j : Nat) : dg 0 j = 0 := by
  unfold dg
  rw [Nat.zero_div]
theorem mod_next (n i : Nat) : n % 256 ^ (i + 1) = n % 256 ^ i + dg n i * 256 ^ i := by
  unfold dg
  rw [Nat.pow_succ, Nat.mod_mul, Nat.mul_comm (256 ^ i)]
theorem div_next (n i : Nat) : n / 256 ^ i = n / 256 ^ (i + 1) * 256 + dg n i := by
  unfold dg
  rw [Nat.pow_succ, ← Nat.div_div_eq_div_mul]
  omega
theorem pow40 : 256 ^ 40 = 2135987035920910082395021706169552114602704522356652769947041607822219725780640550022962086936576 := by decide
end Go.Lg.Dig
namespace Go.Lg.Dig
open Go Go.Lg
theorem num_length {b : Bool} {f : Nat → Nat} : (num b f).length = 41 := by simp [num, dlf]
theorem num_blt {b : Bool} {f : Nat → Nat} {i : Nat} (hi : i < 40) : Nat.blt (1 + i * 1) (num b f).length = true := by
  rw [num_length, Nat.blt_eq]
  omega
theorem div_div (n i : Nat) : n / 256 ^ i / 256 = n / 256 ^ (i + 1) := by rw [Nat.pow_succ, Nat.div_div_eq_div_mul]
end Go.Lg.Dig
namespace Go.Lg.Dig
def bor (M N i : Nat) : Nat := if M % 256 ^ i < N % 256 ^ i then 1 else 0
def car (M N i : Nat) : Nat := (M % 256 ^ i + N % 256 ^ i) / 256 ^ i
theorem bor_le (M N i : Nat) : bor M N i ≤ 1 := by unfold bor; split <;> omega
theorem sub_div {M N i : Nat} (h : N ≤ M) : (M - N) / 256 ^ i = M / 256 ^ i - N / 256 ^ i - bor M N i ∧ N / 256 ^ i + bor M N i ≤ M / 256 ^ i := by
  have hp := pow_pos i
  have e1 := Nat.div_add_mod M (256 ^ i)
  have e2 := Nat.div_add_mod N (256 ^ i)
  have m1 := Nat.mod_lt M hp
  have m2 := Nat.mod_lt N hp
  unfold bor
  generalize 256 ^ i = p at *
  have hle : N / p ≤ M / p := Nat.div_le_div_right h
  generalize M / p = A at *
  generalize N / p = B at *
  generalize M % p = m at *
  generalize N % p = n at *
  by_cases c : m < n
  · rw [if_pos c]
    have hlt : B + 1 ≤ A := by
      by_cases e : A = B
      · subst e; omega
      · omega
    refine ⟨Nat.div_eq_of_lt_le ?_ ?_, hlt⟩
    · obtain ⟨k, rfl⟩ : ∃ k, A = B + 1 + k := ⟨A - (B + 1), by omega⟩
      rw [show B + 1 + k - B - 1 = k by omega, Nat.mul_comm k]
      rw [Nat.mul_add, Nat.mul_add] at e1
      omega
    · obtain ⟨k, rfl⟩ : ∃ k, A = B + 1 + k := ⟨A - (B + 1), by omega⟩
      rw [show B + 1 + k - B - 1 + 1 = k + 1 by omega, Nat.mul_comm (k + 1), Nat.mul_add]
      rw [Nat.mul_add, Nat.mul_add] at e1
      omega
  · rw [if_neg c]
    refine ⟨Nat.div_eq_of_lt_le ?_ ?_, by omega⟩
    · obtain ⟨k, rfl⟩ : ∃ k, A = B + k := ⟨A - B, by omega⟩
      rw [show B + k - B - 0 = k by omega, Nat.mul_comm k]
      rw [Nat.mul_add] at e1
      omega
    · obtain ⟨k, rfl⟩ : ∃ k, A = B + k := ⟨A - B, by omega⟩
      rw [show B + k - B - 0 + 1 = k + 1 by omega, Nat.mul_comm (k + 1), Nat.mul_add]
      rw [Nat.mul_add] at e1
      omega
theorem bor_next (M N i : Nat) : bor M N (i + 1) = if dg M i < dg N i + bor M N i then 1 else 0 := by
  have hp := pow_pos i
  have m1 := Nat.mod_lt M hp
  have m2 := Nat.mod_lt N hp
  unfold bor
  rw [mod_next, mod_next]
  generalize 256 ^ i = p at *
  generalize M % p = m at *
  generalize N % p = n at *
  generalize dg M i = a
  generalize dg N i = b
  rcases Nat.lt_trichotomy a b with h | h | h
  · obtain ⟨k, rfl⟩ : ∃ k, b = a + 1 + k := ⟨b - (a + 1), by omega⟩
    rw [if_pos (by rw [Nat.add_mul, Nat.add_mul]; omega), if_pos (by omega)]
  · subst h
    by_cases c : m < n
    · rw [if_pos (by omega), if_pos c, if_pos (by omega)]
    · rw [if_neg (by omega), if_neg c, if_neg (by omega)]
  · obtain ⟨k, rfl⟩ : ∃ k, a = b + 1 + k := ⟨a - (b + 1), by omega⟩
    rw [if_neg (by rw [Nat.add_mul, Nat.add_mul]; omega), if_neg (by split <;> omega)]
theorem sub_digit {M N i : Nat} (h : N ≤ M) :
    (dg M i < dg N i + bor M N i → dg (M - N) i + dg N i + bor M N i = dg M i + 256) ∧ (dg N i + bor M N i ≤ dg M i → dg (M - N) i + dg N i + bor M N i = dg M i) := by
  obtain ⟨e, hle⟩ := sub_div (i := i) h
  have hb := bor_le M N i
  unfold dg
  rw [e]
  generalize M / 256 ^ i = A at *
  generalize N / 256 ^ i = B at *
  generalize bor M N i = c at *
  omega
theorem add_div (M N i : Nat) : (M + N) / 256 ^ i = M / 256 ^ i + N / 256 ^ i + car M N i := by
  have hp := pow_pos i
  have e1 := Nat.div_add_mod M (256 ^ i)
  have e2 := Nat.div_add_mod N (256 ^ i)
  unfold car
  generalize 256 ^ i = p at *
  conv => lhs; rw [← e1, ← e2]
  rw [show p * (M / p) + M % p + (p * (N / p) + N % p) = (M % p + N % p) + p * (M / p + N / p) by rw [Nat.mul_add]; omega, Nat.add_mul_div_left _ _ hp]
  omega
theorem car_next (M N i : Nat) : car M N (i + 1) = (dg M i + dg N i + car M N i) / 256 := by
  have h1 := add_div M N i
  have h2 := add_div M N (i + 1)
  have d1 := div_next M i
  have d2 := div_next N i
  have d3 := div_div (M + N) i
  have l1 := dg_lt M i
  have l2 := dg_lt N i
  omega
theorem add_digit (M N i : Nat) : dg (M + N) i = (dg M i + dg N i + car M N i) % 256 := by
  have h1 := add_div M N i
  unfold dg
  rw [h1]
  omega
theorem car_le (M N i : Nat) : car M N i ≤ 1 := by
  have hp := pow_pos i
  have m1 := Nat.mod_lt M hp
  have m2 := Nat.mod_lt N hp
  unfold car
  generalize 256 ^ i = p at *
  have : (M % p + N % p) / p < 2 := by rw [Nat.div_lt_iff_lt_mul hp]; omega
  omega
theorem lt_digit {M N i : Nat} (h : M / 256 ^ (i + 1) = N / 256 ^ (i + 1)) (hd : dg M i < dg N i) : M < N := by
  have d1 := div_next M i
  have d2 := div_next N i
  rcases Nat.lt_or_ge M N with c | c
  · exact c
  · have := Nat.div_le_div_right (c := 256 ^ i) c
    omega
end Go.Lg.Dig
namespace Go.Lg.Dig
theorem dg_mod {n i k : Nat} (h : i < k) : dg (n % 256 ^ k) i = dg n i := by
  obtain ⟨t, rfl⟩ : ∃ t, k = i + 1 + t := ⟨k - (i + 1), by omega⟩
  unfold dg
  rw [Nat.pow_add, Nat.pow_succ, Nat.mul_assoc, Nat.mod_mul_right_div_self, Nat.mod_mul_right_mod]
theorem dg_shift (n k i : Nat) : dg n (k + i) = dg (n / 256 ^ k) i := by
  unfold dg
  rw [Nat.pow_add, Nat.div_div_eq_div_mul]
theorem top_zero {n k : Nat} (h : n < 256 ^ (k + 1)) (hd : dg n k = 0) : n < 256 ^ k := by
  have hp := pow_pos k
  unfold dg at hd
  rw [Nat.pow_succ] at h
  have : n / 256 ^ k < 256 := by rw [Nat.div_lt_iff_lt_mul hp]; rw [Nat.mul_comm]; exact h
  have key : ∀ q : Nat, q < 256 → q % 256 = 0 → q = 0 := by omega
  exact (Nat.div_eq_zero_iff_lt hp).1 (key _ this hd)
theorem all_zero {n k : Nat} : ∀ t, n < 256 ^ (k + t) → (∀ j, k ≤ j → j < k + t → dg n j = 0) → n < 256 ^ k
  | 0, h, _ => h
  | t + 1, h, hz => all_zero t (top_zero h (hz (k + t) (by omega) (by omega))) fun j h1 h2 => hz j h1 (by omega)
end Go.Lg.Dig
namespace Go.Lg.Dig
open Go Go.Lg
theorem dg_add_mul {T y k x : Nat} (h : x < k) : dg (T + y * 256 ^ k) x = dg T x := by
  rw [← dg_mod h, Nat.add_mul_mod_self_right, dg_mod h]
def mix (T S k x : Nat) : Nat := if x < k then dg T x else dg S x
theorem mix_step (s : Bool) {T S k y : Nat} {d : Nat} (hd : d = dg (T + y * 256 ^ k) k) :
    num s (fun x => if x = k then d else mix T S k x) = num s (mix (T + y * 256 ^ k) S (k + 1)) := num_congr fun x _ => by
  unfold mix
  by_cases c : x = k
  · subst c
    rw [if_pos rfl, if_pos (by omega), hd]
  · rw [if_neg c]
    by_cases c2 : x < k
    · rw [if_pos c2, if_pos (by omega), dg_add_mul c2]
    · rw [if_neg c2, if_neg (by omega)]
theorem mix_all (s : Bool) {T S k : Nat} (h : T / 256 ^ k = S / 256 ^ k) : num s (mix T S k) = num s (dg T) := num_congr fun x _ => by
  unfold mix
  by_cases c : x < k
  · rw [if_pos c]
  · obtain ⟨y, rfl⟩ : ∃ y, x = k + y := ⟨x - k, by omega⟩
    rw [if_neg c, dg_shift, dg_shift, h]
theorem mul_step {T S k y c : Nat} (hST : S ≤ T) (hc : c = T / 256 ^ k - S / 256 ^ k) :
    (dg S k + c + y) % 256 = dg (T + y * 256 ^ k) k ∧ (dg S k + c + y) / 256 = (T + y * 256 ^ k) / 256 ^ (k + 1) - S / 256 ^ (k + 1) := by
  have hp := pow_pos k
  have h1 : (T + y * 256 ^ k) / 256 ^ k = T / 256 ^ k + y := by rw [Nat.add_mul_div_right _ _ hp]
  have h2 := div_next S k
  have h3 := div_div (T + y * 256 ^ k) k
  have hle : S / 256 ^ k ≤ T / 256 ^ k := Nat.div_le_div_right hST
  have h4 : dg (T + y * 256 ^ k) k = (T + y * 256 ^ k) / 256 ^ k % 256 := rfl
  rw [h4, ← h3, h1]
  generalize T / 256 ^ k = A at *
  generalize S / 256 ^ k = B at *
  generalize S / 256 ^ (k + 1) = C at *
  generalize dg S k = D at *
  omega
theorem dg_mid {C t i x : Nat} (ht : t < 256) : dg (C * 256 ^ (i + 1) + t * 256 ^ i) x = if x < i then 0 else if x = i then t else dg C (x - (i + 1)) := by
  have hp := pow_pos i
  have e : C * 256 ^ (i + 1) + t * 256 ^ i = 0 + (C * 256 + t) * 256 ^ i := by rw [Nat.pow_succ, Nat.add_mul, Nat.mul_assoc, Nat.mul_comm 256, Nat.zero_add]
  by_cases c : x < i
  · rw [if_pos c, e, dg_add_mul c, dg_zero]
  · rw [if_neg c]
    obtain ⟨y, rfl⟩ : ∃ y, x = i + y := ⟨x - i, by omega⟩
    rw [dg_shift, e, Nat.zero_add, Nat.mul_div_cancel _ hp]
    by_cases c2 : i + y = i
    · have : y = 0 := by omega
      subst this
      rw [if_pos c2]
      unfold dg
      rw [Nat.pow_zero, Nat.div_one]
      omega
    · rw [if_neg c2]
      obtain ⟨z, rfl⟩ : ∃ z, y = 1 + z := ⟨y - 1, by omega⟩
      rw [dg_shift, show i + (1 + z) - (i + 1) = z by omega]
      congr 1
      rw [Nat.pow_one]
      omega
end Go.Lg.Dig
namespace Go.Lg.Dig
open Go Go.Lg
theorem num_blt0 {b : Bool} {f : Nat → Nat} : Nat.blt 0 (num b f).length = true := by rw [num_length]; rfl
def shf (R t x : Nat) : Nat := if t < x then dg R (x - 1) else dg R x
theorem shf_start (s : Bool) (R : Nat) : num s (shf R 39) = num s (dg R) := num_congr fun x hx => by unfold shf; rw [if_neg (by omega)]
theorem shf_step (s : Bool) (R t : Nat) : num s (fun x => if x = t + 1 then dg R t else shf R (t + 1) x) = num s (shf R t) := num_congr fun x _ => by
  unfold shf
  by_cases c : x = t + 1
  · subst c
    rw [if_pos rfl, if_pos (by omega), show t + 1 - 1 = t by omega]
  · rw [if_neg c]
    simp only [show (t + 1 < x ↔ t < x) by omega]
theorem shf_end (s : Bool) (R d : Nat) (hd : d < 256) : num s (fun x => if x = 0 then d else shf R 0 x) = num s (dg (R * 256 + d)) := num_congr fun x _ => by
  unfold shf
  cases x with
  | zero =>
    rw [if_pos rfl]
    unfold dg
    rw [Nat.pow_zero, Nat.div_one]
    omega
  | succ y =>
    rw [if_neg (by omega), if_pos (by omega), Nat.add_comm y 1, dg_shift, show 1 + y - 1 = y by omega, Nat.pow_one, show (R * 256 + d) / 256 = R by omega]
theorem mid_step (s : Bool) {C t i : Nat} (ht : t + 1 < 256) : num s (fun x => if x = i then t + 1 else dg (C * 256 ^ (i + 1) + t * 256 ^ i) x) = num s (dg (C * 256 ^ (i + 1) + (t + 1) * 256 ^ i)) := num_congr fun x _ => by
  rw [dg_mid (by omega), dg_mid ht]
  by_cases c : x = i
  · rw [if_pos c, if_neg (by omega), if_pos c]
  · rw [if_neg c]
    by_cases c2 : x < i
    · rw [if_pos c2, if_pos c2]
    · rw [if_neg c2, if_neg c2, if_neg c, if_neg c]
theorem mid_at {C t i : Nat} (ht : t < 256) : dg (C * 256 ^ (i + 1) + t * 256 ^ i) i = t := by rw [dg_mid ht, if_neg (by omega), if_pos rfl]
theorem quo_step {A B i t V : Nat} (hB : 0 < B) (h : V + t * B = A / 256 ^ (i + 1) % B * 256 + dg A i) (hV : V < B) :
    A / 256 ^ i / B * 256 ^ i = A / 256 ^ (i + 1) / B * 256 ^ (i + 1) + t * 256 ^ i ∧ A / 256 ^ i % B = V := by
  have e1 := div_next A i
  have e2 := Nat.div_add_mod (A / 256 ^ (i + 1)) B
  have e3 : A / 256 ^ i = V + B * (A / 256 ^ (i + 1) / B * 256 + t) := by
    rw [e1, Nat.mul_add, Nat.mul_comm B t, ← Nat.mul_assoc]
    generalize B * (A / 256 ^ (i + 1) / B) = x at *
    omega
  constructor
  · rw [e3, Nat.add_mul_div_left _ _ hB, Nat.div_eq_of_lt hV, Nat.zero_add, Nat.add_mul, Nat.pow_succ, Nat.mul_assoc, Nat.mul_comm 256]
  · rw [e3, Nat.add_mul_mod_self_left, Nat.mod_eq_of_lt hV]
end Go.Lg.Dig
end
section
namespace Go.Proofs.YtimpjdbhalnofaaGreatDoor
open Go Go.Lg Go.Lg.Arith Go.Lg.Dig Go.RowKit
variable (X : Nat → Option Obj)
abbrev LN (b : Bool) (f : Nat → Nat) : LV := .sv (.agg (num b f))
abbrev SN (b : Bool) (f : Nat → Nat) : SV := .agg (num b f)
def two (l h i : Nat) (j : Nat) : Nat := if j < i then dg l j else if 8 ≤ j ∧ j < 8 + i then dg h (j - 8) else 0
theorem two_dg {l h : Nat} (hl : l < 18446744073709551616) (hh : h < 18446744073709551616) (j : Nat) : two l h 8 j = dg (h * 18446744073709551616 + l) j := by
  have e64 : 18446744073709551616 = 256 ^ 8 := by decide
  unfold two dg
  by_cases h1 : j < 8
  · rw [if_pos h1]
    obtain ⟨k, hk⟩ : ∃ k, 8 = j + 1 + k := ⟨7 - j, by omega⟩
    have hp := pow_pos j
    rw [e64, hk, Nat.pow_add, Nat.pow_succ]
    generalize 256 ^ k = q
    generalize 256 ^ j = p at *
    rw [show h * (p * 256 * q) + l = l + p * (256 * (q * h)) by rw [Nat.mul_comm h, Nat.mul_assoc, Nat.mul_assoc, Nat.add_comm], Nat.add_mul_div_left _ _ hp]
    omega
  · rw [if_neg h1]
    obtain ⟨k, rfl⟩ : ∃ k, j = 8 + k := ⟨j - 8, by omega⟩
    have e : (h * 18446744073709551616 + l) / 256 ^ (8 + k) = h / 256 ^ k := by
      rw [Nat.pow_add, ← e64, ← Nat.div_div_eq_div_mul]
      congr 1
      omega
    rw [e]
    by_cases h2 : 8 + k < 16
    · rw [if_pos ⟨by omega, by omega⟩, show 8 + k - 8 = k by omega]
    · rw [if_neg (by omega)]
      have : h < 256 ^ k := Nat.lt_of_lt_of_le hh (by rw [e64]; exact Nat.pow_le_pow_right (by decide) (by omega))
      rw [Nat.div_eq_of_lt this]
theorem From_raw (b : Bool) (h l : Nat) (hh : h < 18446744073709551616) (hl : l < 18446744073709551616) :
    PSpec Tryz.prog X 108 [Li b (h : Nat) (l : Nat)] (LN b (two l h 8)) := by
  refine PSpec.intro Tryz.func108 rfl (by kernel_rfl) rfl (by kernel_rfl) ?_
  intro C
  (refine LWP.seq <| rgN <| K.box rfl rfl rfl .plain <| K.alloc rfl .plain ?_; refine RunK.nil <| LWP.seq <| rgN <| kfa rfl rfl ?_; refine kl1 rfl rfl rfl <| K.build rfl rfl (by exact rfl) (by exact rfl) .plain ?_; refine K.alloc rfl .plain ?_; refine K.storeAll rfl rfl rfl rfl rfl rfl .plain ?_; refine RunK.nil <| LWP.seq <| rgN <| kfa rfl rfl ?_; refine kl1 rfl rfl rfl <| kas rfl <| RunK.nil <| LWP.seq <| rgN <| kfa rfl rfl ?_; refine kl1 rfl rfl rfl <| kas rfl <| RunK.nil <| LWP.seq <| LWP.seq <| rgN <| kas rfl <| RunK.nil <| LWP.block ?_)
  refine LWP.loop (fun m σ => ∃ i : Nat, i ≤ 8 ∧ m = 8 - i ∧ σ = ⟨[(2, .sv (.one (.ptr 2 0))), (3, .sv (.one (.ptr 3 0))), (4, Ln .u64 ((h / 256 ^ i : Nat) : Int)), (5, Ln .u64 ((l / 256 ^ i : Nat) : Int)), (6, Ln .i64 (i : Nat))], [(2, some { elem := 160, cells := num false (fun _ => 0) }), (3, some { elem := 160, cells := num b (two l h i) })], X⟩) 8
    ⟨_, Le.of (by exact ⟨rfl, rfl, by rw [Nat.pow_zero, Nat.div_one]; rfl, by rw [Nat.pow_zero, Nat.div_one]; rfl, rfl, trivial⟩) (by exact ⟨rfl, rfl, trivial⟩) (by exact rfl) (by exact rfl) (by exact rfl), 0, by omega, rfl, rfl⟩ ?_
  rintro m σ ⟨i, hi, rfl, rfl⟩
  by_cases h8 : i < 8
  · have bl : l / 256 ^ i ≤ l := Nat.div_le_self _ _
    have bh : h / 256 ^ i ≤ h := Nat.div_le_self _ _
    have el : dg l i = l / 256 ^ i % 256 := rfl
    have eh : dg h i = h / 256 ^ i % 256 := rfl
    have nl := div_div l i
    have nh := div_div h i
    have step : num b (fun j => if j = 8 + i then dg h i else if j = i then dg l i else two l h i j) = num b (two l h (i + 1)) := by
      refine num_congr fun j _ => ?_
      unfold two
      by_cases c1 : j = i
      · subst c1
        rw [if_neg (by omega), if_pos rfl, if_pos (by omega)]
      · by_cases c2 : j = 8 + i
        · subst c2
          rw [if_pos rfl, if_neg (by omega), if_pos ⟨by omega, by omega⟩, show 8 + i - 8 = i by omega]
        · rw [if_neg c2, if_neg c1]
          simp only [show (j < i + 1 ↔ j < i) by omega, show (8 ≤ j ∧ j < 8 + (i + 1) ↔ 8 ≤ j ∧ j < 8 + i) by omega]
    generalize hu' : l / 256 ^ (i + 1) = u' at *
    generalize hv' : h / 256 ^ (i + 1) = v' at *
    generalize l / 256 ^ i = u at *
    generalize h / 256 ^ i = v at *
    have wl : IntKind.i64.wrap ((u : Int) % 256) = ((dg l i : Nat) : Int) := by rw [wrap_i64 (by omega)]; omega
    have wh : IntKind.i64.wrap ((v : Int) % 256) = ((dg h i : Nat) : Int) := by rw [wrap_i64 (by omega)]; omega
    have ql : IntKind.u64.wrap ((u : Int).tdiv 256) = (u' : Int) := by rw [quo_u64 (by omega) (by omega)]; omega
    have qh : IntKind.u64.wrap ((v : Int).tdiv 256) = (v' : Int) := by rw [quo_u64 (by omega) (by omega)]; omega
    (refine LWP.seq <| LWP.seq <| rgN <| kmv rfl <| klt rfl rfl (decide_eq_true (by omega)) <| RunK.nil <| LWP.condT rfl ?_; refine LWP.skip ?_; refine LWP.seq <| LWP.block <| LWP.seq <| rgN <| kmv rfl <| kmv rfl <| K.rem rfl rfl (by omega) (rem_pos (by omega)) .plain <| kcv rfl wl ?_; refine kfa rfl rfl ?_; refine K.indexArr rfl rfl (by omega) rfl .plain ?_; refine K.storeOne rfl rfl rfl rfl (num_blt (i := i) (by omega)) (num_set (i := i) (d := dg l i) (by omega)) .plain <| RunK.nil <| LWP.seq <| rgN <| kmv rfl <| kad rfl rfl (wrap_i64 (by omega)) <| kmv rfl <| K.rem rfl rfl (by omega) (rem_pos (by omega)) .plain <| kcv rfl wh ?_; refine kfa rfl rfl ?_; refine K.indexArr rfl rfl (by omega) rfl .plain ?_; refine K.storeOne rfl rfl rfl rfl (num_blt (i := 8 + i) (by omega)) (num_set (i := 8 + i) (d := dg h i) (by omega)) .plain <| RunK.nil <| LWP.seq <| rgN <| kmv rfl <| K.quo rfl rfl (by omega) ql .plain <| kas rfl <| RunK.nil <| rgN <| kmv rfl <| K.quo rfl rfl (by omega) qh .plain <| kas rfl <| RunK.nil <| rgN ?_; refine kmv rfl <| kad rfl rfl (wrap_i64 (by omega)) <| kas rfl <| RunK.nil ?_)
    exact ⟨_, _, by omega, Le.of (by exact ⟨rfl, rfl, by rw [hv']; rfl, by rw [hu']; rfl, rfl, trivial⟩) (by exact ⟨rfl, by rw [← step]; rfl, trivial⟩) (by exact rfl) (by exact rfl) (by exact rfl), i + 1, by omega, rfl, rfl⟩
  · have e : i = 8 := by omega
    subst e
    (refine LWP.seq <| LWP.seq <| rgN <| kmv rfl <| klt rfl rfl (decide_eq_false (by omega)) <| RunK.nil <| LWP.condF rfl ?_; refine LWP.exit <| LWP.seq <| rgN <| K.loadAll rfl rfl rfl .plain ?_; refine K.storeAll rfl rfl rfl rfl rfl rfl .plain ?_; refine RunK.nil <| LWP.ret ?_)
    exact ⟨[_], ⟨⟨_, _, rfl, rfl, rfl, .inl ⟨AggT.h, rfl⟩⟩, trivial⟩, rfl⟩
end Go.Proofs.YtimpjdbhalnofaaGreatDoor
end
section
namespace Go.Proofs.YtimpjdbhalnofaaGreatDoor
open Go Go.Lg Go.Lg.Arith Go.Lg.Dig Go.RowKit
variable (X : Nat → Option Obj)
theorem From_spec (b : Bool) (n : Nat) (hn : n < 340282366920938463463374607431768211456) : PSpec Tryz.prog X 108 [LI b (n : Nat)] (LN b (dg n)) := by
  have h := From_raw X b (n / 18446744073709551616) (n % 18446744073709551616) (by omega) (by omega)
  have e : num b (two (n % 18446744073709551616) (n / 18446744073709551616) 8) = num b (dg n) := num_congr fun j _ => by
    rw [two_dg (by omega) (by omega), show n / 18446744073709551616 * 18446744073709551616 + n % 18446744073709551616 = n by omega]
  unfold LN at h ⊢
  rw [e] at h
  exact h
abbrev T40 : Nat := 256 ^ 40
theorem cmp_facts_0 (x y : Int) : ∃ r, cmpI x y = r ∧ (x < y → r = -1) ∧ (x = y → r = 0) ∧ (y < x → r = 1) := by
  refine ⟨_, rfl, ?_, ?_, ?_⟩ <;> intro h <;> unfold cmpI
  · rw [if_pos h]
  · rw [if_neg (by omega), if_neg (by omega)]
  · rw [if_neg (by omega), if_pos h]
theorem Size_spec (a b : Bool) (M N : Nat) (hM : M < T40) (hN : N < T40) (r : Int) (hr : cmpI M N = r) :
    PSpec Tryz.prog X 132 [LN a (dg M), LN b (dg N)] (Ln .i64 r) := by
  refine PSpec.intro Tryz.func132 rfl (by kernel_rfl) rfl rfl ?_
  intro C
  (refine LWP.seq <| rgN <| K.box rfl rfl rfl .plain <| K.box rfl rfl rfl .plain <| kas rfl <| RunK.nil <| LWP.seq <| LWP.seq <| rgN <| kas rfl <| RunK.nil <| LWP.block ?_)
  refine LWP.loop (fun m σ => ∃ z : Int, m ≤ 40 ∧ z = (m : Int) - 1 ∧ M / 256 ^ m = N / 256 ^ m ∧ σ = ⟨[(2, .sv (.one (.ptr 2 0))), (3, .sv (.one (.ptr 3 0))), (5, Ln .i64 z)], [(2, some { elem := 160, cells := num a (dg M) }), (3, some { elem := 160, cells := num b (dg N) })], X⟩) 40
    ⟨_, Le.of (by exact ⟨rfl, rfl, rfl, trivial⟩) (by exact ⟨rfl, rfl, trivial⟩) (by exact rfl) (by exact rfl) (by exact rfl), 39, by omega, rfl, by rw [Nat.div_eq_of_lt hM, Nat.div_eq_of_lt hN], rfl⟩ ?_
  rintro m σ ⟨z, hm, rfl, hq, rfl⟩
  cases m with
  | zero =>
    have e : M = N := by simpa using hq
    have hr' : r = 0 := by rw [← hr, e]; unfold cmpI; rw [if_neg (by omega), if_neg (by omega)]
    (refine LWP.seq <| LWP.seq <| rgN <| kmv rfl <| K.geq rfl rfl (decide_eq_false (by omega)) .plain <| RunK.nil <| LWP.condF rfl ?_; refine LWP.exit <| LWP.seq <| rgN <| kas rfl <| RunK.nil <| LWP.ret ?_)
    exact ⟨[_], ⟨rfl, trivial⟩, by rw [hr']; rfl⟩
  | succ i =>
    rw [show (((i + 1 : Nat) : Int) - 1) = (i : Int) by omega]
    have hi : i < 40 := by omega
    rcases Nat.lt_trichotomy (dg M i) (dg N i) with h | h | h
    · have hlt := lt_digit hq h
      have hr' : r = -1 := by rw [← hr]; unfold cmpI; rw [if_pos (by omega)]
      (refine LWP.seq <| LWP.seq <| rgN <| kmv rfl <| K.geq rfl rfl (decide_eq_true (by omega)) .plain <| RunK.nil <| LWP.condT rfl ?_; refine LWP.skip ?_; refine LWP.seq <| LWP.block <| LWP.seq <| LWP.seq <| rgD mixed <| kmv rfl <| kfa rfl rfl ?_; refine K.indexArr rfl rfl (by omega) rfl .plain ?_; refine kl1 rfl rfl (num_at (i := i) hi) <| kmv rfl <| kfa rfl rfl ?_; refine K.indexArr rfl rfl (by omega) rfl .plain ?_; refine kl1 rfl rfl (num_at (i := i) hi) <| K.gtr rfl rfl (decide_eq_false (by omega)) .plain <| RunK.nil <| rgA ?_; refine LWP.condF rfl ?_; refine LWP.skip ?_; refine LWP.seq <| rgD mixed <| kmv rfl <| kfa rfl rfl ?_; refine K.indexArr rfl rfl (by omega) rfl .plain ?_; refine kl1 rfl rfl (num_at (i := i) hi) <| kmv rfl <| kfa rfl rfl ?_; refine K.indexArr rfl rfl (by omega) rfl .plain ?_; refine kl1 rfl rfl (num_at (i := i) hi) <| klt rfl rfl (decide_eq_true (by omega)) <| RunK.nil <| rgA ?_; refine LWP.condT rfl ?_; refine LWP.seq <| rgN <| kas rfl <| RunK.nil <| LWP.ret ?_)
      exact ⟨[_], ⟨rfl, trivial⟩, by rw [hr']; rfl⟩
    · have hq' : M / 256 ^ i = N / 256 ^ i := by rw [div_next M i, div_next N i, hq, h]
      (refine LWP.seq <| LWP.seq <| rgN <| kmv rfl <| K.geq rfl rfl (decide_eq_true (by omega)) .plain <| RunK.nil <| LWP.condT rfl ?_; refine LWP.skip ?_; refine LWP.seq <| LWP.block <| LWP.seq <| LWP.seq <| rgD mixed <| kmv rfl <| kfa rfl rfl ?_; refine K.indexArr rfl rfl (by omega) rfl .plain ?_; refine kl1 rfl rfl (num_at (i := i) hi) <| kmv rfl <| kfa rfl rfl ?_; refine K.indexArr rfl rfl (by omega) rfl .plain ?_; refine kl1 rfl rfl (num_at (i := i) hi) <| K.gtr rfl rfl (decide_eq_false (by omega)) .plain <| RunK.nil <| rgA ?_; refine LWP.condF rfl ?_; refine LWP.skip ?_; refine LWP.seq <| rgD mixed <| kmv rfl <| kfa rfl rfl ?_; refine K.indexArr rfl rfl (by omega) rfl .plain ?_; refine kl1 rfl rfl (num_at (i := i) hi) <| kmv rfl <| kfa rfl rfl ?_; refine K.indexArr rfl rfl (by omega) rfl .plain ?_; refine kl1 rfl rfl (num_at (i := i) hi) <| klt rfl rfl (decide_eq_false (by omega)) <| RunK.nil <| rgA ?_; refine LWP.condF rfl ?_; refine LWP.skip ?_; refine rgN <| kmv rfl <| K.sub rfl rfl (wrap_i64 (by omega)) .plain <| kas rfl <| RunK.nil ?_)
      exact ⟨i, _, by omega, Le.of (by exact ⟨rfl, rfl, rfl, trivial⟩) (by exact ⟨rfl, rfl, trivial⟩) (by exact rfl) (by exact rfl) (by exact rfl), _, by omega, rfl, hq', rfl⟩
    · have hlt := lt_digit hq.symm h
      have hr' : r = 1 := by rw [← hr]; unfold cmpI; rw [if_neg (by omega), if_pos (by omega)]
      (refine LWP.seq <| LWP.seq <| rgN <| kmv rfl <| K.geq rfl rfl (decide_eq_true (by omega)) .plain <| RunK.nil <| LWP.condT rfl ?_; refine LWP.skip ?_; refine LWP.seq <| LWP.block <| LWP.seq <| LWP.seq <| rgD mixed <| kmv rfl <| kfa rfl rfl ?_; refine K.indexArr rfl rfl (by omega) rfl .plain ?_; refine kl1 rfl rfl (num_at (i := i) hi) <| kmv rfl <| kfa rfl rfl ?_; refine K.indexArr rfl rfl (by omega) rfl .plain ?_; refine kl1 rfl rfl (num_at (i := i) hi) <| K.gtr rfl rfl (decide_eq_true (by omega)) .plain <| RunK.nil <| rgA ?_; refine LWP.condT rfl ?_; refine LWP.seq <| rgN <| kas rfl <| RunK.nil <| LWP.ret ?_)
      exact ⟨[_], ⟨rfl, trivial⟩, by rw [hr']; rfl⟩
def low (n i j : Nat) : Nat := if j < i then dg n j else 0
theorem low_step (b : Bool) (n i : Nat) : num b (fun j => if j = i then dg n i else low n i j) = num b (low n (i + 1)) := num_congr fun j _ => by
  unfold low
  by_cases c : j = i
  · subst c; rw [if_pos rfl, if_pos (by omega)]
  · rw [if_neg c]
    simp only [show (j < i + 1 ↔ j < i) by omega]
theorem low_all (b : Bool) (n : Nat) : num b (low n 40) = num b (dg n) := num_congr fun j hj => by unfold low; rw [if_pos hj]
theorem less_spec (a b : Bool) (M N : Nat) (hMN : N ≤ M) : PSpec Tryz.prog X 138 [LN a (dg M), LN b (dg N)] (LN a (dg (M - N))) := by
  refine PSpec.intro Tryz.func138 rfl (by kernel_rfl) rfl rfl ?_
  intro C
  (refine LWP.seq <| rgN <| K.box rfl rfl rfl .plain <| K.box rfl rfl rfl .plain <| K.alloc rfl .plain ?_; refine RunK.nil <| LWP.seq <| rgN <| kfa rfl rfl ?_; refine kl1 rfl rfl rfl <| K.build rfl rfl (by exact rfl) (by exact rfl) .plain ?_; refine K.alloc rfl .plain ?_; refine K.storeAll rfl rfl rfl rfl rfl rfl .plain ?_; refine RunK.nil <| LWP.seq <| rgN <| kas rfl <| RunK.nil <| LWP.seq <| LWP.seq <| rgN <| kas rfl <| RunK.nil <| LWP.block ?_)
  refine LWP.loop (fun m σ => ∃ i : Nat, i ≤ 40 ∧ m = 40 - i ∧ σ = ⟨[(2, .sv (.one (.ptr 2 0))), (3, .sv (.one (.ptr 3 0))), (4, .sv (.one (.ptr 4 0))), (5, .sv (.one (.ptr 5 0))), (6, Ln .i64 (bor M N i : Nat)), (7, Ln .i64 (i : Nat))], [(2, some { elem := 160, cells := num a (dg M) }), (3, some { elem := 160, cells := num b (dg N) }), (4, some { elem := 160, cells := num false (fun _ => 0) }), (5, some { elem := 160, cells := num a (low (M - N) i) })], X⟩) 40
    ⟨_, Le.of (by exact ⟨rfl, rfl, rfl, rfl, by rw [show bor M N 0 = 0 by unfold bor; rw [Nat.pow_zero, Nat.mod_one, Nat.mod_one, if_neg (by omega)]]; rfl, rfl, trivial⟩) (by exact ⟨rfl, rfl, rfl, rfl, trivial⟩) (by exact rfl) (by exact rfl) (by exact rfl), 0, by omega, rfl, rfl⟩ ?_
  rintro m σ ⟨i, hi, rfl, rfl⟩
  by_cases h40 : i < 40
  · obtain ⟨s1, s2⟩ := sub_digit (i := i) hMN
    have hb := bor_le M N i
    have hn := bor_next M N i
    have l1 := dg_lt M i
    have l2 := dg_lt N i
    by_cases c : dg M i < dg N i + bor M N i
    · have s := s1 c
      rw [if_pos c] at hn
      have w : ∀ k : Int, k = (dg M i : Int) - dg N i - bor M N i → IntKind.i64.wrap (k + 256) = ((dg (M - N) i : Nat) : Int) := fun k hk => by rw [wrap_i64 (by omega)]; omega
      (refine LWP.seq <| LWP.seq <| rgN <| kmv rfl <| klt rfl rfl (decide_eq_true (by omega)) <| RunK.nil <| LWP.condT rfl ?_; refine LWP.skip ?_; refine LWP.seq <| LWP.block <| LWP.seq <| rgD mixed <| kmv rfl <| kfa rfl rfl ?_; refine K.indexArr rfl rfl (by omega) rfl .plain ?_; refine kl1 rfl rfl (num_at (i := i) h40) <| kmv rfl <| kfa rfl rfl ?_; refine K.indexArr rfl rfl (by omega) rfl .plain ?_; refine kl1 rfl rfl (num_at (i := i) h40) <| K.sub rfl rfl (wrap_i64 (by omega)) .plain <| kmv rfl <| K.sub rfl rfl (wrap_i64 (by omega)) .plain <| kas rfl <| RunK.nil <| rgA ?_; refine LWP.seq <| rgN <| kas rfl <| RunK.nil <| LWP.seq <| LWP.seq <| rgN <| kmv rfl <| klt rfl rfl (decide_eq_true (by omega)) <| RunK.nil <| LWP.condT rfl ?_; refine LWP.seq <| rgN <| kmv rfl <| kad rfl rfl (w _ rfl) <| kas rfl <| RunK.nil <| rgN <| kas rfl <| RunK.nil <| rgN <| kmv rfl <| kmv rfl <| kfa rfl rfl ?_; refine K.indexArr rfl rfl (by omega) rfl .plain ?_; refine K.storeOne rfl rfl rfl rfl (num_blt (i := i) h40) ((num_set (i := i) h40).trans (low_step a (M - N) i)) .plain <| RunK.nil <| rgN <| kmv rfl <| kad rfl rfl (wrap_i64 (by omega)) <| kas rfl <| RunK.nil ?_)
      exact ⟨_, _, by omega, Le.of (by exact ⟨rfl, rfl, rfl, rfl, by rw [hn]; rfl, rfl, trivial⟩) (by exact ⟨rfl, rfl, rfl, rfl, trivial⟩) (by exact rfl) (by exact rfl) (by exact rfl), i + 1, by omega, rfl, rfl⟩
    · have s := s2 (by omega)
      rw [if_neg c] at hn
      have w : IntKind.i64.wrap (((dg M i : Nat) : Int) - (dg N i : Nat) - (bor M N i : Nat)) = ((dg (M - N) i : Nat) : Int) := by rw [wrap_i64 (by omega)]; omega
      (refine LWP.seq <| LWP.seq <| rgN <| kmv rfl <| klt rfl rfl (decide_eq_true (by omega)) <| RunK.nil <| LWP.condT rfl ?_; refine LWP.skip ?_; refine LWP.seq <| LWP.block <| LWP.seq <| rgD mixed <| kmv rfl <| kfa rfl rfl ?_; refine K.indexArr rfl rfl (by omega) rfl .plain ?_; refine kl1 rfl rfl (num_at (i := i) h40) <| kmv rfl <| kfa rfl rfl ?_; refine K.indexArr rfl rfl (by omega) rfl .plain ?_; refine kl1 rfl rfl (num_at (i := i) h40) <| K.sub rfl rfl (wrap_i64 (by omega)) .plain <| kmv rfl <| K.sub rfl rfl w .plain <| kas rfl <| RunK.nil <| rgA ?_; refine LWP.seq <| rgN <| kas rfl <| RunK.nil <| LWP.seq <| LWP.seq <| rgN <| kmv rfl <| klt rfl rfl (decide_eq_false (by omega)) <| RunK.nil <| LWP.condF rfl ?_; refine LWP.skip ?_; refine rgN <| kmv rfl <| kmv rfl <| kfa rfl rfl ?_; refine K.indexArr rfl rfl (by omega) rfl .plain ?_; refine K.storeOne rfl rfl rfl rfl (num_blt (i := i) h40) ((num_set (i := i) h40).trans (low_step a (M - N) i)) .plain <| RunK.nil <| rgN <| kmv rfl <| kad rfl rfl (wrap_i64 (by omega)) <| kas rfl <| RunK.nil ?_)
      exact ⟨_, _, by omega, Le.of (by exact ⟨rfl, rfl, rfl, rfl, by rw [hn]; rfl, rfl, trivial⟩) (by exact ⟨rfl, rfl, rfl, rfl, trivial⟩) (by exact rfl) (by exact rfl) (by exact rfl), i + 1, by omega, rfl, rfl⟩
  · have e : i = 40 := by omega
    subst e
    (refine LWP.seq <| LWP.seq <| rgN <| kmv rfl <| klt rfl rfl (decide_eq_false (by omega)) <| RunK.nil <| LWP.condF rfl ?_; refine LWP.exit <| LWP.seq <| rgN <| K.loadAll rfl rfl rfl .plain ?_; refine K.storeAll rfl rfl rfl rfl rfl rfl .plain ?_; refine RunK.nil <| LWP.ret ?_)
    exact ⟨[_], ⟨⟨_, _, rfl, rfl, rfl, .inl ⟨AggT.h, rfl⟩⟩, trivial⟩, by unfold LN; rw [← low_all]; rfl⟩
end Go.Proofs.YtimpjdbhalnofaaGreatDoor
end
section
namespace Go.Proofs.YtimpjdbhalnofaaGreatDoor
open Go Go.Lg Go.Lg.Arith Go.Lg.Dig Go.RowKit
variable (X : Nat → Option Obj)
theorem Sum_more (a b : Bool) (hab : (a != b) = true) (M N : Nat) (hM : M < T40) (hN : N < T40) (h : N ≤ M) : PSpec Tryz.prog X 129 [LN a (dg M), LN b (dg N)] (LN a (dg (M - N))) := by
  obtain ⟨r, hr, c1, c2, c3⟩ := cmp_facts_0 M N
  have hS := Size_spec X a b M N hM hN r hr
  refine PSpec.intro Tryz.func129 rfl (by kernel_rfl) rfl rfl ?_
  intro C
  (refine LWP.seq <| rgN <| K.box rfl rfl rfl .plain <| K.box rfl rfl rfl .plain <| K.alloc rfl .plain ?_; refine RunK.nil <| LWP.seq <| LWP.seq <| rgN <| kfa rfl rfl ?_; refine kl1 rfl rfl rfl <| kfa rfl rfl ?_; refine kl1 rfl rfl rfl <| K.neqB rfl rfl hab .plain <| RunK.nil <| LWP.condT rfl ?_; refine LWP.seq <| LWP.seq <| rgN <| K.loadAll rfl rfl rfl .plain ?_; refine K.loadAll rfl rfl rfl .plain ?_; refine kca rfl rfl (hS) <| K.geq rfl rfl (decide_eq_true (by omega)) .plain <| RunK.nil <| LWP.condT rfl ?_; refine LWP.seq <| rgN <| K.loadAll rfl rfl rfl .plain ?_; refine K.loadAll rfl rfl rfl .plain ?_; refine kca rfl rfl (less_spec _ a b M N h) <| K.storeAll rfl rfl rfl rfl rfl rfl .plain ?_; refine RunK.nil <| LWP.ret ?_)
  exact ⟨[_], ⟨⟨_, _, rfl, rfl, rfl, .inl ⟨AggT.h, rfl⟩⟩, trivial⟩, rfl⟩
theorem Sum_less (a b : Bool) (hab : (a != b) = true) (M N : Nat) (hM : M < T40) (hN : N < T40) (h : M < N) : PSpec Tryz.prog X 129 [LN a (dg M), LN b (dg N)] (LN b (dg (N - M))) := by
  obtain ⟨r, hr, c1, c2, c3⟩ := cmp_facts_0 M N
  have hS := Size_spec X a b M N hM hN r hr
  refine PSpec.intro Tryz.func129 rfl (by kernel_rfl) rfl rfl ?_
  intro C
  (refine LWP.seq <| rgN <| K.box rfl rfl rfl .plain <| K.box rfl rfl rfl .plain <| K.alloc rfl .plain ?_; refine RunK.nil <| LWP.seq <| LWP.seq <| rgN <| kfa rfl rfl ?_; refine kl1 rfl rfl rfl <| kfa rfl rfl ?_; refine kl1 rfl rfl rfl <| K.neqB rfl rfl hab .plain <| RunK.nil <| LWP.condT rfl ?_; refine LWP.seq <| LWP.seq <| rgN <| K.loadAll rfl rfl rfl .plain ?_; refine K.loadAll rfl rfl rfl .plain ?_; refine kca rfl rfl (hS) <| K.geq rfl rfl (decide_eq_false (by omega)) .plain <| RunK.nil <| LWP.condF rfl ?_; refine LWP.skip ?_; refine LWP.seq <| rgN <| K.loadAll rfl rfl rfl .plain ?_; refine K.loadAll rfl rfl rfl .plain ?_; refine kca rfl rfl (less_spec _ b a N M (by omega)) <| K.storeAll rfl rfl rfl rfl rfl rfl .plain ?_; refine RunK.nil <| LWP.ret ?_)
  exact ⟨[_], ⟨⟨_, _, rfl, rfl, rfl, .inl ⟨AggT.h, rfl⟩⟩, trivial⟩, rfl⟩
theorem Sum_same (a b : Bool) (hab : (a != b) = false) (M N : Nat) : PSpec Tryz.prog X 129 [LN a (dg M), LN b (dg N)] (LN a (dg (M + N))) := by
  refine PSpec.intro Tryz.func129 rfl (by kernel_rfl) rfl rfl ?_
  intro C
  (refine LWP.seq <| rgN <| K.box rfl rfl rfl .plain <| K.box rfl rfl rfl .plain <| K.alloc rfl .plain ?_; refine RunK.nil <| LWP.seq <| LWP.seq <| rgN <| kfa rfl rfl ?_; refine kl1 rfl rfl rfl <| kfa rfl rfl ?_; refine kl1 rfl rfl rfl <| K.neqB rfl rfl hab .plain <| RunK.nil <| LWP.condF rfl ?_; refine LWP.skip ?_; refine LWP.seq <| rgN <| kfa rfl rfl ?_; refine kl1 rfl rfl rfl <| K.build rfl rfl (by exact rfl) (by exact rfl) .plain ?_; refine K.alloc rfl .plain ?_; refine K.storeAll rfl rfl rfl rfl rfl rfl .plain ?_; refine RunK.nil <| LWP.seq <| rgN <| kas rfl <| RunK.nil <| LWP.seq <| LWP.seq <| rgN <| kas rfl <| RunK.nil <| LWP.block ?_)
  refine LWP.loop (fun m σ => ∃ i : Nat, i ≤ 40 ∧ m = 40 - i ∧ σ = ⟨[(2, .sv (.one (.ptr 2 0))), (3, .sv (.one (.ptr 3 0))), (4, .sv (.one (.ptr 4 0))), (5, .sv (.one (.ptr 5 0))), (6, Ln .i64 (car M N i : Nat)), (7, Ln .i64 (i : Nat))], [(2, some { elem := 160, cells := num a (dg M) }), (3, some { elem := 160, cells := num b (dg N) }), (4, some { elem := 160, cells := num false (fun _ => 0) }), (5, some { elem := 160, cells := num a (low (M + N) i) })], X⟩) 40
    ⟨_, Le.of (by exact ⟨rfl, rfl, rfl, rfl, by rw [show car M N 0 = 0 by unfold car; rw [Nat.pow_zero, Nat.mod_one, Nat.mod_one]]; rfl, rfl, trivial⟩) (by exact ⟨rfl, rfl, rfl, rfl, trivial⟩) (by exact rfl) (by exact rfl) (by exact rfl), 0, by omega, rfl, rfl⟩ ?_
  rintro m σ ⟨i, hi, rfl, rfl⟩
  by_cases h40 : i < 40
  · have s := add_digit M N i
    have hb := car_le M N i
    have hn := car_next M N i
    have l1 := dg_lt M i
    have l2 := dg_lt N i
    have w1 : (((dg M i : Nat) : Int) + (dg N i : Nat) + (car M N i : Nat)).tmod 256 = ((dg (M + N) i : Nat) : Int) := by rw [rem_pos (by omega)]; omega
    have w2 : IntKind.i64.wrap ((((dg M i : Nat) : Int) + (dg N i : Nat) + (car M N i : Nat)).tdiv 256) = ((car M N (i + 1) : Nat) : Int) := by rw [quo_i64 (by omega) (by omega)]; omega
    (refine LWP.seq <| LWP.seq <| rgN <| kmv rfl <| klt rfl rfl (decide_eq_true (by omega)) <| RunK.nil <| LWP.condT rfl ?_; refine LWP.skip ?_; refine LWP.seq <| LWP.block <| LWP.seq <| rgD mixed <| kmv rfl <| kfa rfl rfl ?_; refine K.indexArr rfl rfl (by omega) rfl .plain ?_; refine kl1 rfl rfl (num_at (i := i) h40) <| kmv rfl <| kfa rfl rfl ?_; refine K.indexArr rfl rfl (by omega) rfl .plain ?_; refine kl1 rfl rfl (num_at (i := i) h40) <| kad rfl rfl (wrap_i64 (by omega)) <| kmv rfl <| kad rfl rfl (wrap_i64 (by omega)) <| kas rfl <| RunK.nil <| rgA ?_; refine LWP.seq <| rgN <| kmv rfl <| kmv rfl <| K.rem rfl rfl (by omega) w1 .plain <| kfa rfl rfl ?_; refine K.indexArr rfl rfl (by omega) rfl .plain ?_; refine K.storeOne rfl rfl rfl rfl (num_blt (i := i) h40) ((num_set (i := i) h40).trans (low_step a (M + N) i)) .plain <| RunK.nil <| rgN <| kmv rfl <| K.quo rfl rfl (by omega) w2 .plain <| kas rfl <| RunK.nil <| rgN <| kmv rfl <| kad rfl rfl (wrap_i64 (by omega)) <| kas rfl <| RunK.nil ?_)
    exact ⟨_, _, by omega, Le.of (by exact ⟨rfl, rfl, rfl, rfl, rfl, rfl, trivial⟩) (by exact ⟨rfl, rfl, rfl, rfl, trivial⟩) (by exact rfl) (by exact rfl) (by exact rfl), i + 1, by omega, rfl, rfl⟩
  · have e : i = 40 := by omega
    subst e
    (refine LWP.seq <| LWP.seq <| rgN <| kmv rfl <| klt rfl rfl (decide_eq_false (by omega)) <| RunK.nil <| LWP.condF rfl ?_; refine LWP.exit <| LWP.seq <| rgN <| K.loadAll rfl rfl rfl .plain ?_; refine K.storeAll rfl rfl rfl rfl rfl rfl .plain ?_; refine RunK.nil <| LWP.ret ?_)
    exact ⟨[_], ⟨⟨_, _, rfl, rfl, rfl, .inl ⟨AggT.h, rfl⟩⟩, trivial⟩, by unfold LN; rw [← low_all]; rfl⟩
end Go.Proofs.YtimpjdbhalnofaaGreatDoor
end
section
namespace Go.Proofs.YtimpjdbhalnofaaGreatDoor
open Go Go.Lg Go.Lg.Arith Go.Lg.Dig Go.RowKit
variable (X : Nat → Option Obj)
theorem Good_spec (b : Bool) (N : Int) (hN : In2 N) (r : Bool) (hr : formB b N = r) : PSpec Tryz.prog X 33 [LI b N] (Lb r) := by
  obtain ⟨h0, h1⟩ := hN
  refine PSpec.intro Tryz.func33 rfl (by kernel_rfl) rfl rfl ?_
  intro C
  by_cases ha : N < 170141183460469231731687303715884105728
  · cases b with
    | false =>
      have e : r = true := by rw [← hr]; simp [formB, ha]
      (refine LWP.seq <| rgN <| K.box rfl rfl rfl .plain <| kas rfl <| RunK.nil <| LWP.seq <| rgN <| kfa rfl rfl ?_; refine kl1 rfl rfl rfl <| klt rfl rfl (decide_eq_true (by omega)) <| kmv rfl <| K.fieldAddr rfl rfl (.taken rfl rfl) ?_; refine K.loadOne rfl rfl rfl (.taken rfl rfl) ?_; refine gmv rfl rfl rfl <| RunK.passed rfl rfl rfl <| RunK.passed rfl rfl rfl <| RunK.passed rfl rfl rfl <| K.pickF rfl rfl (.taken rfl rfl) ?_; refine gmv rfl rfl rfl <| RunK.passed rfl rfl rfl <| RunK.passed rfl rfl rfl <| RunK.passed rfl rfl rfl <| K.pickF rfl rfl (.taken rfl rfl) ?_; refine K.not rfl rfl (.taken rfl rfl) ?_; refine kpt rfl rfl <| kas rfl <| RunK.nil <| LWP.ret ?_)
      exact ⟨[_], ⟨rfl, trivial⟩, by rw [e]; rfl⟩
    | true =>
      by_cases hh : N / 18446744073709551616 = 0
      · by_cases hl : N % 18446744073709551616 = 0
        · have e : r = false := by rw [← hr]; unfold formB; rw [show (N == 0) = true from beq_iff_eq.2 (by omega)]; simp
          (refine LWP.seq <| rgN <| K.box rfl rfl rfl .plain <| kas rfl <| RunK.nil <| LWP.seq <| rgN <| kfa rfl rfl ?_; refine kl1 rfl rfl rfl <| klt rfl rfl (decide_eq_true (by omega)) <| kmv rfl <| K.fieldAddr rfl rfl (.taken rfl rfl) ?_; refine K.loadOne rfl rfl rfl (.taken rfl rfl) ?_; refine gmv rfl rfl rfl <| K.fieldAddr rfl rfl (.taken rfl rfl) ?_; refine K.loadOne rfl rfl rfl (.taken rfl rfl) ?_; refine K.eql rfl rfl (beq_iff_eq.2 (by omega)) (.taken rfl rfl) ?_; refine K.pickT rfl rfl (.taken rfl rfl) ?_; refine gmv rfl rfl rfl <| K.fieldAddr rfl rfl (.taken rfl rfl) ?_; refine K.loadOne rfl rfl rfl (.taken rfl rfl) ?_; refine K.eql rfl rfl (beq_iff_eq.2 (by omega)) (.taken rfl rfl) ?_; refine K.pickT rfl rfl (.taken rfl rfl) ?_; refine K.not rfl rfl (.taken rfl rfl) ?_; refine kpt rfl rfl <| kas rfl <| RunK.nil <| LWP.ret ?_)
          exact ⟨[_], ⟨rfl, trivial⟩, by rw [e]; rfl⟩
        · have e : r = true := by rw [← hr]; unfold formB; rw [show (N == 0) = false from beq_eq_false_iff_ne.2 (by omega)]; simp [ha]
          (refine LWP.seq <| rgN <| K.box rfl rfl rfl .plain <| kas rfl <| RunK.nil <| LWP.seq <| rgN <| kfa rfl rfl ?_; refine kl1 rfl rfl rfl <| klt rfl rfl (decide_eq_true (by omega)) <| kmv rfl <| K.fieldAddr rfl rfl (.taken rfl rfl) ?_; refine K.loadOne rfl rfl rfl (.taken rfl rfl) ?_; refine gmv rfl rfl rfl <| K.fieldAddr rfl rfl (.taken rfl rfl) ?_; refine K.loadOne rfl rfl rfl (.taken rfl rfl) ?_; refine K.eql rfl rfl (beq_iff_eq.2 (by omega)) (.taken rfl rfl) ?_; refine K.pickT rfl rfl (.taken rfl rfl) ?_; refine gmv rfl rfl rfl <| K.fieldAddr rfl rfl (.taken rfl rfl) ?_; refine K.loadOne rfl rfl rfl (.taken rfl rfl) ?_; refine K.eql rfl rfl (beq_eq_false_iff_ne.2 (by omega)) (.taken rfl rfl) ?_; refine K.pickT rfl rfl (.taken rfl rfl) ?_; refine K.not rfl rfl (.taken rfl rfl) ?_; refine kpt rfl rfl <| kas rfl <| RunK.nil <| LWP.ret ?_)
          exact ⟨[_], ⟨rfl, trivial⟩, by rw [e]; rfl⟩
      · have e : r = true := by rw [← hr]; unfold formB; rw [show (N == 0) = false from beq_eq_false_iff_ne.2 (by omega)]; simp [ha]
        (refine LWP.seq <| rgN <| K.box rfl rfl rfl .plain <| kas rfl <| RunK.nil <| LWP.seq <| rgN <| kfa rfl rfl ?_; refine kl1 rfl rfl rfl <| klt rfl rfl (decide_eq_true (by omega)) <| kmv rfl <| K.fieldAddr rfl rfl (.taken rfl rfl) ?_; refine K.loadOne rfl rfl rfl (.taken rfl rfl) ?_; refine gmv rfl rfl rfl <| K.fieldAddr rfl rfl (.taken rfl rfl) ?_; refine K.loadOne rfl rfl rfl (.taken rfl rfl) ?_; refine K.eql rfl rfl (beq_eq_false_iff_ne.2 (by omega)) (.taken rfl rfl) ?_; refine K.pickT rfl rfl (.taken rfl rfl) ?_; refine gmv rfl rfl rfl <| RunK.passed rfl rfl rfl <| RunK.passed rfl rfl rfl <| RunK.passed rfl rfl rfl <| K.pickF rfl rfl (.taken rfl rfl) ?_; refine K.not rfl rfl (.taken rfl rfl) ?_; refine kpt rfl rfl <| kas rfl <| RunK.nil <| LWP.ret ?_)
        exact ⟨[_], ⟨rfl, trivial⟩, by rw [e]; rfl⟩
  · have e : r = false := by rw [← hr]; simp [formB, ha]
    (refine LWP.seq <| rgN <| K.box rfl rfl rfl .plain <| kas rfl <| RunK.nil <| LWP.seq <| rgN <| kfa rfl rfl ?_; refine kl1 rfl rfl rfl <| klt rfl rfl (decide_eq_false (by omega)) <| kmv rfl <| RunK.passed rfl rfl rfl <| RunK.passed rfl rfl rfl <| RunK.passed rfl rfl rfl <| RunK.passedU rfl rfl <| RunK.passedU rfl rfl <| RunK.passedU rfl rfl <| RunK.passed rfl rfl rfl <| RunK.passed rfl rfl rfl <| RunK.passedU rfl rfl <| RunK.passedU rfl rfl <| RunK.passedU rfl rfl ?_; refine RunK.passed rfl rfl rfl <| RunK.passed rfl rfl rfl <| kpf rfl rfl <| kas rfl <| RunK.nil <| LWP.ret ?_)
    exact ⟨[_], ⟨rfl, trivial⟩, by rw [e]; rfl⟩
theorem mg_nat (x : Int) : (((mg x).toNat : Nat) : Int) = mg x := by have := mg_nonneg x; omega
theorem From_q (x : Int) (hx : R127 x) : PSpec Tryz.prog X 108 [LQ x] (LN (decide (x < 0)) (dg (mg x).toNat)) := by
  have h := From_spec X (decide (x < 0)) (mg x).toNat (by have := mg_lim hx; have := mg_nonneg x; omega)
  rw [mg_nat] at h
  exact h
theorem lim40 {n : Nat} (h : n < 340282366920938463463374607431768211456) : n < T40 := by
  unfold T40
  rw [pow40]
  omega
theorem RCmp_spec (x y : Int) (hx : R127 x) (hy : R127 y) (r : Int) (hr : cmpI x y = r) : PSpec Tryz.prog X 101 [LQ x, LQ y] (Ln .i64 r) := by
  have f1 := From_q X x hx
  have f2 := From_q X y hy
  have n1 := mg_nonneg x
  have n2 := mg_nonneg y
  have m1 := mg_lim hx
  have m2 := mg_lim hy
  obtain ⟨s, hs, c1, c2, c3⟩ := cmp_facts_0 ((mg x).toNat : Nat) ((mg y).toNat : Nat)
  have hS := Size_spec X (decide (x < 0)) (decide (y < 0)) (mg x).toNat (mg y).toNat (lim40 (by omega)) (lim40 (by omega)) s hs
  rw [mg_nat, mg_nat] at c1 c2 c3
  refine PSpec.intro Tryz.func101 rfl (by kernel_rfl) rfl rfl ?_
  intro C
  by_cases cx : x < 0
  · by_cases cy : y < 0
    · have hb : (decide (x < 0) != decide (y < 0)) = false := by rw [decide_eq_true cx, decide_eq_true cy]; rfl
      have e : r = 0 - s := by
        rw [mg_neg cx, mg_neg cy] at c1 c2 c3
        rw [← hr]
        unfold cmpI
        rcases Int.lt_trichotomy x y with h | h | h
        · rw [if_pos h]; omega
        · rw [if_neg (by omega), if_neg (by omega)]; omega
        · rw [if_neg (by omega), if_pos h]; omega
      have sb : -1 ≤ s ∧ s ≤ 1 := by rcases Int.lt_trichotomy (mg x) (mg y) with h | h | h <;> omega
      (refine LWP.seq <| rgN <| K.box rfl rfl rfl .plain <| K.box rfl rfl rfl .plain <| kas rfl <| RunK.nil <| LWP.seq <| LWP.seq <| rgN <| kfa rfl rfl ?_; refine kl1 rfl rfl rfl <| kfa rfl rfl ?_; refine kl1 rfl rfl rfl <| K.neqB rfl rfl hb .plain <| RunK.nil <| LWP.condF rfl ?_; refine LWP.skip ?_; refine LWP.seq <| rgD mixed <| K.loadAll rfl rfl rfl .plain ?_; refine kca rfl rfl (f1) <| K.loadAll rfl rfl rfl .plain ?_; refine kca rfl rfl (f2) <| kca rfl rfl (hS) <| kas rfl <| RunK.nil <| rgA ?_; refine LWP.seq <| LWP.seq <| rgN <| kfa rfl rfl ?_; refine kl1 rfl rfl rfl <| RunK.nil <| LWP.condT (ev_bool (decide_eq_true cx)) ?_; refine LWP.seq <| rgN <| kmv rfl <| K.neg rfl (wrap_i64 (by omega)) .plain <| kas rfl <| RunK.nil <| LWP.ret ?_)
      exact ⟨[_], ⟨rfl, trivial⟩, by rw [e]; rfl⟩
    · have hb : (decide (x < 0) != decide (y < 0)) = true := by rw [decide_eq_true cx, decide_eq_false cy]; rfl
      have e : r = -1 := by rw [← hr]; unfold cmpI; rw [if_pos (by omega)]
      (refine LWP.seq <| rgN <| K.box rfl rfl rfl .plain <| K.box rfl rfl rfl .plain <| kas rfl <| RunK.nil <| LWP.seq <| LWP.seq <| rgN <| kfa rfl rfl ?_; refine kl1 rfl rfl rfl <| kfa rfl rfl ?_; refine kl1 rfl rfl rfl <| K.neqB rfl rfl hb .plain <| RunK.nil <| LWP.condT rfl ?_; refine LWP.seq <| LWP.seq <| rgN <| kfa rfl rfl ?_; refine kl1 rfl rfl rfl <| RunK.nil <| LWP.condT (ev_bool (decide_eq_true cx)) ?_; refine LWP.seq <| rgN <| kas rfl <| RunK.nil <| LWP.ret ?_)
      exact ⟨[_], ⟨rfl, trivial⟩, by rw [e]; rfl⟩
  · by_cases cy : y < 0
    · have hb : (decide (x < 0) != decide (y < 0)) = true := by rw [decide_eq_false cx, decide_eq_true cy]; rfl
      have e : r = 1 := by rw [← hr]; unfold cmpI; rw [if_neg (by omega), if_pos (by omega)]
      (refine LWP.seq <| rgN <| K.box rfl rfl rfl .plain <| K.box rfl rfl rfl .plain <| kas rfl <| RunK.nil <| LWP.seq <| LWP.seq <| rgN <| kfa rfl rfl ?_; refine kl1 rfl rfl rfl <| kfa rfl rfl ?_; refine kl1 rfl rfl rfl <| K.neqB rfl rfl hb .plain <| RunK.nil <| LWP.condT rfl ?_; refine LWP.seq <| LWP.seq <| rgN <| kfa rfl rfl ?_; refine kl1 rfl rfl rfl <| RunK.nil <| LWP.condF (ev_bool (decide_eq_false cx)) ?_; refine LWP.skip ?_; refine LWP.seq <| rgN <| kas rfl <| RunK.nil <| LWP.ret ?_)
      exact ⟨[_], ⟨rfl, trivial⟩, by rw [e]; rfl⟩
    · have hb : (decide (x < 0) != decide (y < 0)) = false := by rw [decide_eq_false cx, decide_eq_false cy]; rfl
      have e : r = s := by
        rw [mg_pos (Int.not_lt.1 cx), mg_pos (Int.not_lt.1 cy)] at c1 c2 c3
        rw [← hr]
        unfold cmpI
        rcases Int.lt_trichotomy x y with h | h | h
        · rw [if_pos h]; omega
        · rw [if_neg (by omega), if_neg (by omega)]; omega
        · rw [if_neg (by omega), if_pos h]; omega
      (refine LWP.seq <| rgN <| K.box rfl rfl rfl .plain <| K.box rfl rfl rfl .plain <| kas rfl <| RunK.nil <| LWP.seq <| LWP.seq <| rgN <| kfa rfl rfl ?_; refine kl1 rfl rfl rfl <| kfa rfl rfl ?_; refine kl1 rfl rfl rfl <| K.neqB rfl rfl hb .plain <| RunK.nil <| LWP.condF rfl ?_; refine LWP.skip ?_; refine LWP.seq <| rgD mixed <| K.loadAll rfl rfl rfl .plain ?_; refine kca rfl rfl (f1) <| K.loadAll rfl rfl rfl .plain ?_; refine kca rfl rfl (f2) <| kca rfl rfl (hS) <| kas rfl <| RunK.nil <| rgA ?_; refine LWP.seq <| LWP.seq <| rgN <| kfa rfl rfl ?_; refine kl1 rfl rfl rfl <| RunK.nil <| LWP.condF (ev_bool (decide_eq_false cx)) ?_; refine LWP.skip ?_; refine LWP.seq <| rgN <| kmv rfl <| kas rfl <| RunK.nil <| LWP.ret ?_)
      exact ⟨[_], ⟨rfl, trivial⟩, by rw [e]; rfl⟩
end Go.Proofs.YtimpjdbhalnofaaGreatDoor
end
section
namespace Go.Lg.Fld
open Go Go.Lg
structure Fl where
  nm : List UInt8
  kind : Int
  count : Int
def Fl.vals (f : Fl) : List Value := [.string ⟨f.nm.toArray⟩, .int .i64 f.kind, .int .i64 f.count]
def Fl.w (f : Fl) : Nat := kW f.kind
def Fl.n (f : Fl) : Nat := f.count.toNat
def Fl.ok (f : Fl) : Bool := kK f.kind && (decide (1 ≤ f.count) && decide (f.count ≤ 8))
def roundUp (a n : Nat) : Nat := a + (n - a % n) % n
def endAt : Nat → List Fl → Nat
  | a, [] => a
  | a, f :: t => endAt (roundUp a f.w + f.w * f.n) t
def greatW (l : List Fl) : Nat := l.foldl (fun g f => max g f.w) 1
def rowSize (l : List Fl) : Nat := roundUp (endAt 0 l) (greatW l)
def layErr (l : List Fl) : Int := if 8 < l.length then 1 else if l.all Fl.ok = true then (if 256 < rowSize l then 5 else 0) else 1
theorem take_snoc {α : Type} {l : List α} {i : Nat} {f : α} (h : l[i]? = some f) : l.take (i + 1) = l.take i ++ [f] := by
  rw [List.take_add_one, h]; rfl
structure FieldsIn (X : Nat → Option Obj) (ad : Option Addr) (fs : List Fl) : Prop where
  rows : RowsIn X ad 3 (fs.map Fl.vals)
  small : ∀ f ∈ fs, (-9223372036854775808 ≤ f.kind ∧ f.kind < 9223372036854775808) ∧ (-9223372036854775808 ≤ f.count ∧ f.count < 9223372036854775808)
end Go.Lg.Fld
end
section
namespace Go.Proofs.YtimpjdbhalnofaaGreatDoor
open Go Go.Lg Go.Lg.Fld
set_option maxRecDepth 100000
variable (X : Nat → Option Obj)
abbrev Lx (ad : Option Addr) (n cap : Nat) : LV := .sv (.one (.val (.slice ad n cap)))
abbrev Vnil : SV := .one (.val (.slice none 0 0))
end Go.Proofs.YtimpjdbhalnofaaGreatDoor
end
section
namespace Go.Lg.Fld
open Go Go.Lg
def nmV (n : Bool × Int) : List Value := [.bool n.1, .int .u64 (n.2 / 18446744073709551616), .int .u64 (n.2 % 18446744073709551616)]
end Go.Lg.Fld
namespace Go.Proofs.YtimpjdbhalnofaaGreatDoor
open Go Go.Lg Go.Lg.Fld
set_option maxRecDepth 100000
variable (X : Nat → Option Obj)
structure NumsIn (X : Nat → Option Obj) (ad : Option Addr) (ns : List (Bool × Int)) : Prop where
  rows : Go.Lg.RowsIn X ad 3 (ns.map nmV)
  in2 : ∀ n ∈ ns, In2 n.2
theorem NumsIn.at {X : Nat → Option Obj} {ad : Option Addr} {ns : List (Bool × Int)} (h : NumsIn X ad ns) {i : Nat} {b : Bool} {N : Int} (hf : ns[i]? = some (b, N)) :
    In2 N ∧ ∃ (blk off : Nat) (arr : Array Value) (el : TypeId) (fr : Nat × Nat), ad = some ⟨blk, off, none⟩ ∧ X blk = some (.cells arr el fr) ∧ off + i * 3 + 3 ≤ arr.size ∧ ((arr.toList.drop (off + i * 3)).take 3).map CV.val = cI b N := by
  obtain ⟨blk, off, arr, el, fr, h1, h2, h3, h4⟩ := h.rows i (nmV (b, N)) (by rw [List.getElem?_map, hf]; rfl)
  exact ⟨h.in2 (b, N) (List.mem_of_getElem? hf), blk, off, arr, el, fr, h1, h2, h3, by rw [h4]; rfl⟩
end Go.Proofs.YtimpjdbhalnofaaGreatDoor
end
section
namespace Go.Lg
open Go Go.RowKit
section
variable {P : Program} {n : Nat} {ops os : List Oper} {acc : List Eff} {K : List Eff → St → Prop} {s : List (Nat × LV)} {bx : List (Nat × Option Box)} {X : Nat → Option Obj} {σ : St}
structure ReadsX (X : Nat → Option Obj) (ad : Option Addr) (news : List Value) : Prop where
  cells : ∀ i u, news[i]? = some u → ∃ (blk off : Nat) (arr : Array Value) (el : TypeId) (fr : Nat × Nat), ad = some ⟨blk, off, none⟩ ∧ X blk = some (.cells arr el fr) ∧ arr[off + i]? = some u
end
end Go.Lg
end
section
namespace Go.Proofs.YtimpjdbhalnofaaGreatDoor
open Go Go.Lg Go.Lg.Fld
set_option maxRecDepth 100000
variable (X : Nat → Option Obj)
def qn (z : Int) : Bool × Int := (decide (z < 0), mg z)
def nsV (zs : List Int) : List Value := (zs.map fun z => nmV (qn z)).flatten
end Go.Proofs.YtimpjdbhalnofaaGreatDoor
end
section
namespace Go.Lg
open Go Go.RowKit
section
variable {P : Program} {n : Nat} {C : Ctx} {c y x z : Code} {Q Q1 Q2 : Exit → St → Prop} {X : Nat → Option Obj} {σ : St}
structure Leads (n : Nat) (C : Ctx) (Mid : St → Prop) (σ : St) : Prop where
  out : ∀ ι a w, Rel n C ι σ a w → ∃ ι' σ', Mid σ' ∧ Rel n C ι' σ' a w
theorem Leads.here {Mid : St → Prop} {σ' : St} (hle : Le n C σ σ') (h : Mid σ') : Leads n C Mid σ := ⟨fun ι a w hr => by
  obtain ⟨ι', hr'⟩ := hle.out ι a w hr
  exact ⟨ι', σ', h, hr'⟩⟩
theorem Leads.le {Mid : St → Prop} {σ' : St} (hle : Le n C σ σ') (h : Leads n C Mid σ') : Leads n C Mid σ := ⟨fun ι a w hr => by
  obtain ⟨ι', hr'⟩ := hle.out ι a w hr
  exact h.out ι' a w hr'⟩
theorem LWP.ofLeads {Mid : St → Prop} (h : Leads n C Mid σ) (hm : ∀ σ, Mid σ → LWP P n C y Q σ) : LWP P n C y Q σ := by
  refine ⟨fun ι a w hr => ?_⟩
  obtain ⟨ι', σ', hM, hr'⟩ := h.out ι a w hr
  exact (hm σ' hM).out ι' a w hr'
theorem Leads.freeze {Mid : St → Prop} {s : List (Nat × LV)} {bx : List (Nat × Option Box)} {d k off len sz : Nat} {el : TypeId} {vals : List Value} {row : Bool}
    (hs : s.all (fun p => p.2.inUse bx) = true) (hb : bx.all (fun p => match p.2 with | some b => b.cells.all (CV.inUse bx) | none => true) = true) (hk : look k bx = none)
    (h : ∀ (blk cap : Nat) (arr : Array Value) (fr : Nat × Nat), X blk = none → Frozen C blk arr fr → len ≤ cap → off + cap * sz ≤ arr.size → (∃ sp, arr.toList = vals ++ sp) →
      Leads n C Mid ⟨(d, .sv (.one (.val (.slice (some ⟨blk, off, none⟩) len cap)))) :: s, bx, withBlock X blk (.cells arr el fr)⟩) :
    Leads n C Mid ⟨(d, .sv (.one (.slc k off len sz))) :: s, (k, some ⟨el, vals.map .val, row⟩) :: bx, X⟩ := ⟨fun ι a w hr => by
  obtain ⟨blk, cap, arr, fr, h1, h2, h3, h4, h5, h6⟩ := hr.freeze hs hb hk
  exact (h blk cap arr fr h1 h2 h3 h4 h5).out ι a w h6⟩
theorem LWP.meetL (Mid : St → Prop) (h : LWP P n C c (thenQ (Leads n C Mid) (fun _ _ => False)) σ) (hm : ∀ σ, Mid σ → LWP P n C y Q σ) : LWP P n C c (thenQ (LWP P n C y Q) Q2) σ := by
  refine h.mono ?_
  intro e σ' hq
  cases e with
  | normal => exact LWP.ofLeads hq hm
  | exit id' => exact hq.elim
  | goto l => exact hq.elim
  | ret => exact hq.elim
  | panic c => exact hq.elim
  | outgrown => exact hq.elim
end
end Go.Lg
end
section
namespace Go.Lg
open Go Go.RowKit
def LentOne (S : Nat → Option (Option Box)) (Y : Nat → Option Obj) (lv : LV) (u : Value) : Prop :=
  match lv with
  | .sv (.one (.val v)) => u = v
  | .sv (.one (.slc k off len sz)) => ∃ el cells row, S k = some (some ⟨el, cells, row⟩) ∧ ∃ (blk cap : Nat) (arr : Array Value) (fr : Nat × Nat) (us sp : List Value), u = .slice (some ⟨blk, off, none⟩) len cap ∧ Y blk = some (.cells arr el fr) ∧ len ≤ cap ∧ off + cap * sz ≤ arr.size ∧ arr.toList = us ++ sp ∧ ∀ vals : List Value, cells = vals.map .val → us = vals
  | .sv (.agg cs) => ∀ vals : List Value, cs = vals.map .val → u = .agg vals.toArray
  | _ => False
def Lent (S : Nat → Option (Option Box)) (Y : Nat → Option Obj) : List LV → List Value → Prop
  | [], us => us = []
  | lv :: l, us => ∃ u us', us = u :: us' ∧ LentOne S Y lv u ∧ Lent S Y l us'
def lendable (S : Nat → Option (Option Box)) (ks : List Nat) : LV → Bool
  | .sv (.one (.val _)) => true
  | .sv (.one (.slc k _ _ _)) => ks.contains k && (match S k with | some (some b) => b.blk | _ => false)
  | .sv (.agg _) => true
  | _ => false
theorem args_rel : ∀ (vals : List Value), LVs.rel noS (fun _ => (0, 0)) (vals.map toLV) vals
  | [] => trivial
  | v :: vs => ⟨toLV_rel _ _ v, args_rel vs⟩
section
variable {P : Program} {n : Nat} {ops os : List Oper} {acc : List Eff} {K : List Eff → St → Prop} {s : List (Nat × LV)} {bx : List (Nat × Option Box)} {X : Nat → Option Obj} {σ : St}
theorem lent_of {C : Ctx} {ι : Nat → Nat × Nat} {a : Act} {w : World} {σ' : St} (hr : Rel n C ι σ' a w) (ks : List Nat) (S : Nat → Option (Option Box)) (hS : ∀ k, k ∈ ks → σ'.stat k = S k) : ∀ {lvs : List LV} {us : List Value}, lvs.all (lendable S ks) = true → LVs.rel σ'.stat ι lvs us →
    Lent S (fun b => w.heap[b]?) lvs us
  | [], [], _, _ => rfl
  | [], _ :: _, _, h => h.elim
  | _ :: _, [], _, h => h.elim
  | lv :: l, u :: us, hl, h => by
    simp only [List.all_cons, Bool.and_eq_true] at hl
    refine ⟨u, us, rfl, ?_, lent_of hr ks S hS hl.2 h.2⟩
    have h1 := h.1
    have h2 := hl.1
    match lv with
    | .sv (.one (.val v)) => exact h1
    | .sv (.one (.slc k off len sz)) =>
      simp only [lendable, Bool.and_eq_true] at h2
      have hk : k ∈ ks := by simpa using h2.1
      cases hs : S k with
      | none => rw [hs] at h2; exact absurd h2.2 (by simp)
      | some x =>
        cases x with
        | none => rw [hs] at h2; exact absurd h2.2 (by simp)
        | some b =>
          have hst : σ'.stat k = some (some b) := by rw [hS k hk, hs]
          simp only [LV.rel, SV.rel, CV.rel, hst] at h1
          obtain ⟨cap, rfl, h3, h4⟩ := h1
          obtain ⟨arr, fr, harr, _, hsz, hbr⟩ := hr.boxes k b hst (by rw [hs] at h2; exact h2.2)
          refine ⟨b.elem, b.cells, b.row, hs, ?_⟩
          unfold Box.rel at hbr
          cases hrow : b.row with
          | res R => rw [hrow] at hbr; exact hbr.elim
          | bool r =>
            cases r with
            | false =>
              rw [hrow] at hbr
              exact ⟨_, cap, arr, fr, arr.toList, [], rfl, harr, h3, by omega, by simp, fun vals e => by rw [e] at hbr; exact rel_vals hbr⟩
            | true =>
              rw [hrow] at hbr
              obtain ⟨us', sp, e, hl'⟩ := hbr
              exact ⟨_, cap, arr, fr, us', sp, rfl, harr, h3, by omega, e, fun vals e => by rw [e] at hl'; exact rel_vals hl'⟩
    | .sv (.agg cs) =>
      intro vals e
      obtain ⟨arr, rfl, hl'⟩ := h1
      rw [e] at hl'
      have := rel_vals hl'
      rw [← this]
    | .sv (.one .junk) => cases h2
    | .sv (.one (.ptr _ _)) => cases h2
    | .sv (.one (.mp _)) => cases h2
    | .tup _ => cases h2
theorem LOK.callX {d : Nat} {f : FuncId} {args : List Operand} {tys : Array TypeId} {ty : TypeId} {pos : String} {after_ : Array Edge} {g : Option (Nat × Bool)} {lvs : List LV} {r : LV} (ks : List Nat) (hargs : evs σ args = some lvs) (hl : lvs.all (lendable σ.stat ks) = true) (hent : Program.enters P f = true)
    (hs : ∀ (Y : Nat → Option Obj) (us : List Value), (∀ b o, σ.X b = some o → Y b = some o) → Lent σ.stat Y lvs us → PSpec P Y f (us.map toLV) r) :
    LOK P n ops ⟨some d, .call ⟨.value (.func f), args.toArray, tys⟩, ty, pos, after_, g⟩ σ ⟨[(d, r)], ks, []⟩ := by
  refine ⟨fun σ' ha C ι a w hr hd next Q hn => ?_⟩
  have hargs' : evs σ' args = some lvs := by
    rw [evs_agree fun x hx => ha.ev (by simp [Op.operands, Call.operands, hx])]
    exact hargs
  have hrel := evs_rel hr hargs'
  have hlent := lent_of hr ks σ.stat (fun k hk => ha.stat k (.inl hk)) hl hrel
  have hc := (hs (fun b => w.heap[b]?) _ (fun b o hb => hr.ext b o (by rw [ha.X]; exact hb)) hlent).out w (args.toArray.map a.eval) (fun b o hb => hb) (by rw [Array.toList_map, List.toList_toArray]; exact args_rel _)
  unfold Oper.wp
  have hrun : (execOp a.eval ⟨some d, .call ⟨.value (.func f), args.toArray, tys⟩, ty, pos, after_, g⟩).run P w = .ok (.enter f (args.toArray.map a.eval)) w := by
    simp only [execOp, resolve, Act.eval, Deferred.ofValue, invoke, Sem.run_bind, Sem.run_pure, Result.andThen_ok]
    simp [run_enter hent]
  rw [hrun]
  refine hc.mono ?_
  rintro e w' ⟨v, rfl, hv, hb⟩
  exact hn ι _ w' ((hr.below hb).put (hd d rfl) (LV.rel_later (later_noS _ _ _) hv))
theorem K.callX {d : Nat} {f : FuncId} {args : List Operand} {tys : Array TypeId} {ty : TypeId} {pos : String} {after_ : Array Edge} {g : Option (Nat × Bool)} {lvs : List LV} {r : LV} (ks : List Nat) (hargs : evs ⟨s, bx, X⟩ args = some lvs) (hl : lvs.all (lendable (fun k => look k bx) ks) = true) (hent : Program.enters P f = true)
    (hs : ∀ (Y : Nat → Option Obj) (us : List Value), (∀ b o, X b = some o → Y b = some o) → Lent (fun k => look k bx) Y lvs us → PSpec P Y f (us.map toLV) r) (hw : Want ops s g)
    (kont : RunK P n ops os ⟨(d, r) :: s, bx, X⟩ (⟨[(d, r)], ks, []⟩ :: acc) K) :
    RunK P n ops (⟨some d, .call ⟨.value (.func f), args.toArray, tys⟩, ty, pos, after_, g⟩ :: os) ⟨s, bx, X⟩ acc K := RunK.gen hw (LOK.callX ks hargs hl hent hs) kont
theorem LOK.fieldAddrX {d : Nat} {s i : Nat} {x : Operand} {ty : TypeId} {pos : String} {after : Array Edge} {g : Option (Nat × Bool)} {b off o m : Nat} {off' : Nat} (hx : σ.ev x = some (.sv (.one (.val (.pointer (some ⟨b, off, none⟩))))))
    (hf : fieldOf P s i = some (o, m + 1)) (ho : off + o = off') :
    LOK P n ops ⟨some d, .fieldAddr s x i, ty, pos, after, g⟩ σ ⟨[(d, .sv (.one (.val (.pointer (some ⟨b, off', none⟩)))))], [], []⟩ :=
  LOK.value fun σ' ha C ι a w hr => by
    have h1 : a.eval x = _ := hr.ev ((ha.ev (x := x) (by simp [Op.operands])).trans hx)
    subst ho
    unfold fieldOf at hf
    cases hu : P.underlying s with
    | none => simp [hu] at hf
    | some dd =>
      cases dd <;> simp only [hu] at hf <;> try (simp at hf; done)
      rename_i fs
      cases hfi : fs[i]? with
      | none => simp [hfi] at hf
      | some f =>
        cases hin : P.info? f.type with
        | none => simp [hfi, hin] at hf
        | some inf =>
          simp only [hfi, hin, Option.map_some, Option.some.injEq, Prod.mk.injEq] at hf
          obtain ⟨e1, e2⟩ := hf
          refine ⟨_, ?_, rfl⟩
          simp [execOp, Instr.fieldAt, run_underlying hu, hfi, Instr.sureAddr, h1, fieldPlace, sizeOf, typeInfo, hin, e2, addr_add, e1]
theorem K.fieldAddrX {d : Nat} {t : TypeId} {x : Operand} {ty : TypeId} {pos : String} {after : Array Edge} {g : Option (Nat × Bool)} {i b off o m : Nat} [f : FieldT P t i o m] (hx : (⟨s, bx, X⟩ : St).ev x = some (.sv (.one (.val (.pointer (some ⟨b, off, none⟩)))))) {off' : Nat} (ho : Nat.add off o = off') (hw : Want ops s g)
    (kont : RunK P n ops os ⟨(d, .sv (.one (.val (.pointer (some ⟨b, off', none⟩))))) :: s, bx, X⟩ (⟨[(d, .sv (.one (.val (.pointer (some ⟨b, off', none⟩)))))], [], []⟩ :: acc) K) :
    RunK P n ops (⟨some d, .fieldAddr t x i, ty, pos, after, g⟩ :: os) ⟨s, bx, X⟩ acc K := RunK.g1 (LOK.fieldAddrX hx f.h ho) hw kont
end
end Go.Lg
end
section
namespace Go.Lg
open Go Go.RowKit
section
variable {P : Program} {n : Nat} {ops os : List Oper} {acc : List Eff} {K : List Eff → St → Prop} {s : List (Nat × LV)} {bx : List (Nat × Option Box)} {X : Nat → Option Obj} {σ : St}
theorem slcBuild_many {t e : TypeId} {m sz : Nat} {z : Array Value} (hu : P.underlying t = some (.slice e)) (hz : (P.info? e).map (fun i => (i.size, i.zero.map (fun z => z.cells))) = some (sz, some z)) (hs : z.size = sz) (hm : m * sz ≤ 16777216) :
    slcBuild P t m = some ((List.replicate m z.toList).flatten, sz, e) := by
  unfold slcBuild
  rw [hu]
  simp only
  cases hi : P.info? e with
  | none => rw [hi] at hz; cases hz
  | some ie =>
    rw [hi] at hz
    simp only [Option.map_some, Option.some.injEq, Prod.mk.injEq] at hz
    obtain ⟨h1, h2⟩ := hz
    cases hzz : ie.zero with
    | none => rw [hzz] at h2; cases h2
    | some zv =>
      rw [hzz] at h2
      simp only [Option.map_some, Option.some.injEq] at h2
      simp only [hzz, h1, h2]
      rw [if_neg (show ¬ m * sz > 2 ^ 24 by omega)]
      have key : ∀ m : Nat, ((List.range (m * sz)).map fun i => z[i % z.size]!) = (List.replicate m z.toList).flatten := by
        intro m
        induction m with
        | zero => simp
        | succ m ih =>
          rw [Nat.succ_mul, List.range_add, List.map_append, ih, List.replicate_succ', List.flatten_append]
          congr 1
          rw [List.map_map]
          simp only [List.flatten_cons, List.flatten_nil, List.append_nil]
          apply List.ext_getElem
          · simp [hs]
          · intro i h3 h4
            have hi : i < sz := by simpa [hs] using h4
            have h5 : i % sz = i := Nat.mod_eq_of_lt hi
            have h6 : i < z.size := by omega
            rw [List.getElem_map, Function.comp_apply, List.getElem_range, hs, Nat.mul_add_mod_self_right, h5, Array.getElem_toList]
            exact getElem!_pos z i h6
      rw [key]
theorem MSpec.plain {f : FuncId} {args : List LV} {r : LV} (h : MSpec P X f args [] r []) : PSpec P X f args r :=
  ⟨h.enters, fun w vals hX hargs => (h.out w vals (fun _ => (0, 0)) (fun _ _ => none) ⟨fun k b hk => (by simp [stOf, look] at hk), fun k b hk => (by simp [stOf, look] at hk), fun k k' b b' hk => (by simp [stOf, look] at hk), hX, ⟨fun k e cs R hk => (by simp [stOf, look] at hk), fun k b o ho => (by cases ho), fun k k' b h => absurd rfl h⟩⟩ hargs).mono fun e w' ⟨v, ι', _, he, hr, _, hp⟩ =>
    ⟨v, he, LV.rel_later (later_noS _ _ _) hr, ⟨hp.os, hp.tape, hp.output, hp.big, fun b hb => hp.frame b hb (fun hl => by
      rcases hl with ⟨k, b0, hk, _⟩ | ⟨k, hk⟩
      · simp [stOf, look] at hk
      · exact hk rfl)⟩⟩⟩
end
end Go.Lg
end
section
namespace Go.Lg.Fld
open Go Go.Lg
abbrev planV (size : Int) (c : CV) : SV := .agg [.val (.int .i64 size), c]
end Go.Lg.Fld
namespace Go.Proofs.YtimpjdbhalnofaaGreatDoor
open Go Go.Lg Go.Lg.Fld
set_option maxRecDepth 100000
variable (X : Nat → Option Obj)
end Go.Proofs.YtimpjdbhalnofaaGreatDoor
end
section
namespace Go.Lg.Fld
open Go Go.Lg
end Go.Lg.Fld
namespace Go.Proofs.YtimpjdbhalnofaaGreatDoor
open Go Go.Lg Go.Lg.Fld
set_option maxRecDepth 100000
variable (X : Nat → Option Obj)
def ofR (fs : List Fl) : LV := if layErr fs = 0 then .tup [planV (rowSize fs : Nat) (.slc 1000001 0 fs.length 1), Sn .i64 0] else .tup [planV 0 (.val (.slice none 0 0)), Sn .i64 (layErr fs)]
end Go.Proofs.YtimpjdbhalnofaaGreatDoor
end
section
namespace Go.Lg.Fld
open Go Go.Lg
instance : DecidableEq Fl := fun a b => decidable_of_iff (a.nm = b.nm ∧ a.kind = b.kind ∧ a.count = b.count) ⟨fun ⟨h1, h2, h3⟩ => by cases a; cases b; simp_all, fun h => by rw [h]; exact ⟨rfl, rfl, rfl⟩⟩
structure Cp where
  id : Int
  nm : List UInt8
  fs : List Fl
instance : DecidableEq Cp := fun a b => decidable_of_iff (a.id = b.id ∧ a.nm = b.nm ∧ a.fs = b.fs) ⟨fun ⟨h1, h2, h3⟩ => by cases a; cases b; simp_all, fun h => by rw [h]; exact ⟨rfl, rfl, rfl⟩⟩
structure Sc where
  ver : Int
  cs : List Cp
instance : DecidableEq Sc := fun a b => decidable_of_iff (a.ver = b.ver ∧ a.cs = b.cs) ⟨fun ⟨h1, h2⟩ => by cases a; cases b; simp_all, fun h => by rw [h]; exact ⟨rfl, rfl⟩⟩
def letB (c : UInt8) : Bool := decide (97 ≤ c.toNat) && decide (c.toNat ≤ 122)
def digB (c : UInt8) : Bool := decide (48 ≤ c.toNat) && decide (c.toNat ≤ 57)
def nmC (l : List UInt8) (i : Nat) : Bool := letB (l.getD i 0) || (digB (l.getD i 0) && decide (i ≠ 0))
def nmB (l : List UInt8) : Bool := decide (1 ≤ l.length) && decide (l.length ≤ 12) && (List.range l.length).all (nmC l)
def firstE (f : Nat → Int) : Nat → Nat → Int
  | _, 0 => 0
  | i, n + 1 => if f i = 0 then firstE f (i + 1) n else f i
def fldE (fs : List Fl) (k : Nat) : Int := match fs[k]? with
  | some f => if nmB f.nm = true then (if (fs.take k).any (fun g => g.nm == f.nm) = true then 4 else 0) else 4
  | none => 0
structure CompsIn (X : Nat → Option Obj) (ad : Option Addr) (cs : List Cp) : Prop where
  at_ : ∀ (i : Nat) (c : Cp), cs[i]? = some c → ∃ (blk off : Nat) (arr : Array Value) (el : TypeId) (fr : Nat × Nat) (fad : Option Addr) (fcap : Nat), ad = some ⟨blk, off, none⟩ ∧ X blk = some (.cells arr el fr) ∧ off + i * 3 + 3 ≤ arr.size ∧
    (arr.toList.drop (off + i * 3)).take 3 = [.int .i64 c.id, .string ⟨c.nm.toArray⟩, .slice fad c.fs.length fcap] ∧ FieldsIn X fad c.fs
  small : ∀ c ∈ cs, -9223372036854775808 ≤ c.id ∧ c.id < 9223372036854775808
def SmallC (cs : List Cp) : Prop := cs.length ≤ 30 ∧ ∀ c ∈ cs, c.fs.length ≤ 12 ∧ c.nm.length ≤ 100 ∧ ∀ f ∈ c.fs, f.nm.length ≤ 100
end Go.Lg.Fld
namespace Go.Proofs.YtimpjdbhalnofaaGreatDoor
open Go Go.Lg Go.Lg.Fld
end Go.Proofs.YtimpjdbhalnofaaGreatDoor
end
section
namespace Go.Lg.Fld
open Go Go.Lg
def findI {α : Type} (p : α → Bool) (l : List α) : Int := match l.findIdx? p with | some i => (i : Nat) | none => -1
end Go.Lg.Fld
namespace Go.Proofs.YtimpjdbhalnofaaGreatDoor
open Go Go.Lg Go.Lg.Fld
set_option maxRecDepth 100000
variable (X : Nat → Option Obj)
end Go.Proofs.YtimpjdbhalnofaaGreatDoor
end
section
namespace Go.Lg.Fld
open Go Go.Lg
structure Pt where
  comp : Int
  val : List (Bool × Int)
end Go.Lg.Fld
namespace Go.Proofs.YtimpjdbhalnofaaGreatDoor
open Go Go.Lg Go.Lg.Fld
set_option maxRecDepth 100000
structure PartsIn (X : Nat → Option Obj) (ad : Option Addr) (ps : List Pt) : Prop where
  at_ : ∀ (i : Nat) (p : Pt), ps[i]? = some p → ∃ (blk off : Nat) (arr : Array Value) (el : TypeId) (fr : Nat × Nat) (vad : Option Addr) (vcap : Nat), ad = some ⟨blk, off, none⟩ ∧ X blk = some (.cells arr el fr) ∧ off + i * 2 + 2 ≤ arr.size ∧
    (arr.toList.drop (off + i * 2)).take 2 = [.int .i64 p.comp, .slice vad p.val.length vcap] ∧ NumsIn X vad p.val
  small : ∀ p ∈ ps, -9223372036854775808 ≤ p.comp ∧ p.comp < 9223372036854775808
variable (X : Nat → Option Obj)
end Go.Proofs.YtimpjdbhalnofaaGreatDoor
end
section
namespace Go.Proofs.YtimpjdbhalnofaaGreatDoor
open Go Go.Lg Go.Lg.Fld Go.RowKit Go.ChangeShapes Go.WideShapes Go.Joins
set_option maxRecDepth 100000
section
variable {H : Type} {enc : TypeId × Value → H} {w : World}
theorem open_nums_l {fuel : Nat} {l : List Value} {x : DataW H × List MemPlace} (h : DataW.trod enc Tryz.prog w 0 (fun _ => true) true fuel 58 l = some x) :
    ∃ (ad : Option Addr) (cap : Nat) (ns : List (Bool × Int)), l = [.slice ad ns.length cap] ∧ NumsIn (fun b => w.heap[b]?) ad ns := by
  obtain ⟨ad, cap, rows, rfl, _, _, h3, h4⟩ := open_rows_l (e := 30) (sz := 3) (by kernel_rfl) (by kernel_rfl) (by decide) h
  obtain ⟨ns, rfl, h5⟩ := map_of (f := nmV) (q := fun n => In2 n.2) (vs := rows) (fun u hu => by
    obtain ⟨hlen, n, x, hx⟩ := h4 u hu
    obtain ⟨y0, y1, y2, n', _, _, g0, g1, g2⟩ := Deep.trod_struct3 (t := 30) Tryz.underlying30 hx
    obtain ⟨e0', e1', e2', rfl⟩ : ∃ c0 c1 c2, u = [c0, c1, c2] := by
      match u, hlen with
      | [c0, c1, c2], _ => exact ⟨c0, c1, c2, rfl⟩
    obtain ⟨b, e0, _⟩ := DataW.trod_bool (by kernel_rfl) g0
    obtain ⟨x, e1, _, wa1⟩ := DataW.trod_int (k := .u64) (by kernel_rfl) g1
    obtain ⟨y, e2, _, wa2⟩ := DataW.trod_int (k := .u64) (by kernel_rfl) g2
    have q0 : e0' = .bool b := by simpa using (show ([e0', e1', e2'].drop 0).take 1 = [.bool b] from e0)
    have q1 : e1' = .int .u64 x := by simpa using (show ([e0', e1', e2'].drop 1).take 1 = [.int .u64 x] from e1)
    have q2 : e2' = .int .u64 y := by simpa using (show ([e0', e1', e2'].drop 2).take 1 = [.int .u64 y] from e2)
    subst q0 q1 q2
    have b1 := bounds_u64 wa1
    have b2 := bounds_u64 wa2
    refine ⟨(b, x * 18446744073709551616 + y), ?_, by show 0 ≤ x * 18446744073709551616 + y; omega, by show x * 18446744073709551616 + y < _; omega⟩
    unfold nmV
    rw [show (b, x * 18446744073709551616 + y).2 / 18446744073709551616 = x by show (x * 18446744073709551616 + y) / 18446744073709551616 = x; omega, show (b, x * 18446744073709551616 + y).2 % 18446744073709551616 = y by show (x * 18446744073709551616 + y) % 18446744073709551616 = y; omega])
  exact ⟨ad, cap, ns, by rw [List.length_map], h3, h5⟩
end
end Go.Proofs.YtimpjdbhalnofaaGreatDoor
end
