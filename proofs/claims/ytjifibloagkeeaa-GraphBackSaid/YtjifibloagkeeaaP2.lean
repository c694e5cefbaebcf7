/- A piece of a proof over this program: contracts of its functions, and a logic to prove them by. -/
import Derived.Test.YtjifibloagkeeaaP1
import Derived.Great.BuildSlice
import Derived.Laws.BytesString
import Derived.Laws.Pointers
import Derived.Laws.IdiomStrings
import Derived.Laws.MakeOwn
import Derived.Deep.AppendSrc
import Derived.ProofKit
import Derived.OpenShut
import Derived.Stop.Joined
import Derived.Lib.SmallJoins
import Derived.Deep.Slices
import Derived.Carry
import Derived.ChangeMaps5
import Derived.JoinedOf
import Derived.Deep.Strs
import Derived.SizedLaws
section
namespace Go.Lg
open Go Go.RowKit
section
variable {P : Program} {n : Nat} {ops os : List Oper} {acc : List Eff} {K : List Eff → St → Prop} {s : List (Nat × LV)} {bx : List (Nat × Option Box)} {X : Nat → Option Obj}
theorem K.move  {d : Nat} {x : Operand} {ty : TypeId} {pos : String} {after : Array Edge} {g : Option (Nat × Bool)} {lv : LV} (hx : (⟨s, bx, X⟩ : St).ev x = some lv) (hw : Want ops s g) (kont : RunK P n ops os ⟨(d, lv) :: s, bx, X⟩ (⟨[(d, lv)], [], []⟩ :: acc) K) :
    RunK P n ops (⟨some d, .move x, ty, pos, after, g⟩ :: os) ⟨s, bx, X⟩ acc K := RunK.g1 (LOK.move hx) hw kont
theorem K.assign  {d : Nat} {x : Operand} {ty : TypeId} {pos : String} {after : Array Edge} {g : Option (Nat × Bool)} {lv : LV} (hx : (⟨s, bx, X⟩ : St).ev x = some lv) (hw : Want ops s g) (kont : RunK P n ops os ⟨(d, lv) :: s, bx, X⟩ (⟨[(d, lv)], [], []⟩ :: acc) K) :
    RunK P n ops (⟨some d, .assign x, ty, pos, after, g⟩ :: os) ⟨s, bx, X⟩ acc K := RunK.g1 (LOK.assign hx) hw kont
theorem K.pickT  {d : Nat} {c x y : Operand} {ty : TypeId} {pos : String} {after : Array Edge} {g : Option (Nat × Bool)} {lv : LV} (hc : (⟨s, bx, X⟩ : St).ev c = some (.sv (.one (.val (.bool true))))) (hx : (⟨s, bx, X⟩ : St).ev x = some lv) (hw : Want ops s g) (kont : RunK P n ops os ⟨(d, lv) :: s, bx, X⟩ (⟨[(d, lv)], [], []⟩ :: acc) K) :
    RunK P n ops (⟨some d, .pick c x y, ty, pos, after, g⟩ :: os) ⟨s, bx, X⟩ acc K := RunK.g1 (LOK.pickT hc hx) hw kont
theorem K.pickF  {d : Nat} {c x y : Operand} {ty : TypeId} {pos : String} {after : Array Edge} {g : Option (Nat × Bool)} {lv : LV} (hc : (⟨s, bx, X⟩ : St).ev c = some (.sv (.one (.val (.bool false))))) (hy : (⟨s, bx, X⟩ : St).ev y = some lv) (hw : Want ops s g) (kont : RunK P n ops os ⟨(d, lv) :: s, bx, X⟩ (⟨[(d, lv)], [], []⟩ :: acc) K) :
    RunK P n ops (⟨some d, .pick c x y, ty, pos, after, g⟩ :: os) ⟨s, bx, X⟩ acc K := RunK.g1 (LOK.pickF hc hy) hw kont
theorem K.extract {s0 : List (Nat × LV)} {d : Nat} {x : Operand} {i : Nat} {ty : TypeId} {pos : String} {after : Array Edge} {g : Option (Nat × Bool)} {l : List SV} {s : SV} (hx : (⟨s0, bx, X⟩ : St).ev x = some (.tup l)) (hi : l[i]? = some s) (hw : Want ops s0 g) (kont : RunK P n ops os ⟨(d, .sv s) :: s0, bx, X⟩ (⟨[(d, .sv s)], [], []⟩ :: acc) K) :
    RunK P n ops (⟨some d, .extract x i, ty, pos, after, g⟩ :: os) ⟨s0, bx, X⟩ acc K := RunK.g1 (LOK.extract hx hi) hw kont
theorem K.un  {d : Nat} {op : UnOp} {t : TypeId} {x : Operand} {ty : TypeId} {pos : String} {after : Array Edge} {g : Option (Nat × Bool)} {u r : Value} (hx : (⟨s, bx, X⟩ : St).ev x = some (.sv (.one (.val u))))
    (hrun : ∀ w, (Op.unary op u).run P w = .ok r w) (hw : Want ops s g) (kont : RunK P n ops os ⟨(d, .sv (.one (.val r))) :: s, bx, X⟩ (⟨[(d, .sv (.one (.val r)))], [], []⟩ :: acc) K) :
    RunK P n ops (⟨some d, .unOp op t x, ty, pos, after, g⟩ :: os) ⟨s, bx, X⟩ acc K := RunK.g1 (LOK.un hx hrun) hw kont
theorem K.not  {d : Nat} {t : TypeId} {x : Operand} {ty : TypeId} {pos : String} {after : Array Edge} {g : Option (Nat × Bool)} {b c : Bool} (hx : (⟨s, bx, X⟩ : St).ev x = some (.sv (.one (.val (.bool b))))) (hc : (!b) = c) (hw : Want ops s g) (kont : RunK P n ops os ⟨(d, .sv (.one (.val (.bool c)))) :: s, bx, X⟩ (⟨[(d, .sv (.one (.val (.bool c))))], [], []⟩ :: acc) K) :
    RunK P n ops (⟨some d, .unOp .not t x, ty, pos, after, g⟩ :: os) ⟨s, bx, X⟩ acc K := RunK.g1 (LOK.not hx hc) hw kont
theorem K.neg  {d : Nat} {t : TypeId} {x : Operand} {ty : TypeId} {pos : String} {after : Array Edge} {g : Option (Nat × Bool)} {k : IntKind} {b c : Int} (hx : (⟨s, bx, X⟩ : St).ev x = some (.sv (.one (.val (.int k b))))) (hc : k.wrap (0 - b) = c) (hw : Want ops s g) (kont : RunK P n ops os ⟨(d, .sv (.one (.val (.int k c)))) :: s, bx, X⟩ (⟨[(d, .sv (.one (.val (.int k c))))], [], []⟩ :: acc) K) :
    RunK P n ops (⟨some d, .unOp .neg t x, ty, pos, after, g⟩ :: os) ⟨s, bx, X⟩ acc K := RunK.g1 (LOK.neg hx hc) hw kont
theorem K.bin  {d : Nat} {op : BinOp} {t t' : TypeId} {x y : Operand} {ty : TypeId} {pos : String} {after : Array Edge} {g : Option (Nat × Bool)} {u v r : Value} (hx : (⟨s, bx, X⟩ : St).ev x = some (.sv (.one (.val u)))) (hy : (⟨s, bx, X⟩ : St).ev y = some (.sv (.one (.val v))))
    (hrun : ∀ w, ((do eqGuard op t x y u v; binOp op t u v) : Sem Value).run P w = .ok r w) (hw : Want ops s g) (kont : RunK P n ops os ⟨(d, .sv (.one (.val r))) :: s, bx, X⟩ (⟨[(d, .sv (.one (.val r)))], [], []⟩ :: acc) K) :
    RunK P n ops (⟨some d, .binOp op t x y t', ty, pos, after, g⟩ :: os) ⟨s, bx, X⟩ acc K := RunK.g1 (LOK.bin hx hy hrun) hw kont
theorem K.add {d : Nat} {t : TypeId} {t' : TypeId} {x : Operand} {y : Operand} {ty : TypeId} {pos : String} {after : Array Edge} {g : Option (Nat × Bool)} {k : IntKind} {a : Int} {b : Int} {c : Int} (hx : (⟨s, bx, X⟩ : St).ev x = some (.sv (.one (.val (.int k a))))) (hy : (⟨s, bx, X⟩ : St).ev y = some (.sv (.one (.val (.int k b))))) (hc : k.wrap (a + b) = c) (hw : Want ops s g) (kont : RunK P n ops os ⟨(d, .sv (.one (.val (.int k c)))) :: s, bx, X⟩ (⟨[(d, .sv (.one (.val (.int k c))))], [], []⟩ :: acc) K) :
    RunK P n ops (⟨some d, .binOp .add t x y t', ty, pos, after, g⟩ :: os) ⟨s, bx, X⟩ acc K := RunK.g1 (LOK.add hx hy hc) hw kont
theorem K.sub {d : Nat} {t : TypeId} {t' : TypeId} {x : Operand} {y : Operand} {ty : TypeId} {pos : String} {after : Array Edge} {g : Option (Nat × Bool)} {k : IntKind} {a : Int} {b : Int} {c : Int} (hx : (⟨s, bx, X⟩ : St).ev x = some (.sv (.one (.val (.int k a))))) (hy : (⟨s, bx, X⟩ : St).ev y = some (.sv (.one (.val (.int k b))))) (hc : k.wrap (a - b) = c) (hw : Want ops s g) (kont : RunK P n ops os ⟨(d, .sv (.one (.val (.int k c)))) :: s, bx, X⟩ (⟨[(d, .sv (.one (.val (.int k c))))], [], []⟩ :: acc) K) :
    RunK P n ops (⟨some d, .binOp .sub t x y t', ty, pos, after, g⟩ :: os) ⟨s, bx, X⟩ acc K := RunK.g1 (LOK.sub hx hy hc) hw kont
theorem K.mul {d : Nat} {t : TypeId} {t' : TypeId} {x : Operand} {y : Operand} {ty : TypeId} {pos : String} {after : Array Edge} {g : Option (Nat × Bool)} {k : IntKind} {a : Int} {b : Int} {c : Int} (hx : (⟨s, bx, X⟩ : St).ev x = some (.sv (.one (.val (.int k a))))) (hy : (⟨s, bx, X⟩ : St).ev y = some (.sv (.one (.val (.int k b))))) (hc : k.wrap (a * b) = c) (hw : Want ops s g) (kont : RunK P n ops os ⟨(d, .sv (.one (.val (.int k c)))) :: s, bx, X⟩ (⟨[(d, .sv (.one (.val (.int k c))))], [], []⟩ :: acc) K) :
    RunK P n ops (⟨some d, .binOp .mul t x y t', ty, pos, after, g⟩ :: os) ⟨s, bx, X⟩ acc K := RunK.g1 (LOK.mul hx hy hc) hw kont
theorem K.quo {d : Nat} {t : TypeId} {t' : TypeId} {x : Operand} {y : Operand} {ty : TypeId} {pos : String} {after : Array Edge} {g : Option (Nat × Bool)} {k : IntKind} {a : Int} {b : Int} {c : Int} (hx : (⟨s, bx, X⟩ : St).ev x = some (.sv (.one (.val (.int k a))))) (hy : (⟨s, bx, X⟩ : St).ev y = some (.sv (.one (.val (.int k b))))) (hb : b ≠ 0) (hc : k.wrap (a.tdiv b) = c) (hw : Want ops s g) (kont : RunK P n ops os ⟨(d, .sv (.one (.val (.int k c)))) :: s, bx, X⟩ (⟨[(d, .sv (.one (.val (.int k c))))], [], []⟩ :: acc) K) :
    RunK P n ops (⟨some d, .binOp .quo t x y t', ty, pos, after, g⟩ :: os) ⟨s, bx, X⟩ acc K := RunK.g1 (LOK.quo hx hy hb hc) hw kont
theorem K.rem {d : Nat} {t : TypeId} {t' : TypeId} {x : Operand} {y : Operand} {ty : TypeId} {pos : String} {after : Array Edge} {g : Option (Nat × Bool)} {k : IntKind} {a : Int} {b : Int} {c : Int} (hx : (⟨s, bx, X⟩ : St).ev x = some (.sv (.one (.val (.int k a))))) (hy : (⟨s, bx, X⟩ : St).ev y = some (.sv (.one (.val (.int k b))))) (hb : b ≠ 0) (hc : a.tmod b = c) (hw : Want ops s g) (kont : RunK P n ops os ⟨(d, .sv (.one (.val (.int k c)))) :: s, bx, X⟩ (⟨[(d, .sv (.one (.val (.int k c))))], [], []⟩ :: acc) K) :
    RunK P n ops (⟨some d, .binOp .rem t x y t', ty, pos, after, g⟩ :: os) ⟨s, bx, X⟩ acc K := RunK.g1 (LOK.rem hx hy hb hc) hw kont
theorem K.bitop {d : Nat} {t : TypeId} {t' : TypeId} {x : Operand} {y : Operand} {ty : TypeId} {pos : String} {after : Array Edge} {g : Option (Nat × Bool)} {k : IntKind} {a : Int} {b : Int} {c : Int} {op : BinOp} (hop : op = .and ∨ op = .or ∨ op = .xor ∨ op = .andNot) (hx : (⟨s, bx, X⟩ : St).ev x = some (.sv (.one (.val (.int k a))))) (hy : (⟨s, bx, X⟩ : St).ev y = some (.sv (.one (.val (.int k b))))) (hc : bits op k a b = c) (hw : Want ops s g) (kont : RunK P n ops os ⟨(d, .sv (.one (.val (.int k c)))) :: s, bx, X⟩ (⟨[(d, .sv (.one (.val (.int k c))))], [], []⟩ :: acc) K) :
    RunK P n ops (⟨some d, .binOp op t x y t', ty, pos, after, g⟩ :: os) ⟨s, bx, X⟩ acc K := RunK.g1 (LOK.bitop hop hx hy hc) hw kont
theorem K.shl {d : Nat} {t : TypeId} {t' : TypeId} {x : Operand} {y : Operand} {ty : TypeId} {pos : String} {after : Array Edge} {g : Option (Nat × Bool)} {k : IntKind} {k' : IntKind} {a : Int} {b : Int} {c : Int} (hx : (⟨s, bx, X⟩ : St).ev x = some (.sv (.one (.val (.int k a))))) (hy : (⟨s, bx, X⟩ : St).ev y = some (.sv (.one (.val (.int k' b))))) (hb : 0 ≤ b) (hc : k.wrap (a * 2 ^ (min b.toNat k.bits)) = c) (hw : Want ops s g) (kont : RunK P n ops os ⟨(d, .sv (.one (.val (.int k c)))) :: s, bx, X⟩ (⟨[(d, .sv (.one (.val (.int k c))))], [], []⟩ :: acc) K) :
    RunK P n ops (⟨some d, .binOp .shl t x y t', ty, pos, after, g⟩ :: os) ⟨s, bx, X⟩ acc K := RunK.g1 (LOK.shl hx hy hb hc) hw kont
theorem K.eql {d : Nat} {t : TypeId} {t' : TypeId} {x : Operand} {y : Operand} {ty : TypeId} {pos : String} {after : Array Edge} {g : Option (Nat × Bool)} {k : IntKind} {a : Int} {b : Int} {r : Bool} (hx : (⟨s, bx, X⟩ : St).ev x = some (.sv (.one (.val (.int k a))))) (hy : (⟨s, bx, X⟩ : St).ev y = some (.sv (.one (.val (.int k b))))) (hc : (a == b) = r) (hw : Want ops s g) (kont : RunK P n ops os ⟨(d, .sv (.one (.val (.bool r)))) :: s, bx, X⟩ (⟨[(d, .sv (.one (.val (.bool r))))], [], []⟩ :: acc) K) :
    RunK P n ops (⟨some d, .binOp .eql t x y t', ty, pos, after, g⟩ :: os) ⟨s, bx, X⟩ acc K := RunK.g1 (LOK.eql hx hy hc) hw kont
theorem K.neq {d : Nat} {t : TypeId} {t' : TypeId} {x : Operand} {y : Operand} {ty : TypeId} {pos : String} {after : Array Edge} {g : Option (Nat × Bool)} {k : IntKind} {a : Int} {b : Int} {r : Bool} (hx : (⟨s, bx, X⟩ : St).ev x = some (.sv (.one (.val (.int k a))))) (hy : (⟨s, bx, X⟩ : St).ev y = some (.sv (.one (.val (.int k b))))) (hc : (a != b) = r) (hw : Want ops s g) (kont : RunK P n ops os ⟨(d, .sv (.one (.val (.bool r)))) :: s, bx, X⟩ (⟨[(d, .sv (.one (.val (.bool r))))], [], []⟩ :: acc) K) :
    RunK P n ops (⟨some d, .binOp .neq t x y t', ty, pos, after, g⟩ :: os) ⟨s, bx, X⟩ acc K := RunK.g1 (LOK.neq hx hy hc) hw kont
theorem K.lss {d : Nat} {t : TypeId} {t' : TypeId} {x : Operand} {y : Operand} {ty : TypeId} {pos : String} {after : Array Edge} {g : Option (Nat × Bool)} {k : IntKind} {a : Int} {b : Int} {r : Bool} (hx : (⟨s, bx, X⟩ : St).ev x = some (.sv (.one (.val (.int k a))))) (hy : (⟨s, bx, X⟩ : St).ev y = some (.sv (.one (.val (.int k b))))) (hc : decide (a < b) = r) (hw : Want ops s g) (kont : RunK P n ops os ⟨(d, .sv (.one (.val (.bool r)))) :: s, bx, X⟩ (⟨[(d, .sv (.one (.val (.bool r))))], [], []⟩ :: acc) K) :
    RunK P n ops (⟨some d, .binOp .lss t x y t', ty, pos, after, g⟩ :: os) ⟨s, bx, X⟩ acc K := RunK.g1 (LOK.lss hx hy hc) hw kont
theorem K.leq {d : Nat} {t : TypeId} {t' : TypeId} {x : Operand} {y : Operand} {ty : TypeId} {pos : String} {after : Array Edge} {g : Option (Nat × Bool)} {k : IntKind} {a : Int} {b : Int} {r : Bool} (hx : (⟨s, bx, X⟩ : St).ev x = some (.sv (.one (.val (.int k a))))) (hy : (⟨s, bx, X⟩ : St).ev y = some (.sv (.one (.val (.int k b))))) (hc : decide (a ≤ b) = r) (hw : Want ops s g) (kont : RunK P n ops os ⟨(d, .sv (.one (.val (.bool r)))) :: s, bx, X⟩ (⟨[(d, .sv (.one (.val (.bool r))))], [], []⟩ :: acc) K) :
    RunK P n ops (⟨some d, .binOp .leq t x y t', ty, pos, after, g⟩ :: os) ⟨s, bx, X⟩ acc K := RunK.g1 (LOK.leq hx hy hc) hw kont
theorem K.gtr {d : Nat} {t : TypeId} {t' : TypeId} {x : Operand} {y : Operand} {ty : TypeId} {pos : String} {after : Array Edge} {g : Option (Nat × Bool)} {k : IntKind} {a : Int} {b : Int} {r : Bool} (hx : (⟨s, bx, X⟩ : St).ev x = some (.sv (.one (.val (.int k a))))) (hy : (⟨s, bx, X⟩ : St).ev y = some (.sv (.one (.val (.int k b))))) (hc : decide (b < a) = r) (hw : Want ops s g) (kont : RunK P n ops os ⟨(d, .sv (.one (.val (.bool r)))) :: s, bx, X⟩ (⟨[(d, .sv (.one (.val (.bool r))))], [], []⟩ :: acc) K) :
    RunK P n ops (⟨some d, .binOp .gtr t x y t', ty, pos, after, g⟩ :: os) ⟨s, bx, X⟩ acc K := RunK.g1 (LOK.gtr hx hy hc) hw kont
theorem K.geq {d : Nat} {t : TypeId} {t' : TypeId} {x : Operand} {y : Operand} {ty : TypeId} {pos : String} {after : Array Edge} {g : Option (Nat × Bool)} {k : IntKind} {a : Int} {b : Int} {r : Bool} (hx : (⟨s, bx, X⟩ : St).ev x = some (.sv (.one (.val (.int k a))))) (hy : (⟨s, bx, X⟩ : St).ev y = some (.sv (.one (.val (.int k b))))) (hc : decide (b ≤ a) = r) (hw : Want ops s g) (kont : RunK P n ops os ⟨(d, .sv (.one (.val (.bool r)))) :: s, bx, X⟩ (⟨[(d, .sv (.one (.val (.bool r))))], [], []⟩ :: acc) K) :
    RunK P n ops (⟨some d, .binOp .geq t x y t', ty, pos, after, g⟩ :: os) ⟨s, bx, X⟩ acc K := RunK.g1 (LOK.geq hx hy hc) hw kont
theorem K.loadX  {d b off : Nat} {x : Operand} {t ty : TypeId} {pos : String} {after : Array Edge} {g : Option (Nat × Bool)} {arr : Array Value} {el : TypeId} {fr : Nat × Nat} {v : Value} (hx : (⟨s, bx, X⟩ : St).ev x = some (.sv (.one (.val (.pointer (some ⟨b, off, none⟩))))))
    (hX : X b = some (.cells arr el fr)) (hs : oneType P t = true) (hc : arr[off]? = some v) (hw : Want ops s g) (kont : RunK P n ops os ⟨(d, .sv (.one (.val v))) :: s, bx, X⟩ (⟨[(d, .sv (.one (.val v)))], [], []⟩ :: acc) K) :
    RunK P n ops (⟨some d, .load t x, ty, pos, after, g⟩ :: os) ⟨s, bx, X⟩ acc K := RunK.g1 (LOK.loadX hx hX hs hc) hw kont
theorem K.loadXagg  {d b off m : Nat} {x : Operand} {t ty : TypeId} {pos : String} {after : Array Edge} {g : Option (Nat × Bool)} {arr : Array Value} {el : TypeId} {fr : Nat × Nat} {l : List CV} (hx : (⟨s, bx, X⟩ : St).ev x = some (.sv (.one (.val (.pointer (some ⟨b, off, none⟩))))))
    (hX : X b = some (.cells arr el fr)) (hs : aggSize P t = some m) (hm : off + m ≤ arr.size) (hl : ((arr.toList.drop off).take m).map .val = l) (hw : Want ops s g) (kont : RunK P n ops os ⟨(d, .sv (.agg l)) :: s, bx, X⟩ (⟨[(d, .sv (.agg l))], [], []⟩ :: acc) K) :
    RunK P n ops (⟨some d, .load t x, ty, pos, after, g⟩ :: os) ⟨s, bx, X⟩ acc K := RunK.g1 (LOK.loadXagg hx hX hs hm hl) hw kont
theorem K.store {s0 : List (Nat × LV)} {k off : Nat} {x y : Operand} {t ty : TypeId} {pos : String} {after : Array Edge} {g : Option (Nat × Bool)} {el : TypeId} {cs : List CV} {row : Bool} {s : SV} {cs' : List CV} (hx : (⟨s0, bx, X⟩ : St).ev x = some (.sv (.one (.ptr k off)))) (hy : (⟨s0, bx, X⟩ : St).ev y = some (.sv s))
    (hk : (⟨s0, bx, X⟩ : St).stat k = some (some ⟨el, cs, row⟩)) (hs : s.solid = true) (hz : sizeIs P t = some s.cells.length) (hm : off + s.cells.length ≤ cs.length) (hc : splice cs off s.cells = cs') (hw : Want ops s0 g) (kont : RunK P n ops os ⟨s0, (k, some ⟨el, cs', row⟩) :: bx, X⟩ (⟨[], [], [(k, some ⟨el, cs', row⟩)]⟩ :: acc) K) :
    RunK P n ops (⟨none, .store t x y, ty, pos, after, g⟩ :: os) ⟨s0, bx, X⟩ acc K := RunK.g3 (LOK.store hx hy hk hs hz hm hc) hw kont
theorem K.indexX  {d : Nat} {t : TypeId} {x y : Operand} {ty : TypeId} {pos : String} {after : Array Edge} {g : Option (Nat × Bool)} {b off len cap sz off' : Nat} {kk : IntKind} {i : Int} (hx : (⟨s, bx, X⟩ : St).ev x = some (.sv (.one (.val (.slice (some ⟨b, off, none⟩) len cap))))) (hy : (⟨s, bx, X⟩ : St).ev y = some (.sv (.one (.val (.int kk i)))))
    (ht : sliceOf P t = some sz) (hi : 0 ≤ i ∧ i < len) (ho : off + i.toNat * sz = off') (hw : Want ops s g) (kont : RunK P n ops os ⟨(d, .sv (.one (.val (.pointer (some ⟨b, off', none⟩))))) :: s, bx, X⟩ (⟨[(d, .sv (.one (.val (.pointer (some ⟨b, off', none⟩)))))], [], []⟩ :: acc) K) :
    RunK P n ops (⟨some d, .indexAddr t x y, ty, pos, after, g⟩ :: os) ⟨s, bx, X⟩ acc K := RunK.g1 (LOK.indexX hx hy ht hi ho) hw kont
theorem K.fieldOne {s0 : List (Nat × LV)} {d s i : Nat} {x : Operand} {ty : TypeId} {pos : String} {after : Array Edge} {g : Option (Nat × Bool)} {l : List CV} {fs : Array Field} {f : Field} {c : CV} (hx : (⟨s0, bx, X⟩ : St).ev x = some (.sv (.agg l)))
    (hu : P.underlying s = some (.struct fs)) (hf : fs[i]? = some f) (hone : oneType P f.type = true) (hc : l[f.offset]? = some c) (hw : Want ops s0 g) (kont : RunK P n ops os ⟨(d, .sv (.one c)) :: s0, bx, X⟩ (⟨[(d, .sv (.one c))], [], []⟩ :: acc) K) :
    RunK P n ops (⟨some d, .field s x i, ty, pos, after, g⟩ :: os) ⟨s0, bx, X⟩ acc K := RunK.g1 (LOK.fieldOne hx hu hf hone hc) hw kont
theorem K.lenSlc  {d : Nat} {t : TypeId} {x : Operand} {ty : TypeId} {pos : String} {after : Array Edge} {g : Option (Nat × Bool)} {k off len sz es : Nat} {r : Int} (hx : (⟨s, bx, X⟩ : St).ev x = some (.sv (.one (.slc k off len es)))) (ht : sliceOf P t = some sz) (hr' : (len : Int) = r) (hw : Want ops s g) (kont : RunK P n ops os ⟨(d, .sv (.one (.val (.int .i64 r)))) :: s, bx, X⟩ (⟨[(d, .sv (.one (.val (.int .i64 r))))], [], []⟩ :: acc) K) :
    RunK P n ops (⟨some d, .call ⟨.builtin .len, #[x], #[t]⟩, ty, pos, after, g⟩ :: os) ⟨s, bx, X⟩ acc K := RunK.g1 (LOK.lenSlc hx ht hr') hw kont
theorem K.lenX  {d : Nat} {t : TypeId} {x : Operand} {ty : TypeId} {pos : String} {after : Array Edge} {g : Option (Nat × Bool)} {ad : Option Addr} {len cap sz : Nat} {r : Int} (hx : (⟨s, bx, X⟩ : St).ev x = some (.sv (.one (.val (.slice ad len cap))))) (ht : sliceOf P t = some sz) (hr' : (len : Int) = r) (hw : Want ops s g) (kont : RunK P n ops os ⟨(d, .sv (.one (.val (.int .i64 r)))) :: s, bx, X⟩ (⟨[(d, .sv (.one (.val (.int .i64 r))))], [], []⟩ :: acc) K) :
    RunK P n ops (⟨some d, .call ⟨.builtin .len, #[x], #[t]⟩, ty, pos, after, g⟩ :: os) ⟨s, bx, X⟩ acc K := RunK.g1 (LOK.lenX hx ht hr') hw kont
theorem K.call  {d : Nat} {f : FuncId} {args : List Operand} {tys : Array TypeId} {ty : TypeId} {pos : String} {after : Array Edge} {g : Option (Nat × Bool)} {lvs : List LV} {r : LV} (hargs : evs ⟨s, bx, X⟩ args = some lvs) (hcl : lvs.all LV.closed = true) (hs : PSpec P X f lvs r) (hw : Want ops s g) (kont : RunK P n ops os ⟨(d, r) :: s, bx, X⟩ (⟨[(d, r)], [], []⟩ :: acc) K) :
    RunK P n ops (⟨some d, .call ⟨.value (.func f), args.toArray, tys⟩, ty, pos, after, g⟩ :: os) ⟨s, bx, X⟩ acc K := RunK.g1 (LOK.call hargs hcl hs) hw kont
theorem K.alloc {d : Nat} {ty : TypeId} {pos : String} {after : Array Edge} {g : Option (Nat × Bool)} {el : TypeId} {zs : List CV} [ZeroT P el zs] (hk : (⟨s, bx, X⟩ : St).fresh d = true) (hw : Want ops s g) (kont : RunK P n ops os ⟨(d, .sv (.one (.ptr d 0))) :: s, (d, some ⟨el, zs, false⟩) :: bx, X⟩ (⟨[(d, .sv (.one (.ptr d 0)))], [], [(d, some ⟨el, zs, false⟩)]⟩ :: acc) K) :
    RunK P n ops (⟨some d, .alloc el, ty, pos, after, g⟩ :: os) ⟨s, bx, X⟩ acc K := RunK.g2 (I.alloc hk) hw kont
theorem K.box {d : Nat} {x : Operand} {ty : TypeId} {pos : String} {after : Array Edge} {g : Option (Nat × Bool)} {el : TypeId} {l : List CV} (hx : (⟨s, bx, X⟩ : St).ev x = some (.sv (.agg l))) (hs : l.all CV.solid = true) (hk : (⟨s, bx, X⟩ : St).fresh d = true) (hw : Want ops s g) (kont : RunK P n ops os ⟨(d, .sv (.one (.ptr d 0))) :: s, (d, some ⟨el, l, false⟩) :: bx, X⟩ (⟨[(d, .sv (.one (.ptr d 0)))], [], [(d, some ⟨el, l, false⟩)]⟩ :: acc) K) :
    RunK P n ops (⟨some d, .box el x, ty, pos, after, g⟩ :: os) ⟨s, bx, X⟩ acc K := RunK.g2 (I.box hx hs hk) hw kont
theorem K.box1 {d : Nat} {x : Operand} {ty : TypeId} {pos : String} {after : Array Edge} {g : Option (Nat × Bool)} {el : TypeId} {c : CV} (hx : (⟨s, bx, X⟩ : St).ev x = some (.sv (.one c))) (hs : c.solid = true) (hk : (⟨s, bx, X⟩ : St).fresh d = true) (hw : Want ops s g) (kont : RunK P n ops os ⟨(d, .sv (.one (.ptr d 0))) :: s, (d, some ⟨el, [c], false⟩) :: bx, X⟩ (⟨[(d, .sv (.one (.ptr d 0)))], [], [(d, some ⟨el, [c], false⟩)]⟩ :: acc) K) :
    RunK P n ops (⟨some d, .box el x, ty, pos, after, g⟩ :: os) ⟨s, bx, X⟩ acc K := RunK.g2 (I.box1 hx hs hk) hw kont
theorem K.loadAll {d : Nat} {t : TypeId} {x : Operand} {ty : TypeId} {pos : String} {after : Array Edge} {g : Option (Nat × Bool)} {k m : Nat} {el : TypeId} {cs : List CV} [i : AggT P t m] (hx : (⟨s, bx, X⟩ : St).ev x = some (.sv (.one (.ptr k 0)))) (hk : (⟨s, bx, X⟩ : St).stat k = some (some ⟨el, cs, false⟩)) (hm : m = cs.length) (hw : Want ops s g) (kont : RunK P n ops os ⟨(d, .sv (.agg cs)) :: s, bx, X⟩ (⟨[(d, .sv (.agg cs))], [k], []⟩ :: acc) K) :
    RunK P n ops (⟨some d, .load t x, ty, pos, after, g⟩ :: os) ⟨s, bx, X⟩ acc K := RunK.g1 (I.loadAll hx hk hm) hw kont
theorem K.loadPart {d : Nat} {t : TypeId} {x : Operand} {ty : TypeId} {pos : String} {after : Array Edge} {g : Option (Nat × Bool)} {k off m : Nat} {e : TypeId} {cs : List CV} {row : Bool} {l : List CV} [i : AggT P t m] (hx : (⟨s, bx, X⟩ : St).ev x = some (.sv (.one (.ptr k off)))) (hk : (⟨s, bx, X⟩ : St).stat k = some (some ⟨e, cs, row⟩)) (hm : Nat.ble (off + m) cs.length = true) (hl : (cs.drop off).take m = l) (hw : Want ops s g) (kont : RunK P n ops os ⟨(d, .sv (.agg l)) :: s, bx, X⟩ (⟨[(d, .sv (.agg l))], [k], []⟩ :: acc) K) :
    RunK P n ops (⟨some d, .load t x, ty, pos, after, g⟩ :: os) ⟨s, bx, X⟩ acc K := RunK.g1 (I.loadPart hx hk hm hl) hw kont
theorem K.loadOne {d : Nat} {t : TypeId} {x : Operand} {ty : TypeId} {pos : String} {after : Array Edge} {g : Option (Nat × Bool)} {k off : Nat} {e : TypeId} {cs : List CV} {row : Bool} {c : CV} [i : OneT P t] (hx : (⟨s, bx, X⟩ : St).ev x = some (.sv (.one (.ptr k off)))) (hk : (⟨s, bx, X⟩ : St).stat k = some (some ⟨e, cs, row⟩)) (hc : cs[off]? = some c) (hw : Want ops s g) (kont : RunK P n ops os ⟨(d, .sv (.one c)) :: s, bx, X⟩ (⟨[(d, .sv (.one c))], [k], []⟩ :: acc) K) :
    RunK P n ops (⟨some d, .load t x, ty, pos, after, g⟩ :: os) ⟨s, bx, X⟩ acc K := RunK.g1 (I.loadOne hx hk hc) hw kont
theorem K.storeAll {t : TypeId} {x : Operand} {y : Operand} {ty : TypeId} {pos : String} {after : Array Edge} {g : Option (Nat × Bool)} {k m : Nat} {el : TypeId} {cs l : List CV} {row : Bool} [i : AggT P t m] (hx : (⟨s, bx, X⟩ : St).ev x = some (.sv (.one (.ptr k 0)))) (hy : (⟨s, bx, X⟩ : St).ev y = some (.sv (.agg l))) (hk : (⟨s, bx, X⟩ : St).stat k = some (some ⟨el, cs, row⟩)) (hs : l.all CV.solid = true)
    (hm : m = l.length) (hm' : l.length = cs.length) (hw : Want ops s g) (kont : RunK P n ops os ⟨s, (k, some ⟨el, l, row⟩) :: bx, X⟩ (⟨[], [], [(k, some ⟨el, l, row⟩)]⟩ :: acc) K) :
    RunK P n ops (⟨none, .store t x y, ty, pos, after, g⟩ :: os) ⟨s, bx, X⟩ acc K := RunK.g3 (I.storeAll hx hy hk hs hm hm') hw kont
theorem K.storeOne {t : TypeId} {x : Operand} {y : Operand} {ty : TypeId} {pos : String} {after : Array Edge} {g : Option (Nat × Bool)} {k off : Nat} {el : TypeId} {cs l : List CV} {c : CV} {row : Bool} [i : OneT P t] (hx : (⟨s, bx, X⟩ : St).ev x = some (.sv (.one (.ptr k off)))) (hy : (⟨s, bx, X⟩ : St).ev y = some (.sv (.one c))) (hk : (⟨s, bx, X⟩ : St).stat k = some (some ⟨el, cs, row⟩)) (hs : c.solid = true)
    (hm : Nat.blt off cs.length = true) (hl : cs.set off c = l) (hw : Want ops s g) (kont : RunK P n ops os ⟨s, (k, some ⟨el, l, row⟩) :: bx, X⟩ (⟨[], [], [(k, some ⟨el, l, row⟩)]⟩ :: acc) K) :
    RunK P n ops (⟨none, .store t x y, ty, pos, after, g⟩ :: os) ⟨s, bx, X⟩ acc K := RunK.g3 (I.storeOne hx hy hk hs hm hl) hw kont
theorem K.fieldAddr {d : Nat} {t : TypeId} {x : Operand} {ty : TypeId} {pos : String} {after : Array Edge} {g : Option (Nat × Bool)} {i k off o m : Nat} [f : FieldT P t i o m] (hx : (⟨s, bx, X⟩ : St).ev x = some (.sv (.one (.ptr k off)))) {off' : Nat} (ho : Nat.add off o = off') (hw : Want ops s g) (kont : RunK P n ops os ⟨(d, .sv (.one (.ptr k off'))) :: s, bx, X⟩ (⟨[(d, .sv (.one (.ptr k off')))], [], []⟩ :: acc) K) :
    RunK P n ops (⟨some d, .fieldAddr t x i, ty, pos, after, g⟩ :: os) ⟨s, bx, X⟩ acc K := RunK.g1 (I.fieldAddr hx ho) hw kont
theorem K.build {d : Nat} {t : TypeId} {ty : TypeId} {pos : String} {after : Array Edge} {g : Option (Nat × Bool)} {parts : List (Nat × Operand)} {ps : List (Nat × SV)} {zs : List Value} {places : List (Nat × Nat)} {cs cs' : List CV} [i : StructT P t zs places]
    (hp : evParts ⟨s, bx, X⟩ parts = some ps) (hso : ps.all (fun p => p.2.solid) = true) (hf : fillL (fun i => places[i]?) (zs.map .val) ps = some cs) (hn : cs = cs') (hw : Want ops s g) (kont : RunK P n ops os ⟨(d, .sv (.agg cs')) :: s, bx, X⟩ (⟨[(d, .sv (.agg cs'))], [], []⟩ :: acc) K) :
    RunK P n ops (⟨some d, .build t parts.toArray, ty, pos, after, g⟩ :: os) ⟨s, bx, X⟩ acc K := RunK.g1 (I.build hp hso hf hn) hw kont
theorem K.indexSlc {d : Nat} {t : TypeId} {x : Operand} {y : Operand} {ty : TypeId} {pos : String} {after : Array Edge} {g : Option (Nat × Bool)} {k off len sz off' es : Nat} {kk : IntKind} {i : Int} [a : SliceT P t sz] (hx : (⟨s, bx, X⟩ : St).ev x = some (.sv (.one (.slc k off len es)))) (hy : (⟨s, bx, X⟩ : St).ev y = some (.sv (.one (.val (.int kk i))))) (hi : 0 ≤ i ∧ i < len) (ho : off + i.toNat * sz = off') (hw : Want ops s g) (kont : RunK P n ops os ⟨(d, .sv (.one (.ptr k off'))) :: s, bx, X⟩ (⟨[(d, .sv (.one (.ptr k off')))], [], []⟩ :: acc) K) :
    RunK P n ops (⟨some d, .indexAddr t x y, ty, pos, after, g⟩ :: os) ⟨s, bx, X⟩ acc K := RunK.g1 (I.indexSlc hx hy hi ho) hw kont
theorem K.indexStr {d : Nat} {t : TypeId} {x : Operand} {y : Operand} {ty : TypeId} {pos : String} {after : Array Edge} {g : Option (Nat × Bool)} {s0 : List (Nat × LV)} {s : ByteArray} {kk : IntKind} {i : Int} {b : UInt8} [StrT P t] (hx : (⟨s0, bx, X⟩ : St).ev x = some (.sv (.one (.val (.string s))))) (hy : (⟨s0, bx, X⟩ : St).ev y = some (.sv (.one (.val (.int kk i))))) (hi : 0 ≤ i) (hb : s[i.toNat]? = some b) (hw : Want ops s0 g) (kont : RunK P n ops os ⟨(d, .sv (.one (.val (.int .u8 b.toNat)))) :: s0, bx, X⟩ (⟨[(d, .sv (.one (.val (.int .u8 b.toNat))))], [], []⟩ :: acc) K) :
    RunK P n ops (⟨some d, .index t x y, ty, pos, after, g⟩ :: os) ⟨s0, bx, X⟩ acc K := RunK.g1 (I.indexStr hx hy hi hb) hw kont
theorem K.lenStr {d : Nat} {t : TypeId} {x : Operand} {ty : TypeId} {pos : String} {after : Array Edge} {g : Option (Nat × Bool)} {s0 : List (Nat × LV)} {s : ByteArray} [StrT P t] (hx : (⟨s0, bx, X⟩ : St).ev x = some (.sv (.one (.val (.string s))))) (hw : Want ops s0 g) (kont : RunK P n ops os ⟨(d, .sv (.one (.val (.int .i64 s.size)))) :: s0, bx, X⟩ (⟨[(d, .sv (.one (.val (.int .i64 s.size))))], [], []⟩ :: acc) K) :
    RunK P n ops (⟨some d, .call ⟨.builtin .len, #[x], #[t]⟩, ty, pos, after, g⟩ :: os) ⟨s0, bx, X⟩ acc K := RunK.g1 (I.lenStr hx) hw kont
theorem K.eqlB {d : Nat} {t : TypeId} {t' : TypeId} {x : Operand} {y : Operand} {ty : TypeId} {pos : String} {after : Array Edge} {g : Option (Nat × Bool)} {p q r : Bool} [BoolT P t] (hx : (⟨s, bx, X⟩ : St).ev x = some (.sv (.one (.val (.bool p))))) (hy : (⟨s, bx, X⟩ : St).ev y = some (.sv (.one (.val (.bool q))))) (hc : (p == q) = r) (hw : Want ops s g) (kont : RunK P n ops os ⟨(d, .sv (.one (.val (.bool r)))) :: s, bx, X⟩ (⟨[(d, .sv (.one (.val (.bool r))))], [], []⟩ :: acc) K) :
    RunK P n ops (⟨some d, .binOp .eql t x y t', ty, pos, after, g⟩ :: os) ⟨s, bx, X⟩ acc K := RunK.g1 (I.eqlB hx hy hc) hw kont
theorem K.conv {d : Nat} {t : TypeId} {t' : TypeId} {x : Operand} {ty : TypeId} {pos : String} {after : Array Edge} {g : Option (Nat × Bool)} {k k' : IntKind} {a c : Int} {ks : IntKind} [i : IntT P t ks] [i' : IntT P t' k'] (hx : (⟨s, bx, X⟩ : St).ev x = some (.sv (.one (.val (.int k a))))) (hc : k'.wrap a = c) (hw : Want ops s g) (kont : RunK P n ops os ⟨(d, .sv (.one (.val (.int k' c)))) :: s, bx, X⟩ (⟨[(d, .sv (.one (.val (.int k' c))))], [], []⟩ :: acc) K) :
    RunK P n ops (⟨some d, .convert t t' x, ty, pos, after, g⟩ :: os) ⟨s, bx, X⟩ acc K := RunK.g1 (I.conv hx hc) hw kont
end
end Go.Lg
end
section
namespace Go.Lg.Arith
structure KInv (y1 y0 U d q r : Int) : Prop where
  q0 : 0 ≤ q
  r0 : 0 ≤ r
  eq : q * y1 + r = U
  up : U * 4294967296 + d < (q + 1) * (y1 * 4294967296 + y0)
structure KArg (y1 y0 U d : Int) : Prop where
  a : 2147483648 ≤ y1 ∧ y1 < 4294967296
  b : 0 ≤ y0 ∧ y0 < 4294967296
  c : 0 ≤ U ∧ U < y1 * 4294967296 + y0
  d : 0 ≤ d ∧ d < 4294967296
variable {y1 y0 U d q r : Int}
end Go.Lg.Arith
end
section
namespace Go.Lg
open Go Go.RowKit
end Go.Lg
namespace Go.Lg
open Go Go.RowKit
theorem quo_i64 {a b : Int} (ha : 0 ≤ a ∧ a < 9223372036854775808) (hb : 0 < b) : IntKind.i64.wrap (a.tdiv b) = a / b := by
  rw [Int.tdiv_eq_ediv_of_nonneg ha.1]
  have h1 := Int.ediv_nonneg ha.1 (Int.le_of_lt hb)
  have h2 := Int.ediv_le_self b ha.1
  exact wrap_i64 (by omega)
end Go.Lg
namespace Go.Lg
open Go Go.RowKit
theorem LWP.meet {P : Program} {n : Nat} {C : Ctx} {c y : Code} {id : Nat} {Q Q' : Exit → St → Prop} {σ : St} (Mid : St → Prop)
    (h : LWP P n C c (blockQ id (thenQ (fun σ' => ∃ σ'', Le n C σ' σ'' ∧ Mid σ'') (fun _ _ => False))) σ) (hm : ∀ σ, Mid σ → LWP P n C y Q σ) : LWP P n C c (blockQ id (thenQ (LWP P n C y Q) Q')) σ := by
  refine h.mono ?_
  intro e σ' hq
  cases e with
  | exit id' =>
    simp only [blockQ] at hq ⊢
    cases hb : Nat.beq id' id with
    | true =>
      rw [hb] at hq
      obtain ⟨σ'', hle, hM⟩ := hq
      exact LWP.le hle (hm σ'' hM)
    | false => rw [hb] at hq; exact hq.elim
  | normal =>
    obtain ⟨σ'', hle, hM⟩ := hq
    exact LWP.le hle (hm σ'' hM)
  | goto l => exact hq.elim
  | ret => exact hq.elim
  | panic c => exact hq.elim
  | outgrown => exact hq.elim
theorem LWP.meet0 {P : Program} {n : Nat} {C : Ctx} {c y : Code} {Q Q' : Exit → St → Prop} {σ : St} (Mid : St → Prop)
    (h : LWP P n C c (thenQ (fun σ' => ∃ σ'', Le n C σ' σ'' ∧ Mid σ'') (fun _ _ => False)) σ) (hm : ∀ σ, Mid σ → LWP P n C y Q σ) : LWP P n C c (thenQ (LWP P n C y Q) Q') σ := by
  refine h.mono ?_
  intro e σ' hq
  cases e with
  | normal =>
    obtain ⟨σ'', hle, hM⟩ := hq
    exact LWP.le hle (hm σ'' hM)
  | exit id' => exact hq.elim
  | goto l => exact hq.elim
  | ret => exact hq.elim
  | panic c => exact hq.elim
  | outgrown => exact hq.elim
end Go.Lg
namespace Go.Lg
open Go Go.RowKit
end Go.Lg
end
section
namespace Go.Lg
open Go Go.RowKit
section
variable {P : Program} {n : Nat} {ops os : List Oper} {acc : List Eff} {K : List Eff → St → Prop} {s : List (Nat × LV)} {bx : List (Nat × Option Box)} {X : Nat → Option Obj} {σ : St}
def arrBuild (P : Program) (t : TypeId) : Option (List Value × Nat) :=
  match P.info? t, P.underlying t with
  | some it, some (.array _ e) =>
    match it.zero, P.info? e with
    | some z, some ie => some (z.cells.toList, ie.size)
    | _, _ => none
  | _, _ => none
class ArrB (P : Program) (t : TypeId) (zs : outParam (List Value)) (sz : outParam Nat) : Prop where
  h : arrBuild P t = some (zs, sz)
end
end Go.Lg
end
section
namespace Go.Lg
open Go Go.RowKit
section
variable {P : Program} {n : Nat} {ops os : List Oper} {acc : List Eff} {K : List Eff → St → Prop} {s : List (Nat × LV)} {bx : List (Nat × Option Box)} {X : Nat → Option Obj} {σ : St}
def slcBuild (P : Program) (t : TypeId) (len : Nat) : Option (List Value × Nat × TypeId) :=
  match P.underlying t with
  | some (.slice e) =>
    match P.info? e with
    | some ie =>
      match ie.zero with
      | some z => if len * ie.size > 2 ^ 24 then none else some ((List.range (len * ie.size)).map (fun i => z.cells[i % z.cells.size]!), ie.size, e)
      | none => none
    | none => none
  | _ => none
theorem range_map (m : Nat) (f : Nat → Value) : (Array.range m).map f = ((List.range m).map f).toArray := by
  apply Array.ext'
  rw [Array.toList_map, Array.toList_range]
theorem runBuildSlc (w : World) (t e : TypeId) (len : Nat) (parts : Array (Nat × Value)) (cells : Array Value) (ie : TypeInfo) (z : Value)
    (hu : P.underlying t = some (.slice e)) (hie : P.info? e = some ie) (hz : ie.zero = some z) (hsmall : ¬ len * ie.size > 2 ^ 24)
    (h : Instr.fill (fun i => some (i * ie.size, ie.size)) ((List.range (len * ie.size)).map (fun i => z.cells[i % z.cells.size]!)).toArray parts.toList = some cells) :
    (Instr.buildSlice t len parts).run P w = .ok (.slice (some ⟨w.heap.size, 0, none⟩) len len) (w.alloc (.cells cells e)) := by
  by_cases h0 : len * ie.size = 0
  · have hf0 : Instr.fill (fun i => some (i * ie.size, ie.size)) #[] parts.toList = some cells := by rw [h0] at h; exact h
    have hd : Array.map (fun _ : Nat => (default : Value)) (Array.range 0) = #[] := by rw [range_map]; rfl
    simp [Instr.buildSlice, run_underlying hu, sizeOf, typeInfo, hie, h0, newRow]
    rw [hd, hf0]
    simp
  · exact run_buildSlice w t e len parts cells ie z hu hie hz hsmall h0 (by rw [range_map]; exact h)
theorem LOK.buildSlc {d k : Nat} {t e : TypeId} {len : Nat} {parts : List (Nat × Operand)} {ty : TypeId} {pos : String} {after : Array Edge} {g : Option (Nat × Bool)} {ps : List (Nat × SV)} {zs : List Value} {sz : Nat} {cs : List CV}
    (hst : slcBuild P t len = some (zs, sz, e)) (hp : evParts σ parts = some ps) (hso : ps.all (fun p => p.2.solid) = true) (hf : fillL (fun i => some (i * sz, sz)) (zs.map .val) ps = some cs) (hln : Nat.ble (len * sz) cs.length = true) (hk : σ.fresh k = true) :
    LOK P n ops ⟨some d, .buildSlice t len parts.toArray, ty, pos, after, g⟩ σ ⟨[(d, .sv (.one (.slc k 0 len sz)))], [], [(k, some ⟨e, cs, false⟩)]⟩ :=
  LOK.make fun σ' ha C ι a w hr => by
    have hk' : σ'.stat k = none := (ha.stat k (.inr (by simp))).trans (St.fresh_none hk)
    have hlt := St.fresh_lt hk
    have hp' : evParts σ' parts = some ps := by
      rw [evParts_agree fun x hx => ha.ev (by simp [Op.operands]; simpa using hx)]
      exact hp
    have hrel := evParts_rel hr hp' hso
    obtain ⟨arr', hfill, hcs⟩ := fill_rel (arr := zs.toArray) hrel (by simpa using CVs.rel_map_val zs) hf
    unfold slcBuild at hst
    cases hu : P.underlying t with
    | none => simp [hu] at hst
    | some dd =>
      cases dd <;> simp only [hu] at hst <;> try (simp at hst; done)
      rename_i e'
      cases hie : P.info? e' with
      | none => simp [hie] at hst
      | some ie =>
        cases hz : ie.zero with
        | none => simp [hie, hz] at hst
        | some z =>
          simp only [hie, hz] at hst
          by_cases hbig : len * ie.size > 2 ^ 24
          · rw [if_pos hbig] at hst; cases hst
          · rw [if_neg hbig] at hst
            simp only [Option.some.injEq, Prod.mk.injEq] at hst
            obtain ⟨e1, e2, e3⟩ := hst
            subst e3
            rw [← e1, ← e2] at hfill
            refine ⟨.slice (some ⟨w.heap.size, 0, none⟩) len len, w.alloc (.cells arr' e'), put1 ι k (w.heap.size, arr'.size), ?_, ?_, ?_⟩
            · have hrun := runBuildSlc w t e' len (parts.toArray.map fun (i, x) => (i, a.eval x)) arr' ie z hu hie hz hbig (by simpa using hfill)
              simp only [execOp, Sem.run_bind, hrun, Result.andThen_ok, Sem.run_pure]
            · exact hr.new hlt hk' (b := ⟨e', cs, false⟩) hcs
            · have h1 := Nat.le_of_ble_eq_true hln
              rw [CVs.rel_length hcs, Array.length_toList] at h1
              simp [LV.rel, SV.rel, CV.rel, stat_cons, put1, h1]
theorem K.buildSlc {d : Nat} {t e : TypeId} {len : Nat} {ty : TypeId} {pos : String} {after : Array Edge} {g : Option (Nat × Bool)} {parts : List (Nat × Operand)} {ps : List (Nat × SV)} {zs : List Value} {sz : Nat} {cs cs' : List CV}
    (hst : slcBuild P t len = some (zs, sz, e)) (hp : evParts ⟨s, bx, X⟩ parts = some ps) (hso : ps.all (fun p => p.2.solid) = true) (hf : fillL (fun i => some (i * sz, sz)) (zs.map .val) ps = some cs) (hn : cs = cs') (hln : Nat.ble (len * sz) cs'.length = true) (hk : (⟨s, bx, X⟩ : St).fresh d = true) (hw : Want ops s g)
    (kont : RunK P n ops os ⟨(d, .sv (.one (.slc d 0 len sz))) :: s, (d, some ⟨e, cs', false⟩) :: bx, X⟩ (⟨[(d, .sv (.one (.slc d 0 len sz)))], [], [(d, some ⟨e, cs', false⟩)]⟩ :: acc) K) :
    RunK P n ops (⟨some d, .buildSlice t len parts.toArray, ty, pos, after, g⟩ :: os) ⟨s, bx, X⟩ acc K := RunK.g2 (LOK.buildSlc hst hp hso (by rw [← hn] at *; exact hf) hln hk) hw kont
def bc (c : UInt8) : CV := .val (.int .u8 (c.toNat : Nat))
end
end Go.Lg
end
section
namespace Go.Lg
open Go Go.RowKit
def CV.ren (f : Nat → Nat) : CV → CV
  | .val v => .val v
  | .junk => .junk
  | .ptr k off => .ptr (f k) off
  | .slc k off n sz => .slc (f k) off n sz
  | .mp k => .mp (f k)
  | .fn fi gi k => .fn fi gi (f k)
  | .hang g h k => .hang g h (f k)
def SV.ren (f : Nat → Nat) : SV → SV
  | .one c => .one (c.ren f)
  | .agg l => .agg (l.map (CV.ren f))
def LV.ren (f : Nat → Nat) : LV → LV
  | .sv s => .sv (s.ren f)
  | .tup l => .tup (l.map (SV.ren f))
def Box.ren (f : Nat → Nat) (b : Box) : Box := ⟨b.elem, b.cells.map (CV.ren f), b.row⟩
def rn (l : List (Nat × Nat)) (k : Nat) : Nat := (look k l).getD k
section
variable {S T : Nat → Option (Option Box)} {ι κ : Nat → Nat × Nat} {f : Nat → Nat}
def Maps (S T : Nat → Option (Option Box)) (ι κ : Nat → Nat × Nat) (f : Nat → Nat) : Prop :=
  ∀ k, S k ≠ none → T (f k) ≠ none ∧ ∀ b', T (f k) = some (some b') → κ (f k) = ι k ∧ ∃ b, S k = some (some b)
theorem CV.rel_maps (h : Maps S T ι κ f) {c : CV} {v : Value} (hr : c.rel S ι v) : (c.ren f).rel T κ v := by
  cases c with
  | val u => exact hr
  | junk => trivial
  | ptr k off =>
    simp only [CV.rel, CV.ren] at hr ⊢
    cases hk : S k with
    | none => simp [hk] at hr
    | some x =>
      obtain ⟨h1, h2⟩ := h k (by simp [hk])
      cases hk' : T (f k) with
      | none => exact absurd hk' h1
      | some x' =>
        cases x' with
        | none =>
          cases x with
          | none => simpa [hk] using hr
          | some _ => rw [hk] at hr; exact ⟨_, hr⟩
        | some b' =>
          obtain ⟨e, b, hb⟩ := h2 b' hk'
          rw [hb] at hr
          simp only at hr ⊢
          rw [e]
          exact hr
  | slc k off n sz =>
    simp only [CV.rel, CV.ren] at hr ⊢
    cases hk : S k with
    | none => simp [hk] at hr
    | some x =>
      obtain ⟨h1, h2⟩ := h k (by simp [hk])
      cases hk' : T (f k) with
      | none => exact absurd hk' h1
      | some x' =>
        cases x' with
        | none =>
          cases x with
          | none => simpa [hk] using hr
          | some _ => rw [hk] at hr; obtain ⟨c, h3, h4, _⟩ := hr; exact ⟨_, c, h3, h4⟩
        | some b' =>
          obtain ⟨e, b, hb⟩ := h2 b' hk'
          rw [hb] at hr
          simp only at hr ⊢
          rw [e]
          exact hr
  | mp k =>
    simp only [CV.rel, CV.ren] at hr ⊢
    cases hk : S k with
    | none => simp [hk] at hr
    | some x =>
      obtain ⟨h1, h2⟩ := h k (by simp [hk])
      cases hk' : T (f k) with
      | none => exact absurd hk' h1
      | some x' =>
        cases x' with
        | none =>
          cases x with
          | none => simpa [hk] using hr
          | some _ => rw [hk] at hr; exact ⟨_, hr⟩
        | some b' =>
          obtain ⟨e, b, hb⟩ := h2 b' hk'
          rw [hb] at hr
          simp only at hr ⊢
          rw [e]
          exact hr
  | fn fi gi k =>
    simp only [CV.rel, CV.ren] at hr ⊢
    cases hk : S k with
    | none => simp [hk] at hr
    | some x =>
      obtain ⟨h1, h2⟩ := h k (by simp [hk])
      cases hk' : T (f k) with
      | none => exact absurd hk' h1
      | some x' =>
        cases x' with
        | none =>
          cases x with
          | none => simpa [hk] using hr
          | some _ => rw [hk] at hr; exact ⟨_, hr⟩
        | some b' =>
          obtain ⟨e, b, hb⟩ := h2 b' hk'
          rw [hb] at hr
          simp only at hr ⊢
          rw [e]
          exact hr
  | hang g hg k =>
    simp only [CV.rel, CV.ren] at hr ⊢
    cases hk : S k with
    | none => simp [hk] at hr
    | some x =>
      obtain ⟨h1, h2⟩ := h k (by simp [hk])
      cases hk' : T (f k) with
      | none => exact absurd hk' h1
      | some x' =>
        cases x' with
        | none =>
          cases x with
          | none => simpa [hk] using hr
          | some _ => rw [hk] at hr; exact ⟨_, hr⟩
        | some b' =>
          obtain ⟨e, b, hb⟩ := h2 b' hk'
          rw [hb] at hr
          simp only at hr ⊢
          rw [e]
          exact hr
theorem CVs.rel_maps (h : Maps S T ι κ f) : ∀ {l : List CV} {vs : List Value}, CVs.rel S ι l vs → CVs.rel T κ (l.map (CV.ren f)) vs
  | [], [], _ => trivial
  | _ :: _, _ :: _, hr => ⟨CV.rel_maps h hr.1, CVs.rel_maps h hr.2⟩
  | [], _ :: _, hr => hr.elim
  | _ :: _, [], hr => hr.elim
theorem SV.rel_maps (h : Maps S T ι κ f) {s : SV} {v : Value} (hr : s.rel S ι v) : (s.ren f).rel T κ v := by
  cases s with
  | one c => exact CV.rel_maps h hr
  | agg l => obtain ⟨arr, e, hl⟩ := hr; exact ⟨arr, e, CVs.rel_maps h hl⟩
theorem SVs.rel_maps (h : Maps S T ι κ f) : ∀ {l : List SV} {vs : List Value}, SVs.rel S ι l vs → SVs.rel T κ (l.map (SV.ren f)) vs
  | [], [], _ => trivial
  | _ :: _, _ :: _, hr => ⟨SV.rel_maps h hr.1, SVs.rel_maps h hr.2⟩
  | [], _ :: _, hr => hr.elim
  | _ :: _, [], hr => hr.elim
theorem LV.rel_maps (h : Maps S T ι κ f) {s : LV} {v : Value} (hr : s.rel S ι v) : (s.ren f).rel T κ v := by
  cases s with
  | sv s => exact SV.rel_maps h hr
  | tup l => obtain ⟨arr, e, hl⟩ := hr; exact ⟨arr, e, SVs.rel_maps h hl⟩
theorem Box.rel_maps (h : Maps S T ι κ f) {b : Box} {vs : List Value} (hr : b.rel S ι vs) : (b.ren f).rel T κ vs := by
  unfold Box.rel at hr ⊢
  unfold Box.ren
  cases hb : b.row with
  | res R => rw [hb] at hr; exact hr.elim
  | bool r =>
    cases r with
    | false => rw [hb] at hr; exact CVs.rel_maps h hr
    | true => rw [hb] at hr; obtain ⟨us, sp, e, hl⟩ := hr; exact ⟨us, sp, e, CVs.rel_maps h hl⟩
def Back (bx : List (Nat × Option Box)) (T : Nat → Option (Option Box)) (f : Nat → Nat) : Prop :=
  ∀ k x, look k bx = some x → (∀ b, x = some b → ∃ b', T (f k) = some (some b')) ∧ ∃ y, T (f k) = some y
variable {bx : List (Nat × Option Box)}
theorem CV.rel_back (h : Back bx T f) {c : CV} (hu : c.inUse bx = true) {v : Value} (hr : (c.ren f).rel T κ v) : c.rel (fun k => look k bx) (fun k => κ (f k)) v := by
  cases c with
  | val u => exact hr
  | junk => trivial
  | ptr k off =>
    simp only [CV.inUse, Option.isSome_iff_exists] at hu
    obtain ⟨x, hx⟩ := hu
    obtain ⟨h1, y, hy⟩ := h k x hx
    simp only [CV.rel, CV.ren, hx] at hr ⊢
    cases x with
    | none =>
      rw [hy] at hr
      cases y with
      | none => exact hr
      | some b => exact ⟨_, hr⟩
    | some b => obtain ⟨b', hb'⟩ := h1 b rfl; rw [hb'] at hr; exact hr
  | slc k off m sz =>
    simp only [CV.inUse, Option.isSome_iff_exists] at hu
    obtain ⟨x, hx⟩ := hu
    obtain ⟨h1, y, hy⟩ := h k x hx
    simp only [CV.rel, CV.ren, hx] at hr ⊢
    cases x with
    | none =>
      rw [hy] at hr
      cases y with
      | none => exact hr
      | some b => obtain ⟨c, h3, h4, _⟩ := hr; exact ⟨_, c, h3, h4⟩
    | some b => obtain ⟨b', hb'⟩ := h1 b rfl; rw [hb'] at hr; exact hr
  | mp k =>
    simp only [CV.inUse, Option.isSome_iff_exists] at hu
    obtain ⟨x, hx⟩ := hu
    obtain ⟨h1, y, hy⟩ := h k x hx
    simp only [CV.rel, CV.ren, hx] at hr ⊢
    cases x with
    | none =>
      rw [hy] at hr
      cases y with
      | none => exact hr
      | some b => exact ⟨_, hr⟩
    | some b => obtain ⟨b', hb'⟩ := h1 b rfl; rw [hb'] at hr; exact hr
  | fn fi gi k =>
    simp only [CV.inUse, Option.isSome_iff_exists] at hu
    obtain ⟨x, hx⟩ := hu
    obtain ⟨h1, y, hy⟩ := h k x hx
    simp only [CV.rel, CV.ren, hx] at hr ⊢
    cases x with
    | none =>
      rw [hy] at hr
      cases y with
      | none => exact hr
      | some b => exact ⟨_, hr⟩
    | some b => obtain ⟨b', hb'⟩ := h1 b rfl; rw [hb'] at hr; exact hr
  | hang g hg k =>
    simp only [CV.inUse, Option.isSome_iff_exists] at hu
    obtain ⟨x, hx⟩ := hu
    obtain ⟨h1, y, hy⟩ := h k x hx
    simp only [CV.rel, CV.ren, hx] at hr ⊢
    cases x with
    | none =>
      rw [hy] at hr
      cases y with
      | none => exact hr
      | some b => exact ⟨_, hr⟩
    | some b => obtain ⟨b', hb'⟩ := h1 b rfl; rw [hb'] at hr; exact hr
theorem CVs.rel_back (h : Back bx T f) : ∀ {l : List CV} {vs : List Value}, l.all (CV.inUse bx) = true → CVs.rel T κ (l.map (CV.ren f)) vs → CVs.rel (fun k => look k bx) (fun k => κ (f k)) l vs
  | [], [], _, _ => trivial
  | _ :: _, _ :: _, hu, hr => by
    simp only [List.all_cons, Bool.and_eq_true] at hu
    exact ⟨CV.rel_back h hu.1 hr.1, CVs.rel_back h hu.2 hr.2⟩
  | [], _ :: _, _, hr => hr.elim
  | _ :: _, [], _, hr => hr.elim
theorem SV.rel_back (h : Back bx T f) {s : SV} (hu : s.inUse bx = true) {v : Value} (hr : (s.ren f).rel T κ v) : s.rel (fun k => look k bx) (fun k => κ (f k)) v := by
  cases s with
  | one c => exact CV.rel_back h hu hr
  | agg l => obtain ⟨arr, e, hl⟩ := hr; exact ⟨arr, e, CVs.rel_back h hu hl⟩
theorem SVs.rel_back (h : Back bx T f) : ∀ {l : List SV} {vs : List Value}, l.all (SV.inUse bx) = true → SVs.rel T κ (l.map (SV.ren f)) vs → SVs.rel (fun k => look k bx) (fun k => κ (f k)) l vs
  | [], [], _, _ => trivial
  | _ :: _, _ :: _, hu, hr => by
    simp only [List.all_cons, Bool.and_eq_true] at hu
    exact ⟨SV.rel_back h hu.1 hr.1, SVs.rel_back h hu.2 hr.2⟩
  | [], _ :: _, _, hr => hr.elim
  | _ :: _, [], _, hr => hr.elim
theorem LV.rel_back (h : Back bx T f) {s : LV} (hu : s.inUse bx = true) {v : Value} (hr : (s.ren f).rel T κ v) : s.rel (fun k => look k bx) (fun k => κ (f k)) v := by
  cases s with
  | sv s => exact SV.rel_back h hu hr
  | tup l => obtain ⟨arr, e, hl⟩ := hr; exact ⟨arr, e, SVs.rel_back h hu hl⟩
theorem LVs.rel_back (h : Back bx T f) : ∀ {l : List LV} {vs : List Value}, l.all (LV.inUse bx) = true → LVs.rel T κ (l.map (LV.ren f)) vs → LVs.rel (fun k => look k bx) (fun k => κ (f k)) l vs
  | [], [], _, _ => trivial
  | _ :: _, _ :: _, hu, hr => by
    simp only [List.all_cons, Bool.and_eq_true] at hu
    exact ⟨LV.rel_back h hu.1 hr.1, LVs.rel_back h hu.2 hr.2⟩
  | [], _ :: _, _, hr => hr.elim
  | _ :: _, [], _, hr => hr.elim
theorem Box.rel_back (h : Back bx T f) {b : Box} (hu : b.cells.all (CV.inUse bx) = true) {vs : List Value} (hr : (b.ren f).rel T κ vs) : b.rel (fun k => look k bx) (fun k => κ (f k)) vs := by
  unfold Box.rel at hr ⊢
  unfold Box.ren at hr
  cases hb : b.row with
  | res R => rw [hb] at hr; exact hr.elim
  | bool r =>
    cases r with
    | false => rw [hb] at hr; exact CVs.rel_back h hu hr
    | true => rw [hb] at hr; obtain ⟨us, sp, e, hl⟩ := hr; exact ⟨us, sp, e, CVs.rel_back h hu hl⟩
end
def boxesAt (σ : St) (f : Nat → Nat) : List (Nat × Option Box) → Prop
  | [] => True
  | (k, some b) :: r => (∃ b', σ.stat (f k) = some (some b') ∧ b.ren f = b') ∧ boxesAt σ f r
  | (k, none) :: r => (∃ x, σ.stat (f k) = some x) ∧ boxesAt σ f r
theorem ren_bytes (f : Nat → Nat) : ∀ (l : List UInt8), (l.map bc).map (CV.ren f) = l.map bc
  | [] => rfl
  | c :: l => by rw [List.map_cons, List.map_cons, ren_bytes f l]; rfl
theorem Box.ren_bytes (f : Nat → Nat) (e : TypeId) (l : List UInt8) (r : Bool) : Box.ren f ⟨e, l.map bc, r⟩ = ⟨e, l.map bc, r⟩ := by
  unfold Box.ren
  simp only [Go.Lg.ren_bytes]
theorem bytes_inUse {bx : List (Nat × Option Box)} : ∀ {l : List UInt8}, (l.map bc).all (CV.inUse bx) = true
  | [] => rfl
  | c :: l => by rw [List.map_cons, List.all_cons, bytes_inUse]; rfl
theorem all_cons_true {α : Type} {f : α → Bool} {x : α} {l : List α} (h : f x = true) (t : l.all f = true) : (x :: l).all f = true := by rw [List.all_cons, h, t]; rfl
inductive PostEq (f : Nat → Nat) : List (Nat × Option Box) → List (Nat × Option Box) → Prop
  | nil : PostEq f [] []
  | dead {k j : Nat} {r r' : List (Nat × Option Box)} (hk : f k = j) (h : PostEq f r r') : PostEq f ((k, none) :: r) ((j, none) :: r')
  | box {k j : Nat} {b b' : Box} {r r' : List (Nat × Option Box)} (hk : f k = j) (hb : b.ren f = b') (h : PostEq f r r') : PostEq f ((k, some b) :: r) ((j, some b') :: r')
theorem PostEq.eq {f : Nat → Nat} {l l' : List (Nat × Option Box)} (h : PostEq f l l') : (l.map fun p => (f p.1, p.2.map (Box.ren f))) = l' := by
  induction h with
  | nil => rfl
  | dead hk _ ih => rw [List.map_cons, ih, ← hk]; rfl
  | box hk hb _ ih => rw [List.map_cons, ih, ← hk, ← hb]; rfl
theorem boxesAt_look {σ : St} {f : Nat → Nat} : ∀ {l : List (Nat × Option Box)}, boxesAt σ f l → ∀ k x, look k l = some x → (∀ b, x = some b → σ.stat (f k) = some (some (b.ren f))) ∧ (∃ y, σ.stat (f k) = some y) ∧ (k, x) ∈ l
  | [], _, k, x, h => by simp [look] at h
  | (k', ob) :: r, hb, k, x, h => by
    simp only [look] at h
    cases e : Nat.beq k' k with
    | true =>
      have := Nat.eq_of_beq_eq_true e
      subst this
      rw [e] at h
      simp at h
      subst h
      cases ob with
      | none => exact ⟨fun b h2 => (by cases h2), hb.1, List.mem_cons_self⟩
      | some b =>
        obtain ⟨⟨b1, h3, h4⟩, _⟩ := hb
        subst h4
        exact ⟨fun b' h2 => (by cases h2; exact h3), ⟨_, h3⟩, List.mem_cons_self⟩
    | false =>
      rw [e] at h
      have hr : boxesAt σ f r := by cases ob <;> exact hb.2
      obtain ⟨h1, h2, h3⟩ := boxesAt_look hr k x h
      exact ⟨h1, h2, by simp [h3]⟩
def injOn (f : Nat → Nat) : List Nat → Bool
  | [] => true
  | k :: r => r.all (fun j => !Nat.beq (f k) (f j)) && injOn f r
theorem injOn_spec {f : Nat → Nat} : ∀ {l : List Nat}, injOn f l = true → ∀ i j, i ∈ l → j ∈ l → f i = f j → i = j
  | [], _, i, _, h, _, _ => by simp at h
  | k :: r, h, i, j, hi, hj, e => by
    simp only [injOn, Bool.and_eq_true, List.all_eq_true, Bool.not_eq_true'] at h
    obtain ⟨h1, h2⟩ := h
    rcases List.mem_cons.1 hi with rfl | hi'
    · rcases List.mem_cons.1 hj with rfl | hj'
      · rfl
      · have := h1 j hj'
        rw [e, Nat.beq_refl] at this
        cases this
    · rcases List.mem_cons.1 hj with rfl | hj'
      · have := h1 i hi'
        rw [e, Nat.beq_refl] at this
        cases this
      · exact injOn_spec h2 i j hi' hj' e
theorem look_key {α : Type} {k : Nat} {l : List (Nat × α)} {x : α} (h : look k l = some x) : k ∈ l.map (·.1) := by
  apply Classical.byContradiction
  intro hn
  rw [look_none hn] at h
  cases h
theorem key_look {α : Type} {k : Nat} : ∀ {l : List (Nat × α)}, k ∈ l.map (·.1) → ∃ x, look k l = some x
  | [], h => by simp at h
  | (k', x) :: r, h => by
    simp only [look]
    cases e : Nat.beq k' k with
    | true => exact ⟨x, by simp⟩
    | false =>
      have hne : k ≠ k' := fun h2 => by subst h2; rw [Nat.beq_refl] at e; cases e
      simp only [List.map_cons, List.mem_cons] at h
      obtain ⟨y, hy⟩ := key_look (h.resolve_left hne)
      exact ⟨y, by simpa using hy⟩
theorem Le.ofR {n : Nat} {C : Ctx} {σ : St} (f : List (Nat × Nat)) {s : List (Nat × LV)} {bx : List (Nat × Option Box)} {X : Nat → Option Obj}
    (hs : slotsIn σ (s.map fun p => (p.1, p.2.ren (rn f)))) (hb : boxesAt σ (rn f) bx) (hX : σ.X = X)
    (hu : s.all (fun p => p.2.inUse bx) = true) (hub : bx.all (fun p => match p.2 with | some b => b.cells.all (CV.inUse bx) | none => true) = true)
    (hi : injOn (rn f) (bx.map (·.1)) = true) (hk : bx.all (fun p => Nat.blt p.1 1000000 || Nat.beq (rn f p.1) p.1) = true) : Le n C σ ⟨s, bx, X⟩ := by
  refine ⟨fun ι a w h => ?_⟩
  have hback : Back bx σ.stat (rn f) := fun k x hx => ⟨fun b e => ⟨_, (boxesAt_look hb k x hx).1 b e⟩, (boxesAt_look hb k x hx).2.1⟩
  refine ⟨fun k => ι (rn f k), {
    defers := h.defers, size := h.size
    slots := fun d lv hd => ?_
    boxes := fun k b hk hbk => ?_
    own := fun k b hk => ?_
    inj := fun k k' b b' hk hk' he => ?_
    keep := fun k b hk2 hlt => ?_
    ext := by rw [← hX]; exact h.ext
    res := by
      obtain ⟨F, hF⟩ := h.res
      rw [← hX]
      exact ⟨_, hF.move (rn f) (fun k e cs R hk => ⟨⟨e, cs.map (CV.ren (rn f)), (boxesAt_look hb k _ hk).1 _ rfl⟩, rfl⟩) (fun k k' ⟨_, _, _, h1⟩ ⟨_, _, _, h2⟩ e => injOn_spec hi k k' (look_key h1) (look_key h2) e) (fun _ _ _ _ _ hj => hj) (fun _ _ ho => ho) (fun _ _ hx _ _ => hx)
        (fun j bj hj => .inl ⟨rn f j, _, (boxesAt_look hb j _ hj).1 _ rfl, rfl, fun k ⟨_, _, _, h1⟩ e => (injOn_spec hi k j (look_key h1) (look_key hj) e).symm⟩)⟩
    frame := h.frame, big := h.big, os := h.os, tape := h.tape, output := h.output }⟩
  · have hd2 : look d (s.map fun p => (p.1, p.2.ren (rn f))) = some (lv.ren (rn f)) ∧ (d, lv) ∈ s := by
      clear hs hu
      induction s with
      | nil => simp [St.slot, look] at hd
      | cons p s ih =>
        simp only [St.slot, look, List.map_cons] at hd ⊢
        cases e : Nat.beq p.1 d with
        | true =>
          have := Nat.eq_of_beq_eq_true e
          rw [e] at hd
          simp at hd
          exact ⟨by simp [hd], by rw [← this, ← hd]; simp⟩
        | false =>
          rw [e] at hd
          obtain ⟨h1, h2⟩ := ih hd
          exact ⟨by simpa using h1, by simp [h2]⟩
    obtain ⟨h1, -⟩ := slotsIn_look hs d _ hd2.1
    obtain ⟨v, hv, hr⟩ := h.slots d _ h1
    exact ⟨v, hv, LV.rel_back hback (List.all_eq_true.1 hu _ hd2.2) hr⟩
  · obtain ⟨h1, -, h2⟩ := boxesAt_look hb k _ hk
    obtain ⟨arr, fr, harr, ht, hsz, hr⟩ := h.boxes _ _ (h1 b rfl) hbk
    have hu' : b.cells.all (CV.inUse bx) = true := by simpa using List.all_eq_true.1 hub _ h2
    exact ⟨arr, fr, harr, ht, hsz, Box.rel_back hback hu' hr⟩
  · have := h.own _ _ ((boxesAt_look hb k _ hk).1 b rfl)
    exact ⟨this.1, by rw [← hX]; exact this.2⟩
  · have := h.inj _ _ _ _ ((boxesAt_look hb k _ hk).1 b rfl) ((boxesAt_look hb k' _ hk').1 b' rfl) he
    exact injOn_spec hi k k' (look_key hk) (look_key hk') this
  · have h2 := List.all_eq_true.1 hk _ (boxesAt_look hb k _ hk2).2.2
    simp only [Bool.or_eq_true] at h2
    have e : rn f k = k := by
      rcases h2 with h2 | h2
      · have : k < 1000000 := by rw [Nat.blt_eq] at h2; exact h2
        omega
      · exact Nat.eq_of_beq_eq_true h2
    have h3 := (boxesAt_look hb k _ hk2).1 b rfl
    have h4 := h.keep _ _ h3 (by rw [e]; exact hlt)
    simp only [e] at h4 ⊢
    exact h4
end Go.Lg
end
section
namespace Go.Lg
open Go Go.RowKit
abbrev stOf (bx : List (Nat × Option Box)) : Nat → Option (Option Box) := fun k => look k bx
structure MemOf (X : Nat → Option Obj) (ι : Nat → Nat × Nat) (H : Nat → Nat → Option Obj) (bx : List (Nat × Option Box)) (w : World) : Prop where
  boxes : ∀ k b, stOf bx k = some (some b) → b.blk = true → ∃ arr fr, w.heap[(ι k).1]? = some (.cells arr b.elem fr) ∧ Thaw fr arr.size ∧ arr.size = (ι k).2 ∧ b.rel (stOf bx) ι arr.toList
  apart : ∀ k b, stOf bx k = some (some b) → X (ι k).1 = none
  inj : ∀ k k' b b', stOf bx k = some (some b) → stOf bx k' = some (some b') → (ι k).1 = (ι k').1 → k = k'
  ext : ∀ b o, X b = some o → w.heap[b]? = some o
  res : ResAt (fun _ => True) ι H (stOf bx) X w
def LentB (pre : List (Nat × Option Box)) (ι : Nat → Nat × Nat) (H : Nat → Nat → Option Obj) (b : Nat) : Prop := (∃ k b0, stOf pre k = some (some b0) ∧ (ι k).1 = b) ∨ ∃ k, H k b ≠ none
structure MemPost (pre post : List (Nat × Option Box)) (ι ι' : Nat → Nat × Nat) (H H' : Nat → Nat → Option Obj) (w w' : World) : Prop where
  old : ∀ k b, stOf post k = some (some b) → stOf pre k ≠ none → (∃ b0, stOf pre k = some (some b0)) ∧ ι' k = ι k
  new : ∀ k b, stOf post k = some (some b) → stOf pre k = none → w.heap.size ≤ (ι' k).1 ∨ LentB pre ι H (ι' k).1
  newH : ∀ k b, H' k b ≠ none → w.heap.size ≤ b ∨ LentB pre ι H b
  frame : ∀ b, b < w.heap.size → ¬ LentB pre ι H b → w'.heap[b]? = w.heap[b]?
  big : w.heap.size ≤ w'.heap.size
  os : w'.os = w.os
  tape : w'.tape = w.tape
  output : w'.output = w.output
structure MSpec (P : Program) (X : Nat → Option Obj) (f : FuncId) (args : List LV) (pre : List (Nat × Option Box)) (r : LV) (post : List (Nat × Option Box)) : Prop where
  enters : Program.enters P f = true
  out : ∀ (w : World) (vals : Array Value) (ι : Nat → Nat × Nat) (H : Nat → Nat → Option Obj), MemOf X ι H pre w → LVs.rel (stOf pre) ι args vals.toList →
    Calls P f vals w (fun e w' => ∃ v ι' H', e = .returned v ∧ r.rel (stOf post) ι' v ∧ MemOf X ι' H' post w' ∧ MemPost pre post ι ι' H H' w w')
def retM (P : Program) (fn : Func) (pre : List (Nat × Option Box)) (r : LV) (post : List (Nat × Option Box)) : Exit → St → Prop := fun e σ =>
  match e with
  | .normal | .ret => ∃ g : List (Nat × Nat), (∃ ss, ResL P σ fn.results.toList ss ∧ r.ren (rn g) = resOf ss) ∧ boxesAt σ (rn g) post ∧ injOn (rn g) (post.map (·.1)) = true ∧
      pre.all (fun p => Nat.beq (rn g p.1) p.1) = true
  | _ => False
theorem MSpec.intro {P : Program} {X : Nat → Option Obj} {f : FuncId} {fn : Func} {c : Code} {args : List LV} {pre post : List (Nat × Option Box)} {r : LV} (hf : P.funcs[f]? = some fn) (hb : fn.body = some c) (hent : Program.enters P f = true)
    (hlen : Nat.ble args.length fn.ntmps = true) (hur : r.inUse post = true) (hup : post.all (fun p => match p.2 with | some b => b.cells.all (CV.inUse post) | none => true) = true) (hbig : pre.all (fun p => Nat.ble 1000000 p.1) = true) (hlive : pre.all (fun p => p.2.isSome) = true)
    (h : ∀ C : Ctx, LWP P fn.ntmps C c (retM P fn pre r post) ⟨enumL 0 args, pre, X⟩) : MSpec P X f args pre r post := by
  replace hlen := Nat.le_of_ble_eq_true hlen
  refine ⟨hent, fun w vals ι H hM hargs => ?_⟩
  refine calls_of_wp hf hb ?_
  have hvl := LVs.rel_length hargs
  simp only [Array.length_toList] at hvl
  refine wp_mono ((h ⟨w, LentB pre ι H, ι⟩).out ι _ w ?_) ?_
  · exact {
      defers := rfl
      size := by simp; omega
      slots := by
        intro d lv hd
        obtain ⟨_, hd'⟩ := look_enum args 0 d lv hd
        simp only [Nat.sub_zero] at hd'
        obtain ⟨v, hv, hvr⟩ := LVs.rel_get hargs hd'
        have hlt : d < vals.size := by have := (List.getElem?_eq_some_iff.1 hv).1; simpa using this
        refine ⟨v, ?_, hvr⟩
        rw [Array.getElem?_append_left hlt]
        simpa using hv
      boxes := hM.boxes
      own := fun k b hb => ⟨.inl (.inl ⟨k, b, hb, rfl⟩), hM.apart k b hb⟩
      res := ⟨H, hM.res.holds, fun k b o ho => (hM.res.mem k b o ho).imp id fun ⟨h1, h2, _, h4⟩ => ⟨h1, h2, .inl (.inr ⟨k, by rw [ho]; simp⟩), h4⟩, hM.res.apart⟩
      inj := hM.inj
      keep := fun _ _ _ _ => rfl
      ext := hM.ext
      frame := fun _ _ _ => rfl
      big := Nat.le_refl _
      os := rfl, tape := rfl, output := rfl }
  · rintro e a' w' ⟨ι', σ', hq, hr⟩
    have fin : (∃ g : List (Nat × Nat), (∃ ss, ResL P σ' fn.results.toList ss ∧ r.ren (rn g) = resOf ss) ∧ boxesAt σ' (rn g) post ∧ injOn (rn g) (post.map (·.1)) = true ∧ pre.all (fun p => Nat.beq (rn g p.1) p.1) = true) →
        a'.defers = [] ∧ ∃ v, (results fn a'.tmps).run P w' = .ok v w' ∧ ∃ u κ H', Ending.returned v = .returned u ∧ r.rel (stOf post) κ u ∧ MemOf X κ H' post w' ∧ MemPost pre post ι κ H H' w w' := by
      rintro ⟨g, ⟨ss, hres, hrs⟩, hat, hinj, hfix⟩
      obtain ⟨v, hv, hvr⟩ := results_run hr hres
      rw [← hrs] at hvr
      have hback : Back post σ'.stat (rn g) := fun k x hx => ⟨fun b e => ⟨_, (boxesAt_look hat k x hx).1 b e⟩, (boxesAt_look hat k x hx).2.1⟩
      have hX : ∀ b o, X b = some o → w.heap[b]? = some o := hM.ext
      have hLX : ∀ b, LentB pre ι H b → X b = none := fun b hb => by
        rcases hb with ⟨k, b0, hk, rfl⟩ | ⟨k, hk⟩
        · exact hM.apart k b0 hk
        · cases ho : H k b with
          | none => exact absurd ho hk
          | some o => exact (hM.res.mem k b o ho).2.2.2.2.1
      obtain ⟨H1, hH1⟩ := hr.res
      have hH2 := hH1.move (S' := stOf post) (own' := fun _ => True) (ι' := fun k => ι' (rn g k)) (X' := X) (w' := w') (rn g) (fun k e cs R hk => ⟨⟨e, cs.map (CV.ren (rn g)), (boxesAt_look hat k _ hk).1 _ rfl⟩, rfl⟩) (fun k k' ⟨_, _, _, h1⟩ ⟨_, _, _, h2⟩ e => injOn_spec hinj k k' (look_key h1) (look_key h2) e) (fun _ _ _ _ _ hj => hj) (fun _ _ _ => trivial)
        (fun b hb _ _ _ => by
          rcases hb with hb | hb
          · exact hLX b hb
          · cases hx : X b with
            | none => rfl
            | some o => exact absurd (Array.getElem?_eq_some_iff.1 (hX _ o hx)).1 (Nat.not_lt.2 hb))
        (fun j bj hj => .inl ⟨rn g j, _, (boxesAt_look hat j _ hj).1 _ rfl, rfl, fun k ⟨_, _, _, h1⟩ e => (injOn_spec hinj k j (look_key h1) (look_key hj) e).symm⟩)
      refine ⟨hr.defers, v, hv, v, fun k => ι' (rn g k), _, rfl, LV.rel_back hback hur hvr, ⟨fun k b hk hbk => ?_, fun k b hk => ?_, fun k k' b b' hk hk' he => ?_, fun b o hb => ?_, hH2⟩, ⟨fun k b hk hp => ?_, fun k b hk hp => ?_, fun k b hk => ?_, fun b hb hn => ?_, hr.big, hr.os, hr.tape, hr.output⟩⟩
      · obtain ⟨h1, -, h2⟩ := boxesAt_look hat k _ hk
        obtain ⟨arr, fr, harr, ht, hsz, hbr⟩ := hr.boxes _ _ (h1 b rfl) hbk
        have hu' : b.cells.all (CV.inUse post) = true := by simpa using List.all_eq_true.1 hup _ h2
        exact ⟨arr, fr, harr, ht, hsz, Box.rel_back hback hu' hbr⟩
      · have h1 := hr.own _ _ ((boxesAt_look hat k _ hk).1 b rfl)
        cases hx : X (ι' (rn g k)).1 with
        | none => rfl
        | some o =>
          rcases h1.1 with h2 | hge
          · rw [hLX _ h2] at hx; cases hx
          · have hlt := (Array.getElem?_eq_some_iff.1 (hX _ o hx)).1
            exact absurd hlt (Nat.not_lt.2 hge)
      · exact injOn_spec hinj k k' (look_key hk) (look_key hk') (hr.inj _ _ _ _ ((boxesAt_look hat k _ hk).1 b rfl) ((boxesAt_look hat k' _ hk').1 b' rfl) he)
      · have hlt := (Array.getElem?_eq_some_iff.1 (hX b o hb)).1
        rw [hr.frame b hlt (fun hl => by rw [hLX b hl] at hb; cases hb)]
        exact hX b o hb
      · cases hx : stOf pre k with
        | none => exact absurd hx hp
        | some x =>
          have hmem : (k, x) ∈ pre := by
            have : ∀ (l : List (Nat × Option Box)), look k l = some x → (k, x) ∈ l := by
              intro l
              induction l with
              | nil => intro h; simp [look] at h
              | cons p l ih =>
                intro h
                simp only [look] at h
                cases e : Nat.beq p.1 k with
                | true =>
                  rw [e] at h
                  simp at h
                  have h2 := Nat.eq_of_beq_eq_true e
                  rw [← h2, ← h]
                  exact List.mem_cons_self
                | false =>
                  rw [e] at h
                  exact List.mem_cons_of_mem _ (ih (by simpa using h))
            exact this pre hx
          have e1 : rn g k = k := Nat.eq_of_beq_eq_true (List.all_eq_true.1 hfix _ hmem)
          have e2 : 1000000 ≤ k := Nat.le_of_ble_eq_true (List.all_eq_true.1 hbig _ hmem)
          have h1 := (boxesAt_look hat k _ hk).1 b rfl
          have h3 := hr.keep _ _ h1 (by rw [e1]; exact e2)
          rw [e1] at h1 h3
          refine ⟨?_, by simp only [e1]; exact h3⟩
          cases x with
          | some b0 => exact ⟨b0, rfl⟩
          | none => exact absurd (List.all_eq_true.1 hlive _ hmem) (by simp)
      · obtain ⟨own, -⟩ := hr.own _ _ ((boxesAt_look hat k _ hk).1 b rfl)
        exact own.symm
      · split at hk
        · cases ho : H1 (rn g k) b with
          | none => exact absurd ho hk
          | some o => exact (hH1.mem _ _ _ ho).2.2.2.1.symm
        · exact absurd rfl hk
      · exact hr.frame b hb hn
    cases e <;> first
      | exact fin hq
      | exact hq.elim
def callPost (ρ : List (Nat × Nat)) (post : List (Nat × Option Box)) : List (Nat × Option Box) := post.map fun p => (rn ρ p.1, p.2.map (Box.ren (rn ρ)))
theorem look_map {f : Nat → Nat} {g : Option Box → Option Box} : ∀ {l : List (Nat × Option Box)}, injOn f (l.map (·.1)) = true → ∀ {k : Nat} {x : Option Box}, look k l = some x → look (f k) (l.map fun p => (f p.1, g p.2)) = some (g x)
  | [], _, k, x, h => by simp [look] at h
  | p :: l, hi, k, x, h => by
    have hi2 : injOn f (l.map (·.1)) = true := by simp only [List.map_cons, injOn, Bool.and_eq_true] at hi; exact hi.2
    simp only [look, List.map_cons] at h ⊢
    cases e : Nat.beq p.1 k with
    | true =>
      have := Nat.eq_of_beq_eq_true e
      rw [e] at h
      simp at h
      rw [this, Nat.beq_refl, h]
      rfl
    | false =>
      rw [e] at h
      have h' : look k l = some x := by simpa using h
      have hne : Nat.beq (f p.1) (f k) = false := by
        cases e2 : Nat.beq (f p.1) (f k) with
        | false => rfl
        | true =>
          have h3 := injOn_spec hi p.1 k (by simp) (by simp only [List.map_cons, List.mem_cons]; exact .inr (look_key h')) (Nat.eq_of_beq_eq_true e2)
          rw [h3, Nat.beq_refl] at e
          cases e
      rw [hne]
      simpa using look_map hi2 h'
theorem look_unmap {f : Nat → Nat} {g : Option Box → Option Box} : ∀ {l : List (Nat × Option Box)} {j : Nat} {y : Option Box}, look j (l.map fun p => (f p.1, g p.2)) = some y → ∃ k, k ∈ l.map (·.1) ∧ f k = j
  | [], j, y, h => by simp [look] at h
  | p :: l, j, y, h => by
    simp only [look, List.map_cons] at h
    cases e : Nat.beq (f p.1) j with
    | true => exact ⟨p.1, by simp, Nat.eq_of_beq_eq_true e⟩
    | false =>
      rw [e] at h
      obtain ⟨k, hk, he⟩ := look_unmap (by simpa using h : look j (l.map fun p => (f p.1, g p.2)) = some y)
      exact ⟨k, by simp only [List.map_cons, List.mem_cons]; exact .inr hk, he⟩
section
variable {P : Program} {n : Nat} {ops os : List Oper} {acc : List Eff} {K : List Eff → St → Prop} {s : List (Nat × LV)} {bx : List (Nat × Option Box)} {X : Nat → Option Obj} {σ : St}
open Classical in
noncomputable def after (f : Nat → Nat) (post : List (Nat × Option Box)) (ι ι' : Nat → Nat × Nat) (j : Nat) : Nat × Nat :=
  if h : ∃ k, k ∈ post.map (·.1) ∧ f k = j then ι' (Classical.choose h) else ι j
theorem after_in {f : Nat → Nat} {post : List (Nat × Option Box)} {ι ι' : Nat → Nat × Nat} (hi : injOn f (post.map (·.1)) = true) {k : Nat} (hk : k ∈ post.map (·.1)) : after f post ι ι' (f k) = ι' k := by
  have h : ∃ k', k' ∈ post.map (·.1) ∧ f k' = f k := ⟨k, hk, rfl⟩
  unfold after
  rw [dif_pos h]
  have := Classical.choose_spec h
  rw [injOn_spec hi _ _ this.1 hk this.2]
theorem after_out {f : Nat → Nat} {post : List (Nat × Option Box)} {ι ι' : Nat → Nat × Nat} {j : Nat} (h : ¬∃ k, k ∈ post.map (·.1) ∧ f k = j) : after f post ι ι' j = ι j := dif_neg h
theorem LOK.more {o : Oper} {e : Eff} {ft : List Nat} (h : LOK P n ops o σ e) (hf : ∀ k, k ∈ e.foot → k ∈ ft) : LOK P n ops o σ ⟨e.slots, ft, e.boxes⟩ :=
  ⟨fun σ' ha => h.out σ' ⟨ha.slot, fun k hk => ha.stat k (hk.imp (hf k) id), ha.X⟩⟩
theorem LOK.callM {d : Nat} {f : FuncId} {args : List Operand} {tys : Array TypeId} {ty : TypeId} {pos : String} {after_ : Array Edge} {g : Option (Nat × Bool)} {lvs : List LV} {r : LV} {pre post : List (Nat × Option Box)} (ρ : List (Nat × Nat))
    (hs : MSpec P σ.X f lvs pre r post) (hargs : evs σ args = some (lvs.map (LV.ren (rn ρ)))) (hu : lvs.all (LV.inUse pre) = true) (hpre : boxesAt σ (rn ρ) pre)
    (hub : pre.all (fun p => match p.2 with | some b => b.cells.all (CV.inUse pre) | none => true) = true) (hi : injOn (rn ρ) (post.map (·.1)) = true)
    (hsub : pre.all (fun p => (look p.1 post).isSome) = true) (hnew : post.all (fun p => (look p.1 pre).isSome || σ.fresh (rn ρ p.1)) = true) :
    LOK P n ops ⟨some d, .call ⟨.value (.func f), args.toArray, tys⟩, ty, pos, after_, g⟩ σ ⟨[(d, r.ren (rn ρ))], pre.map (fun p => rn ρ p.1), callPost ρ post⟩ := by
  refine ⟨fun σ' ha C ι a w hr hd next Q hn => ?_⟩
  generalize hF : rn ρ = F at *
  have hargs' : evs σ' args = some (lvs.map (LV.ren F)) := by
    rw [evs_agree fun x hx => ha.ev (by simp [Op.operands, Call.operands, hx])]
    exact hargs
  have hrun : (execOp a.eval ⟨some d, .call ⟨.value (.func f), args.toArray, tys⟩, ty, pos, after_, g⟩).run P w = .ok (.enter f (args.toArray.map a.eval)) w := by
    simp only [execOp, resolve, Act.eval, Deferred.ofValue, invoke, Sem.run_bind, Sem.run_pure, Result.andThen_ok]
    simp [run_enter hs.enters]
  have hpm : ∀ k x, look k pre = some x → k ∈ pre.map (·.1) := fun k x h => look_key h
  have hsub' : ∀ k, k ∈ pre.map (·.1) → k ∈ post.map (·.1) := fun k hk => by
    obtain ⟨p, hp, rfl⟩ := List.mem_map.1 hk
    obtain ⟨x, hx⟩ := Option.isSome_iff_exists.1 (List.all_eq_true.1 hsub p hp)
    exact look_key hx
  have hst : ∀ k x, look k pre = some x → σ'.stat (F k) = σ.stat (F k) := fun k x hk => ha.stat (F k) (.inl (by
    obtain ⟨p, hp, e⟩ := List.mem_map.1 (hpm k x hk)
    exact List.mem_map.2 ⟨p, hp, by rw [e]⟩))
  have hat : ∀ k x, look k pre = some x → (∀ b, x = some b → σ'.stat (F k) = some (some (b.ren F))) ∧ ∃ y, σ'.stat (F k) = some y := fun k x hk => by
    obtain ⟨h1, h2, -⟩ := boxesAt_look hpre k x hk
    rw [hst k x hk]
    exact ⟨h1, h2⟩
  have hmem : ∀ k x, look k pre = some x → (k, x) ∈ pre := fun k x hk => (boxesAt_look hpre k x hk).2.2
  have hback : Back pre σ'.stat F := fun k x hk => ⟨fun b e => ⟨_, (hat k x hk).1 b e⟩, (hat k x hk).2⟩
  have hrel := LVs.rel_back hback hu (evs_rel hr hargs')
  obtain ⟨H, hH⟩ := hr.res
  have hH0 := hH.move (S' := stOf pre) (own' := fun _ => True) (ι' := fun k => ι (F k)) (X' := σ.X) (w' := w) F (fun k e cs R hk => ⟨⟨e, cs.map (CV.ren F), (hat k _ hk).1 _ rfl⟩, rfl⟩) (fun k k' ⟨_, _, _, h1⟩ ⟨_, _, _, h2⟩ e => injOn_spec hi k k' (hsub' k (hpm k _ h1)) (hsub' k' (hpm k' _ h2)) e) (fun _ _ _ _ _ hj => hj) (fun _ _ _ => trivial) (fun b _ hx _ _ => by rw [← ha.X]; exact hx)
    (fun j bj hj => .inl ⟨F j, _, (hat j _ hj).1 _ rfl, rfl, fun k ⟨_, _, _, h1⟩ e => (injOn_spec hi k j (hsub' k (hpm k _ h1)) (hsub' j (hpm j _ hj)) e).symm⟩)
  have hHF : ∀ k b, (open Classical in if isRes (stOf pre) k then H (F k) else fun _ => none) b ≠ none → isRes (stOf pre) k ∧ H (F k) b ≠ none := fun k b h => by
    split at h
    · rename_i h1; exact ⟨h1, h⟩
    · exact absurd rfl h
  generalize hH0e : (fun k => open Classical in if isRes (stOf pre) k then H (F k) else fun _ => none) = H0 at hH0
  have hHF : ∀ k b, H0 k b ≠ none → isRes (stOf pre) k ∧ H (F k) b ≠ none := fun k b h => by
    rw [← hH0e] at h
    exact hHF k b h
  have hM : MemOf σ.X (fun k => ι (F k)) H0 pre w := by
    refine ⟨fun k b hk hbk => ?_, fun k b hk => ?_, fun k k' b b' hk hk' he => ?_, fun b o hb => hr.ext b o (by rw [ha.X]; exact hb), hH0⟩
    · obtain ⟨arr, fr, harr, ht, hsz, hbr⟩ := hr.boxes _ _ ((hat k _ hk).1 b rfl) (by unfold Box.blk at hbk ⊢; exact hbk)
      exact ⟨arr, fr, harr, ht, hsz, Box.rel_back hback (by simpa using List.all_eq_true.1 hub _ (hmem k _ hk)) hbr⟩
    · rw [← ha.X]; exact (hr.own _ _ ((hat k _ hk).1 b rfl)).2
    · have := hr.inj _ _ _ _ ((hat k _ hk).1 b rfl) ((hat k' _ hk').1 b' rfl) he
      exact injOn_spec hi k k' (hsub' k (hpm k _ hk)) (hsub' k' (hpm k' _ hk')) this
  have hc := hs.out w (args.toArray.map a.eval) _ H0 hM (by simpa using hrel)
  unfold Oper.wp
  rw [hrun]
  refine hc.mono ?_
  rintro e w' ⟨v, ι', H', rfl, hv, hM', hP⟩
  have hcp : callPost ρ post = post.map fun p => (F p.1, p.2.map (Box.ren F)) := by unfold callPost; rw [hF]
  rw [hcp] at hn ha
  have hτ : ∀ (sl : List (Nat × LV)) j, (⟨sl, (post.map fun p => (F p.1, p.2.map (Box.ren F))) ++ σ'.boxes, σ'.X⟩ : St).stat j = (look j (post.map fun p => (F p.1, p.2.map (Box.ren F)))).or (σ'.stat j) := fun sl j => look_append _ _ _
  have hin : ∀ (sl : List (Nat × LV)) k x, look k post = some x → (⟨sl, (post.map fun p => (F p.1, p.2.map (Box.ren F))) ++ σ'.boxes, σ'.X⟩ : St).stat (F k) = some (x.map (Box.ren F)) := fun sl k x hk => by
    rw [hτ, look_map (g := fun o => o.map (Box.ren F)) hi hk]; rfl
  have hout : ∀ (sl : List (Nat × LV)) j, (¬∃ k, k ∈ post.map (·.1) ∧ F k = j) → (⟨sl, (post.map fun p => (F p.1, p.2.map (Box.ren F))) ++ σ'.boxes, σ'.X⟩ : St).stat j = σ'.stat j := fun sl j h => by
    rw [hτ]
    cases hl : look j (post.map fun p => (F p.1, p.2.map (Box.ren F))) with
    | none => rfl
    | some y => exact absurd (look_unmap (g := fun o => o.map (Box.ren F)) hl) h
  have hfresh : ∀ k x, look k post = some x → look k pre = none → σ'.stat (F k) = none ∧ F k < 1000000 := fun k x hk hp => by
    have hm : ∃ p, p ∈ post ∧ p.1 = k := by
      obtain ⟨p, hp, e⟩ := List.mem_map.1 (look_key hk)
      exact ⟨p, hp, e⟩
    obtain ⟨p, hp1, rfl⟩ := hm
    have h1 := List.all_eq_true.1 hnew p hp1
    rw [hp] at h1
    simp at h1
    refine ⟨?_, St.fresh_lt h1⟩
    rw [ha.stat (F p.1) (.inr (List.mem_map.2 ⟨(F p.1, p.2.map (Box.ren F)), List.mem_map.2 ⟨p, hp1, rfl⟩, rfl⟩))]
    exact St.fresh_none h1
  have hlater : ∀ sl, Later σ'.stat (⟨sl, (post.map fun p => (F p.1, p.2.map (Box.ren F))) ++ σ'.boxes, σ'.X⟩ : St).stat ι (after F post ι ι') := by
    intro sl j hj
    by_cases h : ∃ k, k ∈ post.map (·.1) ∧ F k = j
    · obtain ⟨k, hk, rfl⟩ := h
      obtain ⟨x, hx⟩ := key_look hk
      rw [hin sl k x hx]
      refine ⟨by simp, fun b' hb' => ?_⟩
      cases x with
      | none => simp at hb'
      | some b =>
        have hpk : look k pre ≠ none := fun hn' => hj (hfresh k _ hx hn').1
        obtain ⟨⟨b0, hb0⟩, he⟩ := hP.old k b hx hpk
        rw [after_in hi hk]
        exact ⟨he, _, (hat k _ hb0).1 b0 rfl⟩
    · rw [hout sl j h, after_out h]
      exact ⟨hj, fun b' hb' => ⟨rfl, b', hb'⟩⟩
  have hmaps : ∀ sl, Maps (stOf post) (⟨sl, (post.map fun p => (F p.1, p.2.map (Box.ren F))) ++ σ'.boxes, σ'.X⟩ : St).stat ι' (after F post ι ι') F := by
    intro sl k hk
    cases hx : look k post with
    | none => exact absurd hx hk
    | some x =>
      rw [hin sl k x hx]
      refine ⟨by simp, fun b' hb' => ?_⟩
      cases x with
      | none => simp at hb'
      | some b => exact ⟨after_in hi (look_key hx), b, hx⟩
  have hlent : ∀ b, LentB pre (fun k => ι (F k)) H0 b → (C.own b ∨ C.w0.heap.size ≤ b) ∧ σ'.X b = none ∧ ∀ j bj, σ'.stat j = some (some bj) → (ι j).1 = b → ∃ k, k ∈ post.map (·.1) ∧ F k = j := fun b hb => by
    rcases hb with ⟨k, b0, hk, rfl⟩ | ⟨k, hk⟩
    · have h1 := (hat k _ hk).1 b0 rfl
      have h2 := hr.own _ _ h1
      exact ⟨h2.1, h2.2, fun j bj hj e => ⟨k, hsub' k (hpm k _ hk), hr.inj _ _ _ _ h1 hj e.symm⟩⟩
    · obtain ⟨⟨_, _, _, h1⟩, h2⟩ := hHF k b hk
      cases ho : H (F k) b with
      | none => exact absurd ho h2
      | some o =>
        obtain ⟨_, _, _, h3, h4, h5⟩ := hH.mem _ _ _ ho
        exact ⟨h3, h4, fun j bj hj e => ⟨k, hsub' k (hpm k _ h1), (h5 j bj hj e).symm⟩⟩
  have hother : ∀ j b, σ'.stat j = some (some b) → (¬∃ k, k ∈ post.map (·.1) ∧ F k = j) → (ι j).1 < w.heap.size ∧ ¬ LentB pre (fun k => ι (F k)) H0 (ι j).1 := fun j b hj h =>
    ⟨hr.blocklt hj, fun hl => h ((hlent _ hl).2.2 j b hj rfl)⟩
  have hXpre : ∀ b o, σ'.X b = some o → b < w.heap.size ∧ ¬ LentB pre (fun k => ι (F k)) H0 b := fun b o hb =>
    ⟨(Array.getElem?_eq_some_iff.1 (hr.ext b o hb)).1, fun hl => by rw [(hlent _ hl).2.1] at hb; cases hb⟩
  have hnewblk : ∀ k b, stOf post k = some (some b) → stOf pre k = none → w.heap.size ≤ (ι' k).1 ∨ LentB pre (fun k => ι (F k)) H0 (ι' k).1 := fun k b hk hp => hP.new k b hk hp
  have hHout : ∀ j b, (¬∃ k, k ∈ post.map (·.1) ∧ F k = j) → H j b ≠ none → b < w.heap.size ∧ ¬ LentB pre (fun k => ι (F k)) H0 b := fun j b hj hb => by
    cases ho : H j b with
    | none => exact absurd ho hb
    | some o =>
      obtain ⟨h1, h2, _, _, _, h5⟩ := hH.mem _ _ _ ho
      refine ⟨(Array.getElem?_eq_some_iff.1 h2).1, fun hl => ?_⟩
      rcases hl with ⟨k, b0, hk, e⟩ | ⟨k, hk⟩
      · exact hj ⟨k, hsub' k (hpm k _ hk), h5 _ _ ((hat k _ hk).1 b0 rfl) e⟩
      · obtain ⟨⟨_, _, _, h6⟩, h7⟩ := hHF k b hk
        exact hj ⟨k, hsub' k (hpm k _ h6), hH.apart _ _ b h7 hb⟩
  have hres : ∃ G, ResAt (fun b => C.own b ∨ C.w0.heap.size ≤ b) (after F post ι ι') G (⟨σ'.slots, (post.map fun p => (F p.1, p.2.map (Box.ren F))) ++ σ'.boxes, σ'.X⟩ : St).stat σ'.X w' := by
    have hG1 : ∀ k, k ∈ post.map (·.1) → (open Classical in if h : ∃ k', k' ∈ post.map (·.1) ∧ F k' = F k then H' (Classical.choose h) else H (F k)) = H' k := fun k hk => by
      have h : ∃ k', k' ∈ post.map (·.1) ∧ F k' = F k := ⟨k, hk, rfl⟩
      rw [dif_pos h]
      have := Classical.choose_spec h
      rw [injOn_spec hi _ _ this.1 hk this.2]
    have hG2 : ∀ j, (¬∃ k, k ∈ post.map (·.1) ∧ F k = j) → (open Classical in if h : ∃ k', k' ∈ post.map (·.1) ∧ F k' = j then H' (Classical.choose h) else H j) = H j := fun j h => dif_neg h
    refine ⟨fun j => open Classical in if h : ∃ k', k' ∈ post.map (·.1) ∧ F k' = j then H' (Classical.choose h) else H j, ?_⟩
    generalize hGe : (fun j => open Classical in if h : ∃ k', k' ∈ post.map (·.1) ∧ F k' = j then H' (Classical.choose h) else H j) = G
    have hG1 : ∀ k, k ∈ post.map (·.1) → G (F k) = H' k := fun k hk => by rw [← hGe]; exact hG1 k hk
    have hG2 : ∀ j, (¬∃ k, k ∈ post.map (·.1) ∧ F k = j) → G j = H j := fun j hj => by rw [← hGe]; exact hG2 j hj
    have hside : ∀ k b, k ∈ post.map (·.1) → H' k b ≠ none → w.heap.size ≤ b ∨ LentB pre (fun k => ι (F k)) H0 b := fun k b _ h => hP.newH k b h
    constructor
    · intro j e cs R hj
      by_cases h : ∃ k, k ∈ post.map (·.1) ∧ F k = j
      · obtain ⟨k, hk, rfl⟩ := h
        obtain ⟨x, hx⟩ := key_look hk
        rw [hin _ k x hx] at hj
        cases x with
        | none => simp at hj
        | some b1 =>
          obtain ⟨e1, cs1, r1⟩ := b1
          simp only [Option.map_some, Option.some.injEq, Box.ren, Box.mk.injEq] at hj
          obtain ⟨rfl, _, rfl⟩ := hj
          rw [after_in hi hk, hG1 k hk]
          exact hM'.res.holds k _ _ _ hx
      · rw [hout _ j h] at hj
        rw [after_out h, hG2 j h]
        exact hH.holds j _ _ _ hj
    · intro j b o ho
      by_cases h : ∃ k, k ∈ post.map (·.1) ∧ F k = j
      · obtain ⟨k, hk, rfl⟩ := h
        rw [hG1 k hk] at ho
        obtain ⟨⟨e, cs, R, h1⟩, h2, h3, _, h5, h6⟩ := hM'.res.mem k b o ho
        have hnl := hside k b hk (by rw [ho]; simp)
        refine ⟨⟨e, cs.map (CV.ren F), R, by rw [hin _ k _ h1]; rfl⟩, h2, h3, ?_, by rw [ha.X]; exact h5, fun j2 bj hj2 e2 => ?_⟩
        · rcases hnl with h7 | h7
          · exact .inr (Nat.le_trans hr.big h7)
          · exact (hlent b h7).1
        · by_cases h8 : ∃ k, k ∈ post.map (·.1) ∧ F k = j2
          · obtain ⟨k2, hk2, rfl⟩ := h8
            obtain ⟨x2, hx2⟩ := key_look hk2
            rw [hin _ k2 x2 hx2] at hj2
            cases x2 with
            | none => simp at hj2
            | some b2 => rw [after_in hi hk2] at e2; rw [h6 k2 b2 hx2 e2]
          · rw [hout _ j2 h8] at hj2
            rw [after_out h8] at e2
            obtain ⟨h9, h10⟩ := hother j2 bj hj2 h8
            rw [e2] at h9 h10
            rcases hnl with h7 | h7
            · omega
            · exact absurd h7 h10
      · rw [hG2 j h] at ho
        obtain ⟨⟨e, cs, R, h1⟩, h2, h3, h4, h5, h6⟩ := hH.mem j b o ho
        obtain ⟨h7, h8⟩ := hHout j b h (by rw [ho]; simp)
        refine ⟨⟨e, cs, R, by rw [hout _ j h]; exact h1⟩, (hP.frame b h7 h8).trans h2, h3, h4, h5, fun j2 bj hj2 e2 => ?_⟩
        by_cases h9 : ∃ k, k ∈ post.map (·.1) ∧ F k = j2
        · obtain ⟨k2, hk2, rfl⟩ := h9
          obtain ⟨x2, hx2⟩ := key_look hk2
          rw [hin _ k2 x2 hx2] at hj2
          cases x2 with
          | none => simp at hj2
          | some b2 =>
            rw [after_in hi hk2] at e2
            cases hp : stOf pre k2 with
            | none =>
              rcases hnewblk k2 b2 hx2 hp with h10 | h10
              · omega
              · rw [e2] at h10; exact absurd h10 h8
            | some y =>
              obtain ⟨⟨b0, hb0⟩, he⟩ := hP.old k2 b2 hx2 (by rw [hp]; simp)
              rw [he] at e2
              exact h6 _ _ ((hat k2 _ hb0).1 b0 rfl) e2
        · rw [hout _ j2 h9] at hj2
          rw [after_out h9] at e2
          exact h6 j2 bj hj2 e2
    · intro i j b h1 h2
      by_cases hi1 : ∃ k, k ∈ post.map (·.1) ∧ F k = i
      · obtain ⟨k, hk, rfl⟩ := hi1
        rw [hG1 k hk] at h1
        by_cases hj1 : ∃ k, k ∈ post.map (·.1) ∧ F k = j
        · obtain ⟨k2, hk2, rfl⟩ := hj1
          rw [hG1 k2 hk2] at h2
          rw [hM'.res.apart k k2 b h1 h2]
        · rw [hG2 j hj1] at h2
          obtain ⟨h7, h8⟩ := hHout j b hj1 h2
          rcases hside k b hk h1 with h9 | h9
          · omega
          · exact absurd h9 h8
      · rw [hG2 i hi1] at h1
        by_cases hj1 : ∃ k, k ∈ post.map (·.1) ∧ F k = j
        · obtain ⟨k2, hk2, rfl⟩ := hj1
          rw [hG1 k2 hk2] at h2
          obtain ⟨h7, h8⟩ := hHout i b hi1 h1
          rcases hside k2 b hk2 h2 with h9 | h9
          · omega
          · exact absurd h9 h8
        · rw [hG2 j hj1] at h2
          exact hH.apart i j b h1 h2
  have key : Rel n C (after F post ι ι') ⟨σ'.slots, (post.map fun p => (F p.1, p.2.map (Box.ren F))) ++ σ'.boxes, σ'.X⟩ a w' := {
    defers := hr.defers, size := hr.size
    slots := fun d lv hd => by
      obtain ⟨v, hv, hvr⟩ := hr.slots d lv hd
      exact ⟨v, hv, LV.rel_later (hlater _) hvr⟩
    res := hres
    boxes := fun j b hj hbk => by
      by_cases h : ∃ k, k ∈ post.map (·.1) ∧ F k = j
      · obtain ⟨k, hk, rfl⟩ := h
        obtain ⟨x, hx⟩ := key_look hk
        rw [hin _ k x hx] at hj
        cases x with
        | none => simp at hj
        | some b1 =>
          simp only [Option.map_some, Option.some.injEq] at hj
          subst hj
          obtain ⟨arr, fr, harr, ht, hsz, hbr⟩ := hM'.boxes k b1 hx (by unfold Box.blk at hbk ⊢; exact hbk)
          rw [after_in hi hk]
          exact ⟨arr, fr, harr, ht, hsz, Box.rel_maps (hmaps _) hbr⟩
      · rw [hout _ j h] at hj
        obtain ⟨arr, fr, harr, ht, hsz, hbr⟩ := hr.boxes j b hj hbk
        obtain ⟨h1, h2⟩ := hother j b hj h
        rw [after_out h]
        exact ⟨arr, fr, (hP.frame _ h1 h2).trans harr, ht, hsz, Box.rel_later (hlater _) hbr⟩
    own := fun j b hj => by
      by_cases h : ∃ k, k ∈ post.map (·.1) ∧ F k = j
      · obtain ⟨k, hk, rfl⟩ := h
        obtain ⟨x, hx⟩ := key_look hk
        rw [hin _ k x hx] at hj
        cases x with
        | none => simp at hj
        | some b1 =>
          rw [after_in hi hk]
          refine ⟨?_, by rw [ha.X]; exact hM'.apart k b1 hx⟩
          cases hp : stOf pre k with
          | none =>
            rcases hnewblk k b1 hx hp with h1 | h1
            · exact .inr (Nat.le_trans hr.big h1)
            · exact (hlent _ h1).1
          | some y =>
            obtain ⟨⟨b0, hb0⟩, he⟩ := hP.old k b1 hx (by rw [hp]; simp)
            rw [he]; exact (hr.own _ _ ((hat k _ hb0).1 b0 rfl)).1
      · rw [hout _ j h] at hj
        rw [after_out h]
        exact hr.own j b hj
    inj := fun i j bi bj hi' hj' heq => by
      have cross : ∀ i j bi bj, (∃ k, k ∈ post.map (·.1) ∧ F k = i) → (¬∃ k, k ∈ post.map (·.1) ∧ F k = j) → (⟨σ'.slots, (post.map fun p => (F p.1, p.2.map (Box.ren F))) ++ σ'.boxes, σ'.X⟩ : St).stat i = some (some bi) → σ'.stat j = some (some bj) → (after F post ι ι' i).1 ≠ (ι j).1 := by
        rintro i j bi bj ⟨k, hk, rfl⟩ h2 hi2 hj2 he
        obtain ⟨x, hx⟩ := key_look hk
        rw [hin _ k x hx] at hi2
        cases x with
        | none => simp at hi2
        | some b1 =>
          rw [after_in hi hk] at he
          obtain ⟨h3, h4⟩ := hother j bj hj2 h2
          cases hp : stOf pre k with
          | none =>
            rcases hnewblk k b1 hx hp with h1 | h1
            · omega
            · rw [he] at h1; exact h4 h1
          | some y =>
            obtain ⟨⟨b0, hb0⟩, he0⟩ := hP.old k b1 hx (by rw [hp]; simp)
            exact h4 (.inl ⟨k, b0, hb0, by rw [← he, he0]⟩)
      by_cases h1 : ∃ k, k ∈ post.map (·.1) ∧ F k = i
      · by_cases h2 : ∃ k, k ∈ post.map (·.1) ∧ F k = j
        · obtain ⟨k, hk, rfl⟩ := h1
          obtain ⟨k', hk', rfl⟩ := h2
          obtain ⟨x, hx⟩ := key_look hk
          obtain ⟨x', hx'⟩ := key_look hk'
          rw [hin _ k x hx] at hi'
          rw [hin _ k' x' hx'] at hj'
          cases x with
          | none => simp at hi'
          | some b1 =>
            cases x' with
            | none => simp at hj'
            | some b2 =>
              rw [after_in hi hk, after_in hi hk'] at heq
              rw [hM'.inj k k' b1 b2 hx hx' heq]
        · rw [hout _ j h2] at hj'
          rw [after_out h2] at heq
          exact absurd heq (cross i j bi bj h1 h2 hi' hj')
      · by_cases h2 : ∃ k, k ∈ post.map (·.1) ∧ F k = j
        · rw [hout _ i h1] at hi'
          rw [after_out h1] at heq
          exact absurd heq.symm (cross j i bj bi h2 h1 hj' hi')
        · rw [hout _ i h1] at hi'
          rw [hout _ j h2] at hj'
          rw [after_out h1, after_out h2] at heq
          exact hr.inj i j bi bj hi' hj' heq
    keep := fun j b hj hlt => by
      by_cases h : ∃ k, k ∈ post.map (·.1) ∧ F k = j
      · obtain ⟨k, hk, rfl⟩ := h
        obtain ⟨x, hx⟩ := key_look hk
        rw [hin _ k x hx] at hj
        cases x with
        | none => simp at hj
        | some b1 =>
          rw [after_in hi hk]
          cases hp : stOf pre k with
          | none => exact absurd (hfresh k _ hx hp).2 (Nat.not_lt.2 hlt)
          | some y =>
            obtain ⟨⟨b0, hb0⟩, he⟩ := hP.old k b1 hx (by rw [hp]; simp)
            rw [he]
            exact hr.keep _ _ ((hat k _ hb0).1 b0 rfl) hlt
      · rw [hout _ j h] at hj
        rw [after_out h]
        exact hr.keep j b hj hlt
    ext := fun b o hb => by
      obtain ⟨h1, h2⟩ := hXpre b o hb
      exact (hP.frame b h1 h2).trans (hr.ext b o hb)
    frame := fun b hb hnb => by
      refine (hP.frame b (Nat.lt_of_lt_of_le hb hr.big) fun hl => ?_).trans (hr.frame b hb hnb)
      rcases (hlent b hl).1 with h1 | h1
      · exact hnb h1
      · omega
    big := Nat.le_trans hr.big hP.big
    os := hP.os.trans hr.os, tape := hP.tape.trans hr.tape, output := hP.output.trans hr.output }
  exact hn _ _ w' (key.put (hd d rfl) (LV.rel_maps (hmaps _) hv))
theorem LOK.callR {d : Nat} {f : FuncId} {args : List Operand} {tys : Array TypeId} {ty : TypeId} {pos : String} {after_ : Array Edge} {g : Option (Nat × Bool)} {lvs : List LV} {r : LV} {pre : List (Nat × Option Box)} (ρ : List (Nat × Nat))
    (hs : MSpec P σ.X f lvs pre r pre) (hargs : evs σ args = some (lvs.map (LV.ren (rn ρ)))) (hu : lvs.all (LV.inUse pre) = true) (hpre : boxesAt σ (rn ρ) pre)
    (hub : pre.all (fun p => match p.2 with | some b => b.cells.all (CV.inUse pre) | none => true) = true) (hi : injOn (rn ρ) (pre.map (·.1)) = true) (hlive : pre.all (fun p => p.2.isSome) = true) :
    LOK P n ops ⟨some d, .call ⟨.value (.func f), args.toArray, tys⟩, ty, pos, after_, g⟩ σ ⟨[(d, r.ren (rn ρ))], pre.map (fun p => rn ρ p.1), []⟩ := by
  refine ⟨fun σ' ha => ?_⟩
  have hkeys : ∀ p, p ∈ pre → (look p.1 pre).isSome = true := fun p hp => by
    obtain ⟨x, hx⟩ := key_look (l := pre) (k := p.1) (List.mem_map.2 ⟨p, hp, rfl⟩)
    rw [hx]; rfl
  have h := (LOK.callM (P := P) (n := n) (ops := ops) (d := d) (tys := tys) (ty := ty) (pos := pos) (after_ := after_) (g := g) ρ hs hargs hu hpre hub hi
    (List.all_eq_true.2 hkeys) (List.all_eq_true.2 fun p hp => by rw [hkeys p hp]; rfl)).out σ' ⟨ha.slot, fun k hk => ha.stat k (.inl (by
      rcases hk with hk | hk
      · exact hk
      · simpa [callPost] using hk)), ha.X⟩
  intro C ι a w hr hd next Q hn
  refine h C ι a w hr hd next Q (fun ι' a' w' hr' => hn ι' a' w' (hr'.same ⟨fun _ => rfl, fun j => ?_, rfl⟩))
  have e1 : ((⟨[(d, r.ren (rn ρ))], pre.map (fun p => rn ρ p.1), callPost ρ pre⟩ : Eff).app σ').stat j = (look j (callPost ρ pre)).or (σ'.stat j) := Eff.stat_app _ _ _
  have e2 : ((⟨[(d, r.ren (rn ρ))], pre.map (fun p => rn ρ p.1), []⟩ : Eff).app σ').stat j = σ'.stat j := by rw [Eff.stat_app]; rfl
  rw [e1, e2]
  cases hl : look j (callPost ρ pre) with
  | none => rfl
  | some y =>
    obtain ⟨k, hk, rfl⟩ := look_unmap (f := rn ρ) (g := fun o => o.map (Box.ren (rn ρ))) (l := pre) hl
    obtain ⟨x, hx⟩ := key_look hk
    have h2 := look_map (f := rn ρ) (g := fun o => o.map (Box.ren (rn ρ))) hi hx
    have h3 : look (rn ρ k) (callPost ρ pre) = some (x.map (Box.ren (rn ρ))) := h2
    rw [hl] at h3
    obtain ⟨h4, -, h5⟩ := boxesAt_look hpre k x hx
    have hsome := List.all_eq_true.1 hlive _ h5
    cases x with
    | none => simp at hsome
    | some b =>
      have h6 : σ'.stat (rn ρ k) = some (some (b.ren (rn ρ))) := by
        rw [ha.stat (rn ρ k) (.inl (List.mem_map.2 ⟨(k, some b), h5, rfl⟩))]
        exact h4 b rfl
      rw [h6]
      simp only [Option.map_some] at h3
      rw [h3]
      rfl
theorem K.callR {d : Nat} {f : FuncId} {args : List Operand} {tys : Array TypeId} {ty : TypeId} {pos : String} {after_ : Array Edge} {g : Option (Nat × Bool)} {lvs : List LV} {r : LV} {pre : List (Nat × Option Box)} (ρ : List (Nat × Nat))
    (hs : MSpec P X f lvs pre r pre) {ft : List Nat} (hargs : evs ⟨s, bx, X⟩ args = some (lvs.map (LV.ren (rn ρ)))) (hu : lvs.all (LV.inUse pre) = true) (hpre : boxesAt ⟨s, bx, X⟩ (rn ρ) pre)
    (hub : pre.all (fun p => match p.2 with | some b => b.cells.all (CV.inUse pre) | none => true) = true) (hi : injOn (rn ρ) (pre.map (·.1)) = true) (hlive : pre.all (fun p => p.2.isSome) = true)
    (hlv : r.ren (rn ρ) = r) (hft : pre.map (fun p => rn ρ p.1) = ft) (hw : Want ops s g)
    (kont : RunK P n ops os ⟨(d, r) :: s, bx, X⟩ (⟨[(d, r)], ft, []⟩ :: acc) K) :
    RunK P n ops (⟨some d, .call ⟨.value (.func f), args.toArray, tys⟩, ty, pos, after_, g⟩ :: os) ⟨s, bx, X⟩ acc K := by
  have h := LOK.callR (P := P) (n := n) (ops := ops) (σ := ⟨s, bx, X⟩) (d := d) (args := args) (tys := tys) (ty := ty) (pos := pos) (after_ := after_) (g := g) ρ hs hargs hu hpre hub hi hlive
  rw [hlv, hft] at h
  exact RunK.gen hw h kont
theorem K.callMp {d : Nat} {f : FuncId} {args : List Operand} {tys : Array TypeId} {ty : TypeId} {pos : String} {after_ : Array Edge} {g : Option (Nat × Bool)} {lvs : List LV} {r : LV} {pre post : List (Nat × Option Box)} (ρ : List (Nat × Nat)) (lv : LV) (pb : List (Nat × Option Box))
    (hs : MSpec P X f lvs pre r post) (hargs : evs ⟨s, bx, X⟩ args = some (lvs.map (LV.ren (rn ρ)))) (hu : lvs.all (LV.inUse pre) = true) (hpre : boxesAt ⟨s, bx, X⟩ (rn ρ) pre)
    (hub : pre.all (fun p => match p.2 with | some b => b.cells.all (CV.inUse pre) | none => true) = true) (hi : injOn (rn ρ) (post.map (·.1)) = true)
    (hsub : pre.all (fun p => (look p.1 post).isSome) = true) (hnew : post.all (fun p => (look p.1 pre).isSome || (⟨s, bx, X⟩ : St).fresh (rn ρ p.1)) = true)
    (hlv : r.ren (rn ρ) = lv) (hpb : PostEq (rn ρ) post pb) (hw : Want ops s g)
    (kont : RunK P n ops os ⟨(d, lv) :: s, pb ++ bx, X⟩ (⟨[(d, lv)], pb.map (·.1), pb⟩ :: acc) K) :
    RunK P n ops (⟨some d, .call ⟨.value (.func f), args.toArray, tys⟩, ty, pos, after_, g⟩ :: os) ⟨s, bx, X⟩ acc K := by
  have e1 : callPost ρ post = pb := hpb.eq
  have h := LOK.callM (P := P) (n := n) (ops := ops) (σ := ⟨s, bx, X⟩) (d := d) (args := args) (tys := tys) (ty := ty) (pos := pos) (after_ := after_) (g := g) ρ hs hargs hu hpre hub hi hsub hnew
  rw [e1, hlv] at h
  exact RunK.gen hw (h.more (fun k hk => by
    obtain ⟨p, hp, rfl⟩ := List.mem_map.1 hk
    obtain ⟨x, hx⟩ := Option.isSome_iff_exists.1 (List.all_eq_true.1 hsub p hp)
    obtain ⟨q, hq, e⟩ := List.mem_map.1 (look_key hx)
    rw [← e1]
    exact List.mem_map.2 ⟨(rn ρ q.1, q.2.map (Box.ren (rn ρ))), List.mem_map.2 ⟨q, hq, rfl⟩, by rw [e]⟩)) kont
theorem K.callM {d : Nat} {f : FuncId} {args : List Operand} {tys : Array TypeId} {ty : TypeId} {pos : String} {after_ : Array Edge} {g : Option (Nat × Bool)} {lvs : List LV} {r : LV} {pre post : List (Nat × Option Box)} (ρ : List (Nat × Nat)) (pb : List (Nat × Option Box))
    (hs : MSpec P X f lvs pre r post) (hargs : evs ⟨s, bx, X⟩ args = some (lvs.map (LV.ren (rn ρ)))) (hu : lvs.all (LV.inUse pre) = true) (hpre : boxesAt ⟨s, bx, X⟩ (rn ρ) pre)
    (hub : pre.all (fun p => match p.2 with | some b => b.cells.all (CV.inUse pre) | none => true) = true) (hi : injOn (rn ρ) (post.map (·.1)) = true)
    (hsub : pre.all (fun p => (look p.1 post).isSome) = true) (hnew : post.all (fun p => (look p.1 pre).isSome || (⟨s, bx, X⟩ : St).fresh (rn ρ p.1)) = true)
    (hlv : r.ren (rn ρ) = r) (hpb : PostEq (rn ρ) post pb) (hw : Want ops s g)
    (kont : RunK P n ops os ⟨(d, r) :: s, pb ++ bx, X⟩ (⟨[(d, r)], pb.map (·.1), pb⟩ :: acc) K) :
    RunK P n ops (⟨some d, .call ⟨.value (.func f), args.toArray, tys⟩, ty, pos, after_, g⟩ :: os) ⟨s, bx, X⟩ acc K :=
  Go.Lg.K.callMp ρ r pb hs hargs hu hpre hub hi hsub hnew hlv hpb hw kont
end
end Go.Lg
end
section
namespace Go.Lg
open Go Go.RowKit
section
variable {P : Program} {n : Nat} {ops os : List Oper} {acc : List Eff} {K : List Eff → St → Prop} {s : List (Nat × LV)} {bx : List (Nat × Option Box)} {X : Nat → Option Obj} {σ : St}
theorem CV.rel_ptr {S : Nat → Option (Option Box)} {ι : Nat → Nat × Nat} {k off : Nat} {v : Value} (h : (CV.ptr k off).rel S ι v) : ∃ b, v = .pointer (some ⟨b, off, none⟩) := by
  simp only [CV.rel] at h
  cases hk : S k with
  | none => simp [hk] at h
  | some x => cases x with
    | none => rw [hk] at h; exact h
    | some b => rw [hk] at h; exact ⟨_, h⟩
def isPtr (P : Program) (t : TypeId) : Bool := match P.underlying t with | some (.pointer _) => true | _ => false
theorem isPtr_spec {t : TypeId} (h : isPtr P t = true) : P.underlying t = some (.pointer (P.pointee t)) := by
  unfold isPtr at h
  split at h
  · rename_i e he
    unfold Program.pointee
    rw [he]
  · cases h
theorem LOK.ptrNil {d k off : Nat} {op : BinOp} {t t' : TypeId} {x : Operand} {ty : TypeId} {pos : String} {after_ : Array Edge} {g : Option (Nat × Bool)} {r : Bool} (hx : σ.ev x = some (.sv (.one (.ptr k off)))) (ht : isPtr P t = true)
    (hop : (op = .eql ∧ r = false) ∨ (op = .neq ∧ r = true)) :
    LOK P n ops ⟨some d, .binOp op t x (.const (.pointer none)) t', ty, pos, after_, g⟩ σ ⟨[(d, .sv (.one (.val (.bool r))))], [], []⟩ :=
  LOK.value fun σ' ha C ι a w hr => by
    obtain ⟨b, hv⟩ := CV.rel_ptr (hr.ev ((ha.ev (x := x) (by simp [Op.operands])).trans hx))
    have hc : a.eval (.const (.pointer none)) = .pointer none := rfl
    rcases hop with ⟨rfl, rfl⟩ | ⟨rfl, rfl⟩
    · exact ⟨_, by simp only [execOp, hv, hc, eqGuard, Sem.run_bind]; simp [run_eql_pointer_nil w t _ (isPtr_spec ht)], rfl⟩
    · exact ⟨_, by simp only [execOp, hv, hc, eqGuard, Sem.run_bind]; simp [run_neq_pointer_nil w t _ (isPtr_spec ht)], rfl⟩
theorem LOK.nilNil {d : Nat} {op : BinOp} {t t' : TypeId} {x : Operand} {ty : TypeId} {pos : String} {after_ : Array Edge} {g : Option (Nat × Bool)} {r : Bool} (hx : σ.ev x = some (.sv (.one (.val (.pointer none))))) (ht : isPtr P t = true)
    (hop : (op = .eql ∧ r = true) ∨ (op = .neq ∧ r = false)) :
    LOK P n ops ⟨some d, .binOp op t x (.const (.pointer none)) t', ty, pos, after_, g⟩ σ ⟨[(d, .sv (.one (.val (.bool r))))], [], []⟩ :=
  LOK.value fun σ' ha C ι a w hr => by
    have hv : a.eval x = .pointer none := hr.ev ((ha.ev (x := x) (by simp [Op.operands])).trans hx)
    have hc : a.eval (.const (.pointer none)) = .pointer none := rfl
    rcases hop with ⟨rfl, rfl⟩ | ⟨rfl, rfl⟩
    · exact ⟨_, by simp only [execOp, hv, hc, eqGuard, Sem.run_bind]; simp [run_eql_pointer_nil w t _ (isPtr_spec ht)], rfl⟩
    · exact ⟨_, by simp only [execOp, hv, hc, eqGuard, Sem.run_bind]; simp [run_neq_pointer_nil w t _ (isPtr_spec ht)], rfl⟩
theorem LOK.nilCheck {d k off : Nat} {x : Operand} {ty : TypeId} {pos : String} {after_ : Array Edge} {g : Option (Nat × Bool)} (hx : σ.ev x = some (.sv (.one (.ptr k off)))) :
    LOK P n ops ⟨some d, .nilCheck x, ty, pos, after_, g⟩ σ ⟨[(d, .sv (.one (.ptr k off)))], [], []⟩ :=
  LOK.value fun σ' ha C ι a w hr => by
    have h := hr.ev ((ha.ev (x := x) (by simp [Op.operands])).trans hx)
    obtain ⟨b, hv⟩ := CV.rel_ptr h
    exact ⟨a.eval x, by simp only [execOp, hv]; simp, h⟩
theorem K.ptrNil {d k off : Nat} {op : BinOp} {t t' : TypeId} {x : Operand} {ty : TypeId} {pos : String} {after_ : Array Edge} {g : Option (Nat × Bool)} {r : Bool} (hx : (⟨s, bx, X⟩ : St).ev x = some (.sv (.one (.ptr k off)))) (ht : isPtr P t = true)
    (hop : (op = .eql ∧ r = false) ∨ (op = .neq ∧ r = true)) (hw : Want ops s g) (kont : RunK P n ops os ⟨(d, .sv (.one (.val (.bool r)))) :: s, bx, X⟩ (⟨[(d, .sv (.one (.val (.bool r))))], [], []⟩ :: acc) K) :
    RunK P n ops (⟨some d, .binOp op t x (.const (.pointer none)) t', ty, pos, after_, g⟩ :: os) ⟨s, bx, X⟩ acc K := RunK.g1 (LOK.ptrNil hx ht hop) hw kont
theorem K.nilNil {d : Nat} {op : BinOp} {t t' : TypeId} {x : Operand} {ty : TypeId} {pos : String} {after_ : Array Edge} {g : Option (Nat × Bool)} {r : Bool} (hx : (⟨s, bx, X⟩ : St).ev x = some (.sv (.one (.val (.pointer none))))) (ht : isPtr P t = true)
    (hop : (op = .eql ∧ r = true) ∨ (op = .neq ∧ r = false)) (hw : Want ops s g) (kont : RunK P n ops os ⟨(d, .sv (.one (.val (.bool r)))) :: s, bx, X⟩ (⟨[(d, .sv (.one (.val (.bool r))))], [], []⟩ :: acc) K) :
    RunK P n ops (⟨some d, .binOp op t x (.const (.pointer none)) t', ty, pos, after_, g⟩ :: os) ⟨s, bx, X⟩ acc K := RunK.g1 (LOK.nilNil hx ht hop) hw kont
theorem K.nilCheck {d k off : Nat} {x : Operand} {ty : TypeId} {pos : String} {after_ : Array Edge} {g : Option (Nat × Bool)} (hx : (⟨s, bx, X⟩ : St).ev x = some (.sv (.one (.ptr k off)))) (hw : Want ops s g)
    (kont : RunK P n ops os ⟨(d, .sv (.one (.ptr k off))) :: s, bx, X⟩ (⟨[(d, .sv (.one (.ptr k off)))], [], []⟩ :: acc) K) :
    RunK P n ops (⟨some d, .nilCheck x, ty, pos, after_, g⟩ :: os) ⟨s, bx, X⟩ acc K := RunK.g1 (LOK.nilCheck hx) hw kont
theorem LOK.cutSlc {d k off len sz h : Nat} {t : TypeId} {x y : Operand} {ty : TypeId} {pos : String} {after_ : Array Edge} {g : Option (Nat × Bool)} {kh : IntKind} (hx : σ.ev x = some (.sv (.one (.slc k off len sz)))) (hy : σ.ev y = some (.sv (.one (.val (.int kh (h : Nat))))))
    (ht : sliceOf P t = some sz) (hh : h ≤ len) : LOK P n ops ⟨some d, .slice t x none (some y) none, ty, pos, after_, g⟩ σ ⟨[(d, .sv (.one (.slc k off h sz)))], [], []⟩ :=
  LOK.value fun σ' ha C ι a w hr => by
    have h1 := hr.ev ((ha.ev (x := x) (by simp [Op.operands])).trans hx)
    have h2 : a.eval y = .int kh (h : Nat) := hr.ev ((ha.ev (x := y) (by simp [Op.operands])).trans hy)
    obtain ⟨e, hu, hsz⟩ := sliceOf_spec ht
    have hrun : ∀ b c : Nat, len ≤ c → (Instr.sliceAt t (.slice (some ⟨b, off, none⟩) len c) none (some (.int kh (h : Nat))) none).run P w = .ok (.slice (some ⟨b, off, none⟩) h c) w := by
      intro b c hc
      have ha0 : (⟨b, off, none⟩ : Addr).add 0 = ⟨b, off, none⟩ := by rw [addr_add, Nat.add_zero]
      simp [Instr.sliceAt, Instr.slice, run_underlying hu, Instr.sliceBounds, Instr.sliceBound, asIntOf, hsz, ha0]
      omega
    simp only [LV.rel, SV.rel, CV.rel] at h1 ⊢
    cases hk : σ'.stat k with
    | none => simp [hk] at h1
    | some bb =>
      cases bb with
      | none =>
        simp only [hk] at h1 ⊢
        obtain ⟨b, c, h1, h3⟩ := h1
        exact ⟨_, by simp only [execOp, h1, h2, Option.map_none, Option.map_some, Sem.run_bind, hrun b c h3, Result.andThen_ok, Sem.run_pure], b, c, rfl, by omega⟩
      | some b =>
        simp only [hk] at h1 ⊢
        obtain ⟨c, h1, h3, h4⟩ := h1
        exact ⟨_, by simp only [execOp, h1, h2, Option.map_none, Option.map_some, Sem.run_bind, hrun _ c h3, Result.andThen_ok, Sem.run_pure], c, rfl, by omega, h4⟩
theorem K.cutSlc {d k off len sz h : Nat} {t : TypeId} {x y : Operand} {ty : TypeId} {pos : String} {after_ : Array Edge} {g : Option (Nat × Bool)} {kh : IntKind} (hx : (⟨s, bx, X⟩ : St).ev x = some (.sv (.one (.slc k off len sz)))) (hy : (⟨s, bx, X⟩ : St).ev y = some (.sv (.one (.val (.int kh (h : Nat))))))
    (ht : sliceOf P t = some sz) (hh : h ≤ len) (hw : Want ops s g) (kont : RunK P n ops os ⟨(d, .sv (.one (.slc k off h sz))) :: s, bx, X⟩ (⟨[(d, .sv (.one (.slc k off h sz)))], [], []⟩ :: acc) K) :
    RunK P n ops (⟨some d, .slice t x none (some y) none, ty, pos, after_, g⟩ :: os) ⟨s, bx, X⟩ acc K := RunK.g1 (LOK.cutSlc hx hy ht hh) hw kont
theorem LOK.makeSlc {d k m : Nat} {t e : TypeId} {x y : Operand} {ty : TypeId} {pos : String} {after_ : Array Edge} {g : Option (Nat × Bool)} {kl kc : IntKind} {zs : List Value} {sz : Nat} {zc : List CV} {bytes : Nat}
    (hx : σ.ev x = some (.sv (.one (.val (.int kl (m : Nat)))))) (hy : σ.ev y = some (.sv (.one (.val (.int kc (m : Nat)))))) (hst : slcBuild P t m = some (zs, sz, e)) (hby : (P.info? e).map (·.bytes) = some bytes) (hfit : bytes * m ≤ 281474976710656 ∧ m < 9223372036854775808)
    (hzc : zs.map .val = zc) (hk : σ.fresh k = true) : LOK P n ops ⟨some d, .makeSlice t x y, ty, pos, after_, g⟩ σ ⟨[(d, .sv (.one (.slc k 0 m sz)))], [], [(k, some ⟨e, zc, false⟩)]⟩ :=
  LOK.make fun σ' ha C ι a w hr => by
    subst hzc
    have hk' : σ'.stat k = none := (ha.stat k (.inr (by simp))).trans (St.fresh_none hk)
    have hlt := St.fresh_lt hk
    have h1 : a.eval x = .int kl (m : Nat) := hr.ev ((ha.ev (x := x) (by simp [Op.operands])).trans hx)
    have h2 : a.eval y = .int kc (m : Nat) := hr.ev ((ha.ev (x := y) (by simp [Op.operands])).trans hy)
    unfold slcBuild at hst
    cases hu : P.underlying t with
    | none => simp [hu] at hst
    | some dd =>
      cases dd <;> simp only [hu] at hst <;> try (simp at hst; done)
      rename_i e'
      cases hie : P.info? e' with
      | none => simp [hie] at hst
      | some ie =>
        cases hz : ie.zero with
        | none => simp [hie, hz] at hst
        | some z =>
          simp only [hie, hz] at hst
          by_cases hbig : m * ie.size > 2 ^ 24
          · rw [if_pos hbig] at hst; cases hst
          · rw [if_neg hbig] at hst
            simp only [Option.some.injEq, Prod.mk.injEq] at hst
            obtain ⟨e1, e2, e3⟩ := hst
            subst e3
            rw [hie] at hby
            simp only [Option.map_some, Option.some.injEq] at hby
            have hbb : (ie.bytes : Int) * ((m : Nat) : Int) ≤ 281474976710656 := by
              rw [hby, ← Int.natCast_mul]
              have := hfit.1
              omega
            have hrun := run_make (P := P) w t e' ie z hu hie hz kl kc (m : Nat) (m : Nat) (by omega) (Int.le_refl _) hbb (by have := hfit.2; omega)
            simp only [Int.toNat_natCast] at hrun
            have hmc : madeCells z.cells (m * ie.size) = zs.toArray := by
              unfold madeCells
              rw [range_map, ← e1]
            rw [hmc] at hrun
            refine ⟨.slice (some ⟨w.heap.size, 0, none⟩) m m, w.alloc (.cells zs.toArray e'), put1 ι k (w.heap.size, zs.toArray.size), ?_, ?_, ?_⟩
            · simp only [execOp, h1, h2, Sem.run_bind, hrun, Result.andThen_ok, Sem.run_pure]
            · exact hr.new hlt hk' (b := ⟨e', zs.map .val, false⟩) (by simp only [Box.rel]; exact CVs.rel_map_val _)
            · have hl : zs.length = m * sz := by rw [← e1, ← e2]; simp
              simp [LV.rel, SV.rel, CV.rel, stat_cons, put1, hl]
theorem K.makeSlc {d m : Nat} {t e : TypeId} {x y : Operand} {ty : TypeId} {pos : String} {after_ : Array Edge} {g : Option (Nat × Bool)} {kl kc : IntKind} {zs : List Value} {sz : Nat} {zc : List CV} {bytes : Nat}
    (hx : (⟨s, bx, X⟩ : St).ev x = some (.sv (.one (.val (.int kl (m : Nat)))))) (hy : (⟨s, bx, X⟩ : St).ev y = some (.sv (.one (.val (.int kc (m : Nat)))))) (hst : slcBuild P t m = some (zs, sz, e)) (hby : (P.info? e).map (·.bytes) = some bytes) (hfit : bytes * m ≤ 281474976710656 ∧ m < 9223372036854775808)
    (hzc : zs.map .val = zc) (hk : (⟨s, bx, X⟩ : St).fresh d = true) (hw : Want ops s g) (kont : RunK P n ops os ⟨(d, .sv (.one (.slc d 0 m sz))) :: s, (d, some ⟨e, zc, false⟩) :: bx, X⟩ (⟨[(d, .sv (.one (.slc d 0 m sz)))], [], [(d, some ⟨e, zc, false⟩)]⟩ :: acc) K) :
    RunK P n ops (⟨some d, .makeSlice t x y, ty, pos, after_, g⟩ :: os) ⟨s, bx, X⟩ acc K := RunK.g2 (LOK.makeSlc hx hy hst hby hfit hzc hk) hw kont
end
end Go.Lg
end
section
namespace Go.Lg
open Go Go.RowKit
def slcInfo (P : Program) (t : TypeId) : Option (TypeId × Nat × Nat) :=
  match P.underlying t with
  | some (.slice e) =>
    match P.info? e with
    | some ie => match ie.zero with
      | some z => if z.cells.size = ie.size then some (e, ie.size, ie.bytes) else none
      | none => none
    | none => none
  | _ => none
section
variable {P : Program} {n : Nat} {ops os : List Oper} {acc : List Eff} {K : List Eff → St → Prop} {s : List (Nat × LV)} {bx : List (Nat × Option Box)} {X : Nat → Option Obj} {σ : St} {C : Ctx} {ι : Nat → Nat × Nat} {a : Act} {w : World}
theorem slcInfo_spec {t e : TypeId} {sz by_ : Nat} (h : slcInfo P t = some (e, sz, by_)) : ∃ ie z, P.underlying t = some (.slice e) ∧ P.info? e = some ie ∧ ie.zero = some z ∧ ie.size = sz ∧ ie.bytes = by_ ∧ z.cells.size = sz := by
  unfold slcInfo at h
  cases hu : P.underlying t with
  | none => simp [hu] at h
  | some d =>
    cases d <;> simp only [hu] at h <;> try (simp at h; done)
    rename_i e'
    cases hi : P.info? e' with
    | none => simp [hi] at h
    | some ie =>
      cases hz : ie.zero with
      | none => simp [hi, hz] at h
      | some z =>
        simp only [hi, hz] at h
        by_cases hs : z.cells.size = ie.size
        · rw [if_pos hs] at h
          simp only [Option.some.injEq, Prod.mk.injEq] at h
          obtain ⟨h1, h2, h3⟩ := h
          subst h1
          exact ⟨ie, z, rfl, hi, hz, h2, h3, hs.trans h2⟩
        · rw [if_neg hs] at h; cases h
theorem Rel.move (h : Rel n C ι σ a w) {k d : Nat} (hlt : d < 1000000) {b b' : Box} (hk : σ.stat k = some (some b)) (hkb : b.blk = true) (hd : σ.stat d = none) (he : b'.elem = b.elem) {arr : Array Value} (hs : arr.size = (ι k).2) (hb : b'.rel σ.stat ι arr.toList) :
    Rel n C (put1 ι d (ι k)) ⟨σ.slots, (d, some b') :: (k, none) :: σ.boxes, σ.X⟩ a (w.setRow (ι k).1 arr) := by
  have hkd : k ≠ d := fun e => by rw [e, hd] at hk; cases hk
  have hst : ∀ j, (⟨σ.slots, (d, some b') :: (k, none) :: σ.boxes, σ.X⟩ : St).stat j = if j = d then some (some b') else if j = k then some none else σ.stat j := fun j => by
    rw [stat_cons]
    by_cases e : j = d
    · rw [if_pos e, if_pos e]
    · rw [if_neg e, if_neg e]
      exact stat_cons σ.slots σ.boxes σ.X k j none
  have hlater : Later σ.stat (⟨σ.slots, (d, some b') :: (k, none) :: σ.boxes, σ.X⟩ : St).stat ι (put1 ι d (ι k)) := by
    intro j hj
    have hne : j ≠ d := by rintro rfl; exact hj hd
    rw [hst, if_neg hne]
    by_cases e : j = k
    · rw [if_pos e]; exact ⟨by simp, fun b1 hb1 => by simp at hb1⟩
    · rw [if_neg e]; exact ⟨hj, fun b1 hb1 => ⟨by simp [put1, hne], b1, hb1⟩⟩
  obtain ⟨old, ofr, hold, hot, hos, _⟩ := h.boxes k b hk hkb
  exact {
    defers := h.defers, size := h.size
    slots := fun x lv hx => by
      obtain ⟨v, hv, hr⟩ := h.slots x lv hx
      exact ⟨v, hv, LV.rel_later hlater hr⟩
    boxes := fun j b1 hb1 hbk => by
      rw [hst] at hb1
      by_cases e : j = d
      · subst e
        simp only [if_true, Option.some.injEq] at hb1
        subst hb1
        refine ⟨arr, ofr, ?_, by rw [hs, ← hos]; exact hot, by simp only [put1, if_true]; exact hs, Box.rel_later hlater hb⟩
        simp only [put1, if_true]
        rw [he]
        exact setRow_heap w (ι k).1 old arr b.elem ofr hold
      · rw [if_neg e] at hb1
        by_cases e2 : j = k
        · rw [if_pos e2] at hb1; simp at hb1
        · rw [if_neg e2] at hb1
          obtain ⟨arr', fr', ha', ht', hs', hr'⟩ := h.boxes j b1 hb1 hbk
          refine ⟨arr', fr', ?_, ht', by simp only [put1, e, if_false]; exact hs', Box.rel_later hlater hr'⟩
          simp only [put1, e, if_false]
          rw [setRow_other w (ι k).1 (ι j).1 arr (fun e' => e2 (h.inj j k b1 b hb1 hk e'))]
          exact ha'
    own := fun j b1 hb1 => by
      rw [hst] at hb1
      by_cases e : j = d
      · subst e; simp only [put1, if_true]; exact h.own k b hk
      · rw [if_neg e] at hb1
        by_cases e2 : j = k
        · rw [if_pos e2] at hb1; simp at hb1
        · rw [if_neg e2] at hb1; simp only [put1, e, if_false]; exact h.own j b1 hb1
    inj := fun i j bi bj hi hj heq => by
      rw [hst] at hi hj
      by_cases ei : i = d
      · by_cases ej : j = d
        · rw [ei, ej]
        · rw [if_neg ej] at hj
          by_cases e2 : j = k
          · rw [if_pos e2] at hj; simp at hj
          · rw [if_neg e2] at hj
            simp only [put1, ei, if_true, ej, if_false] at heq
            exact absurd (h.inj k j b bj hk hj heq) (Ne.symm e2)
      · rw [if_neg ei] at hi
        by_cases e1 : i = k
        · rw [if_pos e1] at hi; simp at hi
        · rw [if_neg e1] at hi
          by_cases ej : j = d
          · simp only [put1, ej, if_true, ei, if_false] at heq
            exact absurd (h.inj i k bi b hi hk heq) e1
          · rw [if_neg ej] at hj
            by_cases e2 : j = k
            · rw [if_pos e2] at hj; simp at hj
            · rw [if_neg e2] at hj
              simp only [put1, ei, ej, if_false] at heq
              exact h.inj i j bi bj hi hj heq
    keep := fun j b1 hb1 hj => by
      rw [hst] at hb1
      have e : j ≠ d := by omega
      rw [if_neg e] at hb1
      by_cases e2 : j = k
      · rw [if_pos e2] at hb1; simp at hb1
      · rw [if_neg e2] at hb1
        simp only [put1, e, if_false]
        exact h.keep j b1 hb1 hj
    ext := fun j o hj => by
      rw [setRow_other w (ι k).1 j arr (fun e => by rw [e, (h.own k b hk).2] at hj; simp at hj)]
      exact h.ext j o hj
    res := by
      obtain ⟨F, hF⟩ := h.res
      refine hF.keep (fun j e cs R hj => ?_) (fun j o _ _ hne hj => by rw [setRow_other w (ι k).1 j arr (fun e => hne k b hk hkb e.symm)]; exact hj) (fun j _ ho => ho) (fun _ _ hx _ _ => hx) (fun j bj hj => ?_)
      · rw [hst] at hj
        by_cases e : j = d
        · rw [if_pos e] at hj
          simp only [Option.some.injEq] at hj
          have := Box.blk_of hb
          rw [hj] at this; cases this
        · rw [if_neg e] at hj
          by_cases e2 : j = k
          · rw [if_pos e2] at hj; simp at hj
          · rw [if_neg e2] at hj; exact ⟨hj, by simp [put1, e]⟩
      · rw [hst] at hj
        by_cases e : j = d
        · exact .inr (.inl ⟨k, b, hk, hkb, by simp [put1, e]⟩)
        · rw [if_neg e] at hj
          by_cases e2 : j = k
          · rw [if_pos e2] at hj; simp at hj
          · rw [if_neg e2] at hj; exact .inl ⟨bj, hj, by simp [put1, e]⟩
    frame := fun j hj hn => by
      rw [setRow_other w (ι k).1 j arr (fun e => by
        rcases (h.own k b hk).1 with ho | ho
        · exact hn (by rw [e]; exact ho)
        · omega)]
      exact h.frame j hj hn
    big := by simp; exact h.big
    os := h.os, tape := h.tape, output := h.output }
theorem Rel.kill (h : Rel n C ι σ a w) {k : Nat} (hk : ∃ x, σ.stat k = some x) : Rel n C ι ⟨σ.slots, (k, none) :: σ.boxes, σ.X⟩ a w := by
  have hst : ∀ j, (⟨σ.slots, (k, none) :: σ.boxes, σ.X⟩ : St).stat j = if j = k then some none else σ.stat j := fun j => stat_cons _ _ _ _ j _
  have live : ∀ j b, (⟨σ.slots, (k, none) :: σ.boxes, σ.X⟩ : St).stat j = some (some b) → σ.stat j = some (some b) := fun j b hb => by
    rw [hst] at hb
    by_cases e : j = k
    · rw [if_pos e] at hb; simp at hb
    · rw [if_neg e] at hb; exact hb
  have hlater : Later σ.stat (⟨σ.slots, (k, none) :: σ.boxes, σ.X⟩ : St).stat ι ι := by
    intro j hj
    rw [hst]
    by_cases e : j = k
    · rw [if_pos e]; exact ⟨by simp, fun b hb => by simp at hb⟩
    · rw [if_neg e]; exact ⟨hj, fun b hb => ⟨rfl, b, hb⟩⟩
  exact {
    defers := h.defers, size := h.size
    slots := fun x lv hx => by
      obtain ⟨v, hv, hr⟩ := h.slots x lv hx
      exact ⟨v, hv, LV.rel_later hlater hr⟩
    boxes := fun j b hb hbk => by
      obtain ⟨arr, fr, h1, h2, h3, h4⟩ := h.boxes j b (live j b hb) hbk
      exact ⟨arr, fr, h1, h2, h3, Box.rel_later hlater h4⟩
    own := fun j b hb => h.own j b (live j b hb)
    inj := fun i j bi bj hi hj => h.inj i j bi bj (live i bi hi) (live j bj hj)
    keep := fun j b hb => h.keep j b (live j b hb)
    res := by
      obtain ⟨F, hF⟩ := h.res
      exact hF.keep (fun j e cs R hj => ⟨live j _ hj, rfl⟩) (fun _ _ _ _ _ hj => hj) (fun _ _ ho => ho) (fun _ _ hx _ _ => hx) (fun j bj hj => .inl ⟨bj, live j _ hj, rfl⟩)
    ext := h.ext, frame := h.frame, big := h.big, os := h.os, tape := h.tape, output := h.output }
theorem setCells_row {g : Nat} {t : TypeId} {fr : Nat × Nat} : ∀ (vs : List Value) (off : Nat) (cur : Array Value) (w : World), w.heap[g]? = some (.cells cur t fr) → off + vs.length ≤ cur.size →
    w.setCells g off vs = w.setRow g (cur.toList.take off ++ vs ++ cur.toList.drop (off + vs.length)).toArray
  | [], off, cur, w, hg, hl => by
    simp only [World.setCells, List.append_nil, List.length_nil, Nat.add_zero, List.take_append_drop, Array.toArray_toList]
    have hlt : g < w.heap.size := (Array.getElem?_eq_some_iff.1 hg).1
    have hv : w.heap[g] = .cells cur t fr := (Array.getElem?_eq_some_iff.1 hg).2
    unfold World.setRow
    cases w with
    | mk heap tape drawn os output =>
      congr 1
      apply Array.ext
      · simp
      · intro k h1 h2
        simp only [Array.getElem_modify]
        split
        · rename_i hk; subst hk; simp at hv; simp [hv]
        · rfl
  | v :: rest, off, cur, w, hg, hl => by
    have hi : off < cur.size := by simp at hl; omega
    have ih := setCells_row rest (off + 1) (cur.setIfInBounds off v) (w.setRow g (cur.setIfInBounds off v)) (setRow_heap w g cur _ t fr hg) (by simp at hl ⊢; omega)
    rw [World.setCells, setCell_eq_setRow w g off cur t fr v hg, ih, setRow_setRow]
    congr 2
    apply List.ext_getElem?
    intro j
    simp only [Array.toList_setIfInBounds, List.getElem?_append, List.length_take, List.length_set, Array.length_toList, List.length_append, List.getElem?_take, List.getElem?_set, List.getElem?_drop, List.length_cons]
    simp at hl
    rcases Nat.lt_trichotomy j off with hj | hj | hj
    · simp [show j < off + 1 by omega, show min (off + 1) cur.size = off + 1 by omega, show min off cur.size = off by omega, show off ≠ j by omega, hj, show j < off + 1 + rest.length by omega, show j < off + (rest.length + 1) by omega]
    · subst hj
      simp [show min (j + 1) cur.size = j + 1 by omega, show min j cur.size = j by omega, hi, show j < j + 1 + rest.length by omega]
    · by_cases h2 : j < off + (rest.length + 1)
      · simp [show ¬ j < off + 1 by omega, show min (off + 1) cur.size = off + 1 by omega, show min off cur.size = off by omega, show ¬ j < off by omega, show j < off + 1 + rest.length by omega, h2, show j - off = (j - (off + 1)) + 1 by omega]
      · simp [show min (off + 1) cur.size = off + 1 by omega, show min off cur.size = off by omega, show ¬ j < off + 1 + rest.length by omega, h2, show off + 1 + rest.length + (j - (off + 1 + rest.length)) = off + (rest.length + 1) + (j - (off + (rest.length + 1))) by omega]
        intro hh
        exact absurd hh (by omega)
theorem append_core {σ' : St} (hr : Rel n C ι σ' a w) {t tx ty e : TypeId} {sz by_ : Nat} (hinf : slcInfo P t = some (e, sz, by_)) {xv yv : Value} {k d len m c : Nat} {cells l2 : List CV} {news : List Value} {row : Bool}
    (hv : xv = .slice (some ⟨(ι k).1, 0, none⟩) len c) (hle : len ≤ c) (hcs : 0 + c * sz ≤ (ι k).2) (hk : σ'.stat k = some (some ⟨e, cells, row⟩)) (hcl : cells.length = len * sz)
    (hsrc : Src P sz tx yv m news w) (hl2 : CVs.rel σ'.stat ι l2 news) (hd : σ'.stat d = none) (hlt : d < 1000000) (hfit : (len + m) * by_ ≤ 140737488355328) (h63 : len + m < 9223372036854775808) :
    ∃ v w' ι', (Builtin.append_ #[t, tx] ty #[xv, yv]).run P w = .ok v w' ∧ Rel n C ι' ⟨σ'.slots, (d, some ⟨e, cells ++ l2, true⟩) :: (k, none) :: σ'.boxes, σ'.X⟩ a w' ∧
      (CV.slc d 0 (len + m) sz).rel (⟨σ'.slots, (d, some ⟨e, cells ++ l2, true⟩) :: (k, none) :: σ'.boxes, σ'.X⟩ : St).stat ι' v := by
  obtain ⟨ie, z, hu, hi, hz, hsz, hby, hzs⟩ := slcInfo_spec hinf
  subst hv
  obtain ⟨arr, fr, harr, hthaw, hasz, hbr⟩ := hr.boxes k _ hk rfl
  obtain ⟨us, sp, hus, hrel⟩ : ∃ us sp, arr.toList = us ++ sp ∧ CVs.rel σ'.stat ι cells us := by
    unfold Box.rel at hbr
    cases row with
    | false => exact ⟨arr.toList, [], by simp, hbr⟩
    | true => exact hbr
  have hul : us.length = len * sz := by rw [← CVs.rel_length hrel, hcl]
  have hnl : news.length = m * sz := hsrc.newsLen
  have hkd : k ≠ d := fun e => by rw [e, hd] at hk; cases hk
  have hstd : (⟨σ'.slots, (d, some ⟨e, cells ++ l2, true⟩) :: (k, none) :: σ'.boxes, σ'.X⟩ : St).stat d = some (some ⟨e, cells ++ l2, true⟩) := by rw [stat_cons, if_pos rfl]
  subst hsz hby
  have hasz' : arr.size = us.length + sp.length := by rw [← Array.length_toList, hus, List.length_append]
  by_cases hroom : len + m ≤ c
  · have hm : (len + m) * ie.size ≤ c * ie.size := Nat.mul_le_mul_right _ hroom
    rw [Nat.add_mul] at hm
    have hrun := run_append_room_src (P := P) w t tx ty e ie hu hi (ι k).1 0 len c yv m news hsrc hroom (fun j hj => by
        have hj2 : 0 + len * ie.size + j < arr.size := by omega
        simp [World.cell?, harr, Nat.zero_add] at hj2 ⊢
        omega) (fun j hj => by
        have h1 := hthaw (0 + len * ie.size + j) (by omega)
        obtain ⟨lo, hi'⟩ := fr
        simpa [World.frozen?, harr] using h1)
    rw [setCells_row news (0 + len * ie.size) arr w harr (by omega)] at hrun
    have htake : arr.toList.take (0 + len * ie.size) = us := by rw [hus, Nat.zero_add, ← hul, List.take_left]
    rw [htake] at hrun
    refine ⟨_, _, put1 ι d (ι k), hrun, ?_, ?_⟩
    · refine hr.move hlt hk rfl hd rfl (b' := ⟨e, cells ++ l2, true⟩) ?_ ?_
      · simp; omega
      · simp only [Box.rel]
        exact ⟨us ++ news, _, rfl, CVs.rel_append hrel hl2⟩
    · simp only [CV.rel, hstd, put1, if_true]
      exact ⟨c, rfl, hroom, hcs⟩
  · have hne := growslice_fits (need := len + m) (old := c) (bytes := ie.bytes) (by omega) hfit
    have hold := run_firstCells_some (P := P) w.drew ie.size len ⟨(ι k).1, 0, none⟩ len c us hul (fun j v hj => by
      rw [addr_add]
      have hj2 : arr.toList[0 + j]? = some v := by
        rw [hus, Nat.zero_add, List.getElem?_append_left (List.getElem?_eq_some_iff.1 hj).1]
        exact hj
      have h4 : w.drew.heap[(ι k).1]? = some (.cells arr e fr) := harr
      simp only [World.cell?, h4, Option.isSome_none, Bool.false_eq_true, if_false]
      simpa using hj2)
    have hrun := run_append_grow_src (P := P) w t tx ty e ie z hu hi hz (some ⟨(ι k).1, 0, none⟩) len c us hold yv m news hsrc (by omega) (by omega) hne
    refine ⟨_, _, _, hrun, (hr.drew.kill ⟨_, hk⟩).new hlt ?_ (b := ⟨e, cells ++ l2, true⟩) (arr := (us ++ news).toArray ++ Builtin.zeroCells z.cells (grownCap w (len + m) c e - (len + m))) ?_, ?_⟩
    · rw [stat_cons, if_neg (Ne.symm hkd)]; exact hd
    · simp only [Box.rel]
      refine ⟨us ++ news, (Builtin.zeroCells z.cells (grownCap w (len + m) c e - (len + m))).toList, by simp, ?_⟩
      have hlater : Later σ'.stat (⟨σ'.slots, (k, none) :: σ'.boxes, σ'.X⟩ : St).stat ι ι := by
        intro j hj
        rw [stat_cons]
        by_cases e : j = k
        · rw [if_pos e]; exact ⟨by simp, fun b hb => by simp at hb⟩
        · rw [if_neg e]; exact ⟨hj, fun b hb => ⟨rfl, b, hb⟩⟩
      exact CVs.rel_later hlater (CVs.rel_append hrel hl2)
    · simp only [CV.rel, hstd, put1, if_true]
      have hge := grownCap_ge w (len + m) c e
      refine ⟨_, rfl, hge, ?_⟩
      have hzc : (Builtin.zeroCells z.cells (grownCap w (len + m) c e - (len + m))).size = (grownCap w (len + m) c e - (len + m)) * ie.size := by
        simp [Builtin.zeroCells, hzs]
      rw [Array.size_append, hzc]
      have h5 : grownCap w (len + m) c e = (grownCap w (len + m) c e - (len + m)) + (len + m) := by omega
      generalize grownCap w (len + m) c e - (len + m) = q at *
      rw [h5, Nat.add_mul, Nat.add_mul]
      simp
      omega
theorem LOK.appendSlc {d k k2 len m sz by_ : Nat} {t tx e e2 : TypeId} {x y : Operand} {ty : TypeId} {pos : String} {after_ : Array Edge} {g : Option (Nat × Bool)} {cells l2 : List CV} {row : Bool} {e3 : TypeId} {cs2 : List CV} {row2 : Bool}
    (hx : σ.ev x = some (.sv (.one (.slc k 0 len sz)))) (hk : σ.stat k = some (some ⟨e, cells, row⟩)) (hcl : cells.length = len * sz) (hy : σ.ev y = some (.sv (.one (.slc k2 0 m sz)))) (hk2 : σ.stat k2 = some (some ⟨e3, cs2, row2⟩)) (hm2 : m * sz ≤ cs2.length) (hl2 : cs2.take (m * sz) = l2) (hso : l2.all CV.solid = true)
    (hinf : slcInfo P t = some (e, sz, by_)) (htx : P.underlying tx = some (.slice e2)) (hfit : (len + m) * by_ ≤ 140737488355328) (h63 : len + m < 9223372036854775808) (hd : σ.fresh d = true) :
    LOK P n ops ⟨some d, .call ⟨.builtin .append, #[x, y], #[t, tx]⟩, ty, pos, after_, g⟩ σ ⟨[(d, .sv (.one (.slc d 0 (len + m) sz)))], [k2], [(d, some ⟨e, cells ++ l2, true⟩), (k, none)]⟩ :=
  LOK.make fun σ' ha C ι a w hr => by
    have hk' : σ'.stat k = _ := (ha.stat k (.inr (by simp))).trans hk
    have hk2' : σ'.stat k2 = _ := (ha.stat k2 (.inl (by simp))).trans hk2
    have hd' : σ'.stat d = none := (ha.stat d (.inr (by simp))).trans (St.fresh_none hd)
    have h1 := hr.ev ((ha.ev (x := x) (by simp [Op.operands, Call.operands])).trans hx)
    have h2 := hr.ev ((ha.ev (x := y) (by simp [Op.operands, Call.operands])).trans hy)
    simp only [LV.rel, SV.rel, CV.rel, hk'] at h1
    simp only [LV.rel, SV.rel, CV.rel, hk2'] at h2
    obtain ⟨c, h1, hle, hcs⟩ := h1
    obtain ⟨c2, h2, -, -⟩ := h2
    obtain ⟨arr2, fr2, harr2, -, -, hbr2⟩ := hr.boxes k2 _ hk2' rfl
    obtain ⟨hsz2, hpart⟩ := Box.rel_part hbr2 (off := 0) (m := m * sz) (by show 0 + m * sz ≤ cs2.length; omega)
    rw [List.drop_zero, hl2, List.drop_zero] at hpart
    have hlen2 : (arr2.toList.take (m * sz)).length = m * sz := by simp at hsz2 ⊢; omega
    have hone : ∀ u ∈ arr2.toList.take (m * sz), u.oneCell' = true := (SV.cells_ok (s := .agg l2) (v := .agg (arr2.toList.take (m * sz)).toArray) ⟨_, rfl, by simpa using hpart⟩ hso).2 |> fun h u hu => h u (by simpa [Value.cells] using hu)
    have hsrc := Src.ofSlice (P := P) w (size := sz) htx ⟨(ι k2).1, 0, none⟩ m c2 (arr2.toList.take (m * sz)) hlen2 (fun j u hj => by
      rw [addr_add]
      simp only [World.cell?, harr2, Option.isSome_none, Bool.false_eq_true, if_false]
      rw [List.getElem?_take] at hj
      split at hj
      · simpa using hj
      · simp at hj) hone
    obtain ⟨v, w', ι', hrun, hrel, hv⟩ := append_core (ty := ty) hr hinf (xv := a.eval x) (yv := a.eval y) h1 hle hcs hk' hcl (by rw [h2]; exact hsrc) hpart hd' (St.fresh_lt hd) hfit h63
    exact ⟨v, w', ι', by simp [execOp, resolve, invoke, builtin, hrun], hrel, hv⟩
theorem K.appendSlc {d k k2 len m sz by_ : Nat} {t tx e e2 : TypeId} {x y : Operand} {ty : TypeId} {pos : String} {after_ : Array Edge} {g : Option (Nat × Bool)} {cells l2 : List CV} {row : Bool} {e3 : TypeId} {cs2 : List CV} {row2 : Bool}
    (hx : (⟨s, bx, X⟩ : St).ev x = some (.sv (.one (.slc k 0 len sz)))) (hk : (⟨s, bx, X⟩ : St).stat k = some (some ⟨e, cells, row⟩)) (hcl : cells.length = len * sz) (hy : (⟨s, bx, X⟩ : St).ev y = some (.sv (.one (.slc k2 0 m sz)))) (hk2 : (⟨s, bx, X⟩ : St).stat k2 = some (some ⟨e3, cs2, row2⟩)) (hm2 : m * sz ≤ cs2.length) (hl2 : cs2.take (m * sz) = l2) (hso : l2.all CV.solid = true)
    (hinf : slcInfo P t = some (e, sz, by_)) (htx : P.underlying tx = some (.slice e2)) (hfit : (len + m) * by_ ≤ 140737488355328) (h63 : len + m < 9223372036854775808) (hd : (⟨s, bx, X⟩ : St).fresh d = true) {nl : Nat} {nc : List CV} (hnl : len + m = nl) (hnc : cells ++ l2 = nc) (hw : Want ops s g)
    (kont : RunK P n ops os ⟨(d, .sv (.one (.slc d 0 nl sz))) :: s, (d, some ⟨e, nc, true⟩) :: (k, none) :: bx, X⟩ (⟨[(d, .sv (.one (.slc d 0 nl sz)))], [k2], [(d, some ⟨e, nc, true⟩), (k, none)]⟩ :: acc) K) :
    RunK P n ops (⟨some d, .call ⟨.builtin .append, #[x, y], #[t, tx]⟩, ty, pos, after_, g⟩ :: os) ⟨s, bx, X⟩ acc K := by
  subst hnl hnc
  exact RunK.gen hw (LOK.appendSlc hx hk hcl hy hk2 hm2 hl2 hso hinf htx hfit h63 hd) kont
end
end Go.Lg
end
section
namespace Go.Lg
open Go Go.RowKit
def weakC : List CV → List CV → Prop
  | [], [] => True
  | .junk :: r, _ :: r' => weakC r r'
  | c :: r, c' :: r' => c = c' ∧ weakC r r'
  | _, _ => False
theorem weakC_rel {S : Nat → Option (Option Box)} {ι : Nat → Nat × Nat} : ∀ {l l' : List CV} {vs : List Value}, weakC l l' → CVs.rel S ι l' vs → CVs.rel S ι l vs
  | [], [], [], _, _ => trivial
  | [], [], _ :: _, _, h => h.elim
  | .junk :: _, _ :: _, _ :: _, hw, h => ⟨trivial, weakC_rel hw h.2⟩
  | .val _ :: _, _ :: _, _ :: _, hw, h => ⟨by rw [hw.1]; exact h.1, weakC_rel hw.2 h.2⟩
  | .ptr _ _ :: _, _ :: _, _ :: _, hw, h => ⟨by rw [hw.1]; exact h.1, weakC_rel hw.2 h.2⟩
  | .slc _ _ _ _ :: _, _ :: _, _ :: _, hw, h => ⟨by rw [hw.1]; exact h.1, weakC_rel hw.2 h.2⟩
  | .mp _ :: _, _ :: _, _ :: _, hw, h => ⟨by rw [hw.1]; exact h.1, weakC_rel hw.2 h.2⟩
  | .fn _ _ _ :: _, _ :: _, _ :: _, hw, h => ⟨by rw [hw.1]; exact h.1, weakC_rel hw.2 h.2⟩
  | .hang _ _ _ :: _, _ :: _, _ :: _, hw, h => ⟨by rw [hw.1]; exact h.1, weakC_rel hw.2 h.2⟩
  | [], _ :: _, _, hw, _ => hw.elim
  | .val _ :: _, [], _, hw, _ => hw.elim
  | .ptr _ _ :: _, [], _, hw, _ => hw.elim
  | .slc _ _ _ _ :: _, [], _, hw, _ => hw.elim
  | .mp _ :: _, [], _, hw, _ => hw.elim
  | .fn _ _ _ :: _, [], _, hw, _ => hw.elim
  | .hang _ _ _ :: _, [], _, hw, _ => hw.elim
  | .junk :: _, [], _, hw, _ => hw.elim
  | _ :: _, _ :: _, [], _, h => h.elim
def Weak (b b' : Box) : Prop := b.elem = b'.elem ∧ b.row = b'.row ∧ weakC b.cells b'.cells
theorem Weak.refl (b : Box) : Weak b b := by
  have : ∀ l : List CV, weakC l l := by
    intro l
    induction l with
    | nil => trivial
    | cons c l ih => cases c <;> first | exact ih | exact ⟨rfl, ih⟩
  exact ⟨rfl, rfl, this _⟩
theorem Weak.rel {S : Nat → Option (Option Box)} {ι : Nat → Nat × Nat} {b b' : Box} (h : Weak b b') {vs : List Value} (hr : b'.rel S ι vs) : b.rel S ι vs := by
  obtain ⟨_, h2, h3⟩ := h
  unfold Box.rel at hr ⊢
  rw [h2]
  cases hb : b'.row with
  | res R => rw [hb] at hr; exact hr.elim
  | bool r =>
    cases r with
    | false => rw [hb] at hr; exact weakC_rel h3 hr
    | true => rw [hb] at hr; obtain ⟨us, sp, e, hl⟩ := hr; exact ⟨us, sp, e, weakC_rel h3 hl⟩
end Go.Lg
end
section
namespace Go.Lg
open Go Go.RowKit Go.ChangeShapes Go.WideShapes Go.Joins
section
variable {H : Type} {enc : TypeId × Value → H} {P : Program} {w : World}
theorem below_trodAll (hl : laidOutB P = true) {W W' : World} (hb : Below W.heap.size W W') : ∀ {ts : List TypeId} {vs : List Value} {ds : List (DataW H)} {ps : List MemPlace},
    (ts.all fun t => P.readableRec t && Nat.blt t P.types.size) = true → DataW.TrodAll enc P W 0 (fun _ => true) true ts vs ds ps → (∀ x ∈ ps, x.block < W.heap.size) →
    DataW.TrodAll enc P W' 0 (fun b => decide (b < W.heap.size)) true ts vs ds ps
  | [], vs, ds, ps, _, h, _ => by
    obtain ⟨rfl, rfl, rfl⟩ := trodAll_nil h
    exact trodAll_mk0
  | t :: ts, vs, ds, ps, ht, h, hlt => by
    simp only [List.all_cons, Bool.and_eq_true, Nat.blt_eq] at ht
    obtain ⟨v, vs', d, ds', p, q, rfl, rfl, rfl, hd, hrest⟩ := trodAll_cons h
    have h1 := Below.trod hl ht.1.1 ht.1.2 hd hb (fun x hx => hlt x (by simp [hx]))
    have h2 := below_trodAll hl hb (by simpa [Bool.and_eq_true, Nat.blt_eq] using ht.2) hrest (fun x hx => hlt x (by simp [hx]))
    exact ⟨p, q, h1, h2, rfl⟩
def OneIn (X : Nat → Option Obj) (ad : Option Addr) (vs : List Value) : Prop := ∀ i v, vs[i]? = some v → ∃ (blk off : Nat) (arr : Array Value) (el : TypeId) (fr : Nat × Nat), ad = some ⟨blk, off, none⟩ ∧ X blk = some (.cells arr el fr) ∧ arr[off + i]? = some v
theorem cell_at {a : Addr} {k : Nat} {c : Value} (hs : a.spot = none) (h : w.cell? (a.add k) = some c) : ∃ (arr : Array Value) (el : TypeId) (fr : Nat × Nat), w.heap[a.block]? = some (.cells arr el fr) ∧ arr[a.off + k]? = some c := by
  obtain ⟨b, o, s⟩ := a
  simp only at hs
  subst hs
  rw [Addr.add_lit] at h
  unfold World.cell? at h
  split at h
  · rename_i arr el fr he
    exact ⟨arr, el, fr, he, by simpa using h⟩
  · cases h
theorem spot_none {a : Addr} {c : Value} (h : w.cell? (a.add 0) = some c) : a.spot = none := by
  have e1 : a.add 0 = a := by unfold Addr.add; rw [if_pos rfl]
  rw [e1] at h
  unfold World.cell? at h
  split at h
  · cases hs : a.spot with
    | none => rfl
    | some _ => rw [hs] at h; simp at h
  · cases h
theorem map_of {α β : Type} {f : β → α} {q : β → Prop} : ∀ {vs : List α}, (∀ u, u ∈ vs → ∃ k, u = f k ∧ q k) → ∃ ks : List β, vs = ks.map f ∧ ∀ k, k ∈ ks → q k
  | [], _ => ⟨[], rfl, fun k hk => by simp at hk⟩
  | v :: vs, h => by
    obtain ⟨k, rfl, hq⟩ := h v (by simp)
    obtain ⟨ks, rfl, hqs⟩ := map_of (vs := vs) (fun u hu => h u (by simp [hu]))
    refine ⟨k :: ks, rfl, fun j hj => ?_⟩
    rcases List.mem_cons.1 hj with rfl | h2
    · exact hq
    · exact hqs j h2
end
theorem rel_args : ∀ (vals : List Value), LVs.rel noS (fun _ => (0, 0)) (vals.map toLV) vals
  | [] => trivial
  | v :: vs => ⟨toLV_rel _ _ v, rel_args vs⟩
theorem law_calls {P : Program} {f : FuncId} {W : World} (vals : List Value) (hp : PSpec P (fun b => W.heap[b]?) f (vals.map toLV) (.sv (.one (.val (.bool true))))) :
    Calls P f vals.toArray W (fun e W' => e = .returned (.bool true) ∧ Below W.heap.size W W') := by
  refine (hp.out W vals.toArray (fun _ _ h => h) (by simpa using rel_args vals)).mono ?_
  rintro e W' ⟨v, rfl, hr, hb⟩
  simp only [LV.rel, SV.rel, CV.rel] at hr
  exact ⟨by rw [hr], hb⟩
end Go.Lg
end
section
namespace Go.Lg
open Go Go.RowKit
theorem LWP.cut {P : Program} {n : Nat} {C : Ctx} {x z y : Code} {Q Q1 Q2 : Exit → St → Prop} {σ : St} (Mid : St → Prop)
    (h : LWP P n C x (thenQ (LWP P n C z (thenQ (fun σ' => ∃ σ'', Le n C σ' σ'' ∧ Mid σ'') (fun _ _ => False))) (fun _ _ => False)) σ) (hm : ∀ σ, Mid σ → LWP P n C y Q σ) :
    LWP P n C x (thenQ (LWP P n C z (thenQ (LWP P n C y Q) Q1)) Q2) σ := by
  refine h.mono ?_
  intro e σ' hq
  cases e with
  | normal => exact LWP.meet0 Mid hq hm
  | exit id' => exact hq.elim
  | goto l => exact hq.elim
  | ret => exact hq.elim
  | panic c => exact hq.elim
  | outgrown => exact hq.elim
end Go.Lg
end
section
namespace Go.Lg
open Go Go.RowKit
theorem ren_vals (f : Nat → Nat) : ∀ (l : List Value), (l.map CV.val).map (CV.ren f) = l.map CV.val
  | [] => rfl
  | c :: l => by rw [List.map_cons, List.map_cons, ren_vals f l]; rfl
theorem Box.ren_vals (f : Nat → Nat) (e : TypeId) (l : List Value) (r : Bool) : Box.ren f ⟨e, l.map CV.val, r⟩ = ⟨e, l.map CV.val, r⟩ := by
  unfold Box.ren
  simp only [Go.Lg.ren_vals]
theorem vals_inUse {bx : List (Nat × Option Box)} : ∀ {l : List Value}, (l.map CV.val).all (CV.inUse bx) = true
  | [] => rfl
  | c :: l => by rw [List.map_cons, List.all_cons, vals_inUse]; rfl
section
variable {S T : Nat → Option (Option Box)} {ι : Nat → Nat × Nat} {bx : List (Nat × Option Box)}
def SameOn (bx : List (Nat × Option Box)) (S T : Nat → Option (Option Box)) : Prop := ∀ k x, look k bx = some x → S k = T k
theorem CV.rel_on (h : SameOn bx S T) {c : CV} (hu : c.inUse bx = true) {v : Value} (hr : c.rel S ι v) : c.rel T ι v := by
  cases c with
  | val u => exact hr
  | junk => trivial
  | ptr k off =>
    simp only [CV.inUse, Option.isSome_iff_exists] at hu
    obtain ⟨x, hx⟩ := hu
    simp only [CV.rel] at hr ⊢
    rw [← h k x hx]; exact hr
  | slc k off n sz =>
    simp only [CV.inUse, Option.isSome_iff_exists] at hu
    obtain ⟨x, hx⟩ := hu
    simp only [CV.rel] at hr ⊢
    rw [← h k x hx]; exact hr
  | mp k =>
    simp only [CV.inUse, Option.isSome_iff_exists] at hu
    obtain ⟨x, hx⟩ := hu
    simp only [CV.rel] at hr ⊢
    rw [← h k x hx]; exact hr
  | fn fi gi k =>
    simp only [CV.inUse, Option.isSome_iff_exists] at hu
    obtain ⟨x, hx⟩ := hu
    simp only [CV.rel] at hr ⊢
    rw [← h k x hx]; exact hr
  | hang g hg k =>
    simp only [CV.inUse, Option.isSome_iff_exists] at hu
    obtain ⟨x, hx⟩ := hu
    simp only [CV.rel] at hr ⊢
    rw [← h k x hx]; exact hr
theorem CVs.rel_on (h : SameOn bx S T) : ∀ {l : List CV} {vs : List Value}, l.all (CV.inUse bx) = true → CVs.rel S ι l vs → CVs.rel T ι l vs
  | [], [], _, _ => trivial
  | _ :: _, _ :: _, hu, hr => by
    simp only [List.all_cons, Bool.and_eq_true] at hu
    exact ⟨CV.rel_on h hu.1 hr.1, CVs.rel_on h hu.2 hr.2⟩
  | [], _ :: _, _, hr => hr.elim
  | _ :: _, [], _, hr => hr.elim
theorem SV.rel_on (h : SameOn bx S T) {s : SV} (hu : s.inUse bx = true) {v : Value} (hr : s.rel S ι v) : s.rel T ι v := by
  cases s with
  | one c => exact CV.rel_on h hu hr
  | agg l => obtain ⟨arr, e, hl⟩ := hr; exact ⟨arr, e, CVs.rel_on h hu hl⟩
theorem SVs.rel_on (h : SameOn bx S T) : ∀ {l : List SV} {vs : List Value}, l.all (SV.inUse bx) = true → SVs.rel S ι l vs → SVs.rel T ι l vs
  | [], [], _, _ => trivial
  | _ :: _, _ :: _, hu, hr => by
    simp only [List.all_cons, Bool.and_eq_true] at hu
    exact ⟨SV.rel_on h hu.1 hr.1, SVs.rel_on h hu.2 hr.2⟩
  | [], _ :: _, _, hr => hr.elim
  | _ :: _, [], _, hr => hr.elim
theorem LV.rel_on (h : SameOn bx S T) {s : LV} (hu : s.inUse bx = true) {v : Value} (hr : s.rel S ι v) : s.rel T ι v := by
  cases s with
  | sv s => exact SV.rel_on h hu hr
  | tup l => obtain ⟨arr, e, hl⟩ := hr; exact ⟨arr, e, SVs.rel_on h hu hl⟩
theorem Box.rel_on (h : SameOn bx S T) {b : Box} (hu : b.cells.all (CV.inUse bx) = true) {vs : List Value} (hr : b.rel S ι vs) : b.rel T ι vs := by
  unfold Box.rel at hr ⊢
  cases hb : b.row with
  | res R => rw [hb] at hr; exact hr.elim
  | bool r =>
    cases r with
    | false => rw [hb] at hr; exact CVs.rel_on h hu hr
    | true => rw [hb] at hr; obtain ⟨us, sp, e, hl⟩ := hr; exact ⟨us, sp, e, CVs.rel_on h hu hl⟩
theorem CV.rel_means {κ : Nat → Nat × Nat} (h : ∀ k, (look k bx).isSome = true → κ k = ι k) {c : CV} (hu : c.inUse bx = true) {v : Value} (hr : c.rel S ι v) : c.rel S κ v := by
  cases c with
  | val u => exact hr
  | junk => trivial
  | ptr k off =>
    simp only [CV.rel] at hr ⊢
    rw [h k hu]; exact hr
  | slc k off n sz =>
    simp only [CV.rel] at hr ⊢
    rw [h k hu]; exact hr
  | mp k =>
    simp only [CV.rel] at hr ⊢
    rw [h k hu]; exact hr
  | fn fi gi k =>
    simp only [CV.rel] at hr ⊢
    rw [h k hu]; exact hr
  | hang g hg k =>
    simp only [CV.rel] at hr ⊢
    rw [h k hu]; exact hr
theorem CVs.rel_means {κ : Nat → Nat × Nat} (h : ∀ k, (look k bx).isSome = true → κ k = ι k) : ∀ {l : List CV} {vs : List Value}, l.all (CV.inUse bx) = true → CVs.rel S ι l vs → CVs.rel S κ l vs
  | [], [], _, _ => trivial
  | _ :: _, _ :: _, hu, hr => by
    simp only [List.all_cons, Bool.and_eq_true] at hu
    exact ⟨CV.rel_means h hu.1 hr.1, CVs.rel_means h hu.2 hr.2⟩
  | [], _ :: _, _, hr => hr.elim
  | _ :: _, [], _, hr => hr.elim
theorem SV.rel_means {κ : Nat → Nat × Nat} (h : ∀ k, (look k bx).isSome = true → κ k = ι k) {s : SV} (hu : s.inUse bx = true) {v : Value} (hr : s.rel S ι v) : s.rel S κ v := by
  cases s with
  | one c => exact CV.rel_means h hu hr
  | agg l => obtain ⟨arr, e, hl⟩ := hr; exact ⟨arr, e, CVs.rel_means h hu hl⟩
theorem SVs.rel_means {κ : Nat → Nat × Nat} (h : ∀ k, (look k bx).isSome = true → κ k = ι k) : ∀ {l : List SV} {vs : List Value}, l.all (SV.inUse bx) = true → SVs.rel S ι l vs → SVs.rel S κ l vs
  | [], [], _, _ => trivial
  | _ :: _, _ :: _, hu, hr => by
    simp only [List.all_cons, Bool.and_eq_true] at hu
    exact ⟨SV.rel_means h hu.1 hr.1, SVs.rel_means h hu.2 hr.2⟩
  | [], _ :: _, _, hr => hr.elim
  | _ :: _, [], _, hr => hr.elim
theorem LV.rel_means {κ : Nat → Nat × Nat} (h : ∀ k, (look k bx).isSome = true → κ k = ι k) {s : LV} (hu : s.inUse bx = true) {v : Value} (hr : s.rel S ι v) : s.rel S κ v := by
  cases s with
  | sv s => exact SV.rel_means h hu hr
  | tup l => obtain ⟨arr, e, hl⟩ := hr; exact ⟨arr, e, SVs.rel_means h hu hl⟩
end
section
variable {P : Program} {n : Nat} {C : Ctx} {c : Code} {Q : Exit → St → Prop} {X : Nat → Option Obj}
def withBlock (X : Nat → Option Obj) (blk : Nat) (o : Obj) : Nat → Option Obj := fun b => if b = blk then some o else X b
theorem withBlock_at (X : Nat → Option Obj) (blk : Nat) (o : Obj) : withBlock X blk o blk = some o := if_pos rfl
theorem withBlock_old {X : Nat → Option Obj} {blk : Nat} {o : Obj} (hn : X blk = none) : ∀ b o', X b = some o' → withBlock X blk o b = some o' := fun b o' h => by
  unfold withBlock
  rw [if_neg (by rintro rfl; rw [hn] at h; cases h)]
  exact h
theorem look_mem {α : Type} {k : Nat} {x : α} : ∀ {l : List (Nat × α)}, look k l = some x → (k, x) ∈ l
  | [], h => by simp [look] at h
  | p :: l, h => by
    simp only [look] at h
    cases e : Nat.beq p.1 k with
    | true =>
      rw [e] at h
      simp at h
      have := Nat.eq_of_beq_eq_true e
      rw [← this, ← h]
      exact List.mem_cons_self
    | false => rw [e] at h; exact List.mem_cons_of_mem _ (look_mem (by simpa using h))
theorem rel_vals {S : Nat → Option (Option Box)} {ι : Nat → Nat × Nat} : ∀ {l : List Value} {vs : List Value}, CVs.rel S ι (l.map .val) vs → vs = l
  | [], [], _ => rfl
  | v :: l, u :: vs, h => by rw [rel_vals h.2]; have : u = v := h.1; rw [this]
  | [], _ :: _, h => h.elim
  | _ :: _, [], h => h.elim
structure Frozen (C : Ctx) (blk : Nat) (arr : Array Value) (fr : Nat × Nat) : Prop where
  own : C.own blk ∨ C.w0.heap.size ≤ blk
  thaw : Thaw fr arr.size
theorem Rel.freeze {ι : Nat → Nat × Nat} {a : Act} {w : World} {s : List (Nat × LV)} {bx : List (Nat × Option Box)} {d k off len sz : Nat} {el : TypeId} {vals : List Value} {row : Bool}
    (hs : s.all (fun p => p.2.inUse bx) = true) (hb : bx.all (fun p => match p.2 with | some b => b.cells.all (CV.inUse bx) | none => true) = true) (hk : look k bx = none)
    (hr : Rel n C ι ⟨(d, .sv (.one (.slc k off len sz))) :: s, (k, some ⟨el, vals.map .val, row⟩) :: bx, X⟩ a w) :
    ∃ (blk cap : Nat) (arr : Array Value) (fr : Nat × Nat), X blk = none ∧ Frozen C blk arr fr ∧ len ≤ cap ∧ off + cap * sz ≤ arr.size ∧ (∃ sp, arr.toList = vals ++ sp) ∧
      Rel n C ι ⟨(d, .sv (.one (.val (.slice (some ⟨blk, off, none⟩) len cap)))) :: s, bx, withBlock X blk (.cells arr el fr)⟩ a w := by
  have hst : (⟨(d, .sv (.one (.slc k off len sz))) :: s, (k, some ⟨el, vals.map .val, row⟩) :: bx, X⟩ : St).stat k = some (some ⟨el, vals.map .val, row⟩) := by
    simp [St.stat, look]
  have hlk : ∀ k' x, look k' bx = some x → k' ≠ k := fun k' x h' e => by rw [e, hk] at h'; cases h'
  have hstb : ∀ k' x, look k' bx = some x → (⟨(d, .sv (.one (.slc k off len sz))) :: s, (k, some ⟨el, vals.map .val, row⟩) :: bx, X⟩ : St).stat k' = some x := fun k' x h' => by
    simp only [St.stat, look]
    cases e : Nat.beq k k' with
    | true => exact absurd (Nat.eq_of_beq_eq_true e).symm (hlk k' x h')
    | false => exact h'
  obtain ⟨arr, fr, harr, hth, hsz, hbr⟩ := hr.boxes k _ hst rfl
  obtain ⟨v, hv, hvr⟩ := hr.slots d (.sv (.one (.slc k off len sz))) (by simp [St.slot, look])
  simp only [LV.rel, SV.rel, CV.rel] at hvr
  rw [hst] at hvr
  obtain ⟨cap, rfl, hcap, hfit⟩ := hvr
  have hXn : X (ι k).1 = none := (hr.own k _ hst).2
  have hsp : ∃ sp, arr.toList = vals ++ sp := by
    unfold Box.rel at hbr
    cases hrow : row with
    | false =>
      rw [hrow] at hbr
      exact ⟨[], by rw [List.append_nil]; exact rel_vals hbr⟩
    | true =>
      rw [hrow] at hbr
      obtain ⟨us, sp, e, hl⟩ := hbr
      exact ⟨sp, by rw [e, rel_vals hl]⟩
  refine ⟨(ι k).1, cap, arr, fr, hXn, ⟨(hr.own k _ hst).1, hth⟩, hcap, by omega, hsp, ?_⟩
  have hon : SameOn bx (⟨(d, .sv (.one (.slc k off len sz))) :: s, (k, some ⟨el, vals.map .val, row⟩) :: bx, X⟩ : St).stat (fun k => look k bx) := fun k' x h' => (hstb k' x h').trans h'.symm
  exact {
    defers := hr.defers, size := hr.size
    slots := fun d' lv hd => by
      simp only [St.slot, look] at hd
      cases e : Nat.beq d d' with
      | true =>
        rw [e] at hd
        simp at hd
        subst hd
        have := Nat.eq_of_beq_eq_true e
        subst this
        exact ⟨_, hv, rfl⟩
      | false =>
        rw [e] at hd
        have hd : look d' s = some lv := by simpa using hd
        obtain ⟨v', hv', hr'⟩ := hr.slots d' lv (by simp only [St.slot, look, e]; exact hd)
        exact ⟨v', hv', LV.rel_on hon (List.all_eq_true.1 hs _ (look_mem hd)) hr'⟩
    res := by
      obtain ⟨F, hF⟩ := hr.res
      refine hF.keep (fun j e cs R hj => ⟨hstb j _ hj, rfl⟩) (fun _ _ _ _ _ hj => hj) (fun _ _ ho => ho) (fun b _ hx hne _ => ?_) (fun j bj hj => .inl ⟨bj, hstb j _ hj, rfl⟩)
      show withBlock X (ι k).1 _ b = none
      unfold withBlock
      rw [if_neg (fun e => hne k _ hst rfl e.symm)]
      exact hx
    boxes := fun k' b hb' hbk => by
      have hb' : look k' bx = some (some b) := hb'
      obtain ⟨arr', fr', h1, h2, h3, h4⟩ := hr.boxes k' b (hstb k' _ hb') hbk
      exact ⟨arr', fr', h1, h2, h3, Box.rel_on hon (by simpa using List.all_eq_true.1 hb _ (look_mem hb')) h4⟩
    own := fun k' b hb' => by
      have hb' : look k' bx = some (some b) := hb'
      obtain ⟨h1, h2⟩ := hr.own k' b (hstb k' _ hb')
      refine ⟨h1, ?_⟩
      show withBlock X (ι k).1 _ (ι k').1 = none
      unfold withBlock
      rw [if_neg (fun e => hlk k' _ hb' (hr.inj k' k b _ (hstb k' _ hb') hst e))]
      exact h2
    inj := fun k1 k2 b1 b2 h1 h2 he => hr.inj k1 k2 b1 b2 (hstb k1 _ h1) (hstb k2 _ h2) he
    keep := fun k' b hb' hge => hr.keep k' b (hstb k' _ hb') hge
    ext := fun b o hbo => by
      have hbo : withBlock X (ι k).1 (.cells arr el fr) b = some o := hbo
      unfold withBlock at hbo
      by_cases e : b = (ι k).1
      · rw [if_pos e] at hbo
        rw [e, harr]; exact hbo
      · rw [if_neg e] at hbo
        exact hr.ext b o hbo
    frame := hr.frame, big := hr.big, os := hr.os, tape := hr.tape, output := hr.output }
theorem LWP.freeze {s : List (Nat × LV)} {bx : List (Nat × Option Box)} {d k off len sz : Nat} {el : TypeId} {vals : List Value} {row : Bool}
    (hs : s.all (fun p => p.2.inUse bx) = true) (hb : bx.all (fun p => match p.2 with | some b => b.cells.all (CV.inUse bx) | none => true) = true) (hk : look k bx = none)
    (h : ∀ (blk cap : Nat) (arr : Array Value) (fr : Nat × Nat), X blk = none → Frozen C blk arr fr → len ≤ cap → off + cap * sz ≤ arr.size → (∃ sp, arr.toList = vals ++ sp) →
      LWP P n C c Q ⟨(d, .sv (.one (.val (.slice (some ⟨blk, off, none⟩) len cap)))) :: s, bx, withBlock X blk (.cells arr el fr)⟩) :
    LWP P n C c Q ⟨(d, .sv (.one (.slc k off len sz))) :: s, (k, some ⟨el, vals.map .val, row⟩) :: bx, X⟩ := by
  refine ⟨fun ι a w hr => ?_⟩
  obtain ⟨blk, cap, arr, fr, h1, h2, h3, h4, h5, h6⟩ := hr.freeze hs hb hk
  exact (h blk cap arr fr h1 h2 h3 h4 h5).out ι a w h6
theorem Rel.thaw {ι : Nat → Nat × Nat} {a : Act} {w : World} {s : List (Nat × LV)} {bx : List (Nat × Option Box)} {d k off len sz blk cap : Nat} {el : TypeId} {vals : List Value} {arr : Array Value} {fr : Nat × Nat}
    (hX : X blk = none) (hF : Frozen C blk arr fr) (hc : len ≤ cap) (hfit : off + cap * sz ≤ arr.size) (hsp : ∃ sp, arr.toList = vals ++ sp)
    (hs : s.all (fun p => p.2.inUse bx) = true) (hb : bx.all (fun p => match p.2 with | some b => b.cells.all (CV.inUse bx) | none => true) = true) (hk : look k bx = none) (hlt : k < 1000000)
    (hr : Rel n C ι ⟨(d, .sv (.one (.val (.slice (some ⟨blk, off, none⟩) len cap)))) :: s, bx, withBlock X blk (.cells arr el fr)⟩ a w) :
    Rel n C (put1 ι k (blk, arr.size)) ⟨(d, .sv (.one (.slc k off len sz))) :: s, (k, some ⟨el, vals.map .val, true⟩) :: bx, X⟩ a w := by
  have hlk : ∀ k' x, look k' bx = some x → k' ≠ k := fun k' x h' e => by rw [e, hk] at h'; cases h'
  have hι : ∀ k', k' ≠ k → put1 ι k (blk, arr.size) k' = ι k' := fun k' e => by unfold put1; rw [if_neg e]
  have hιk : put1 ι k (blk, arr.size) k = (blk, arr.size) := by unfold put1; rw [if_pos rfl]
  have hst : ∀ k' b, (⟨(d, .sv (.one (.slc k off len sz))) :: s, (k, some ⟨el, vals.map .val, true⟩) :: bx, X⟩ : St).stat k' = some (some b) → (k' = k ∧ b = ⟨el, vals.map .val, true⟩) ∨ (k' ≠ k ∧ look k' bx = some (some b)) := fun k' b h' => by
    simp only [St.stat, look] at h'
    cases e : Nat.beq k k' with
    | true =>
      rw [e] at h'
      simp at h'
      exact .inl ⟨(Nat.eq_of_beq_eq_true e).symm, h'.symm⟩
    | false =>
      rw [e] at h'
      have h' : look k' bx = some (some b) := by simpa using h'
      exact .inr ⟨hlk k' _ h', h'⟩
  have hon : SameOn bx (⟨(d, .sv (.one (.val (.slice (some ⟨blk, off, none⟩) len cap)))) :: s, bx, withBlock X blk (.cells arr el fr)⟩ : St).stat (⟨(d, .sv (.one (.slc k off len sz))) :: s, (k, some ⟨el, vals.map .val, true⟩) :: bx, X⟩ : St).stat := fun k' x h' => by
    simp only [St.stat, look]
    cases e : Nat.beq k k' with
    | true => exact absurd (Nat.eq_of_beq_eq_true e).symm (hlk k' x h')
    | false => rfl
  have hmean : ∀ {b : Box} {us : List Value}, b.rel (⟨(d, .sv (.one (.slc k off len sz))) :: s, (k, some ⟨el, vals.map .val, true⟩) :: bx, X⟩ : St).stat ι us → b.cells.all (CV.inUse bx) = true → b.rel (⟨(d, .sv (.one (.slc k off len sz))) :: s, (k, some ⟨el, vals.map .val, true⟩) :: bx, X⟩ : St).stat (put1 ι k (blk, arr.size)) us := fun {b us} h1 h2 => by
    unfold Box.rel at h1 ⊢
    cases hrow : b.row with
    | res R => rw [hrow] at h1; exact h1.elim
    | bool r =>
      cases r with
      | false => rw [hrow] at h1; exact CVs.rel_means (fun k' hk' => hι k' (by obtain ⟨x, hx⟩ := Option.isSome_iff_exists.1 hk'; exact hlk k' x hx)) h2 h1
      | true =>
        rw [hrow] at h1
        obtain ⟨us', sp, e, hl⟩ := h1
        exact ⟨us', sp, e, CVs.rel_means (fun k' hk' => hι k' (by obtain ⟨x, hx⟩ := Option.isSome_iff_exists.1 hk'; exact hlk k' x hx)) h2 hl⟩
  exact {
    defers := hr.defers, size := hr.size
    slots := fun d' lv hd => by
      simp only [St.slot, look] at hd
      cases e : Nat.beq d d' with
      | true =>
        rw [e] at hd
        simp at hd
        subst hd
        have := Nat.eq_of_beq_eq_true e
        subst this
        obtain ⟨v, hv, hvr⟩ := hr.slots d (.sv (.one (.val (.slice (some ⟨blk, off, none⟩) len cap)))) (by simp [St.slot, look])
        refine ⟨v, hv, ?_⟩
        have hvr : v = .slice (some ⟨blk, off, none⟩) len cap := hvr
        subst hvr
        simp only [LV.rel, SV.rel, CV.rel, St.stat, look, show Nat.beq k k = true from Nat.beq_refl k, cond_true, hιk]
        exact ⟨cap, rfl, hc, by omega⟩
      | false =>
        rw [e] at hd
        have hd : look d' s = some lv := by simpa using hd
        obtain ⟨v', hv', hr'⟩ := hr.slots d' lv (by simp only [St.slot, look, e]; exact hd)
        have hu := List.all_eq_true.1 hs _ (look_mem hd)
        exact ⟨v', hv', LV.rel_means (fun k' hk' => hι k' (by obtain ⟨x, hx⟩ := Option.isSome_iff_exists.1 hk'; exact hlk k' x hx)) hu (LV.rel_on hon hu hr')⟩
    res := by
      obtain ⟨F, hG⟩ := hr.res
      refine hG.keep (fun j e cs R hj => ?_) (fun _ _ _ _ _ hj => hj) (fun _ _ ho => ho) (fun b _ hx _ _ => ?_) (fun j bj hj => ?_)
      · rcases hst j _ hj with ⟨_, h2⟩ | ⟨hne, h2⟩
        · cases h2
        · exact ⟨h2, hι j hne⟩
      · have hx : withBlock X blk (.cells arr el fr) b = none := hx
        unfold withBlock at hx
        split at hx
        · cases hx
        · exact hx
      · rcases hst j bj hj with ⟨rfl, _⟩ | ⟨hne, h2⟩
        · rw [hιk]
          refine .inr (.inr (.inr ?_))
          show withBlock X blk (.cells arr el fr) blk ≠ none
          rw [withBlock_at]; simp
        · exact .inl ⟨bj, h2, by rw [hι j hne]⟩
    boxes := fun k' b hb' hbk => by
      rcases hst k' b hb' with ⟨rfl, rfl⟩ | ⟨hne, hb''⟩
      · rw [hιk]
        obtain ⟨sp, hsp⟩ := hsp
        exact ⟨arr, fr, hr.ext blk _ (withBlock_at _ _ _), hF.thaw, rfl, vals, sp, hsp, CVs.rel_map_val vals⟩
      · rw [hι k' hne]
        obtain ⟨arr', fr', h1, h2, h3, h4⟩ := hr.boxes k' b hb'' hbk
        have hu : b.cells.all (CV.inUse bx) = true := by simpa using List.all_eq_true.1 hb _ (look_mem hb'')
        exact ⟨arr', fr', h1, h2, h3, hmean (Box.rel_on hon hu h4) hu⟩
    own := fun k' b hb' => by
      rcases hst k' b hb' with ⟨rfl, rfl⟩ | ⟨hne, hb''⟩
      · rw [hιk]; exact ⟨hF.own, hX⟩
      · rw [hι k' hne]
        obtain ⟨h1, h2⟩ := hr.own k' b hb''
        refine ⟨h1, ?_⟩
        have h2 : withBlock X blk (.cells arr el fr) (ι k').1 = none := h2
        unfold withBlock at h2
        split at h2
        · cases h2
        · exact h2
    inj := fun k1 k2 b1 b2 h1 h2 he => by
      have hne : ∀ k' b, look k' bx = some (some b) → (ι k').1 ≠ blk := fun k' b hb' e => by
        have h2 : withBlock X blk (.cells arr el fr) (ι k').1 = none := (hr.own k' b hb').2
        rw [e, withBlock_at] at h2
        cases h2
      rcases hst k1 b1 h1 with ⟨e1, _⟩ | ⟨n1, h1'⟩ <;> rcases hst k2 b2 h2 with ⟨e2, _⟩ | ⟨n2, h2'⟩
      · rw [e1, e2]
      · rw [e1, hιk, hι k2 n2] at he; exact absurd he.symm (hne k2 b2 h2')
      · rw [e2, hιk, hι k1 n1] at he; exact absurd he (hne k1 b1 h1')
      · rw [hι k1 n1, hι k2 n2] at he; exact hr.inj k1 k2 b1 b2 h1' h2' he
    keep := fun k' b hb' hge => by
      rcases hst k' b hb' with ⟨e, _⟩ | ⟨hne, hb''⟩
      · omega
      · rw [hι k' hne]; exact hr.keep k' b hb'' hge
    ext := fun b o hbo => hr.ext b o (withBlock_old hX b o hbo)
    frame := hr.frame, big := hr.big, os := hr.os, tape := hr.tape, output := hr.output }
theorem LWP.thaw {s : List (Nat × LV)} {bx : List (Nat × Option Box)} {d k off len sz blk cap : Nat} {el : TypeId} {vals : List Value} {arr : Array Value} {fr : Nat × Nat}
    (hX : X blk = none) (hF : Frozen C blk arr fr) (hc : len ≤ cap) (hfit : off + cap * sz ≤ arr.size) (hsp : ∃ sp, arr.toList = vals ++ sp)
    (hs : s.all (fun p => p.2.inUse bx) = true) (hb : bx.all (fun p => match p.2 with | some b => b.cells.all (CV.inUse bx) | none => true) = true) (hk : look k bx = none) (hlt : k < 1000000)
    (h : LWP P n C c Q ⟨(d, .sv (.one (.slc k off len sz))) :: s, (k, some ⟨el, vals.map .val, true⟩) :: bx, X⟩) :
    LWP P n C c Q ⟨(d, .sv (.one (.val (.slice (some ⟨blk, off, none⟩) len cap)))) :: s, bx, withBlock X blk (.cells arr el fr)⟩ := by
  refine ⟨fun ι a w hr => ?_⟩
  exact h.out _ a w (hr.thaw hX hF hc hfit hsp hs hb hk hlt)
end
end Go.Lg
end
section
namespace Go.Lg
open Go
def RowsIn (X : Nat → Option Obj) (ad : Option Addr) (sz : Nat) (rows : List (List Value)) : Prop :=
  ∀ i r, rows[i]? = some r → ∃ (blk off : Nat) (arr : Array Value) (el : TypeId) (fr : Nat × Nat), ad = some ⟨blk, off, none⟩ ∧ X blk = some (.cells arr el fr) ∧ off + i * sz + sz ≤ arr.size ∧ (arr.toList.drop (off + i * sz)).take sz = r
theorem RowsIn.mono {X Y : Nat → Option Obj} {ad : Option Addr} {sz : Nat} {rows : List (List Value)} (h : RowsIn X ad sz rows) (hm : ∀ b o, X b = some o → Y b = some o) : RowsIn Y ad sz rows := fun i r hi => by
  obtain ⟨blk, off, arr, el, fr, h1, h2, h3, h4⟩ := h i r hi
  exact ⟨blk, off, arr, el, fr, h1, hm _ _ h2, h3, h4⟩
theorem flat_row {sz : Nat} : ∀ {rows : List (List Value)} (_ : ∀ r ∈ rows, r.length = sz) {sp : List Value} {i : Nat} {r : List Value} (_ : rows[i]? = some r), i * sz + sz ≤ (rows.flatten ++ sp).length ∧ ((rows.flatten ++ sp).drop (i * sz)).take sz = r
  | [], _, _, i, r, h => by simp at h
  | r0 :: rows, hl, sp, 0, r, h => by
    simp only [List.getElem?_cons_zero, Option.some.injEq] at h
    subst h
    have h0 := hl r0 (by simp)
    simp only [List.flatten_cons, List.append_assoc, List.length_append, Nat.zero_mul, List.drop_zero]
    refine ⟨by omega, ?_⟩
    rw [← h0, List.take_left]
  | r0 :: rows, hl, sp, i + 1, r, h => by
    have h0 := hl r0 (by simp)
    obtain ⟨h1, h2⟩ := flat_row (rows := rows) (fun x hx => hl x (by simp [hx])) (sp := sp) (i := i) (r := r) (by simpa using h)
    simp only [List.flatten_cons, List.append_assoc, List.length_append] at h1 ⊢
    have e : (i + 1) * sz = i * sz + sz := by rw [Nat.add_mul, Nat.one_mul]
    refine ⟨by omega, ?_⟩
    rw [e, Nat.add_comm, ← List.drop_drop, ← h0, List.drop_left, h0]
    exact h2
theorem rows_frozen {X : Nat → Option Obj} {blk : Nat} {arr : Array Value} {el : TypeId} {fr : Nat × Nat} {sz : Nat} {rows : List (List Value)} (hl : ∀ r ∈ rows, r.length = sz) (hsp : ∃ sp, arr.toList = rows.flatten ++ sp) :
    RowsIn (withBlock X blk (.cells arr el fr)) (some ⟨blk, 0, none⟩) sz rows := fun i r hi => by
  obtain ⟨sp, e⟩ := hsp
  obtain ⟨h1, h2⟩ := flat_row hl (sp := sp) hi
  refine ⟨blk, 0, arr, el, fr, rfl, withBlock_at _ _ _, ?_, ?_⟩
  · rw [← Array.length_toList, e]; omega
  · rw [e, Nat.zero_add]; exact h2
end Go.Lg
namespace Go.Lg.Fld
open Go Go.Lg
end Go.Lg.Fld
end
section
namespace Go.Lg
open Go Go.RowKit Go.ChangeShapes Go.WideShapes Go.Joins
section
variable {H : Type} {enc : TypeId × Value → H} {P : Program} {w : World}
theorem cells_row {a : Addr} {sz : Nat} {cs : List Value} (hs : a.spot = none) (hsz : 1 ≤ sz) {i : Nat} (hl : cs.length = sz) (h : ∀ j, j < sz → w.cell? ((a.add (i * sz)).add j) = cs[j]?) :
    ∃ (arr : Array Value) (el : TypeId) (fr : Nat × Nat), w.heap[a.block]? = some (.cells arr el fr) ∧ a.off + i * sz + sz ≤ arr.size ∧ (arr.toList.drop (a.off + i * sz)).take sz = cs := by
  obtain ⟨b, o, sp⟩ := a
  simp only at hs
  subst hs
  have h2 : ∀ j, j < sz → ∃ u, cs[j]? = some u ∧ w.cell? ((⟨b, o, none⟩ : Addr).add (i * sz + j)) = some u := fun j hj => by
    have h3 := h j hj
    rw [Deep.add_add] at h3
    rw [List.getElem?_eq_getElem (by omega)] at h3
    exact ⟨_, List.getElem?_eq_getElem (by omega), h3⟩
  obtain ⟨u0, _, h0⟩ := h2 0 (by omega)
  obtain ⟨arr, el, fr, hh, _⟩ := cell_at (a := ⟨b, o, none⟩) rfl h0
  have hall : ∀ j, j < sz → arr[o + (i * sz + j)]? = cs[j]? := fun j hj => by
    obtain ⟨u, hu, hc⟩ := h2 j hj
    obtain ⟨arr', el', fr', hh', hc'⟩ := cell_at (a := ⟨b, o, none⟩) rfl hc
    rw [hh] at hh'
    cases hh'
    rw [hu]; exact hc'
  have hlast : o + (i * sz + (sz - 1)) < arr.size := by
    have h3 := hall (sz - 1) (by omega)
    rw [List.getElem?_eq_getElem (by omega)] at h3
    exact (Array.getElem?_eq_some_iff.1 h3).1
  refine ⟨arr, el, fr, hh, by show o + i * sz + sz ≤ arr.size; omega, ?_⟩
  apply List.ext_getElem?
  intro j
  rw [List.getElem?_take]
  by_cases hj : j < sz
  · rw [if_pos hj, List.getElem?_drop, Array.getElem?_toList, ← hall j hj]
    show arr[o + i * sz + j]? = _
    rw [Nat.add_assoc]
  · rw [if_neg hj, List.getElem?_eq_none (by omega)]
theorem open_rows {r : Reach} {b0 : Nat} {t e : TypeId} {sz : Nat} {v : Value} {d : DataW H} {p : List MemPlace} (ht : P.underlying t = some (.slice e)) (hc : P.cellsOf e = sz) (hsz : 1 ≤ sz) (hv : Value.okWide P w r b0 t v) (h : DataW.Trod enc P w 0 (fun _ => true) true t v d p) :
    ∃ (ad : Option Addr) (cap : Nat) (rows : List (List Value)), v = .slice ad rows.length cap ∧ rows.length ≤ cap ∧ cap ≤ maxLen ∧ RowsIn (fun b => w.heap[b]?) ad sz rows ∧
      (∀ u, u ∈ rows → u.length = sz ∧ ∃ (n : Nat) (x : DataW H × List MemPlace), DataW.trod enc P w 0 (fun _ => true) true n e u = some x) ∧
      ∀ by_ B : Nat, (∀ elems spare, d = .slice elems spare → (elems.length + spare.length) * by_ ≤ B) → rows.length * by_ ≤ B := by
  obtain ⟨a, len, cap, rfl⟩ := okWide_slice ht hv
  obtain ⟨fuel, hf⟩ := h
  rcases Deep.open_slice ht hf with ⟨h0, _⟩ | ⟨a', len', cap', m, n, D, Pl, h0, hb, hl, hm, hmm, hd, hx⟩
  · simp [Value.cells] at h0
    obtain ⟨rfl, rfl, rfl⟩ := h0
    exact ⟨none, 0, [], rfl, Nat.le_refl _, Nat.zero_le _, fun i r h => by simp at h, fun u hu => by simp at hu, fun by_ B _ => by simp⟩
  · simp [Value.cells] at h0
    obtain ⟨rfl, rfl, rfl⟩ := h0
    rw [if_pos rfl] at hmm
    subst hmm
    rw [hc] at hx
    have hch : ∃ f : Nat → List Value, ∀ i, i < m → w.cells? 0 (a'.add (i * sz)) sz = some (f i) ∧ DataW.trod enc P w 0 (fun _ => true) true n e (f i) = some (D i, Pl i) := by
      refine ⟨fun i => if hi : i < m then (hx i hi).choose else [], fun i hi => ?_⟩
      simp only [dif_pos hi]
      exact (hx i hi).choose_spec
    obtain ⟨f, hf2⟩ := hch
    refine ⟨some a', m, (List.range len).map f, by rw [List.length_map, List.length_range], by rw [List.length_map, List.length_range]; exact hl, hm, ?_, ?_, ?_⟩
    · intro i u hi
      have hi2 : i < len := by
        have := (List.getElem?_eq_some_iff.1 hi).1
        simpa using this
      have e : u = f i := by
        rw [List.getElem?_map, List.getElem?_range hi2] at hi
        simpa using hi.symm
      subst e
      have hspot : a'.spot = none := by
        obtain ⟨h1, _⟩ := hf2 0 (by omega)
        obtain ⟨_, hlen, hcell⟩ := World.cells?_some h1
        have e0 := hcell 0 (by omega)
        rw [Deep.add_add, Nat.zero_mul, Nat.zero_add] at e0
        rw [List.getElem?_eq_getElem (by omega)] at e0
        exact spot_none e0
      obtain ⟨h1, _⟩ := hf2 i (by omega)
      obtain ⟨_, hlen, hcell⟩ := World.cells?_some h1
      obtain ⟨arr, el, fr, hh, hsz2, htk⟩ := cells_row hspot hsz hlen hcell
      refine ⟨a'.block, a'.off, arr, el, fr, ?_, hh, hsz2, htk⟩
      obtain ⟨b, o, sp⟩ := a'
      simp only at hspot
      subst hspot
      rfl
    · intro u hu
      obtain ⟨i, hi, rfl⟩ := List.mem_map.1 hu
      have hi := List.mem_range.1 hi
      obtain ⟨h1, h2⟩ := hf2 i (by omega)
      exact ⟨(World.cells?_some h1).2.1, n, _, h2⟩
    · intro by_ B hB
      have hd1 := congrArg Prod.fst hd
      have h := hB _ _ hd1
      simp only [List.length_map, List.length_range] at h ⊢
      exact Nat.le_trans (Nat.mul_le_mul_right _ (by omega)) h
end
end Go.Lg
end
section
namespace Go.Lg
open Go Go.RowKit Go.ChangeShapes Go.WideShapes Go.Joins
section
variable {H : Type} {enc : TypeId × Value → H} {P : Program} {w : World}
theorem open_rows_l {t e : TypeId} {sz fuel : Nat} {l : List Value} {x : DataW H × List MemPlace} (ht : P.underlying t = some (.slice e)) (hc : P.cellsOf e = sz) (hsz : 1 ≤ sz) (hf : DataW.trod enc P w 0 (fun _ => true) true fuel t l = some x) :
    ∃ (ad : Option Addr) (cap : Nat) (rows : List (List Value)), l = [.slice ad rows.length cap] ∧ rows.length ≤ cap ∧ cap ≤ maxLen ∧ RowsIn (fun b => w.heap[b]?) ad sz rows ∧
      ∀ u, u ∈ rows → u.length = sz ∧ ∃ (n : Nat) (x : DataW H × List MemPlace), DataW.trod enc P w 0 (fun _ => true) true n e u = some x := by
  rcases Deep.open_slice ht hf with ⟨h0, _⟩ | ⟨a', len', cap', m, n, D, Pl, h0, hb, hl, hm, hmm, hd, hx⟩
  · exact ⟨none, 0, [], h0, Nat.le_refl _, Nat.zero_le _, fun i r h => by simp at h, fun u hu => by simp at hu⟩
  · rw [if_pos rfl] at hmm
    subst hmm
    rw [hc] at hx
    have hch : ∃ f : Nat → List Value, ∀ i, i < m → w.cells? 0 (a'.add (i * sz)) sz = some (f i) ∧ DataW.trod enc P w 0 (fun _ => true) true n e (f i) = some (D i, Pl i) := by
      refine ⟨fun i => if hi : i < m then (hx i hi).choose else [], fun i hi => ?_⟩
      simp only [dif_pos hi]
      exact (hx i hi).choose_spec
    obtain ⟨f, hf2⟩ := hch
    refine ⟨some a', m, (List.range len').map f, by rw [List.length_map, List.length_range]; exact h0, by rw [List.length_map, List.length_range]; exact hl, hm, ?_, ?_⟩
    · intro i u hi
      have hi2 : i < len' := by
        have := (List.getElem?_eq_some_iff.1 hi).1
        simpa using this
      have e : u = f i := by
        rw [List.getElem?_map, List.getElem?_range hi2] at hi
        simpa using hi.symm
      subst e
      have hspot : a'.spot = none := by
        obtain ⟨h1, _⟩ := hf2 0 (by omega)
        obtain ⟨_, hlen, hcell⟩ := World.cells?_some h1
        have e0 := hcell 0 (by omega)
        rw [Deep.add_add, Nat.zero_mul, Nat.zero_add] at e0
        rw [List.getElem?_eq_getElem (by omega)] at e0
        exact spot_none e0
      obtain ⟨h1, _⟩ := hf2 i (by omega)
      obtain ⟨_, hlen, hcell⟩ := World.cells?_some h1
      obtain ⟨arr, el, fr, hh, hsz2, htk⟩ := cells_row hspot hsz hlen hcell
      refine ⟨a'.block, a'.off, arr, el, fr, ?_, hh, hsz2, htk⟩
      obtain ⟨b, o, sp⟩ := a'
      simp only at hspot
      subst hspot
      rfl
    · intro u hu
      obtain ⟨i, hi, rfl⟩ := List.mem_map.1 hu
      have hi := List.mem_range.1 hi
      obtain ⟨h1, h2⟩ := hf2 i (by omega)
      exact ⟨(World.cells?_some h1).2.1, n, _, h2⟩
end
end Go.Lg
end
section
namespace Go.Lg
open Go Go.RowKit
section
variable {P : Program} {n : Nat} {ops os : List Oper} {acc : List Eff} {K : List Eff → St → Prop} {s : List (Nat × LV)} {bx : List (Nat × Option Box)} {X : Nat → Option Obj}
theorem kmv {d : Nat} {x : Operand} {ty : TypeId} {pos : String} {after : Array Edge} {lv : LV} (hx : (⟨s, bx, X⟩ : St).ev x = some lv) (kont : RunK P n ops os ⟨(d, lv) :: s, bx, X⟩ (⟨[(d, lv)], [], []⟩ :: acc) K) :
    RunK P n ops (⟨some d, .move x, ty, pos, after, none⟩ :: os) ⟨s, bx, X⟩ acc K := Go.Lg.K.move hx .plain kont
theorem gmv {d : Nat} {x : Operand} {ty : TypeId} {pos : String} {after : Array Edge} {lv : LV} (hx : (⟨s, bx, X⟩ : St).ev x = some lv) {gj gt : Nat} {gb : Bool} (g1 : (ops[gj]?).bind (·.dst) = some gt) (g2 : look gt s = some (.sv (.one (.val (.bool gb))))) (kont : RunK P n ops os ⟨(d, lv) :: s, bx, X⟩ (⟨[(d, lv)], [], []⟩ :: acc) K) :
    RunK P n ops (⟨some d, .move x, ty, pos, after, some (gj, gb)⟩ :: os) ⟨s, bx, X⟩ acc K := Go.Lg.K.move hx (.taken g1 g2) kont
theorem kas {d : Nat} {x : Operand} {ty : TypeId} {pos : String} {after : Array Edge} {lv : LV} (hx : (⟨s, bx, X⟩ : St).ev x = some lv) (kont : RunK P n ops os ⟨(d, lv) :: s, bx, X⟩ (⟨[(d, lv)], [], []⟩ :: acc) K) :
    RunK P n ops (⟨some d, .assign x, ty, pos, after, none⟩ :: os) ⟨s, bx, X⟩ acc K := Go.Lg.K.assign hx .plain kont
theorem kpt {d : Nat} {c x y : Operand} {ty : TypeId} {pos : String} {after : Array Edge} {lv : LV} (hc : (⟨s, bx, X⟩ : St).ev c = some (.sv (.one (.val (.bool true))))) (hx : (⟨s, bx, X⟩ : St).ev x = some lv) (kont : RunK P n ops os ⟨(d, lv) :: s, bx, X⟩ (⟨[(d, lv)], [], []⟩ :: acc) K) :
    RunK P n ops (⟨some d, .pick c x y, ty, pos, after, none⟩ :: os) ⟨s, bx, X⟩ acc K := Go.Lg.K.pickT hc hx .plain kont
theorem kpf {d : Nat} {c x y : Operand} {ty : TypeId} {pos : String} {after : Array Edge} {lv : LV} (hc : (⟨s, bx, X⟩ : St).ev c = some (.sv (.one (.val (.bool false))))) (hy : (⟨s, bx, X⟩ : St).ev y = some lv) (kont : RunK P n ops os ⟨(d, lv) :: s, bx, X⟩ (⟨[(d, lv)], [], []⟩ :: acc) K) :
    RunK P n ops (⟨some d, .pick c x y, ty, pos, after, none⟩ :: os) ⟨s, bx, X⟩ acc K := Go.Lg.K.pickF hc hy .plain kont
theorem kex {s0 : List (Nat × LV)} {d : Nat} {x : Operand} {i : Nat} {ty : TypeId} {pos : String} {after : Array Edge} {l : List SV} {s : SV} (hx : (⟨s0, bx, X⟩ : St).ev x = some (.tup l)) (hi : l[i]? = some s) (kont : RunK P n ops os ⟨(d, .sv s) :: s0, bx, X⟩ (⟨[(d, .sv s)], [], []⟩ :: acc) K) :
    RunK P n ops (⟨some d, .extract x i, ty, pos, after, none⟩ :: os) ⟨s0, bx, X⟩ acc K := Go.Lg.K.extract hx hi .plain kont
theorem kad {d : Nat} {t : TypeId} {t' : TypeId} {x : Operand} {y : Operand} {ty : TypeId} {pos : String} {after : Array Edge} {k : IntKind} {a : Int} {b : Int} {c : Int} (hx : (⟨s, bx, X⟩ : St).ev x = some (.sv (.one (.val (.int k a))))) (hy : (⟨s, bx, X⟩ : St).ev y = some (.sv (.one (.val (.int k b))))) (hc : k.wrap (a + b) = c) (kont : RunK P n ops os ⟨(d, .sv (.one (.val (.int k c)))) :: s, bx, X⟩ (⟨[(d, .sv (.one (.val (.int k c))))], [], []⟩ :: acc) K) :
    RunK P n ops (⟨some d, .binOp .add t x y t', ty, pos, after, none⟩ :: os) ⟨s, bx, X⟩ acc K := Go.Lg.K.add hx hy hc .plain kont
theorem keq {d : Nat} {t : TypeId} {t' : TypeId} {x : Operand} {y : Operand} {ty : TypeId} {pos : String} {after : Array Edge} {k : IntKind} {a : Int} {b : Int} {r : Bool} (hx : (⟨s, bx, X⟩ : St).ev x = some (.sv (.one (.val (.int k a))))) (hy : (⟨s, bx, X⟩ : St).ev y = some (.sv (.one (.val (.int k b))))) (hc : (a == b) = r) (kont : RunK P n ops os ⟨(d, .sv (.one (.val (.bool r)))) :: s, bx, X⟩ (⟨[(d, .sv (.one (.val (.bool r))))], [], []⟩ :: acc) K) :
    RunK P n ops (⟨some d, .binOp .eql t x y t', ty, pos, after, none⟩ :: os) ⟨s, bx, X⟩ acc K := Go.Lg.K.eql hx hy hc .plain kont
theorem kne {d : Nat} {t : TypeId} {t' : TypeId} {x : Operand} {y : Operand} {ty : TypeId} {pos : String} {after : Array Edge} {k : IntKind} {a : Int} {b : Int} {r : Bool} (hx : (⟨s, bx, X⟩ : St).ev x = some (.sv (.one (.val (.int k a))))) (hy : (⟨s, bx, X⟩ : St).ev y = some (.sv (.one (.val (.int k b))))) (hc : (a != b) = r) (kont : RunK P n ops os ⟨(d, .sv (.one (.val (.bool r)))) :: s, bx, X⟩ (⟨[(d, .sv (.one (.val (.bool r))))], [], []⟩ :: acc) K) :
    RunK P n ops (⟨some d, .binOp .neq t x y t', ty, pos, after, none⟩ :: os) ⟨s, bx, X⟩ acc K := Go.Lg.K.neq hx hy hc .plain kont
theorem klt {d : Nat} {t : TypeId} {t' : TypeId} {x : Operand} {y : Operand} {ty : TypeId} {pos : String} {after : Array Edge} {k : IntKind} {a : Int} {b : Int} {r : Bool} (hx : (⟨s, bx, X⟩ : St).ev x = some (.sv (.one (.val (.int k a))))) (hy : (⟨s, bx, X⟩ : St).ev y = some (.sv (.one (.val (.int k b))))) (hc : decide (a < b) = r) (kont : RunK P n ops os ⟨(d, .sv (.one (.val (.bool r)))) :: s, bx, X⟩ (⟨[(d, .sv (.one (.val (.bool r))))], [], []⟩ :: acc) K) :
    RunK P n ops (⟨some d, .binOp .lss t x y t', ty, pos, after, none⟩ :: os) ⟨s, bx, X⟩ acc K := Go.Lg.K.lss hx hy hc .plain kont
theorem kca {d : Nat} {f : FuncId} {args : List Operand} {tys : Array TypeId} {ty : TypeId} {pos : String} {after : Array Edge} {lvs : List LV} {r : LV} (hargs : evs ⟨s, bx, X⟩ args = some lvs) (hcl : lvs.all LV.closed = true) (hs : PSpec P X f lvs r) (kont : RunK P n ops os ⟨(d, r) :: s, bx, X⟩ (⟨[(d, r)], [], []⟩ :: acc) K) :
    RunK P n ops (⟨some d, .call ⟨.value (.func f), args.toArray, tys⟩, ty, pos, after, none⟩ :: os) ⟨s, bx, X⟩ acc K := Go.Lg.K.call hargs hcl hs .plain kont
theorem gca {d : Nat} {f : FuncId} {args : List Operand} {tys : Array TypeId} {ty : TypeId} {pos : String} {after : Array Edge} {lvs : List LV} {r : LV} (hargs : evs ⟨s, bx, X⟩ args = some lvs) (hcl : lvs.all LV.closed = true) (hs : PSpec P X f lvs r) {gj gt : Nat} {gb : Bool} (g1 : (ops[gj]?).bind (·.dst) = some gt) (g2 : look gt s = some (.sv (.one (.val (.bool gb))))) (kont : RunK P n ops os ⟨(d, r) :: s, bx, X⟩ (⟨[(d, r)], [], []⟩ :: acc) K) :
    RunK P n ops (⟨some d, .call ⟨.value (.func f), args.toArray, tys⟩, ty, pos, after, some (gj, gb)⟩ :: os) ⟨s, bx, X⟩ acc K := Go.Lg.K.call hargs hcl hs (.taken g1 g2) kont
theorem kl1 {d : Nat} {t : TypeId} {x : Operand} {ty : TypeId} {pos : String} {after : Array Edge} {k off : Nat} {e : TypeId} {cs : List CV} {row : Bool} {c : CV} [i : OneT P t] (hx : (⟨s, bx, X⟩ : St).ev x = some (.sv (.one (.ptr k off)))) (hk : (⟨s, bx, X⟩ : St).stat k = some (some ⟨e, cs, row⟩)) (hc : cs[off]? = some c) (kont : RunK P n ops os ⟨(d, .sv (.one c)) :: s, bx, X⟩ (⟨[(d, .sv (.one c))], [k], []⟩ :: acc) K) :
    RunK P n ops (⟨some d, .load t x, ty, pos, after, none⟩ :: os) ⟨s, bx, X⟩ acc K := Go.Lg.K.loadOne hx hk hc .plain kont
theorem kfa {d : Nat} {t : TypeId} {x : Operand} {ty : TypeId} {pos : String} {after : Array Edge} {i k off o m : Nat} [f : FieldT P t i o m] (hx : (⟨s, bx, X⟩ : St).ev x = some (.sv (.one (.ptr k off)))) {off' : Nat} (ho : Nat.add off o = off') (kont : RunK P n ops os ⟨(d, .sv (.one (.ptr k off'))) :: s, bx, X⟩ (⟨[(d, .sv (.one (.ptr k off')))], [], []⟩ :: acc) K) :
    RunK P n ops (⟨some d, .fieldAddr t x i, ty, pos, after, none⟩ :: os) ⟨s, bx, X⟩ acc K := Go.Lg.K.fieldAddr hx ho .plain kont
theorem kln {d : Nat} {t : TypeId} {x : Operand} {ty : TypeId} {pos : String} {after : Array Edge} {s0 : List (Nat × LV)} {s : ByteArray} [StrT P t] (hx : (⟨s0, bx, X⟩ : St).ev x = some (.sv (.one (.val (.string s))))) (kont : RunK P n ops os ⟨(d, .sv (.one (.val (.int .i64 s.size)))) :: s0, bx, X⟩ (⟨[(d, .sv (.one (.val (.int .i64 s.size))))], [], []⟩ :: acc) K) :
    RunK P n ops (⟨some d, .call ⟨.builtin .len, #[x], #[t]⟩, ty, pos, after, none⟩ :: os) ⟨s0, bx, X⟩ acc K := Go.Lg.K.lenStr hx .plain kont
theorem kcv {d : Nat} {t : TypeId} {t' : TypeId} {x : Operand} {ty : TypeId} {pos : String} {after : Array Edge} {k k' : IntKind} {a c : Int} {ks : IntKind} [i : IntT P t ks] [i' : IntT P t' k'] (hx : (⟨s, bx, X⟩ : St).ev x = some (.sv (.one (.val (.int k a))))) (hc : k'.wrap a = c) (kont : RunK P n ops os ⟨(d, .sv (.one (.val (.int k' c)))) :: s, bx, X⟩ (⟨[(d, .sv (.one (.val (.int k' c))))], [], []⟩ :: acc) K) :
    RunK P n ops (⟨some d, .convert t t' x, ty, pos, after, none⟩ :: os) ⟨s, bx, X⟩ acc K := Go.Lg.K.conv hx hc .plain kont
end
end Go.Lg
end
