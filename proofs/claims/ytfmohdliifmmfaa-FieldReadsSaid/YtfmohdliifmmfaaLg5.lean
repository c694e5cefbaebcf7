/- A piece of a proof over this program: contracts of its functions, and a logic to prove them by. -/
import Derived.Test.YtfmohdliifmmfaaLg4
namespace Go.Lg
open Go Go.RowKit

section
variable {P : Program} {n : Nat} {ops : List Oper} {σ : St}

theorem Agree.ev {o : Oper} {e : Eff} {σ σ' : St} (h : Agree ops o e σ σ') {x : Operand} (hx : x ∈ o.op.operands) : σ'.ev x = σ.ev x := by
  cases x with
  | tmp t =>
    refine h.slot t ?_
    unfold looks
    refine List.mem_append.2 (.inl ?_)
    rw [List.mem_filterMap]
    exact ⟨.tmp t, by simpa using hx, rfl⟩
  | _ => rfl

/-- an operation that yields a value, and leaves memory alone -/
theorem LOK.value {d : Nat} {op : Op} {ty : TypeId} {pos : String} {after : Array Edge} {g : Option (Nat × Bool)} {lv : LV} {ft : List Nat}
    (h : ∀ σ', Agree ops ⟨some d, op, ty, pos, after, g⟩ ⟨[(d, lv)], ft, []⟩ σ σ' → ∀ (C : Ctx) (ι : Nat → Nat × Nat) (a : Act) (w : World), Rel n C ι σ' a w →
      ∃ v, (execOp a.eval ⟨some d, op, ty, pos, after, g⟩).run P w = .ok (.value v) w ∧ lv.rel σ'.stat ι v) :
    LOK P n ops ⟨some d, op, ty, pos, after, g⟩ σ ⟨[(d, lv)], ft, []⟩ := by
  refine ⟨fun σ' ha C ι a w hr hd next Q hn => ?_⟩
  obtain ⟨v, hrun, hv⟩ := h σ' ha C ι a w hr
  unfold Oper.wp
  rw [hrun]
  exact hn ι _ w (hr.put (hd d rfl) hv)

theorem toLV_mem {x : Operand} {o : Oper} (h : x ∈ o.op.operands.toList) : x ∈ o.op.operands := by simpa using h

theorem LOK.move {d : Nat} {x : Operand} {ty : TypeId} {pos : String} {after : Array Edge} {g : Option (Nat × Bool)} {lv : LV} (hx : σ.ev x = some lv) :
    LOK P n ops ⟨some d, .move x, ty, pos, after, g⟩ σ ⟨[(d, lv)], [], []⟩ :=
  LOK.value fun σ' ha C ι a w hr => ⟨a.eval x, rfl, hr.ev ((ha.ev (by simp [Op.operands])).trans hx)⟩

theorem LOK.assign {d : Nat} {x : Operand} {ty : TypeId} {pos : String} {after : Array Edge} {g : Option (Nat × Bool)} {lv : LV} (hx : σ.ev x = some lv) :
    LOK P n ops ⟨some d, .assign x, ty, pos, after, g⟩ σ ⟨[(d, lv)], [], []⟩ :=
  LOK.value fun σ' ha C ι a w hr => ⟨a.eval x, rfl, hr.ev ((ha.ev (by simp [Op.operands])).trans hx)⟩

theorem LOK.pickT {d : Nat} {c x y : Operand} {ty : TypeId} {pos : String} {after : Array Edge} {g : Option (Nat × Bool)} {lv : LV} (hc : σ.ev c = some (.sv (.one (.val (.bool true))))) (hx : σ.ev x = some lv) :
    LOK P n ops ⟨some d, .pick c x y, ty, pos, after, g⟩ σ ⟨[(d, lv)], [], []⟩ :=
  LOK.value fun σ' ha C ι a w hr => by
    have h1 : a.eval c = .bool true := hr.ev ((ha.ev (by simp [Op.operands])).trans hc)
    exact ⟨a.eval x, by simp [execOp, h1, asBool], hr.ev ((ha.ev (by simp [Op.operands])).trans hx)⟩

theorem LOK.pickF {d : Nat} {c x y : Operand} {ty : TypeId} {pos : String} {after : Array Edge} {g : Option (Nat × Bool)} {lv : LV} (hc : σ.ev c = some (.sv (.one (.val (.bool false))))) (hy : σ.ev y = some lv) :
    LOK P n ops ⟨some d, .pick c x y, ty, pos, after, g⟩ σ ⟨[(d, lv)], [], []⟩ :=
  LOK.value fun σ' ha C ι a w hr => by
    have h1 : a.eval c = .bool false := hr.ev ((ha.ev (by simp [Op.operands])).trans hc)
    exact ⟨a.eval y, by simp [execOp, h1, asBool], hr.ev ((ha.ev (by simp [Op.operands])).trans hy)⟩

theorem LOK.extract {d : Nat} {x : Operand} {i : Nat} {ty : TypeId} {pos : String} {after : Array Edge} {g : Option (Nat × Bool)} {l : List SV} {s : SV} (hx : σ.ev x = some (.tup l)) (hi : l[i]? = some s) :
    LOK P n ops ⟨some d, .extract x i, ty, pos, after, g⟩ σ ⟨[(d, .sv s)], [], []⟩ :=
  LOK.value fun σ' ha C ι a w hr => by
    obtain ⟨arr, he, hl⟩ := hr.ev ((ha.ev (by simp [Op.operands])).trans hx)
    obtain ⟨v, hv, hvr⟩ := SVs.rel_get hl hi
    have hv' : arr[i]? = some v := by simpa using hv
    exact ⟨v, by simp [execOp, he, Instr.extract, hv'], hvr⟩

/-- an operation on one plain value -/
theorem LOK.un {d : Nat} {op : UnOp} {t : TypeId} {x : Operand} {ty : TypeId} {pos : String} {after : Array Edge} {g : Option (Nat × Bool)} {u r : Value} (hx : σ.ev x = some (.sv (.one (.val u))))
    (hrun : ∀ w, (Op.unary op u).run P w = .ok r w) :
    LOK P n ops ⟨some d, .unOp op t x, ty, pos, after, g⟩ σ ⟨[(d, .sv (.one (.val r)))], [], []⟩ :=
  LOK.value fun σ' ha C ι a w hr => by
    have h1 : a.eval x = u := hr.ev ((ha.ev (by simp [Op.operands])).trans hx)
    exact ⟨r, by simp [execOp, h1, hrun], rfl⟩

theorem LOK.not {d : Nat} {t : TypeId} {x : Operand} {ty : TypeId} {pos : String} {after : Array Edge} {g : Option (Nat × Bool)} {b c : Bool} (hx : σ.ev x = some (.sv (.one (.val (.bool b))))) (hc : (!b) = c) :
    LOK P n ops ⟨some d, .unOp .not t x, ty, pos, after, g⟩ σ ⟨[(d, .sv (.one (.val (.bool c))))], [], []⟩ :=
  LOK.un hx fun w => by subst hc; rfl

theorem LOK.neg {d : Nat} {t : TypeId} {x : Operand} {ty : TypeId} {pos : String} {after : Array Edge} {g : Option (Nat × Bool)} {k : IntKind} {b c : Int} (hx : σ.ev x = some (.sv (.one (.val (.int k b))))) (hc : k.wrap (0 - b) = c) :
    LOK P n ops ⟨some d, .unOp .neg t x, ty, pos, after, g⟩ σ ⟨[(d, .sv (.one (.val (.int k c))))], [], []⟩ :=
  LOK.un hx fun w => by subst hc; rfl

/-- an operation on two plain values -/
theorem LOK.bin {d : Nat} {op : BinOp} {t t' : TypeId} {x y : Operand} {ty : TypeId} {pos : String} {after : Array Edge} {g : Option (Nat × Bool)} {u v r : Value} (hx : σ.ev x = some (.sv (.one (.val u)))) (hy : σ.ev y = some (.sv (.one (.val v))))
    (hrun : ∀ w, ((do eqGuard op t x y u v; binOp op t u v) : Sem Value).run P w = .ok r w) :
    LOK P n ops ⟨some d, .binOp op t x y t', ty, pos, after, g⟩ σ ⟨[(d, .sv (.one (.val r)))], [], []⟩ :=
  LOK.value fun σ' ha C ι a w hr => by
    have h1 : a.eval x = u := hr.ev ((ha.ev (by simp [Op.operands])).trans hx)
    have h2 : a.eval y = v := hr.ev ((ha.ev (by simp [Op.operands])).trans hy)
    refine ⟨r, ?_, rfl⟩
    have := hrun w
    simp only [execOp, h1, h2, Sem.run_bind] at this ⊢
    rw [this]
    simp

section ints
variable {d : Nat} {t t' : TypeId} {x y : Operand} {ty : TypeId} {pos : String} {after : Array Edge} {g : Option (Nat × Bool)} {k k' : IntKind} {a b c : Int} {r : Bool}

theorem LOK.add (hx : σ.ev x = some (.sv (.one (.val (.int k a))))) (hy : σ.ev y = some (.sv (.one (.val (.int k b))))) (hc : k.wrap (a + b) = c) :
    LOK P n ops ⟨some d, .binOp .add t x y t', ty, pos, after, g⟩ σ ⟨[(d, .sv (.one (.val (.int k c))))], [], []⟩ :=
  LOK.bin hx hy fun w => by subst hc; simp [eqGuard_add, binOp_add, Op.intArith]
theorem LOK.sub (hx : σ.ev x = some (.sv (.one (.val (.int k a))))) (hy : σ.ev y = some (.sv (.one (.val (.int k b))))) (hc : k.wrap (a - b) = c) :
    LOK P n ops ⟨some d, .binOp .sub t x y t', ty, pos, after, g⟩ σ ⟨[(d, .sv (.one (.val (.int k c))))], [], []⟩ :=
  LOK.bin hx hy fun w => by subst hc; simp [eqGuard_sub, binOp_sub, Op.intArith]
theorem LOK.mul (hx : σ.ev x = some (.sv (.one (.val (.int k a))))) (hy : σ.ev y = some (.sv (.one (.val (.int k b))))) (hc : k.wrap (a * b) = c) :
    LOK P n ops ⟨some d, .binOp .mul t x y t', ty, pos, after, g⟩ σ ⟨[(d, .sv (.one (.val (.int k c))))], [], []⟩ :=
  LOK.bin hx hy fun w => by subst hc; simp [eqGuard_mul, binOp_mul, Op.intArith]
theorem LOK.quo (hx : σ.ev x = some (.sv (.one (.val (.int k a))))) (hy : σ.ev y = some (.sv (.one (.val (.int k b))))) (hb : b ≠ 0) (hc : k.wrap (a.tdiv b) = c) :
    LOK P n ops ⟨some d, .binOp .quo t x y t', ty, pos, after, g⟩ σ ⟨[(d, .sv (.one (.val (.int k c))))], [], []⟩ :=
  LOK.bin hx hy fun w => by subst hc; simp [eqGuard_quo, binOp_quo, Op.intDiv, hb]
theorem LOK.rem (hx : σ.ev x = some (.sv (.one (.val (.int k a))))) (hy : σ.ev y = some (.sv (.one (.val (.int k b))))) (hb : b ≠ 0) (hc : a.tmod b = c) :
    LOK P n ops ⟨some d, .binOp .rem t x y t', ty, pos, after, g⟩ σ ⟨[(d, .sv (.one (.val (.int k c))))], [], []⟩ :=
  LOK.bin hx hy fun w => by subst hc; simp [eqGuard_rem, binOp_rem, Op.intDiv, hb]
theorem LOK.bitop {op : BinOp} (hop : op = .and ∨ op = .or ∨ op = .xor ∨ op = .andNot) (hx : σ.ev x = some (.sv (.one (.val (.int k a))))) (hy : σ.ev y = some (.sv (.one (.val (.int k b))))) (hc : bits op k a b = c) :
    LOK P n ops ⟨some d, .binOp op t x y t', ty, pos, after, g⟩ σ ⟨[(d, .sv (.one (.val (.int k c))))], [], []⟩ :=
  LOK.bin hx hy fun w => by
    subst hc
    rcases hop with rfl | rfl | rfl | rfl
    · simp [eqGuard_and, binOp_and, Op.intBits]; rfl
    · simp [eqGuard_or, binOp_or, Op.intBits]; rfl
    · simp [eqGuard_xor, binOp_xor, Op.intBits]; rfl
    · simp only [eqGuard_andNot, binOp_andNot, Op.intBits]; rfl
theorem LOK.shl (hx : σ.ev x = some (.sv (.one (.val (.int k a))))) (hy : σ.ev y = some (.sv (.one (.val (.int k' b))))) (hb : 0 ≤ b) (hc : k.wrap (a * 2 ^ (min b.toNat k.bits)) = c) :
    LOK P n ops ⟨some d, .binOp .shl t x y t', ty, pos, after, g⟩ σ ⟨[(d, .sv (.one (.val (.int k c))))], [], []⟩ :=
  LOK.bin hx hy fun w => by subst hc; simp [eqGuard_shl, binOp_shl, Op.shift, Int.not_lt.2 hb]
theorem LOK.shr (hx : σ.ev x = some (.sv (.one (.val (.int k a))))) (hy : σ.ev y = some (.sv (.one (.val (.int k' b))))) (hb : 0 ≤ b) (hc : a.fdiv (2 ^ (min b.toNat k.bits)) = c) :
    LOK P n ops ⟨some d, .binOp .shr t x y t', ty, pos, after, g⟩ σ ⟨[(d, .sv (.one (.val (.int k c))))], [], []⟩ :=
  LOK.bin hx hy fun w => by subst hc; simp [eqGuard_shr, binOp_shr, Op.shift, Int.not_lt.2 hb]
theorem LOK.eql (hx : σ.ev x = some (.sv (.one (.val (.int k a))))) (hy : σ.ev y = some (.sv (.one (.val (.int k b))))) (hc : (a == b) = r) :
    LOK P n ops ⟨some d, .binOp .eql t x y t', ty, pos, after, g⟩ σ ⟨[(d, .sv (.one (.val (.bool r))))], [], []⟩ :=
  LOK.bin hx hy fun w => by subst hc; simp only [eqGuard_at_int, binOp_eql]; rfl
theorem LOK.neq (hx : σ.ev x = some (.sv (.one (.val (.int k a))))) (hy : σ.ev y = some (.sv (.one (.val (.int k b))))) (hc : (a != b) = r) :
    LOK P n ops ⟨some d, .binOp .neq t x y t', ty, pos, after, g⟩ σ ⟨[(d, .sv (.one (.val (.bool r))))], [], []⟩ :=
  LOK.bin hx hy fun w => by subst hc; simp only [eqGuard_at_int, binOp_neq]; rfl
theorem LOK.lss (hx : σ.ev x = some (.sv (.one (.val (.int k a))))) (hy : σ.ev y = some (.sv (.one (.val (.int k b))))) (hc : decide (a < b) = r) :
    LOK P n ops ⟨some d, .binOp .lss t x y t', ty, pos, after, g⟩ σ ⟨[(d, .sv (.one (.val (.bool r))))], [], []⟩ :=
  LOK.bin hx hy fun w => by subst hc; simp only [eqGuard_at_int, binOp_lss]; rfl
theorem LOK.leq (hx : σ.ev x = some (.sv (.one (.val (.int k a))))) (hy : σ.ev y = some (.sv (.one (.val (.int k b))))) (hc : decide (a ≤ b) = r) :
    LOK P n ops ⟨some d, .binOp .leq t x y t', ty, pos, after, g⟩ σ ⟨[(d, .sv (.one (.val (.bool r))))], [], []⟩ :=
  LOK.bin hx hy fun w => by subst hc; simp only [eqGuard_at_int, binOp_leq]; rfl
theorem LOK.gtr (hx : σ.ev x = some (.sv (.one (.val (.int k a))))) (hy : σ.ev y = some (.sv (.one (.val (.int k b))))) (hc : decide (b < a) = r) :
    LOK P n ops ⟨some d, .binOp .gtr t x y t', ty, pos, after, g⟩ σ ⟨[(d, .sv (.one (.val (.bool r))))], [], []⟩ :=
  LOK.bin hx hy fun w => by subst hc; simp only [eqGuard_at_int, binOp_gtr]; rfl
theorem LOK.geq (hx : σ.ev x = some (.sv (.one (.val (.int k a))))) (hy : σ.ev y = some (.sv (.one (.val (.int k b))))) (hc : decide (b ≤ a) = r) :
    LOK P n ops ⟨some d, .binOp .geq t x y t', ty, pos, after, g⟩ σ ⟨[(d, .sv (.one (.val (.bool r))))], [], []⟩ :=
  LOK.bin hx hy fun w => by subst hc; simp only [eqGuard_at_int, binOp_geq]; rfl
theorem LOK.eqlB {p q : Bool} (hx : σ.ev x = some (.sv (.one (.val (.bool p))))) (hy : σ.ev y = some (.sv (.one (.val (.bool q))))) (hu : P.underlying t = some .bool) (hc : (p == q) = r) :
    LOK P n ops ⟨some d, .binOp .eql t x y t', ty, pos, after, g⟩ σ ⟨[(d, .sv (.one (.val (.bool r))))], [], []⟩ :=
  LOK.bin hx hy fun w => by subst hc; simp [eqGuard_at_bool, binOp, Op.equal, Op.maxDepth, run_equalIn_bool' w _ t p q hu]
theorem LOK.neqB {p q : Bool} (hx : σ.ev x = some (.sv (.one (.val (.bool p))))) (hy : σ.ev y = some (.sv (.one (.val (.bool q))))) (hu : P.underlying t = some .bool) (hc : (p != q) = r) :
    LOK P n ops ⟨some d, .binOp .neq t x y t', ty, pos, after, g⟩ σ ⟨[(d, .sv (.one (.val (.bool r))))], [], []⟩ :=
  LOK.bin hx hy fun w => by subst hc; simp [eqGuard_at_bool, binOp, Op.equal, Op.maxDepth, run_equalIn_bool' w _ t p q hu, bne]
theorem LOK.strEq {p q : ByteArray} (hx : σ.ev x = some (.sv (.one (.val (.string p))))) (hy : σ.ev y = some (.sv (.one (.val (.string q))))) (hc : (p.toList == q.toList) = r) :
    LOK P n ops ⟨some d, .binOp .eql t x y t', ty, pos, after, g⟩ σ ⟨[(d, .sv (.one (.val (.bool r))))], [], []⟩ :=
  LOK.bin hx hy fun w => by subst hc; simp [eqGuard_at_string, binOp, Op.stringOp]
theorem LOK.strNe {p q : ByteArray} (hx : σ.ev x = some (.sv (.one (.val (.string p))))) (hy : σ.ev y = some (.sv (.one (.val (.string q))))) (hc : (!(p.toList == q.toList)) = r) :
    LOK P n ops ⟨some d, .binOp .neq t x y t', ty, pos, after, g⟩ σ ⟨[(d, .sv (.one (.val (.bool r))))], [], []⟩ :=
  LOK.bin hx hy fun w => by subst hc; simp [eqGuard_at_string, binOp, Op.stringOp]
theorem LOK.strAdd {p q s : ByteArray} (hx : σ.ev x = some (.sv (.one (.val (.string p))))) (hy : σ.ev y = some (.sv (.one (.val (.string q))))) (hsz : p.size + q.size ≤ 9223372036854775807) (hc : p ++ q = s) :
    LOK P n ops ⟨some d, .binOp .add t x y t', ty, pos, after, g⟩ σ ⟨[(d, .sv (.one (.val (.string s))))], [], []⟩ :=
  LOK.bin hx hy fun w => by
    subst hc
    have : ¬ ((p.size + q.size : Nat) : Int) > IntKind.i64.max := by rw [IntKind.max_i64]; omega
    simp only [eqGuard_add, binOp, Op.stringOp, this, if_false]
    rfl
theorem LOK.conv (hx : σ.ev x = some (.sv (.one (.val (.int k a))))) (hs : (P.underlying t).isSome = true) (hd : P.underlying t' = some (.int k')) (hc : k'.wrap a = c) :
    LOK P n ops ⟨some d, .convert t t' x, ty, pos, after, g⟩ σ ⟨[(d, .sv (.one (.val (.int k' c))))], [], []⟩ :=
  LOK.value fun σ' ha C ι act w hr => by
    have h1 : act.eval x = .int k a := hr.ev ((ha.ev (by simp [Op.operands])).trans hx)
    obtain ⟨e, he⟩ := Option.isSome_iff_exists.mp hs
    subst hc
    exact ⟨_, by simp [execOp, h1, convert, run_underlying he, run_underlying hd, Conv.intToInt], rfl⟩
end ints

theorem CVs.val_list {S : Nat → Option (Option Box)} {ι : Nat → Nat × Nat} : ∀ {l : List Value} {vs : List Value}, CVs.rel S ι (l.map .val) vs → vs = l
  | [], [], _ => rfl
  | _ :: _, _ :: _, h => by obtain ⟨h1, h2⟩ := h; simp only [CV.rel] at h1; rw [h1, CVs.val_list h2]
  | [], _ :: _, h => h.elim
  | _ :: _, [], h => h.elim

def valsOf : List CV → Option (List Value)
  | [] => some []
  | .val v :: r => (valsOf r).map (v :: ·)
  | _ :: _ => none
theorem valsOf_eq : ∀ {l : List CV} {vs : List Value}, valsOf l = some vs → l = vs.map .val
  | [], vs, h => by simp [valsOf] at h; subst h; rfl
  | .val v :: r, vs, h => by
    simp only [valsOf, Option.map_eq_some_iff] at h
    obtain ⟨us, hu, rfl⟩ := h
    simp [valsOf_eq hu]
  | .junk :: _, _, h => by simp [valsOf] at h
  | .ptr _ _ :: _, _, h => by simp [valsOf] at h
  | .slc _ _ _ :: _, _, h => by simp [valsOf] at h

/-- two aggregates of plain values, compared -/
theorem LOK.aggEq {d : Nat} {t t' : TypeId} {x y : Operand} {ty : TypeId} {pos : String} {after : Array Edge} {g : Option (Nat × Bool)} {l l' : List CV} {us vs : List Value} {r c : Bool} {op : BinOp}
    (hx : σ.ev x = some (.sv (.agg l))) (hy : σ.ev y = some (.sv (.agg l'))) (hl : valsOf l = some us) (hl' : valsOf l' = some vs) (hgt : P.eqGuardType P.depth t = false)
    (hrun : ∀ w, (Op.equalIn 10000 t (.agg us.toArray) (.agg vs.toArray)).run P w = .ok r w) (hop : (op = .eql ∧ c = r) ∨ (op = .neq ∧ c = !r)) :
    LOK P n ops ⟨some d, .binOp op t x y t', ty, pos, after, g⟩ σ ⟨[(d, .sv (.one (.val (.bool c))))], [], []⟩ :=
  LOK.value fun σ' ha C ι a w hr => by
    obtain ⟨p, h1, h1'⟩ := hr.ev ((ha.ev (x := x) (by simp [Op.operands])).trans hx)
    obtain ⟨q, h2, h2'⟩ := hr.ev ((ha.ev (x := y) (by simp [Op.operands])).trans hy)
    rw [valsOf_eq hl] at h1'
    rw [valsOf_eq hl'] at h2'
    have e1 := CVs.val_list h1'
    have e2 := CVs.val_list h2'
    have e1' : p = us.toArray := by rw [← e1]
    have e2' : q = vs.toArray := by rw [← e2]
    subst e1' e2'
    rcases hop with ⟨rfl, rfl⟩ | ⟨rfl, rfl⟩
    · exact ⟨_, by simp only [execOp, h1, h2, Sem.run_bind, run_eqGuard_agg w .eql t x y _ _ hgt, Result.andThen_ok, run_eql_struct, hrun]; rfl, rfl⟩
    · exact ⟨_, by simp only [execOp, h1, h2, Sem.run_bind, run_eqGuard_agg w .neq t x y _ _ hgt, Result.andThen_ok, run_neq_struct, hrun]; rfl, rfl⟩

-- addresses
def fieldOf (P : Program) (s : TypeId) (i : Nat) : Option (Nat × Nat) :=
  match P.underlying s with
  | some (.struct fs) => match fs[i]? with
    | some f => (P.info? f.type).map fun j => (f.offset, j.size)
    | none => none
  | _ => none

theorem LOK.fieldAddr {d : Nat} {s i : Nat} {x : Operand} {ty : TypeId} {pos : String} {after : Array Edge} {g : Option (Nat × Bool)} {k off o m : Nat} {off' : Nat} (hx : σ.ev x = some (.sv (.one (.ptr k off))))
    (hf : fieldOf P s i = some (o, m + 1)) (ho : off + o = off') :
    LOK P n ops ⟨some d, .fieldAddr s x i, ty, pos, after, g⟩ σ ⟨[(d, .sv (.one (.ptr k off')))], [], []⟩ :=
  LOK.value fun σ' ha C ι a w hr => by
    have h1 := hr.ev ((ha.ev (x := x) (by simp [Op.operands])).trans hx)
    subst ho
    unfold fieldOf at hf
    cases hu : P.underlying s with
    | none => simp [hu] at hf
    | some dd =>
      cases dd <;> simp only [hu] at hf <;> try (simp at hf; done)
      rename_i fs
      cases hfi : fs[i]? with
      | none => simp [hfi] at hf
      | some f =>
        cases hin : P.info? f.type with
        | none => simp [hfi, hin] at hf
        | some inf =>
          simp only [hfi, hin, Option.map_some, Option.some.injEq, Prod.mk.injEq] at hf
          obtain ⟨e1, e2⟩ := hf
          simp only [LV.rel, SV.rel, CV.rel] at h1 ⊢
          cases hk : σ'.stat k with
          | none => simp [hk] at h1
          | some bb =>
            cases bb with
            | none =>
              simp only [hk] at h1 ⊢
              obtain ⟨b, h1⟩ := h1
              refine ⟨.pointer (some ⟨b, off + o, none⟩), ?_, b, rfl⟩
              simp [execOp, Instr.fieldAt, run_underlying hu, hfi, Instr.sureAddr, h1, fieldPlace, sizeOf, typeInfo, hin, e2, addr_add, e1]
            | some b =>
              simp only [hk] at h1 ⊢
              refine ⟨_, ?_, rfl⟩
              simp [execOp, Instr.fieldAt, run_underlying hu, hfi, Instr.sureAddr, h1, fieldPlace, sizeOf, typeInfo, hin, e2, addr_add, e1]

end
end Go.Lg
