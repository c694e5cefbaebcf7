/- A piece of a proof over this program: contracts of its functions, and a logic to prove them by. -/
import Derived.WalkKit
import Derived.Orders
namespace Go.Lg
open Go Go.RowKit

/-- one cell: a plain value; nothing known; a pointer into box k; a slice over box k -/
inductive CV where
  | val (v : Value)
  | junk
  | ptr (k off : Nat)
  | slc (k off len : Nat) (sz : Nat := 1)

/-- one value: one cell, or an aggregate -/
inductive SV where
  | one (c : CV)
  | agg (l : List CV)

inductive LV where
  | sv (s : SV)
  | tup (l : List SV)

/-- row: the block may have more cells behind those that are known -/
structure Box where
  elem : TypeId
  cells : List CV
  row : Bool := false

def look {α : Type} (k : Nat) : List (Nat × α) → Option α
  | [] => none
  | (k', a) :: r => cond (Nat.beq k' k) (some a) (look k r)

structure St where
  slots : List (Nat × LV)
  boxes : List (Nat × Option Box)
  X : Nat → Option Obj

def St.slot (σ : St) (d : Nat) : Option LV := look d σ.slots
def St.stat (σ : St) (k : Nat) : Option (Option Box) := look k σ.boxes

/-- a name's meaning: not in use: it stands nowhere; dead: nothing is known; alive: the block -/
def CV.rel (S : Nat → Option (Option Box)) (ι : Nat → Nat × Nat) : CV → Value → Prop
  | .val u, v => v = u
  | .junk, _ => True
  | .ptr k off, v => match S k with
    | none => False
    | some none => ∃ b, v = .pointer (some ⟨b, off, none⟩)
    | some (some _) => v = .pointer (some ⟨(ι k).1, off, none⟩)
  | .slc k off n sz, v => match S k with
    | none => False
    | some none => ∃ b c, v = .slice (some ⟨b, off, none⟩) n c ∧ n ≤ c
    | some (some _) => ∃ c, v = .slice (some ⟨(ι k).1, off, none⟩) n c ∧ n ≤ c ∧ off + c * sz ≤ (ι k).2

def CVs.rel (S : Nat → Option (Option Box)) (ι : Nat → Nat × Nat) : List CV → List Value → Prop
  | [], [] => True
  | c :: cs, v :: vs => c.rel S ι v ∧ CVs.rel S ι cs vs
  | _, _ => False

def SV.rel (S : Nat → Option (Option Box)) (ι : Nat → Nat × Nat) : SV → Value → Prop
  | .one c, v => c.rel S ι v
  | .agg l, v => ∃ arr : Array Value, v = .agg arr ∧ CVs.rel S ι l arr.toList

def SVs.rel (S : Nat → Option (Option Box)) (ι : Nat → Nat × Nat) : List SV → List Value → Prop
  | [], [] => True
  | c :: cs, v :: vs => c.rel S ι v ∧ SVs.rel S ι cs vs
  | _, _ => False

def LV.rel (S : Nat → Option (Option Box)) (ι : Nat → Nat × Nat) : LV → Value → Prop
  | .sv s, v => s.rel S ι v
  | .tup l, v => ∃ arr : Array Value, v = .tuple arr ∧ SVs.rel S ι l arr.toList

def Box.rel (S : Nat → Option (Option Box)) (ι : Nat → Nat × Nat) (b : Box) (arr : List Value) : Prop :=
  match b.row with
  | false => CVs.rel S ι b.cells arr
  | true => ∃ vs sp, arr = vs ++ sp ∧ CVs.rel S ι b.cells vs

section mono
variable {S S' : Nat → Option (Option Box)} {ι ι' : Nat → Nat × Nat}
/-- what is in use stays in use; what is alive in the new state was alive, and means the same block -/
def Later (S S' : Nat → Option (Option Box)) (ι ι' : Nat → Nat × Nat) : Prop :=
  ∀ k, S k ≠ none → S' k ≠ none ∧ ∀ b', S' k = some (some b') → ι' k = ι k ∧ ∃ b, S k = some (some b)

theorem CV.rel_later (h : Later S S' ι ι') {c : CV} {v : Value} (hr : c.rel S ι v) : c.rel S' ι' v := by
  cases c with
  | val u => exact hr
  | junk => trivial
  | ptr k off =>
    simp only [CV.rel] at hr ⊢
    cases hk : S k with
    | none => simp [hk] at hr
    | some x =>
      obtain ⟨h1, h2⟩ := h k (by simp [hk])
      cases hk' : S' k with
      | none => exact absurd hk' h1
      | some x' =>
        cases x' with
        | none =>
          cases x with
          | none => simpa [hk] using hr
          | some _ => rw [hk] at hr; exact ⟨_, hr⟩
        | some b' =>
          obtain ⟨e, b, hb⟩ := h2 b' hk'
          rw [hb] at hr
          simp only at hr ⊢
          rw [e]
          exact hr
  | slc k off n sz =>
    simp only [CV.rel] at hr ⊢
    cases hk : S k with
    | none => simp [hk] at hr
    | some x =>
      obtain ⟨h1, h2⟩ := h k (by simp [hk])
      cases hk' : S' k with
      | none => exact absurd hk' h1
      | some x' =>
        cases x' with
        | none =>
          cases x with
          | none => simpa [hk] using hr
          | some _ => rw [hk] at hr; obtain ⟨c, h3, h4, _⟩ := hr; exact ⟨_, c, h3, h4⟩
        | some b' =>
          obtain ⟨e, b, hb⟩ := h2 b' hk'
          rw [hb] at hr
          simp only at hr ⊢
          rw [e]
          exact hr

theorem CVs.rel_later (h : Later S S' ι ι') : ∀ {l : List CV} {vs : List Value}, CVs.rel S ι l vs → CVs.rel S' ι' l vs
  | [], [], _ => trivial
  | _ :: _, _ :: _, hr => ⟨CV.rel_later h hr.1, CVs.rel_later h hr.2⟩
  | [], _ :: _, hr => hr.elim
  | _ :: _, [], hr => hr.elim

theorem SV.rel_later (h : Later S S' ι ι') {s : SV} {v : Value} (hr : s.rel S ι v) : s.rel S' ι' v := by
  cases s with
  | one c => exact CV.rel_later h hr
  | agg l => obtain ⟨arr, e, hl⟩ := hr; exact ⟨arr, e, CVs.rel_later h hl⟩

theorem SVs.rel_later (h : Later S S' ι ι') : ∀ {l : List SV} {vs : List Value}, SVs.rel S ι l vs → SVs.rel S' ι' l vs
  | [], [], _ => trivial
  | _ :: _, _ :: _, hr => ⟨SV.rel_later h hr.1, SVs.rel_later h hr.2⟩
  | [], _ :: _, hr => hr.elim
  | _ :: _, [], hr => hr.elim

theorem LV.rel_later (h : Later S S' ι ι') {s : LV} {v : Value} (hr : s.rel S ι v) : s.rel S' ι' v := by
  cases s with
  | sv s => exact SV.rel_later h hr
  | tup l => obtain ⟨arr, e, hl⟩ := hr; exact ⟨arr, e, SVs.rel_later h hl⟩

theorem Box.rel_later (h : Later S S' ι ι') {b : Box} {vs : List Value} (hr : b.rel S ι vs) : b.rel S' ι' vs := by
  unfold Box.rel at hr ⊢
  cases hb : b.row with
  | false => rw [hb] at hr; exact CVs.rel_later h hr
  | true => rw [hb] at hr; obtain ⟨us, sp, e, hl⟩ := hr; exact ⟨us, sp, e, CVs.rel_later h hl⟩

theorem CVs.rel_length : ∀ {l : List CV} {vs : List Value}, CVs.rel S ι l vs → l.length = vs.length
  | [], [], _ => rfl
  | _ :: _, _ :: _, hr => by simp [CVs.rel_length hr.2]
  | [], _ :: _, hr => hr.elim
  | _ :: _, [], hr => hr.elim

theorem CVs.rel_append {l l' : List CV} {vs vs' : List Value} (h : CVs.rel S ι l vs) (h' : CVs.rel S ι l' vs') : CVs.rel S ι (l ++ l') (vs ++ vs') := by
  induction l generalizing vs with
  | nil => cases vs with
    | nil => exact h'
    | cons => exact h.elim
  | cons c l ih => cases vs with
    | nil => exact h.elim
    | cons v vs => exact ⟨h.1, ih h.2⟩

theorem CVs.rel_drop {l : List CV} {vs : List Value} (h : CVs.rel S ι l vs) (n : Nat) : CVs.rel S ι (l.drop n) (vs.drop n) := by
  induction n generalizing l vs with
  | zero => exact h
  | succ n ih =>
    cases l with
    | nil => cases vs with
      | nil => trivial
      | cons => exact h.elim
    | cons c l => cases vs with
      | nil => exact h.elim
      | cons v vs => exact ih h.2

theorem CVs.rel_take {l : List CV} {vs : List Value} (h : CVs.rel S ι l vs) (n : Nat) : CVs.rel S ι (l.take n) (vs.take n) := by
  induction n generalizing l vs with
  | zero => trivial
  | succ n ih =>
    cases l with
    | nil => cases vs with
      | nil => trivial
      | cons => exact h.elim
    | cons c l => cases vs with
      | nil => exact h.elim
      | cons v vs => exact ⟨h.1, ih h.2⟩

theorem CVs.rel_get {l : List CV} {vs : List Value} (h : CVs.rel S ι l vs) {n : Nat} {c : CV} (hc : l[n]? = some c) : ∃ v, vs[n]? = some v ∧ c.rel S ι v := by
  induction n generalizing l vs with
  | zero =>
    cases l with
    | nil => simp at hc
    | cons c' l => cases vs with
      | nil => exact h.elim
      | cons v vs => simp at hc; subst hc; exact ⟨v, rfl, h.1⟩
  | succ n ih =>
    cases l with
    | nil => simp at hc
    | cons c' l => cases vs with
      | nil => exact h.elim
      | cons v vs => simp at hc; simpa using ih h.2 hc

theorem SVs.rel_get {l : List SV} {vs : List Value} (h : SVs.rel S ι l vs) {n : Nat} {c : SV} (hc : l[n]? = some c) : ∃ v, vs[n]? = some v ∧ c.rel S ι v := by
  induction n generalizing l vs with
  | zero =>
    cases l with
    | nil => simp at hc
    | cons c' l => cases vs with
      | nil => exact h.elim
      | cons v vs => simp at hc; subst hc; exact ⟨v, rfl, h.1⟩
  | succ n ih =>
    cases l with
    | nil => simp at hc
    | cons c' l => cases vs with
      | nil => exact h.elim
      | cons v vs => simp at hc; simpa using ih h.2 hc

theorem CVs.rel_map_val (l : List Value) : CVs.rel S ι (l.map .val) l := by
  induction l with
  | nil => trivial
  | cons v l ih => exact ⟨rfl, ih⟩
end mono

/-- what is fixed for one call -/
structure Ctx where
  w0 : World
  own : Nat → Prop
  ι0 : Nat → Nat × Nat := fun _ => (0, 0)

/-- none of these cells is frozen -/
def Thaw (fr : Nat × Nat) (m : Nat) : Prop := ∀ i, i < m → (decide (fr.1 ≤ i) && decide (i < fr.2)) = false
theorem Thaw.zero (m : Nat) : Thaw (0, 0) m := fun i _ => by simp
structure Rel (n : Nat) (C : Ctx) (ι : Nat → Nat × Nat) (σ : St) (a : Act) (w : World) : Prop where
  defers : a.defers = []
  size : a.tmps.size = n
  slots : ∀ d lv, σ.slot d = some lv → ∃ v, a.tmps[d]? = some v ∧ lv.rel σ.stat ι v
  boxes : ∀ k b, σ.stat k = some (some b) → ∃ arr fr, w.heap[(ι k).1]? = some (.cells arr b.elem fr) ∧ Thaw fr arr.size ∧ arr.size = (ι k).2 ∧ b.rel σ.stat ι arr.toList
  own : ∀ k b, σ.stat k = some (some b) → (C.own (ι k).1 ∨ C.w0.heap.size ≤ (ι k).1) ∧ σ.X (ι k).1 = none
  inj : ∀ k k' b b', σ.stat k = some (some b) → σ.stat k' = some (some b') → (ι k).1 = (ι k').1 → k = k'
  keep : ∀ k b, σ.stat k = some (some b) → 1000000 ≤ k → ι k = C.ι0 k
  ext : ∀ b o, σ.X b = some o → w.heap[b]? = some o
  frame : ∀ b, b < C.w0.heap.size → ¬ C.own b → w.heap[b]? = C.w0.heap[b]?
  big : C.w0.heap.size ≤ w.heap.size
  os : w.os = C.w0.os
  tape : w.tape = C.w0.tape
  output : w.output = C.w0.output

/-- a name that may be given to a new block -/
def St.fresh (σ : St) (k : Nat) : Bool := Nat.blt k 1000000 && (σ.stat k).isNone
theorem St.fresh_none {σ : St} {k : Nat} (h : σ.fresh k = true) : σ.stat k = none := by
  simp only [St.fresh, Bool.and_eq_true, Option.isNone_iff_eq_none] at h
  exact h.2
theorem St.fresh_lt {σ : St} {k : Nat} (h : σ.fresh k = true) : k < 1000000 := by
  simp only [St.fresh, Bool.and_eq_true] at h
  exact (Nat.blt_eq ▸ h.1 : k < 1000000)
/-- two states of which the same is known -/
structure Same (σ σ' : St) : Prop where
  slot : ∀ d, σ.slot d = σ'.slot d
  stat : ∀ k, σ.stat k = σ'.stat k
  X : σ.X = σ'.X

theorem Same.refl (σ : St) : Same σ σ := ⟨fun _ => rfl, fun _ => rfl, rfl⟩
theorem Same.symm {σ σ' : St} (h : Same σ σ') : Same σ' σ := ⟨fun d => (h.slot d).symm, fun d => (h.stat d).symm, h.X.symm⟩
theorem Same.trans {σ σ' σ'' : St} (h : Same σ σ') (h' : Same σ' σ'') : Same σ σ'' := ⟨fun d => (h.slot d).trans (h'.slot d), fun d => (h.stat d).trans (h'.stat d), h.X.trans h'.X⟩

theorem Rel.same {n : Nat} {C : Ctx} {ι : Nat → Nat × Nat} {σ σ' : St} {a : Act} {w : World} (h : Rel n C ι σ a w) (hs : Same σ σ') : Rel n C ι σ' a w := by
  have e : σ.stat = σ'.stat := funext hs.stat
  exact {
    defers := h.defers, size := h.size
    slots := fun d lv hd => by rw [← e]; exact h.slots d lv ((hs.slot d).trans hd)
    boxes := fun k b hb => by rw [← e] at hb ⊢; exact h.boxes k b hb
    own := fun k b hb => by rw [← e] at hb; rw [← hs.X]; exact h.own k b hb
    inj := fun k k' b b' hb hb' => by rw [← e] at hb hb'; exact h.inj k k' b b' hb hb'
    keep := fun k b hb => by rw [← e] at hb; exact h.keep k b hb
    ext := by rw [← hs.X]; exact h.ext
    frame := h.frame, big := h.big, os := h.os, tape := h.tape, output := h.output }

/-- what one operation does to the state -/
structure Eff where
  slots : List (Nat × LV)
  foot : List Nat
  boxes : List (Nat × Option Box)

def Eff.app (e : Eff) (σ : St) : St := ⟨e.slots ++ σ.slots, e.boxes ++ σ.boxes, σ.X⟩

def toLV : Value → LV
  | .agg arr => .sv (.agg (arr.toList.map .val))
  | .tuple arr => .tup (arr.toList.map fun v => match v with | .agg cs => .agg (cs.toList.map .val) | v => .one (.val v))
  | v => .sv (.one (.val v))

def St.ev (σ : St) : Operand → Option LV
  | .tmp t => σ.slot t
  | .const v => some (toLV v)
  | .global g => some (.sv (.one (.val (.pointer (some ⟨g, 0, none⟩)))))
  | .func f => some (.sv (.one (.val (.func (.func f) #[] #[]))))

theorem toLV_rel (S : Nat → Option (Option Box)) (ι : Nat → Nat × Nat) (v : Value) : (toLV v).rel S ι v := by
  cases v <;> simp only [toLV, LV.rel, SV.rel, CV.rel]
  case agg arr => exact ⟨arr, rfl, CVs.rel_map_val _⟩
  case tuple arr =>
    refine ⟨arr, rfl, ?_⟩
    generalize arr.toList = l
    induction l with
    | nil => trivial
    | cons v l ih =>
      refine ⟨?_, ih⟩
      cases v <;> simp only [SV.rel, CV.rel]
      exact ⟨_, rfl, CVs.rel_map_val _⟩

theorem Rel.ev {n : Nat} {C : Ctx} {ι : Nat → Nat × Nat} {σ : St} {a : Act} {w : World} (h : Rel n C ι σ a w) {x : Operand} {lv : LV} (hx : σ.ev x = some lv) : lv.rel σ.stat ι (a.eval x) := by
  cases x with
  | tmp t =>
    obtain ⟨v, hv, hr⟩ := h.slots t lv hx
    simpa [Act.eval, hv] using hr
  | const v => simp only [St.ev, Option.some.injEq] at hx; subst hx; exact toLV_rel _ _ _
  | global g => simp only [St.ev, Option.some.injEq] at hx; subst hx; rfl
  | func f => simp only [St.ev, Option.some.injEq] at hx; subst hx; rfl

/-- the slots that an operation looks at -/
def looks (ops : List Oper) (o : Oper) : List Nat :=
  (o.op.operands.toList.filterMap fun | .tmp t => some t | _ => none) ++
  (match o.guard with
   | some (g, _) => ((ops[g]?).bind (·.dst)).toList
   | none => [])

structure Agree (ops : List Oper) (o : Oper) (e : Eff) (σ σ' : St) : Prop where
  slot : ∀ d, d ∈ looks ops o → σ'.slot d = σ.slot d
  stat : ∀ k, k ∈ e.foot ∨ k ∈ e.boxes.map (·.1) → σ'.stat k = σ.stat k
  X : σ'.X = σ.X

/-- the operation does just this, wherever what it looks at is as here -/
def OpOK (P : Program) (n : Nat) (o : Oper) (σ : St) (e : Eff) : Prop :=
  ∀ (C : Ctx) (ι : Nat → Nat × Nat) (a : Act) (w : World), Rel n C ι σ a w → (∀ d, o.dst = some d → d < n) →
    ∀ (next : Act → World → Prop) (Q : Exit → Act → World → Prop), (∀ ι' a' w', Rel n C ι' (e.app σ) a' w' → next a' w') → o.wp P a w next Q

inductive Step (P : Program) (n : Nat) (ops : List Oper) (o : Oper) (σ : St) (e : Eff) : Prop
  | plain (hg : o.guard = none) (h : ∀ σ', Agree ops o e σ σ' → OpOK P n o σ' e)
  | taken (j t : Nat) (b : Bool) (hg : o.guard = some (j, b)) (ht : (ops[j]?).bind (·.dst) = some t) (hb : σ.slot t = some (.sv (.one (.val (.bool b))))) (h : ∀ σ', Agree ops o e σ σ' → OpOK P n o σ' e)
  | skipped (j t : Nat) (b : Bool) (v : Value) (hg : o.guard = some (j, b)) (ht : (ops[j]?).bind (·.dst) = some t) (hb : σ.slot t = some (.sv (.one (.val v)))) (hne : v ≠ .bool b)
      (he : e = ⟨(o.dst.map fun d => (d, LV.sv (.one (.val undef)))).toList, [], []⟩)

theorem Step.agree {P : Program} {n : Nat} {ops : List Oper} {o : Oper} {σ σ' : St} {e : Eff} (h : Step P n ops o σ e) (ha : Agree ops o e σ σ') : Step P n ops o σ' e := by
  have tr : ∀ σ'', Agree ops o e σ' σ'' → Agree ops o e σ σ'' := fun σ'' hb =>
    ⟨fun d hd => (hb.slot d hd).trans (ha.slot d hd), fun k hk => (hb.stat k hk).trans (ha.stat k hk), hb.X.trans ha.X⟩
  cases h with
  | plain hg h => exact .plain hg fun σ'' hb => h σ'' (tr σ'' hb)
  | taken j t b hg ht hb h =>
    refine .taken j t b hg ht ?_ fun σ'' hb => h σ'' (tr σ'' hb)
    rw [ha.slot t (by simp [looks, hg, ht])]; exact hb
  | skipped j t b v hg ht hb hne he =>
    refine .skipped j t b v hg ht ?_ hne he
    rw [ha.slot t (by simp [looks, hg, ht])]; exact hb

theorem Rel.put {n : Nat} {C : Ctx} {ι : Nat → Nat × Nat} {σ : St} {a : Act} {w : World} (h : Rel n C ι σ a w) {d : Nat} (hd : d < n) {lv : LV} {v : Value} (hr : lv.rel σ.stat ι v) :
    Rel n C ι ⟨(d, lv) :: σ.slots, σ.boxes, σ.X⟩ (a.put (some d) v) w := by
  refine { h with defers := h.defers, size := by simp [Act.put, h.size], slots := ?_ }
  intro d' lv' hd'
  have hsz := h.size
  simp only [St.slot, look] at hd'
  by_cases e : d = d'
  · subst e
    simp at hd'
    subst hd'
    refine ⟨v, ?_, hr⟩
    simp [Act.put, hsz, hd]
  · have : Nat.beq d d' = false := by
      cases h : Nat.beq d d' with
      | false => rfl
      | true => exact absurd (Nat.eq_of_beq_eq_true h) e
    rw [this] at hd'
    obtain ⟨v', hv', hr'⟩ := h.slots d' lv' hd'
    refine ⟨v', ?_, hr'⟩
    simpa [Act.put, Array.getElem?_setIfInBounds, e] using hv'

theorem Rel.putNone {n : Nat} {C : Ctx} {ι : Nat → Nat × Nat} {σ : St} {a : Act} {w : World} (h : Rel n C ι σ a w) (v : Value) : Rel n C ι σ (a.put none v) w := h

end Go.Lg
