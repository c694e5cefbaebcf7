/- A piece of a proof over this program: contracts of its functions, and a logic to prove them by. -/
import Derived.Test.YtfmohdliifmmfaaLg3
namespace Go.Lg
open Go Go.RowKit

structure LWP (P : Program) (n : Nat) (C : Ctx) (c : Code) (Q : Exit → St → Prop) (σ : St) : Prop where
  out : ∀ ι a w, Rel n C ι σ a w → c.wp P (fun e a' w' => ∃ ι' σ', Q e σ' ∧ Rel n C ι' σ' a' w') a w

def thenQ (K : St → Prop) (Q : Exit → St → Prop) : Exit → St → Prop
  | .normal, σ => K σ
  | e, σ => Q e σ

def blockQ (id : Nat) (Q : Exit → St → Prop) : Exit → St → Prop
  | .exit id', σ => cond (Nat.beq id' id) (Q .normal σ) (Q (.exit id') σ)
  | e, σ => Q e σ

/-- the region's walk, in the order of the text -/
structure RunK (P : Program) (n : Nat) (ops : List Oper) (os : List Oper) (σ : St) (acc : List Eff) (K : List Eff → St → Prop) : Prop where
  out : ∃ es σ', Run P n ops os σ es σ' ∧ K (acc.reverse ++ es) σ'

section
variable {P : Program} {n : Nat} {C : Ctx} {Q : Exit → St → Prop} {σ : St}

theorem LWP.mono {c : Code} {Q' : Exit → St → Prop} (h : LWP P n C c Q σ) (hq : ∀ e σ, Q e σ → Q' e σ) : LWP P n C c Q' σ :=
  ⟨fun ι a w hr => wp_mono (h.out ι a w hr) fun _ _ _ ⟨ι', σ', q, r⟩ => ⟨ι', σ', hq _ _ q, r⟩⟩

theorem LWP.seq {x y : Code} (h : LWP P n C x (thenQ (LWP P n C y Q) Q) σ) : LWP P n C (.seq x y) Q σ := by
  refine ⟨fun ι a w hr => ?_⟩
  refine wp_seq (wp_mono (h.out ι a w hr) ?_)
  rintro e a' w' ⟨ι', σ', hq, hr'⟩
  cases e <;> first
    | exact hq.out ι' a' w' hr'
    | exact ⟨ι', σ', hq, hr'⟩

theorem LWP.skip (h : Q .normal σ) : LWP P n C .skip Q σ := ⟨fun ι _ _ hr => wp_skip ⟨ι, σ, h, hr⟩⟩
theorem LWP.label {l : Nat} (h : Q .normal σ) : LWP P n C (.label l) Q σ := ⟨fun ι _ _ hr => wp_label ⟨ι, σ, h, hr⟩⟩
theorem LWP.exit {id : Nat} (h : Q (.exit id) σ) : LWP P n C (.exit id) Q σ := ⟨fun ι _ _ hr => wp_exit ⟨ι, σ, h, hr⟩⟩
theorem LWP.ret (h : Q .ret σ) : LWP P n C .ret Q σ := ⟨fun ι _ _ hr => wp_ret ⟨ι, σ, h, hr⟩⟩

theorem LWP.block {id : Nat} {c : Code} (h : LWP P n C c (blockQ id Q) σ) : LWP P n C (.block id c) Q σ := by
  refine ⟨fun ι a w hr => ?_⟩
  refine wp_block (wp_mono (h.out ι a w hr) ?_)
  rintro e a' w' ⟨ι', σ', hq, hr'⟩
  cases e <;> try exact ⟨ι', σ', hq, hr'⟩
  rename_i id'
  simp only [blockQ] at hq
  by_cases he : id' = id
  · subst he
    simp only [Exit.inBlock, if_pos]
    refine ⟨ι', σ', ?_, hr'⟩
    simpa [Nat.beq_refl] using hq
  · have : Nat.beq id' id = false := by
      cases hb : Nat.beq id' id with
      | false => rfl
      | true => exact absurd (Nat.eq_of_beq_eq_true hb) he
    rw [this] at hq
    simp only [Exit.inBlock, if_neg he]
    exact ⟨ι', σ', hq, hr'⟩

theorem LWP.cond {c : Operand} {x y : Code} {b : Bool} (hc : σ.ev c = some (.sv (.one (.val (.bool b))))) (ht : b = true → LWP P n C x Q σ) (hf : b = false → LWP P n C y Q σ) :
    LWP P n C (.cond c x y) Q σ := by
  refine ⟨fun ι a w hr => ?_⟩
  have he : a.eval c = .bool b := hr.ev hc
  exact wp_cond_split he (fun h => (ht h).out ι a w hr) (fun h => (hf h).out ι a w hr)

theorem LWP.condT {c : Operand} {x y : Code} (hc : σ.ev c = some (.sv (.one (.val (.bool true))))) (h : LWP P n C x Q σ) : LWP P n C (.cond c x y) Q σ :=
  LWP.cond hc (fun _ => h) (fun h => by simp at h)
theorem LWP.condF {c : Operand} {x y : Code} (hc : σ.ev c = some (.sv (.one (.val (.bool false))))) (h : LWP P n C y Q σ) : LWP P n C (.cond c x y) Q σ :=
  LWP.cond hc (fun h => by simp at h) (fun _ => h)

theorem rounds_mono {P : Program} {c : Code} {Q : Exit → Act → World → Prop} : ∀ (m : Nat) (a : Act) (w : World), Code.rounds P c Q m a w → Code.rounds P c Q (m + 1) a w
  | 0, _, _, h => h.elim
  | m + 1, a, w, h => by
    rw [rounds_succ] at h ⊢
    refine wp_mono h fun e a' w' hq => ?_
    cases e <;> first
      | exact rounds_mono m a' w' hq
      | exact hq

theorem rounds_le {P : Program} {c : Code} {Q : Exit → Act → World → Prop} {m m' : Nat} {a : Act} {w : World} (hle : m ≤ m') (h : Code.rounds P c Q m a w) : Code.rounds P c Q m' a w := by
  induction hle with
  | refl => exact h
  | step _ ih => exact rounds_mono _ _ _ ih

/-- what is known of the first state holds of the second one: less of it -/
structure Le (n : Nat) (C : Ctx) (σ σ' : St) : Prop where
  out : ∀ ι a w, Rel n C ι σ a w → ∃ ι', Rel n C ι' σ' a w

theorem LWP.loop {c : Code} (I : Nat → St → Prop) (m : Nat) (h0 : ∃ σ', Le n C σ σ' ∧ I m σ')
    (round : ∀ m σ, I m σ → LWP P n C c (thenQ (fun σ' => ∃ m' σ'', m' < m ∧ Le n C σ' σ'' ∧ I m' σ'') Q) σ) : LWP P n C (.loop c) Q σ := by
  refine ⟨fun ι a w hr => ?_⟩
  have key : ∀ (m : Nat) (σ : St) (ι : Nat → Nat × Nat) (a : Act) (w : World), I m σ → Rel n C ι σ a w → Code.rounds P c (fun e a' w' => ∃ ι' σ', Q e σ' ∧ Rel n C ι' σ' a' w') (m + 1) a w := by
    intro m
    induction m using Nat.strongRecOn with
    | _ m ih =>
      intro σ ι a w hI hr
      rw [rounds_succ]
      refine wp_mono ((round m σ hI).out ι a w hr) ?_
      rintro e a' w' ⟨ι', σ', hq, hr'⟩
      cases e <;> try exact ⟨ι', σ', hq, hr'⟩
      obtain ⟨m', σ'', hlt, hle, hI'⟩ := hq
      obtain ⟨ι'', hr''⟩ := hle.out ι' a' w' hr'
      exact rounds_le (by omega) (ih m' hlt σ'' ι'' a' w' hI' hr'')
  obtain ⟨σ', hle, hI⟩ := h0
  obtain ⟨ι', hr'⟩ := hle.out ι a w hr
  exact wp_loop_rounds (m + 1) (key m σ' ι' a w hI hr')

theorem LWP.le {c : Code} {σ' : St} (hle : Le n C σ σ') (h : LWP P n C c Q σ') : LWP P n C c Q σ :=
  ⟨fun ι a w hr => let ⟨ι', hr'⟩ := hle.out ι a w hr; h.out ι' a w hr'⟩

-- regions
theorem run_list {ops : List Oper} {σ' : St} {os : List Oper} {es : List Eff} (hrun : Run P n ops os σ es σ') (hdst : ∀ o ∈ os, ∀ d, o.dst = some d → d < n)
    {Q : Exit → Act → World → Prop} {ι : Nat → Nat × Nat} {a : Act} {w : World} (hr : Rel n C ι σ a w) (hQ : ∀ ι a w, Rel n C ι σ' a w → Q .normal a w) : wpList P ops.toArray Q os a w := by
  induction hrun generalizing ι a w with
  | nil σ => exact hQ ι a w hr
  | @cons o os σ σ' e es hstep _ ih =>
    unfold wpList
    exact hstep.wp hr (hdst o (by simp)) fun ι' a' w' hr' => ih (fun o' ho' => hdst o' (by simp [ho'])) hr' hQ

theorem LWP.region {id : Nat} {ops : List Oper} (hdst : dstsOK n ops = true) (h : RunK P n ops ops σ [] fun _ σ' => Q .normal σ') : LWP P n C (.region id ops.toArray false) Q σ := by
  refine ⟨fun ι a w hr => ?_⟩
  obtain ⟨es, σ', hrun, hk⟩ := h.out
  exact wp_region_lit (run_list hrun (fun o ho => dstsOK_spec hdst ho) hr fun ι' a' w' hr' => ⟨ι', σ', hk, hr'⟩)

theorem Rel.drew {ι : Nat → Nat × Nat} {a : Act} {w : World} (h : Rel n C ι σ a w) : Rel n C ι σ a w.drew :=
  { h with ext := h.ext, keep := h.keep, boxes := h.boxes, frame := h.frame, big := h.big, os := h.os, tape := h.tape, output := h.output }

theorem LWP.draws {id : Nat} {ops : List Oper} (hm : P.follows .mixedOrders = true) (hdst : dstsOK n ops = true)
    (h : RunK P n ops ops σ [] fun es σ' => check ops es = true ∧ Q .normal σ') : LWP P n C (.region id ops.toArray true) Q σ := by
  refine ⟨fun ι a w hr => ?_⟩
  obtain ⟨es, σ', hrun, hchk, hk⟩ := h.out
  refine wp_region_any hm ?_
  have h0 : Rel n C ι (upto (fun j => (Array.replicate ops.toArray.size false).getD j false) 0 es σ) a w.drew := by
    have : ∀ (es : List Eff) (s : Nat) (σ : St), upto (fun j => (Array.replicate ops.toArray.size false).getD j false) s es σ = σ := by
      intro es
      induction es with
      | nil => intro s σ; rfl
      | cons e es ih =>
        intro s σ
        have hf : (Array.replicate ops.toArray.size false).getD s false = false := by
          rw [Array.getD_eq_getD_getElem?, Array.getElem?_replicate]
          split <;> rfl
        simp only [upto, hf, cond_false]
        exact ih (s + 1) σ
    rw [this]
    exact hr.drew
  refine run_any (C := C) hrun (by simpa using hchk) hdst (fun ι' a' w' hr' => ⟨ι', σ', hk, hr'⟩) ops.toArray.size _ ι a w.drew (by simp) ?_ ?_ h0
  · intro j o _ hd
    dsimp only at hd
    rw [Array.getD_eq_getD_getElem?, Array.getElem?_replicate] at hd
    split at hd <;> simp at hd
  · have := List.countP_le_length (p := fun j => !(Array.replicate ops.toArray.size false).getD j false) (l := List.range ops.length)
    simpa using this

theorem RunK.nil {ops : List Oper} {acc : List Eff} {K : List Eff → St → Prop} (h : K acc.reverse σ) : RunK P n ops [] σ acc K := ⟨[], σ, .nil σ, by simpa using h⟩

theorem RunK.step {ops os : List Oper} {o : Oper} {acc : List Eff} {K : List Eff → St → Prop} {e : Eff} (hs : Step P n ops o σ e) (h : RunK P n ops os (e.app σ) (e :: acc) K) : RunK P n ops (o :: os) σ acc K := by
  obtain ⟨es, σ', hrun, hk⟩ := h.out
  exact ⟨e :: es, σ', .cons hs hrun, by simpa using hk⟩
end

/-- an operation's effect, wherever what it looks at is as here -/
structure LOK (P : Program) (n : Nat) (ops : List Oper) (o : Oper) (σ : St) (e : Eff) : Prop where
  out : ∀ σ', Agree ops o e σ σ' → OpOK P n o σ' e

section
variable {P : Program} {n : Nat} {ops os : List Oper} {acc : List Eff} {K : List Eff → St → Prop}
variable {s : List (Nat × LV)} {bx : List (Nat × Option Box)} {X : Nat → Option Obj}

/-- the next operation, unguarded: it writes its slot -/
theorem RunK.go {dst : Option Nat} {op : Op} {ty : TypeId} {pos : String} {after : Array Edge} {sl : List (Nat × LV)} {ft : List Nat} {nb : List (Nat × Option Box)}
    (h : LOK P n ops ⟨dst, op, ty, pos, after, none⟩ ⟨s, bx, X⟩ ⟨sl, ft, nb⟩) (k : RunK P n ops os ⟨sl ++ s, nb ++ bx, X⟩ (⟨sl, ft, nb⟩ :: acc) K) :
    RunK P n ops (⟨dst, op, ty, pos, after, none⟩ :: os) ⟨s, bx, X⟩ acc K := RunK.step (.plain rfl h.out) k

theorem RunK.taken {dst : Option Nat} {op : Op} {ty : TypeId} {pos : String} {after : Array Edge} {j t : Nat} {b : Bool} {sl : List (Nat × LV)} {ft : List Nat} {nb : List (Nat × Option Box)}
    (ht : (ops[j]?).bind (·.dst) = some t) (hb : look t s = some (.sv (.one (.val (.bool b)))))
    (h : LOK P n ops ⟨dst, op, ty, pos, after, some (j, b)⟩ ⟨s, bx, X⟩ ⟨sl, ft, nb⟩) (k : RunK P n ops os ⟨sl ++ s, nb ++ bx, X⟩ (⟨sl, ft, nb⟩ :: acc) K) :
    RunK P n ops (⟨dst, op, ty, pos, after, some (j, b)⟩ :: os) ⟨s, bx, X⟩ acc K := RunK.step (.taken j t b rfl ht hb h.out) k

theorem RunK.passed {d : Nat} {op : Op} {ty : TypeId} {pos : String} {after : Array Edge} {j t : Nat} {b b' : Bool}
    (ht : (ops[j]?).bind (·.dst) = some t) (hb : look t s = some (.sv (.one (.val (.bool b'))))) (hne : (b' == b) = false)
    (k : RunK P n ops os ⟨(d, .sv (.one (.val undef))) :: s, bx, X⟩ (⟨[(d, .sv (.one (.val undef)))], [], []⟩ :: acc) K) :
    RunK P n ops (⟨some d, op, ty, pos, after, some (j, b)⟩ :: os) ⟨s, bx, X⟩ acc K :=
  RunK.step (.skipped j t b (.bool b') rfl ht hb (by intro h; injection h with h; subst h; simp at hne) rfl) k

/-- a guard that was passed itself -/
theorem RunK.passedU {d : Nat} {op : Op} {ty : TypeId} {pos : String} {after : Array Edge} {j t : Nat} {b : Bool}
    (ht : (ops[j]?).bind (·.dst) = some t) (hb : look t s = some (.sv (.one (.val undef))))
    (k : RunK P n ops os ⟨(d, .sv (.one (.val undef))) :: s, bx, X⟩ (⟨[(d, .sv (.one (.val undef)))], [], []⟩ :: acc) K) :
    RunK P n ops (⟨some d, op, ty, pos, after, some (j, b)⟩ :: os) ⟨s, bx, X⟩ acc K :=
  RunK.step (.skipped j t b undef rfl ht hb (by intro h; cases h) rfl) k

theorem RunK.passed0 {op : Op} {ty : TypeId} {pos : String} {after : Array Edge} {j t : Nat} {b b' : Bool}
    (ht : (ops[j]?).bind (·.dst) = some t) (hb : look t s = some (.sv (.one (.val (.bool b'))))) (hne : (b' == b) = false)
    (k : RunK P n ops os ⟨s, bx, X⟩ (⟨[], [], []⟩ :: acc) K) :
    RunK P n ops (⟨none, op, ty, pos, after, some (j, b)⟩ :: os) ⟨s, bx, X⟩ acc K :=
  RunK.step (.skipped j t b (.bool b') rfl ht hb (by intro h; injection h with h; subst h; simp at hne) rfl) k

/-- a guard that is not known: both ways -/
theorem RunK.split {t : Nat} {b : Bool} (hb : look t s = some (.sv (.one (.val (.bool b)))))
    (h1 : b = true → RunK P n ops os ⟨s, bx, X⟩ acc K) (h2 : b = false → RunK P n ops os ⟨s, bx, X⟩ acc K) : RunK P n ops os ⟨s, bx, X⟩ acc K := by
  cases b
  · exact h2 rfl
  · exact h1 rfl
end

-- calls
def noS : Nat → Option (Option Box) := fun _ => none
def LVs.rel (S : Nat → Option (Option Box)) (ι : Nat → Nat × Nat) : List LV → List Value → Prop
  | [], [] => True
  | c :: cs, v :: vs => c.rel S ι v ∧ LVs.rel S ι cs vs
  | _, _ => False

def Program.enters (P : Program) (f : FuncId) : Bool :=
  match P.funcs[f]? with
  | some fn => fn.name != "runtime.NumGoroutine" && fn.body.isSome
  | none => false

/-- f called with these: it answers that, and leaves all memory as it was, but for new blocks -/
structure PSpec (P : Program) (X : Nat → Option Obj) (f : FuncId) (args : List LV) (r : LV) : Prop where
  enters : Program.enters P f = true
  out : ∀ (w : World) (vals : Array Value), (∀ b o, X b = some o → w.heap[b]? = some o) → LVs.rel noS (fun _ => (0, 0)) args vals.toList →
    Calls P f vals w (fun e w' => ∃ v, e = .returned v ∧ r.rel noS (fun _ => (0, 0)) v ∧ Below w.heap.size w w')

theorem later_noS (S : Nat → Option (Option Box)) (ι ι' : Nat → Nat × Nat) : Later noS S ι ι' := fun _ h => absurd rfl h

def CV.closed : CV → Bool
  | .val _ => true
  | .junk => true
  | _ => false
def SV.closed : SV → Bool
  | .one c => c.closed
  | .agg l => l.all CV.closed
def LV.closed : LV → Bool
  | .sv s => s.closed
  | .tup l => l.all SV.closed

theorem CV.rel_closed {S S' : Nat → Option (Option Box)} {ι ι' : Nat → Nat × Nat} {c : CV} (h : c.closed = true) {v : Value} (hr : c.rel S ι v) : c.rel S' ι' v := by
  cases c <;> first | exact hr | simp [CV.closed] at h
theorem CVs.rel_closed {S S' : Nat → Option (Option Box)} {ι ι' : Nat → Nat × Nat} : ∀ {l : List CV} {vs : List Value}, l.all CV.closed = true → CVs.rel S ι l vs → CVs.rel S' ι' l vs
  | [], [], _, _ => trivial
  | c :: l, v :: vs, h, hr => by simp only [List.all_cons, Bool.and_eq_true] at h; exact ⟨CV.rel_closed h.1 hr.1, CVs.rel_closed h.2 hr.2⟩
  | [], _ :: _, _, hr => hr.elim
  | _ :: _, [], _, hr => hr.elim
theorem SV.rel_closed {S S' : Nat → Option (Option Box)} {ι ι' : Nat → Nat × Nat} {s : SV} (h : s.closed = true) {v : Value} (hr : s.rel S ι v) : s.rel S' ι' v := by
  cases s with
  | one c => exact CV.rel_closed h hr
  | agg l => obtain ⟨arr, e, hl⟩ := hr; exact ⟨arr, e, CVs.rel_closed h hl⟩
theorem SVs.rel_closed {S S' : Nat → Option (Option Box)} {ι ι' : Nat → Nat × Nat} : ∀ {l : List SV} {vs : List Value}, l.all SV.closed = true → SVs.rel S ι l vs → SVs.rel S' ι' l vs
  | [], [], _, _ => trivial
  | c :: l, v :: vs, h, hr => by simp only [List.all_cons, Bool.and_eq_true] at h; exact ⟨SV.rel_closed h.1 hr.1, SVs.rel_closed h.2 hr.2⟩
  | [], _ :: _, _, hr => hr.elim
  | _ :: _, [], _, hr => hr.elim
theorem LV.rel_closed {S S' : Nat → Option (Option Box)} {ι ι' : Nat → Nat × Nat} {s : LV} (h : s.closed = true) {v : Value} (hr : s.rel S ι v) : s.rel S' ι' v := by
  cases s with
  | sv s => exact SV.rel_closed h hr
  | tup l => obtain ⟨arr, e, hl⟩ := hr; exact ⟨arr, e, SVs.rel_closed h hl⟩
theorem LVs.rel_closed {S S' : Nat → Option (Option Box)} {ι ι' : Nat → Nat × Nat} : ∀ {l : List LV} {vs : List Value}, l.all LV.closed = true → LVs.rel S ι l vs → LVs.rel S' ι' l vs
  | [], [], _, _ => trivial
  | c :: l, v :: vs, h, hr => by simp only [List.all_cons, Bool.and_eq_true] at h; exact ⟨LV.rel_closed h.1 hr.1, LVs.rel_closed h.2 hr.2⟩
  | [], _ :: _, _, hr => hr.elim
  | _ :: _, [], _, hr => hr.elim

def enumL {α : Type} : Nat → List α → List (Nat × α)
  | _, [] => []
  | i, a :: r => (i, a) :: enumL (i + 1) r

theorem look_enum {α : Type} : ∀ (l : List α) (s d : Nat) (x : α), look d (enumL s l) = some x → s ≤ d ∧ l[d - s]? = some x
  | [], _, _, _, h => by simp [enumL, look] at h
  | a :: r, s, d, x, h => by
    simp only [enumL, look] at h
    cases hb : Nat.beq s d with
    | true =>
      rw [hb] at h
      have := Nat.eq_of_beq_eq_true hb
      subst this
      simp at h
      subst h
      simp
    | false =>
      rw [hb] at h
      obtain ⟨h1, h2⟩ := look_enum r (s + 1) d x h
      refine ⟨by omega, ?_⟩
      rw [show d - s = (d - (s + 1)) + 1 by omega]
      simpa using h2

theorem LVs.rel_get {S : Nat → Option (Option Box)} {ι : Nat → Nat × Nat} {l : List LV} {vs : List Value} (h : LVs.rel S ι l vs) {n : Nat} {c : LV} (hc : l[n]? = some c) : ∃ v, vs[n]? = some v ∧ c.rel S ι v := by
  induction n generalizing l vs with
  | zero =>
    cases l with
    | nil => simp at hc
    | cons c' l => cases vs with
      | nil => exact h.elim
      | cons v vs => simp at hc; subst hc; exact ⟨v, rfl, h.1⟩
  | succ n ih =>
    cases l with
    | nil => simp at hc
    | cons c' l => cases vs with
      | nil => exact h.elim
      | cons v vs => simp at hc; simpa using ih h.2 hc

theorem LVs.rel_length {S : Nat → Option (Option Box)} {ι : Nat → Nat × Nat} : ∀ {l : List LV} {vs : List Value}, LVs.rel S ι l vs → l.length = vs.length
  | [], [], _ => rfl
  | _ :: _, _ :: _, hr => by simp [LVs.rel_length hr.2]
  | [], _ :: _, hr => hr.elim
  | _ :: _, [], hr => hr.elim

def aggSize (P : Program) (t : TypeId) : Option Nat :=
  match P.underlying t, P.info? t with
  | some (.struct _), some i => some i.size
  | some (.array _ _), some i => some i.size
  | _, _ => none
def oneType (P : Program) (t : TypeId) : Bool :=
  match P.underlying t with
  | some (.struct _) => false
  | some (.array _ _) => false
  | some _ => true
  | none => false

/-- the value of a result variable -/
def ResV (P : Program) (σ : St) : ResultVar → SV → Prop
  | .tmp t, s => σ.slot t = some (.sv s)
  | .cell a ty, s => ∃ k b, σ.slot a = some (.sv (.one (.ptr k 0))) ∧ σ.stat k = some (some b) ∧ b.row = false ∧
    ((aggSize P ty = some b.cells.length ∧ s = .agg b.cells) ∨ (oneType P ty = true ∧ ∃ c r, b.cells = c :: r ∧ s = .one c))

def ResL (P : Program) (σ : St) : List ResultVar → List SV → Prop
  | [], [] => True
  | v :: vs, s :: ss => ResV P σ v s ∧ ResL P σ vs ss
  | _, _ => False

def resOf : List SV → LV
  | [s] => .sv s
  | l => .tup l

def retQ (P : Program) (fn : Func) (r : LV) : Exit → St → Prop
  | .normal, σ => ∃ ss, ResL P σ fn.results.toList ss ∧ r = resOf ss
  | .ret, σ => ∃ ss, ResL P σ fn.results.toList ss ∧ r = resOf ss
  | _, _ => False

theorem isAgg_of {P : Program} {t : TypeId} {m : Nat} (h : aggSize P t = some m) (w : World) : (isAgg t).run P w = .ok true w ∧ (sizeOf t).run P w = .ok m w := by
  unfold aggSize at h
  cases hu : P.underlying t with
  | none => simp [hu] at h
  | some d =>
    cases hi : P.info? t with
    | none => cases d <;> simp [hu, hi] at h
    | some i =>
      cases d <;> simp [hu, hi] at h <;> (subst h; exact ⟨by simp [isAgg, run_underlying hu], by simp [sizeOf, typeInfo, hi]⟩)

theorem isAgg_one {P : Program} {t : TypeId} (h : oneType P t = true) (w : World) : (isAgg t).run P w = .ok false w := by
  unfold oneType at h
  cases hu : P.underlying t with
  | none => simp [hu] at h
  | some d => cases d <;> simp [hu] at h <;> simp [isAgg, run_underlying hu]

theorem addr_add (b o n : Nat) : (⟨b, o, none⟩ : Addr).add n = ⟨b, o + n, none⟩ := Addr.add_lit b o n

/-- a load of so many cells of a block, from a place on -/
theorem run_load_agg {P : Program} {t : TypeId} {m : Nat} (h : aggSize P t = some m) {w : World} {b off : Nat} {arr : Array Value} {el : TypeId} {fr : Nat × Nat} (hb : w.heap[b]? = some (.cells arr el fr)) (hm : off + m ≤ arr.size) :
    (loadVar t ⟨b, off, none⟩).run P w = .ok (.agg ((arr.toList.drop off).take m).toArray) w := by
  obtain ⟨h1, h2⟩ := isAgg_of h w
  have hlen : ((arr.toList.drop off).take m).length = m := by simp; omega
  have hl := run_loadCells_list (P := P) w ⟨b, off, none⟩ ((arr.toList.drop off).take m) (fun j v hv => by
    rw [addr_add]
    simp only [World.cell?, hb, Option.isSome_none, Bool.false_eq_true, if_false]
    rw [List.getElem?_take] at hv
    split at hv
    · rw [List.getElem?_drop] at hv
      simpa using hv
    · simp at hv)
  rw [hlen] at hl
  simp [loadVar, h1, h2, hl]

theorem run_load_one {P : Program} {t : TypeId} (h : oneType P t = true) {w : World} {b off : Nat} {arr : Array Value} {el : TypeId} {fr : Nat × Nat} {v : Value} (hb : w.heap[b]? = some (.cells arr el fr)) (hv : arr[off]? = some v) :
    (loadVar t ⟨b, off, none⟩).run P w = .ok v w := by
  have hc : w.cell? ⟨b, off, none⟩ = some v := by simp [World.cell?, hb, hv]
  simp [loadVar, isAgg_one h w, hc]

theorem Box.rel_get {S : Nat → Option (Option Box)} {ι : Nat → Nat × Nat} {b : Box} {vs : List Value} (h : b.rel S ι vs) {i : Nat} {c : CV} (hc : b.cells[i]? = some c) : ∃ v, vs[i]? = some v ∧ c.rel S ι v := by
  unfold Box.rel at h
  cases hr : b.row with
  | false => rw [hr] at h; exact CVs.rel_get h hc
  | true =>
    rw [hr] at h
    obtain ⟨us, sp, e, hl⟩ := h
    obtain ⟨v, hv, hcr⟩ := CVs.rel_get hl hc
    refine ⟨v, ?_, hcr⟩
    rw [e, List.getElem?_append_left (List.getElem?_eq_some_iff.1 hv).1]
    exact hv

theorem Box.rel_part {S : Nat → Option (Option Box)} {ι : Nat → Nat × Nat} {b : Box} {vs : List Value} (h : b.rel S ι vs) {off m : Nat} (hm : off + m ≤ b.cells.length) : off + m ≤ vs.length ∧ CVs.rel S ι ((b.cells.drop off).take m) ((vs.drop off).take m) := by
  unfold Box.rel at h
  cases hr : b.row with
  | false =>
    rw [hr] at h
    exact ⟨by rw [← CVs.rel_length h]; exact hm, CVs.rel_take (CVs.rel_drop h off) m⟩
  | true =>
    rw [hr] at h
    obtain ⟨us, sp, e, hl⟩ := h
    have hlen := CVs.rel_length hl
    refine ⟨by rw [e, List.length_append]; omega, ?_⟩
    have : ((vs.drop off).take m) = ((us.drop off).take m) := by
      rw [e, List.drop_append_of_le_length (by omega), List.take_append_of_le_length (by simp; omega)]
    rw [this]
    exact CVs.rel_take (CVs.rel_drop hl off) m

def resM (tmps : Array Value) : ResultVar → Sem Value
  | .tmp t => pure (tmps.getD t undef)
  | .cell x t => do loadVar t (← asAddr (tmps.getD x undef))
theorem results_eq (fn : Func) (tmps : Array Value) : results fn tmps = (do
    let vs ← fn.results.mapM (resM tmps)
    pure (if h : vs.size = 1 then vs[0] else .tuple vs)) := rfl

theorem results_run {P : Program} {fn : Func} {n : Nat} {C : Ctx} {ι : Nat → Nat × Nat} {σ : St} {a : Act} {w : World} (hr : Rel n C ι σ a w) {ss : List SV} (h : ResL P σ fn.results.toList ss) :
    ∃ v, (results fn a.tmps).run P w = .ok v w ∧ (resOf ss).rel σ.stat ι v := by
  have one : ∀ (rv : ResultVar) (s : SV), ResV P σ rv s → ∃ v, (resM a.tmps rv).run P w = .ok v w ∧ s.rel σ.stat ι v := by
    intro rv s h
    cases rv with
    | tmp t =>
      obtain ⟨v, hv, hvr⟩ := hr.slots t _ h
      exact ⟨v, by simp [resM, hv], hvr⟩
    | cell x ty =>
      obtain ⟨k, b, hs, hb, hrow, hcase⟩ := h
      obtain ⟨v, hv, hvr⟩ := hr.slots x _ hs
      simp only [LV.rel, SV.rel, CV.rel, hb] at hvr
      subst hvr
      obtain ⟨arr, fr, harr, -, -, hbr⟩ := hr.boxes k b hb
      have hbr' : CVs.rel σ.stat ι b.cells arr.toList := by unfold Box.rel at hbr; rw [hrow] at hbr; exact hbr
      have hlen := CVs.rel_length hbr'
      rcases hcase with ⟨hsz, rfl⟩ | ⟨hone, c, r, hc, rfl⟩
      · refine ⟨.agg arr, ?_, arr, rfl, hbr'⟩
        have := run_load_agg hsz harr (off := 0) (by simp at hlen; omega)
        simp only [List.drop_zero] at this
        rw [List.take_of_length_le (by omega)] at this
        simp [resM, hv, asAddr, this]
      · rw [hc] at hbr'
        cases hal : arr.toList with
        | nil => rw [hal] at hbr'; exact hbr'.elim
        | cons u us =>
          rw [hal] at hbr'
          have hu : arr[0]? = some u := by rw [← Array.getElem?_toList, hal]; rfl
          refine ⟨u, ?_, hbr'.1⟩
          have := run_load_one hone harr hu
          simp [resM, hv, asAddr, this]
  have many : ∀ (rvs : List ResultVar) (ss : List SV), ResL P σ rvs ss → ∃ vs, (rvs.mapM (resM a.tmps)).run P w = .ok vs w ∧ SVs.rel σ.stat ι ss vs := by
    intro rvs
    induction rvs with
    | nil =>
      intro ss h
      cases ss with
      | nil => exact ⟨[], by simp, trivial⟩
      | cons => exact h.elim
    | cons rv rvs ih =>
      intro ss h
      cases ss with
      | nil => exact h.elim
      | cons s ss =>
        obtain ⟨v, hv, hvr⟩ := one rv s h.1
        obtain ⟨vs, hvs, hvsr⟩ := ih ss h.2
        refine ⟨v :: vs, ?_, hvr, hvsr⟩
        rw [List.mapM_cons]
        simp only [Sem.run_bind]
        rw [hv]
        simp only [Result.andThen_ok]
        rw [hvs]
        simp
  obtain ⟨vs, hvs, hvr⟩ := many _ _ h
  have hrun : (results fn a.tmps).run P w = .ok (if h : vs.toArray.size = 1 then vs.toArray[0] else .tuple vs.toArray) w := by
    rw [results_eq, Array.mapM_eq_mapM_toList]
    simp only [Sem.run_bind, Sem.run_map, hvs, Result.andThen_ok, Sem.run_pure]
  refine ⟨_, hrun, ?_⟩
  have hl : ss.length = vs.length := by
    have : ∀ (ss : List SV) (vs : List Value), SVs.rel σ.stat ι ss vs → ss.length = vs.length := by
      intro ss
      induction ss with
      | nil => intro vs h; cases vs with
        | nil => rfl
        | cons => exact h.elim
      | cons s ss ih => intro vs h; cases vs with
        | nil => exact h.elim
        | cons v vs => simp [ih vs h.2]
    exact this ss vs hvr
  match ss, vs, hvr, hl with
  | [s], [v], hvr, _ => simpa [resOf, LV.rel] using hvr.1
  | [], [], _, _ => exact ⟨#[], rfl, trivial⟩
  | s :: s' :: ss, v :: v' :: vs, hvr, _ => exact ⟨(v :: v' :: vs).toArray, by simp, by simpa [resOf] using hvr⟩

theorem PSpec.intro {P : Program} {X : Nat → Option Obj} {f : FuncId} {fn : Func} {c : Code} {args : List LV} {r : LV} (hf : P.funcs[f]? = some fn) (hb : fn.body = some c) (hent : Program.enters P f = true)
    (hlen : Nat.ble args.length fn.ntmps = true) (hcl : r.closed = true)
    (h : ∀ C : Ctx, LWP P fn.ntmps C c (retQ P fn r) ⟨enumL 0 args, [], X⟩) : PSpec P X f args r := by
  replace hlen := Nat.le_of_ble_eq_true hlen
  refine ⟨hent, fun w vals hX hargs => ?_⟩
  refine calls_of_wp hf hb ?_
  have hvl := LVs.rel_length hargs
  simp only [Array.length_toList] at hvl
  refine wp_mono ((h ⟨w, fun _ => False, fun _ => (0, 0)⟩).out (fun _ => (0, 0)) _ w ?_) ?_
  · exact {
      defers := rfl
      size := by simp; omega
      slots := by
        intro d lv hd
        obtain ⟨_, hd'⟩ := look_enum args 0 d lv hd
        simp only [Nat.sub_zero] at hd'
        obtain ⟨v, hv, hvr⟩ := LVs.rel_get hargs hd'
        have hlt : d < vals.size := by have := (List.getElem?_eq_some_iff.1 hv).1; simpa using this
        refine ⟨v, ?_, LV.rel_later (later_noS _ _ _) hvr⟩
        rw [Array.getElem?_append_left hlt]
        simpa using hv
      boxes := fun k b hb => by simp [St.stat, look] at hb
      own := fun k b hb => by simp [St.stat, look] at hb
      inj := fun k k' b b' hb => by simp [St.stat, look] at hb
      keep := fun k b hb => by simp [St.stat, look] at hb
      ext := hX
      frame := fun _ _ _ => rfl
      big := Nat.le_refl _
      os := rfl, tape := rfl, output := rfl }
  · rintro e a' w' ⟨ι', σ', hq, hr⟩
    have fin : (∃ ss, ResL P σ' fn.results.toList ss ∧ r = resOf ss) → a'.defers = [] ∧ ∃ v, (results fn a'.tmps).run P w' = .ok v w' ∧ ∃ u, Ending.returned v = .returned u ∧ r.rel noS (fun _ => (0, 0)) u ∧ Below w.heap.size w w' := by
      rintro ⟨ss, hres, rfl⟩
      obtain ⟨v, hv, hvr⟩ := results_run hr hres
      exact ⟨hr.defers, v, hv, v, rfl, LV.rel_closed hcl hvr, ⟨hr.os, hr.tape, hr.output, hr.big, fun k hk => hr.frame k hk (by simp)⟩⟩
    cases e <;> first
      | exact fin hq
      | exact hq.elim

end Go.Lg
