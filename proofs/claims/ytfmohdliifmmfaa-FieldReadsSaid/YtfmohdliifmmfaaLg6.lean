/- A piece of a proof over this program: contracts of its functions, and a logic to prove them by. -/
import Derived.Test.YtfmohdliifmmfaaLg5
namespace Go.Lg
open Go Go.RowKit

def put1 (ι : Nat → Nat × Nat) (k : Nat) (b : Nat × Nat) : Nat → Nat × Nat := fun j => if j = k then b else ι j

theorem beq_of_ne {a b : Nat} (h : a ≠ b) : Nat.beq a b = false := by
  cases hb : Nat.beq a b with
  | false => rfl
  | true => exact absurd (Nat.eq_of_beq_eq_true hb) h

section
variable {P : Program} {n : Nat} {ops : List Oper} {σ : St} {C : Ctx} {ι : Nat → Nat × Nat} {a : Act} {w : World}

theorem stat_cons (s : List (Nat × LV)) (bx : List (Nat × Option Box)) (X : Nat → Option Obj) (k j : Nat) (b : Option Box) : (⟨s, (k, b) :: bx, X⟩ : St).stat j = if j = k then some b else look j bx := by
  simp only [St.stat, look]
  by_cases h : j = k
  · subst h; simp [Nat.beq_refl]
  · simp [h, beq_of_ne (Ne.symm h)]

theorem Rel.blocklt (h : Rel n C ι σ a w) {k : Nat} {b : Box} (hk : σ.stat k = some (some b)) : (ι k).1 < w.heap.size := by
  obtain ⟨arr, _, ha, _⟩ := h.boxes k b hk
  exact (Array.getElem?_eq_some_iff.1 ha).1

theorem heap_alloc_lt {w : World} {o : Obj} {i : Nat} (h : i < w.heap.size) : (w.alloc o).heap[i]? = w.heap[i]? := by
  show (w.heap.push o)[i]? = w.heap[i]?
  rw [Array.getElem?_push, if_neg (Nat.ne_of_lt h)]

/-- a new block, under a name that is not in use -/
theorem Rel.newF (h : Rel n C ι σ a w) {fr : Nat × Nat} {k : Nat} (hlt : k < 1000000) (hk : σ.stat k = none) {b : Box} {arr : Array Value} (hfr : Thaw fr arr.size) (hb : b.rel σ.stat ι arr.toList) :
    Rel n C (put1 ι k (w.heap.size, arr.size)) ⟨σ.slots, (k, some b) :: σ.boxes, σ.X⟩ a (w.alloc (.cells arr b.elem fr)) := by
  have hst : ∀ j, (⟨σ.slots, (k, some b) :: σ.boxes, σ.X⟩ : St).stat j = if j = k then some (some b) else σ.stat j := fun j => stat_cons _ _ _ _ j _
  have hlater : Later σ.stat (⟨σ.slots, (k, some b) :: σ.boxes, σ.X⟩ : St).stat ι (put1 ι k (w.heap.size, arr.size)) := by
    intro j hj
    have hne : j ≠ k := by rintro rfl; exact hj hk
    rw [hst, if_neg hne]
    exact ⟨hj, fun b' hb' => ⟨by simp [put1, hne], b', hb'⟩⟩
  have hXlt : ∀ j o, σ.X j = some o → j < w.heap.size := fun j o hj => (Array.getElem?_eq_some_iff.1 (h.ext j o hj)).1
  exact {
    defers := h.defers, size := h.size
    slots := fun d lv hd => by
      obtain ⟨v, hv, hr⟩ := h.slots d lv hd
      exact ⟨v, hv, LV.rel_later hlater hr⟩
    boxes := fun j b' hb' => by
      rw [hst] at hb'
      by_cases e : j = k
      · subst e
        simp only [if_true, Option.some.injEq] at hb'
        subst hb'
        refine ⟨arr, fr, ?_, hfr, by simp only [put1, if_true], Box.rel_later hlater hb⟩
        simp only [put1, if_true]
        exact heap_alloc_new w _
      · rw [if_neg e] at hb'
        obtain ⟨arr', fr', ha', ht', hs', hr'⟩ := h.boxes j b' hb'
        refine ⟨arr', fr', ?_, ht', by simp only [put1, e, if_false]; exact hs', Box.rel_later hlater hr'⟩
        simp only [put1, e, if_false]
        rw [heap_alloc_lt (h.blocklt hb')]
        exact ha'
    own := fun j b' hb' => by
      rw [hst] at hb'
      by_cases e : j = k
      · subst e
        simp only [put1, if_true]
        refine ⟨.inr h.big, ?_⟩
        show σ.X w.heap.size = none
        cases hx : σ.X w.heap.size with
        | none => rfl
        | some o => exact absurd (hXlt _ o hx) (by omega)
      · rw [if_neg e] at hb'
        simp only [put1, e, if_false]
        exact h.own j b' hb'
    inj := fun i j bi bj hi hj heq => by
      rw [hst] at hi hj
      by_cases ei : i = k
      · by_cases ej : j = k
        · rw [ei, ej]
        · rw [if_neg ej] at hj
          have := h.blocklt hj
          simp only [put1, ei, if_true, ej, if_false] at heq
          omega
      · rw [if_neg ei] at hi
        by_cases ej : j = k
        · have := h.blocklt hi
          simp only [put1, ej, if_true, ei, if_false] at heq
          omega
        · rw [if_neg ej] at hj
          simp only [put1, ei, ej, if_false] at heq
          exact h.inj i j bi bj hi hj heq
    keep := fun j b' hb' hj => by
      rw [hst] at hb'
      have e : j ≠ k := by omega
      rw [if_neg e] at hb'
      simp only [put1, e, if_false]
      exact h.keep j b' hb' hj
    ext := fun j o hj => by rw [heap_alloc_lt (hXlt j o hj)]; exact h.ext j o hj
    frame := fun j hj hn => by rw [heap_alloc_lt (Nat.lt_of_lt_of_le hj h.big)]; exact h.frame j hj hn
    big := by simp; exact Nat.le_succ_of_le h.big
    os := h.os, tape := h.tape, output := h.output }

/-- a new block, under a name that is not in use -/
theorem Rel.new (h : Rel n C ι σ a w) {k : Nat} (hlt : k < 1000000) (hk : σ.stat k = none) {b : Box} {arr : Array Value} (hb : b.rel σ.stat ι arr.toList) :
    Rel n C (put1 ι k (w.heap.size, arr.size)) ⟨σ.slots, (k, some b) :: σ.boxes, σ.X⟩ a (w.alloc (.cells arr b.elem)) := h.newF hlt hk (Thaw.zero _) hb

/-- a block of the call's own is written -/
theorem Rel.write (h : Rel n C ι σ a w) {k : Nat} {b b' : Box} (hk : σ.stat k = some (some b)) (he : b'.elem = b.elem) {arr : Array Value} (hs : arr.size = (ι k).2) (hb : b'.rel σ.stat ι arr.toList) :
    Rel n C ι ⟨σ.slots, (k, some b') :: σ.boxes, σ.X⟩ a (w.setRow (ι k).1 arr) := by
  have hst : ∀ j, (⟨σ.slots, (k, some b') :: σ.boxes, σ.X⟩ : St).stat j = if j = k then some (some b') else σ.stat j := fun j => stat_cons _ _ _ _ j _
  have hlater : Later σ.stat (⟨σ.slots, (k, some b') :: σ.boxes, σ.X⟩ : St).stat ι ι := by
    intro j hj
    rw [hst]
    by_cases e : j = k
    · subst e; rw [if_pos rfl]; exact ⟨by simp, fun _ _ => ⟨rfl, b, hk⟩⟩
    · rw [if_neg e]; exact ⟨hj, fun b'' hb'' => ⟨rfl, b'', hb''⟩⟩
  obtain ⟨old, ofr, hold, hot, hos, _⟩ := h.boxes k b hk
  have live : ∀ j b'', (⟨σ.slots, (k, some b') :: σ.boxes, σ.X⟩ : St).stat j = some (some b'') → ∃ b0, σ.stat j = some (some b0) := by
    intro j b'' hj
    rw [hst] at hj
    by_cases e : j = k
    · subst e; exact ⟨b, hk⟩
    · rw [if_neg e] at hj; exact ⟨b'', hj⟩
  exact {
    defers := h.defers, size := h.size
    slots := fun d lv hd => by
      obtain ⟨v, hv, hr⟩ := h.slots d lv hd
      exact ⟨v, hv, LV.rel_later hlater hr⟩
    boxes := fun j b'' hb'' => by
      rw [hst] at hb''
      by_cases e : j = k
      · subst e
        simp only [if_true, Option.some.injEq] at hb''
        subst hb''
        refine ⟨arr, ofr, ?_, by rw [hs, ← hos]; exact hot, hs, Box.rel_later hlater hb⟩
        rw [he]
        exact setRow_heap w (ι j).1 old arr b.elem ofr hold
      · rw [if_neg e] at hb''
        obtain ⟨arr', fr', ha', ht', hs', hr'⟩ := h.boxes j b'' hb''
        refine ⟨arr', fr', ?_, ht', hs', Box.rel_later hlater hr'⟩
        rw [setRow_other w (ι k).1 (ι j).1 arr (fun e' => e (h.inj j k b'' b hb'' hk e'))]
        exact ha'
    own := fun j b'' hb'' => by obtain ⟨b0, h0⟩ := live j b'' hb''; exact h.own j b0 h0
    inj := fun i j bi bj hi hj heq => by
      obtain ⟨b1, h1⟩ := live i bi hi
      obtain ⟨b2, h2⟩ := live j bj hj
      exact h.inj i j b1 b2 h1 h2 heq
    keep := fun j b'' hb'' hj => by obtain ⟨b0, h0⟩ := live j b'' hb''; exact h.keep j b0 h0 hj
    ext := fun j o hj => by
      rw [setRow_other w (ι k).1 j arr (fun e => by rw [e, (h.own k b hk).2] at hj; simp at hj)]
      exact h.ext j o hj
    frame := fun j hj hn => by
      rw [setRow_other w (ι k).1 j arr (fun e => by
        rcases (h.own k b hk).1 with ho | ho
        · exact hn (by rw [e]; exact ho)
        · omega)]
      exact h.frame j hj hn
    big := by simp; exact h.big
    os := h.os, tape := h.tape, output := h.output }

theorem LOK.make {d : Nat} {op : Op} {ty : TypeId} {pos : String} {after : Array Edge} {g : Option (Nat × Bool)} {lv : LV} {ft : List Nat} {nb : List (Nat × Option Box)}
    (h : ∀ σ', Agree ops ⟨some d, op, ty, pos, after, g⟩ ⟨[(d, lv)], ft, nb⟩ σ σ' → ∀ (C : Ctx) (ι : Nat → Nat × Nat) (a : Act) (w : World), Rel n C ι σ' a w →
      ∃ v w' ι', (execOp a.eval ⟨some d, op, ty, pos, after, g⟩).run P w = .ok (.value v) w' ∧ Rel n C ι' ⟨σ'.slots, nb ++ σ'.boxes, σ'.X⟩ a w' ∧ lv.rel (⟨σ'.slots, nb ++ σ'.boxes, σ'.X⟩ : St).stat ι' v) :
    LOK P n ops ⟨some d, op, ty, pos, after, g⟩ σ ⟨[(d, lv)], ft, nb⟩ := by
  refine ⟨fun σ' ha C ι a w hr hd next Q hn => ?_⟩
  obtain ⟨v, w', ι', hrun, hr', hv⟩ := h σ' ha C ι a w hr
  unfold Oper.wp
  rw [hrun]
  exact hn ι' _ w' (hr'.put (hd d rfl) hv)

theorem LOK.act {op : Op} {ty : TypeId} {pos : String} {after : Array Edge} {g : Option (Nat × Bool)} {ft : List Nat} {nb : List (Nat × Option Box)}
    (h : ∀ σ', Agree ops ⟨none, op, ty, pos, after, g⟩ ⟨[], ft, nb⟩ σ σ' → ∀ (C : Ctx) (ι : Nat → Nat × Nat) (a : Act) (w : World), Rel n C ι σ' a w →
      ∃ w' ι', (execOp a.eval ⟨none, op, ty, pos, after, g⟩).run P w = .ok .skip w' ∧ Rel n C ι' ⟨σ'.slots, nb ++ σ'.boxes, σ'.X⟩ a w') :
    LOK P n ops ⟨none, op, ty, pos, after, g⟩ σ ⟨[], ft, nb⟩ := by
  refine ⟨fun σ' ha C ι a w hr _ next Q hn => ?_⟩
  obtain ⟨w', ι', hrun, hr'⟩ := h σ' ha C ι a w hr
  unfold Oper.wp
  rw [hrun]
  exact hn ι' _ w' hr'

def zeroOf (P : Program) (t : TypeId) : Option (List Value) := (P.info? t).bind fun i => i.zero.map fun z => z.cells.toList

theorem LOK.alloc {d k : Nat} {el : TypeId} {ty : TypeId} {pos : String} {after : Array Edge} {g : Option (Nat × Bool)} {zs : List Value} {zc : List CV} (hz : zeroOf P el = some zs) (hk : σ.fresh k = true) (hzc : zs.map .val = zc) :
    LOK P n ops ⟨some d, .alloc el, ty, pos, after, g⟩ σ ⟨[(d, .sv (.one (.ptr k 0)))], [], [(k, some ⟨el, zc, false⟩)]⟩ :=
  LOK.make fun σ' ha C ι a w hr => by
    subst hzc
    have hk' : σ'.stat k = none := (ha.stat k (.inr (by simp))).trans (St.fresh_none hk)
    have hlt := St.fresh_lt hk
    unfold zeroOf at hz
    cases hi : P.info? el with
    | none => simp [hi] at hz
    | some i =>
      cases hz' : i.zero with
      | none => simp [hi, hz'] at hz
      | some z =>
        simp only [hi, Option.bind_some, hz', Option.map_some, Option.some.injEq] at hz
        refine ⟨.pointer (some ⟨w.heap.size, 0, none⟩), w.alloc (.cells z.cells el), put1 ι k (w.heap.size, z.cells.size), ?_, ?_, ?_⟩
        · simp [execOp, Instr.alloc, zeroValue, typeInfo, hi, hz', newVar, newRow]
        · exact hr.new hlt hk' (b := ⟨el, zs.map .val, false⟩) (by simp only [Box.rel]; rw [← hz]; exact CVs.rel_map_val _)
        · simp [LV.rel, SV.rel, CV.rel, stat_cons, put1]

def SV.cells : SV → List CV
  | .one c => [c]
  | .agg l => l

theorem SV.rel_cells {S : Nat → Option (Option Box)} {ι : Nat → Nat × Nat} {s : SV} {v : Value} (h : s.rel S ι v) (hs : ∀ c, s = .one c → v.oneCell' = true) : CVs.rel S ι s.cells v.cells.toList := by
  cases s with
  | one c =>
    have := hs c rfl
    cases v <;> first | exact ⟨h, trivial⟩ | simp [Value.oneCell'] at this
  | agg l => obtain ⟨arr, rfl, hl⟩ := h; exact hl

def CV.solid : CV → Bool
  | .val v => v.oneCell'
  | .junk => false
  | _ => true
theorem CV.rel_solid {S : Nat → Option (Option Box)} {ι : Nat → Nat × Nat} {c : CV} {v : Value} (h : c.rel S ι v) (hs : c.solid = true) : v.oneCell' = true := by
  cases c with
  | val u => simp only [CV.rel] at h; subst h; exact hs
  | junk => simp [CV.solid] at hs
  | ptr k o =>
    simp only [CV.rel] at h
    cases hk : S k with
    | none => simp [hk] at h
    | some x => cases x with
      | none => rw [hk] at h; obtain ⟨b, rfl⟩ := h; rfl
      | some b => rw [hk] at h; simp only at h; subst h; rfl
  | slc k o m sz =>
    simp only [CV.rel] at h
    cases hk : S k with
    | none => simp [hk] at h
    | some x => cases x with
      | none => rw [hk] at h; obtain ⟨b, c, rfl, _⟩ := h; rfl
      | some b => rw [hk] at h; obtain ⟨c, rfl, _⟩ := h; rfl
def SV.solid : SV → Bool
  | .one c => c.solid
  | .agg l => l.all CV.solid

theorem SV.cells_ok {S : Nat → Option (Option Box)} {ι : Nat → Nat × Nat} {s : SV} {v : Value} (h : s.rel S ι v) (hs : s.solid = true) : CVs.rel S ι s.cells v.cells.toList ∧ ∀ u ∈ v.cells.toList, u.oneCell' = true := by
  cases s with
  | one c =>
    have h1 := CV.rel_solid h hs
    refine ⟨SV.rel_cells h fun _ _ => h1, ?_⟩
    cases v <;> first | (intro u hu; simp [Value.cells] at hu; subst hu; exact h1) | simp [Value.oneCell'] at h1
  | agg l =>
    obtain ⟨arr, rfl, hl⟩ := h
    refine ⟨hl, ?_⟩
    have : ∀ (l : List CV) (vs : List Value), CVs.rel S ι l vs → l.all CV.solid = true → ∀ u ∈ vs, u.oneCell' = true := by
      intro l
      induction l with
      | nil => intro vs h _ u hu; cases vs with
        | nil => simp at hu
        | cons => exact h.elim
      | cons c l ih => intro vs h hall u hu; cases vs with
        | nil => exact h.elim
        | cons v vs =>
          simp only [List.all_cons, Bool.and_eq_true] at hall
          rcases List.mem_cons.1 hu with rfl | hu
          · exact CV.rel_solid h.1 hall.1
          · exact ih vs h.2 hall.2 u hu
    exact this l arr.toList hl hs

theorem LOK.box {d k : Nat} {el : TypeId} {x : Operand} {ty : TypeId} {pos : String} {after : Array Edge} {g : Option (Nat × Bool)} {s : SV} {cs : List CV} (hx : σ.ev x = some (.sv s)) (hs : s.solid = true) (hk : σ.fresh k = true) (hcs : s.cells = cs) :
    LOK P n ops ⟨some d, .box el x, ty, pos, after, g⟩ σ ⟨[(d, .sv (.one (.ptr k 0)))], [], [(k, some ⟨el, cs, false⟩)]⟩ :=
  LOK.make fun σ' ha C ι a w hr => by
    subst hcs
    have hk' : σ'.stat k = none := (ha.stat k (.inr (by simp))).trans (St.fresh_none hk)
    have hlt := St.fresh_lt hk
    have hv := hr.ev ((ha.ev (x := x) (by simp [Op.operands])).trans hx)
    refine ⟨.pointer (some ⟨w.heap.size, 0, none⟩), w.alloc (.cells (a.eval x).cells el), put1 ι k (w.heap.size, (a.eval x).cells.size), ?_, ?_, ?_⟩
    · simp [execOp, Instr.box, newVar, newRow]
    · exact hr.new hlt hk' (b := ⟨el, s.cells, false⟩) (SV.cells_ok hv hs).1
    · simp [LV.rel, SV.rel, CV.rel, stat_cons, put1]

-- loads
theorem LOK.loadAll {d k : Nat} {x : Operand} {t ty : TypeId} {pos : String} {after : Array Edge} {g : Option (Nat × Bool)} {el : TypeId} {cs : List CV} (hx : σ.ev x = some (.sv (.one (.ptr k 0)))) (hk : σ.stat k = some (some ⟨el, cs, false⟩))
    (hs : aggSize P t = some cs.length) :
    LOK P n ops ⟨some d, .load t x, ty, pos, after, g⟩ σ ⟨[(d, .sv (.agg cs))], [k], []⟩ :=
  LOK.value fun σ' ha C ι a w hr => by
    have hk' := (ha.stat k (.inl (by simp))).trans hk
    have hv := hr.ev ((ha.ev (x := x) (by simp [Op.operands])).trans hx)
    simp only [LV.rel, SV.rel, CV.rel, hk'] at hv
    obtain ⟨arr, fr, harr, hthaw, hasz, hrel⟩ := hr.boxes k _ hk'
    simp only [Box.rel] at hrel
    have hlen := CVs.rel_length hrel
    have := run_load_agg hs harr (off := 0) (by simp at hlen; omega)
    simp only [List.drop_zero] at this
    rw [List.take_of_length_le (by omega)] at this
    exact ⟨.agg arr, by simp [execOp, hv, Instr.loadAt, Instr.sureAddr, this], arr, rfl, hrel⟩

theorem LOK.loadPart {d k off m : Nat} {x : Operand} {t ty : TypeId} {pos : String} {after : Array Edge} {g : Option (Nat × Bool)} {b : Box} {l : List CV} (hx : σ.ev x = some (.sv (.one (.ptr k off)))) (hk : σ.stat k = some (some b))
    (hs : aggSize P t = some m) (hm : off + m ≤ b.cells.length) (hl : (b.cells.drop off).take m = l) :
    LOK P n ops ⟨some d, .load t x, ty, pos, after, g⟩ σ ⟨[(d, .sv (.agg l))], [k], []⟩ :=
  LOK.value fun σ' ha C ι a w hr => by
    subst hl
    have hk' := (ha.stat k (.inl (by simp))).trans hk
    have hv := hr.ev ((ha.ev (x := x) (by simp [Op.operands])).trans hx)
    simp only [LV.rel, SV.rel, CV.rel, hk'] at hv
    obtain ⟨arr, fr, harr, hthaw, hasz, hrel⟩ := hr.boxes k _ hk'
    obtain ⟨h1, h2⟩ := Box.rel_part hrel hm
    have := run_load_agg hs harr (off := off) (by simpa using h1)
    exact ⟨.agg (List.take m (List.drop off arr.toList)).toArray, by simp only [execOp, hv, Instr.loadAt, Instr.sureAddr, Sem.run_bind, Sem.run_pure, Result.andThen_ok, this], _, rfl, by simpa using h2⟩

theorem LOK.loadOne {d k off : Nat} {x : Operand} {t ty : TypeId} {pos : String} {after : Array Edge} {g : Option (Nat × Bool)} {b : Box} {c : CV} (hx : σ.ev x = some (.sv (.one (.ptr k off)))) (hk : σ.stat k = some (some b))
    (hs : oneType P t = true) (hc : b.cells[off]? = some c) :
    LOK P n ops ⟨some d, .load t x, ty, pos, after, g⟩ σ ⟨[(d, .sv (.one c))], [k], []⟩ :=
  LOK.value fun σ' ha C ι a w hr => by
    have hk' := (ha.stat k (.inl (by simp))).trans hk
    have hv := hr.ev ((ha.ev (x := x) (by simp [Op.operands])).trans hx)
    simp only [LV.rel, SV.rel, CV.rel, hk'] at hv
    obtain ⟨arr, fr, harr, hthaw, hasz, hrel⟩ := hr.boxes k _ hk'
    obtain ⟨v, hv', hcr⟩ := Box.rel_get hrel hc
    have := run_load_one hs harr (v := v) (by simpa using hv')
    exact ⟨v, by simp [execOp, hv, Instr.loadAt, Instr.sureAddr, this], hcr⟩

theorem LOK.loadX {d b off : Nat} {x : Operand} {t ty : TypeId} {pos : String} {after : Array Edge} {g : Option (Nat × Bool)} {arr : Array Value} {el : TypeId} {fr : Nat × Nat} {v : Value} (hx : σ.ev x = some (.sv (.one (.val (.pointer (some ⟨b, off, none⟩))))))
    (hX : σ.X b = some (.cells arr el fr)) (hs : oneType P t = true) (hc : arr[off]? = some v) :
    LOK P n ops ⟨some d, .load t x, ty, pos, after, g⟩ σ ⟨[(d, .sv (.one (.val v)))], [], []⟩ :=
  LOK.value fun σ' ha C ι a w hr => by
    have hv : a.eval x = _ := hr.ev ((ha.ev (x := x) (by simp [Op.operands])).trans hx)
    have hb := hr.ext b _ (by rw [ha.X]; exact hX)
    have := run_load_one hs hb hc
    exact ⟨v, by simp [execOp, hv, Instr.loadAt, Instr.sureAddr, this], rfl⟩

theorem LOK.loadXagg {d b off m : Nat} {x : Operand} {t ty : TypeId} {pos : String} {after : Array Edge} {g : Option (Nat × Bool)} {arr : Array Value} {el : TypeId} {fr : Nat × Nat} {l : List CV} (hx : σ.ev x = some (.sv (.one (.val (.pointer (some ⟨b, off, none⟩))))))
    (hX : σ.X b = some (.cells arr el fr)) (hs : aggSize P t = some m) (hm : off + m ≤ arr.size) (hl : ((arr.toList.drop off).take m).map .val = l) :
    LOK P n ops ⟨some d, .load t x, ty, pos, after, g⟩ σ ⟨[(d, .sv (.agg l))], [], []⟩ :=
  LOK.value fun σ' ha C ι a w hr => by
    subst hl
    have hv : a.eval x = _ := hr.ev ((ha.ev (x := x) (by simp [Op.operands])).trans hx)
    have hb := hr.ext b _ (by rw [ha.X]; exact hX)
    have := run_load_agg hs hb hm
    exact ⟨.agg (List.take m (List.drop off arr.toList)).toArray, by simp only [execOp, hv, Instr.loadAt, Instr.sureAddr, Sem.run_bind, Sem.run_pure, Result.andThen_ok, this], _, rfl, CVs.rel_map_val _⟩

-- stores
theorem run_storeCells_at {P : Program} {g : Nat} {t : TypeId} {fr : Nat × Nat} {m : Nat} (ht : Thaw fr m) : ∀ (vs : List Value) (off i : Nat) (cur : Array Value) (w : World), cur.size = m → w.heap[g]? = some (.cells cur t fr) → off + i + vs.length ≤ cur.size → (∀ v ∈ vs, v.oneCell' = true) →
    (storeCells ⟨g, off, none⟩ vs i).run P w = .ok () (w.setRow g (cur.toList.take (off + i) ++ vs ++ cur.toList.drop (off + i + vs.length)).toArray)
  | [], off, i, cur, w, hm, hg, hl, _ => by
    simp only [storeCells, List.append_nil, List.length_nil, Nat.add_zero, List.take_append_drop, Array.toArray_toList]
    show Result.ok () w = _
    congr 1
    have hlt : g < w.heap.size := (Array.getElem?_eq_some_iff.1 hg).1
    have hv : w.heap[g] = .cells cur t fr := (Array.getElem?_eq_some_iff.1 hg).2
    unfold World.setRow
    cases w with
    | mk heap tape drawn os output =>
      congr 1
      apply Array.ext
      · simp
      · intro k h1 h2
        simp only [Array.getElem_modify]
        split
        · rename_i hk; subst hk; simp at hv; simp [hv]
        · rfl
  | v :: rest, off, i, cur, w, hm, hg, hl, h1 => by
    have hi : off + i < cur.size := by simp at hl; omega
    have hcell : w.cell? ⟨g, off + i, none⟩ = some cur[off + i] := by simp [World.cell?, hg, hi]
    have hfro : w.frozen? ⟨g, off + i, none⟩ = false := by
      have := ht (off + i) (by omega)
      obtain ⟨lo, hi'⟩ := fr
      simpa [World.frozen?, hg] using this
    have hst : (store ((⟨g, off, none⟩ : Addr).add i) v).run P w = .ok () (w.setRow g (cur.setIfInBounds (off + i) v)) := by
      rw [addr_add, run_store P w _ v _ (h1 v (by simp)), hcell]
      simp [hfro, setCell_eq_setRow w g (off + i) cur t fr v hg]
    have ih := run_storeCells_at (P := P) ht rest off (i + 1) (cur.setIfInBounds (off + i) v) (w.setRow g (cur.setIfInBounds (off + i) v)) (by rw [Array.size_setIfInBounds]; exact hm) (setRow_heap w g cur _ t _ hg) (by simp at hl ⊢; omega) (fun x hx => h1 x (by simp [hx]))
    simp only [storeCells, Sem.run_bind, hst, Result.andThen_ok, ih, setRow_setRow]
    congr 3
    apply List.ext_getElem?
    intro j
    simp only [Array.toList_setIfInBounds, List.getElem?_append, List.length_take, List.length_set, Array.length_toList, List.length_append, List.getElem?_take, List.getElem?_set, List.getElem?_drop, List.length_cons]
    simp at hl
    rcases Nat.lt_trichotomy j (off + i) with hj | hj | hj
    · simp [show j < off + (i + 1) by omega, show min (off + (i + 1)) cur.size = off + (i + 1) by omega, show min (off + i) cur.size = off + i by omega, show off + i ≠ j by omega, hj, show j < off + (i + 1) + rest.length by omega, show j < off + i + (rest.length + 1) by omega]
    · subst hj
      simp [show off + i < off + (i + 1) by omega, show min (off + (i + 1)) cur.size = off + (i + 1) by omega, show min (off + i) cur.size = off + i by omega, hi, show off + i < off + (i + 1) + rest.length by omega]
    · by_cases h2 : j < off + i + (rest.length + 1)
      · simp [show ¬ j < off + (i + 1) by omega, show min (off + (i + 1)) cur.size = off + (i + 1) by omega, show min (off + i) cur.size = off + i by omega, show ¬ j < off + i by omega, show j < off + (i + 1) + rest.length by omega, h2, show j - (off + i) = (j - (off + (i + 1))) + 1 by omega]
      · simp [show min (off + (i + 1)) cur.size = off + (i + 1) by omega, show min (off + i) cur.size = off + i by omega, show ¬ j < off + (i + 1) + rest.length by omega, h2, show off + (i + 1) + rest.length + (j - (off + (i + 1) + rest.length)) = off + i + (rest.length + 1) + (j - (off + i + (rest.length + 1))) by omega]
        intro hh
        exact absurd hh (by omega)

def splice {α : Type} (l : List α) (off : Nat) (new : List α) : List α := l.take off ++ new ++ l.drop (off + new.length)

theorem Box.rel_splice {S : Nat → Option (Option Box)} {ι : Nat → Nat × Nat} {b : Box} {vs : List Value} (h : b.rel S ι vs) {off : Nat} {l : List CV} {us : List Value} (hl : CVs.rel S ι l us) (hm : off + l.length ≤ b.cells.length) :
    Box.rel S ι ⟨b.elem, splice b.cells off l, b.row⟩ (splice vs off us) := by
  have hlen := CVs.rel_length hl
  have core : ∀ vs, CVs.rel S ι b.cells vs → CVs.rel S ι (splice b.cells off l) (splice vs off us) := fun vs h => by
    unfold splice
    rw [hlen]
    exact CVs.rel_append (CVs.rel_append (CVs.rel_take h off) hl) (CVs.rel_drop h _)
  unfold Box.rel at h ⊢
  cases hr : b.row with
  | false => rw [hr] at h; exact core vs h
  | true =>
    rw [hr] at h
    obtain ⟨ws, sp, e, h⟩ := h
    refine ⟨splice ws off us, sp, ?_, core ws h⟩
    have := CVs.rel_length h
    unfold splice
    rw [e, List.take_append_of_le_length (by omega), List.drop_append_of_le_length (by omega)]
    simp

def sizeIs (P : Program) (t : TypeId) : Option Nat := (P.info? t).map (·.size)
theorem run_sizeIs {t : TypeId} {m : Nat} (h : sizeIs P t = some m) (w : World) : (sizeOf t).run P w = .ok m w := by
  unfold sizeIs at h
  cases hi : P.info? t with
  | none => simp [hi] at h
  | some i => simp [hi] at h; simp [sizeOf, typeInfo, hi, h]

theorem LOK.store {k off : Nat} {x y : Operand} {t ty : TypeId} {pos : String} {after : Array Edge} {g : Option (Nat × Bool)} {el : TypeId} {cs : List CV} {row : Bool} {s : SV} {cs' : List CV} (hx : σ.ev x = some (.sv (.one (.ptr k off)))) (hy : σ.ev y = some (.sv s))
    (hk : σ.stat k = some (some ⟨el, cs, row⟩)) (hs : s.solid = true) (hz : sizeIs P t = some s.cells.length) (hm : off + s.cells.length ≤ cs.length) (hc : splice cs off s.cells = cs') :
    LOK P n ops ⟨none, .store t x y, ty, pos, after, g⟩ σ ⟨[], [], [(k, some ⟨el, cs', row⟩)]⟩ :=
  LOK.act fun σ' ha C ι a w hr => by
    subst hc
    have hk' := (ha.stat k (.inr (by simp))).trans hk
    have hv := hr.ev ((ha.ev (x := x) (by simp [Op.operands])).trans hx)
    have hu := hr.ev ((ha.ev (x := y) (by simp [Op.operands])).trans hy)
    simp only [LV.rel, SV.rel, CV.rel, hk'] at hv
    obtain ⟨arr, fr, harr, hthaw, hasz, hrel⟩ := hr.boxes k _ hk'
    obtain ⟨h1, h2⟩ := SV.cells_ok hu hs
    have hlen := CVs.rel_length h1
    have hbl : off + (a.eval y).cells.toList.length ≤ arr.size := by
      have := (Box.rel_part hrel (off := 0) (m := cs.length) (by simp)).1
      simp at this
      rw [← hlen]
      omega
    have hrun := run_storeCells_at (P := P) hthaw (a.eval y).cells.toList off 0 arr w rfl harr (by simpa using hbl) h2
    simp only [Nat.add_zero] at hrun
    refine ⟨w.setRow (ι k).1 (splice arr.toList off (a.eval y).cells.toList).toArray, ι, ?_, ?_⟩
    · have hsz : (a.eval y).cells.size = s.cells.length := by rw [hlen]; simp
      simp only [execOp, hv, Instr.storeAt, Instr.sureAddr, storeVar, Sem.run_bind, Sem.run_pure, Result.andThen_ok, run_sizeIs hz, hsz, ne_eq, not_true_eq_false, if_false, hrun, splice]
    · exact hr.write hk' rfl (b' := ⟨el, splice cs off s.cells, row⟩) (by rw [← hasz]; unfold splice; simp at hbl ⊢; omega) (by simpa using Box.rel_splice hrel h1 hm)

end
end Go.Lg
