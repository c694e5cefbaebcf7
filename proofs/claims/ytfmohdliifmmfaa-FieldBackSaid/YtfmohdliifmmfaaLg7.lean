/- A piece of a proof over this program: contracts of its functions, and a logic to prove them by. -/
import Derived.Test.YtfmohdliifmmfaaLg6
namespace Go.Lg
open Go Go.RowKit

section
variable {P : Program} {n : Nat} {ops : List Oper} {σ : St} {C : Ctx} {ι : Nat → Nat × Nat} {a : Act} {w : World}

-- build
def fillL (place : Nat → Option (Nat × Nat)) (cells : List CV) : List (Nat × SV) → Option (List CV)
  | [] => some cells
  | (i, v) :: rest =>
    match place i with
    | none => none
    | some (off, size) => cond (Nat.beq v.cells.length size && Nat.ble (off + v.cells.length) cells.length) (fillL place (splice cells off v.cells) rest) none

theorem foldl_set (l : List Value) (off : Nat) : ∀ (s : Nat) (arr : Array Value), off + s + l.length ≤ arr.size →
    ((l.zipIdx s).foldl (fun cs (p : Value × Nat) => cs.setIfInBounds (off + p.2) p.1) arr).toList = arr.toList.take (off + s) ++ l ++ arr.toList.drop (off + s + l.length) := by
  induction l with
  | nil => intro s arr _; simp
  | cons v l ih =>
    intro s arr h
    simp only [List.length_cons] at h
    rw [List.zipIdx_cons, List.foldl_cons, ih (s + 1) _ (by simp; omega)]
    apply List.ext_getElem?
    intro j
    simp only [Array.toList_setIfInBounds, List.getElem?_append, List.length_take, List.length_set, Array.length_toList, List.length_append, List.getElem?_take, List.getElem?_set, List.getElem?_drop, List.length_cons]
    rcases Nat.lt_trichotomy j (off + s) with hj | hj | hj
    · simp [show j < off + (s + 1) by omega, show min (off + (s + 1)) arr.size = off + (s + 1) by omega, show min (off + s) arr.size = off + s by omega, show off + s ≠ j by omega, hj, show j < off + (s + 1) + l.length by omega, show j < off + s + (l.length + 1) by omega]
    · subst hj
      simp [show off + s < off + (s + 1) by omega, show min (off + (s + 1)) arr.size = off + (s + 1) by omega, show min (off + s) arr.size = off + s by omega, show off + s < arr.size by omega, show off + s < off + (s + 1) + l.length by omega]
    · by_cases h2 : j < off + s + (l.length + 1)
      · simp [show ¬ j < off + (s + 1) by omega, show min (off + (s + 1)) arr.size = off + (s + 1) by omega, show min (off + s) arr.size = off + s by omega, show ¬ j < off + s by omega, show j < off + (s + 1) + l.length by omega, h2, show j - (off + s) = (j - (off + (s + 1))) + 1 by omega]
      · simp [show min (off + (s + 1)) arr.size = off + (s + 1) by omega, show min (off + s) arr.size = off + s by omega, show ¬ j < off + (s + 1) + l.length by omega, h2, show off + (s + 1) + l.length + (j - (off + (s + 1) + l.length)) = off + s + (l.length + 1) + (j - (off + s + (l.length + 1))) by omega]
        intro hh
        exact absurd hh (by omega)

def PartsRel (S : Nat → Option (Option Box)) (ι : Nat → Nat × Nat) : List (Nat × SV) → List (Nat × Value) → Prop
  | [], [] => True
  | (i, s) :: l, (j, v) :: r => i = j ∧ s.rel S ι v ∧ s.solid = true ∧ PartsRel S ι l r
  | _, _ => False

theorem fill_rel {S : Nat → Option (Option Box)} {ι : Nat → Nat × Nat} {place : Nat → Option (Nat × Nat)} : ∀ {l : List (Nat × SV)} {r : List (Nat × Value)} {cells cs' : List CV} {arr : Array Value}, PartsRel S ι l r → CVs.rel S ι cells arr.toList → fillL place cells l = some cs' →
    ∃ arr', Instr.fill place arr r = some arr' ∧ CVs.rel S ι cs' arr'.toList
  | [], [], cells, cs', arr, _, h, hf => by simp only [fillL, Option.some.injEq] at hf; subst hf; exact ⟨arr, rfl, h⟩
  | (i, s) :: l, (j, v) :: r, cells, cs', arr, hp, h, hf => by
    obtain ⟨rfl, hs, hso, hp⟩ := hp
    simp only [fillL] at hf
    cases hpl : place i with
    | none => simp [hpl] at hf
    | some p =>
      obtain ⟨off, size⟩ := p
      simp only [hpl] at hf
      cases hc : (Nat.beq s.cells.length size && Nat.ble (off + s.cells.length) cells.length) with
      | false => rw [hc] at hf; simp at hf
      | true =>
        rw [hc] at hf
        simp only [cond_true] at hf
        simp only [Bool.and_eq_true] at hc
        have h1 := Nat.eq_of_beq_eq_true hc.1
        have h2 := Nat.le_of_ble_eq_true hc.2
        obtain ⟨hcr, _⟩ := SV.cells_ok hs hso
        have hlen := CVs.rel_length hcr
        have hlen2 := CVs.rel_length h
        simp only [Array.length_toList] at hlen hlen2
        have hrel : CVs.rel S ι (splice cells off s.cells) (splice arr.toList off v.cells.toList) := by
          unfold splice
          rw [CVs.rel_length hcr]
          exact CVs.rel_append (CVs.rel_append (CVs.rel_take h off) hcr) (CVs.rel_drop h _)
        have harr : (v.cells.zipIdx.foldl (fun cs (p : Value × Nat) => cs.setIfInBounds (off + p.2) p.1) arr).toList = splice arr.toList off v.cells.toList := by
          rw [← Array.foldl_toList, Array.toList_zipIdx]
          have := foldl_set v.cells.toList off 0 arr (by simp; omega)
          simpa [splice] using this
        obtain ⟨arr', hf', hr'⟩ := fill_rel (arr := v.cells.zipIdx.foldl (fun cs (p : Value × Nat) => cs.setIfInBounds (off + p.2) p.1) arr) hp (by rw [harr]; exact hrel) hf
        refine ⟨arr', ?_, hr'⟩
        simp only [Instr.fill, hpl]
        rw [if_neg (by simp; omega)]
        exact hf'
  | [], _ :: _, _, _, _, hp, _, _ => hp.elim
  | _ :: _, [], _, _, _, hp, _, _ => hp.elim

/-- how a struct or an array is built: its zero cells, and where a part stands -/
def structOf (P : Program) (t : TypeId) : Option (List Value × List (Nat × Nat)) :=
  match P.info? t, P.underlying t with
  | some it, some (.struct fields) =>
    match it.zero, fields.toList.mapM (fun f => (P.info? f.type).map fun i => (f.offset, i.size)) with
    | some z, some places => some (z.cells.toList, places)
    | _, _ => none
  | _, _ => none

def evParts (σ : St) : List (Nat × Operand) → Option (List (Nat × SV))
  | [] => some []
  | (i, x) :: r => match σ.ev x, evParts σ r with
    | some (.sv s), some l => some ((i, s) :: l)
    | _, _ => none

theorem evParts_rel (h : Rel n C ι σ a w) : ∀ {l : List (Nat × Operand)} {ps : List (Nat × SV)}, evParts σ l = some ps → ps.all (fun p => p.2.solid) = true → PartsRel σ.stat ι ps (l.map fun (i, x) => (i, a.eval x))
  | [], ps, he, _ => by simp only [evParts, Option.some.injEq] at he; subst he; trivial
  | (i, x) :: r, ps, he, hs => by
    simp only [evParts] at he
    split at he
    · rename_i s l h1 h2
      simp only [Option.some.injEq] at he
      subst he
      simp only [List.all_cons, Bool.and_eq_true] at hs
      exact ⟨rfl, h.ev h1, hs.1, evParts_rel h h2 hs.2⟩
    · simp at he

theorem evParts_agree {σ σ' : St} : ∀ {l : List (Nat × Operand)}, (∀ x ∈ l.map (·.2), σ'.ev x = σ.ev x) → evParts σ' l = evParts σ l
  | [], _ => rfl
  | (i, x) :: r, h => by
    simp only [evParts]
    rw [h x (by simp), evParts_agree fun y hy => h y (by simp at hy ⊢; exact .inr hy)]

theorem LOK.build {d : Nat} {t : TypeId} {parts : List (Nat × Operand)} {ty : TypeId} {pos : String} {after : Array Edge} {g : Option (Nat × Bool)} {ps : List (Nat × SV)} {zs : List Value} {places : List (Nat × Nat)} {cs : List CV}
    (hst : structOf P t = some (zs, places)) (hp : evParts σ parts = some ps) (hso : ps.all (fun p => p.2.solid) = true) (hf : fillL (fun i => places[i]?) (zs.map .val) ps = some cs) :
    LOK P n ops ⟨some d, .build t parts.toArray, ty, pos, after, g⟩ σ ⟨[(d, .sv (.agg cs))], [], []⟩ :=
  LOK.value fun σ' ha C ι a w hr => by
    have hp' : evParts σ' parts = some ps := by
      rw [evParts_agree fun x hx => ha.ev (by simp [Op.operands]; simpa using hx)]
      exact hp
    have hrel := evParts_rel hr hp' hso
    obtain ⟨arr', hfill, hcs⟩ := fill_rel (arr := zs.toArray) hrel (by simpa using CVs.rel_map_val zs) hf
    refine ⟨.agg arr', ?_, arr', rfl, hcs⟩
    have hb : P.built t ((parts.toArray.map fun (i, x) => (i, a.eval x)).toList) = some arr' := by
      unfold structOf at hst
      unfold Program.built
      cases hit : P.info? t with
      | none => simp [hit] at hst
      | some it =>
        cases hu : P.underlying t with
        | none => simp [hit, hu] at hst
        | some dd =>
          cases dd <;> simp only [hit, hu] at hst <;> try (simp at hst; done)
          rename_i fields
          cases hz : it.zero with
          | none => simp [hz] at hst
          | some z =>
            cases hpl : fields.toList.mapM (fun f => (P.info? f.type).map fun i => (f.offset, i.size)) with
            | none => simp [hz, hpl] at hst
            | some pl =>
              simp only [hz, hpl, Option.some.injEq, Prod.mk.injEq] at hst
              obtain ⟨e1, e2⟩ := hst
              simp only
              rw [← e1, ← e2] at hfill
              simp only [hz, hpl]
              simpa using hfill
    simp only [execOp, Sem.run_bind, run_build w t _ arr' hb, Result.andThen_ok, Sem.run_pure]

-- places in arrays
def arrOf (P : Program) (t : TypeId) : Option (Nat × Nat) :=
  match P.underlying t with
  | some (.array len e) => (P.info? e).map fun i => (len, i.size)
  | _ => none
def sliceOf (P : Program) (t : TypeId) : Option Nat :=
  match P.underlying t with
  | some (.slice e) => (P.info? e).map (·.size)
  | _ => none

theorem arrOf_spec {t : TypeId} {len sz : Nat} (h : arrOf P t = some (len, sz)) : ∃ e, P.underlying t = some (.array len e) ∧ ∀ w, (sizeOf e).run P w = .ok sz w := by
  unfold arrOf at h
  cases hu : P.underlying t with
  | none => simp [hu] at h
  | some d =>
    cases d <;> simp only [hu] at h <;> try (simp at h; done)
    rename_i len' e
    cases hi : P.info? e with
    | none => simp [hi] at h
    | some i =>
      simp only [hi, Option.map_some, Option.some.injEq, Prod.mk.injEq] at h
      obtain ⟨rfl, rfl⟩ := h
      exact ⟨e, rfl, fun w => by simp [sizeOf, typeInfo, hi]⟩

theorem sliceOf_spec {t : TypeId} {sz : Nat} (h : sliceOf P t = some sz) : ∃ e, P.underlying t = some (.slice e) ∧ ∀ w, (sizeOf e).run P w = .ok sz w := by
  unfold sliceOf at h
  cases hu : P.underlying t with
  | none => simp [hu] at h
  | some d =>
    cases d <;> simp only [hu] at h <;> try (simp at h; done)
    rename_i e
    cases hi : P.info? e with
    | none => simp [hi] at h
    | some i =>
      simp only [hi, Option.map_some, Option.some.injEq] at h
      subst h
      exact ⟨e, rfl, fun w => by simp [sizeOf, typeInfo, hi]⟩

theorem LOK.indexArr {d : Nat} {t : TypeId} {x y : Operand} {ty : TypeId} {pos : String} {after : Array Edge} {g : Option (Nat × Bool)} {k off len sz off' : Nat} {kk : IntKind} {i : Int} (hx : σ.ev x = some (.sv (.one (.ptr k off)))) (hy : σ.ev y = some (.sv (.one (.val (.int kk i)))))
    (ht : arrOf P t = some (len, sz)) (hi : 0 ≤ i ∧ i < len) (ho : off + i.toNat * sz = off') :
    LOK P n ops ⟨some d, .indexAddr t x y, ty, pos, after, g⟩ σ ⟨[(d, .sv (.one (.ptr k off')))], [], []⟩ :=
  LOK.value fun σ' ha C ι a w hr => by
    subst ho
    have h1 := hr.ev ((ha.ev (x := x) (by simp [Op.operands])).trans hx)
    have h2 : a.eval y = .int kk i := hr.ev ((ha.ev (x := y) (by simp [Op.operands])).trans hy)
    obtain ⟨e, hu, hsz⟩ := arrOf_spec ht
    have hrun : ∀ b : Nat, (Instr.indexAt t (.pointer (some ⟨b, off, none⟩)) (.int kk i)).run P w = .ok (.pointer (some ⟨b, off + i.toNat * sz, none⟩)) w := by
      intro b
      simp [Instr.indexAt, run_underlying hu, asIntOf, Instr.sureAddr, hi, hsz, addr_add]
    simp only [LV.rel, SV.rel, CV.rel] at h1 ⊢
    cases hk : σ'.stat k with
    | none => simp [hk] at h1
    | some bb =>
      cases bb with
      | none =>
        simp only [hk] at h1 ⊢
        obtain ⟨b, h1⟩ := h1
        exact ⟨.pointer (some ⟨b, off + i.toNat * sz, none⟩), by simp only [execOp, h1, h2, Sem.run_bind, hrun, Result.andThen_ok, Sem.run_pure], b, rfl⟩
      | some b =>
        simp only [hk] at h1 ⊢
        exact ⟨_, by simp only [execOp, h1, h2, Sem.run_bind, hrun, Result.andThen_ok, Sem.run_pure], rfl⟩

theorem LOK.indexSlc {d : Nat} {t : TypeId} {x y : Operand} {ty : TypeId} {pos : String} {after : Array Edge} {g : Option (Nat × Bool)} {k off len sz off' es : Nat} {kk : IntKind} {i : Int} (hx : σ.ev x = some (.sv (.one (.slc k off len es)))) (hy : σ.ev y = some (.sv (.one (.val (.int kk i)))))
    (ht : sliceOf P t = some sz) (hi : 0 ≤ i ∧ i < len) (ho : off + i.toNat * sz = off') :
    LOK P n ops ⟨some d, .indexAddr t x y, ty, pos, after, g⟩ σ ⟨[(d, .sv (.one (.ptr k off')))], [], []⟩ :=
  LOK.value fun σ' ha C ι a w hr => by
    subst ho
    have h1 := hr.ev ((ha.ev (x := x) (by simp [Op.operands])).trans hx)
    have h2 : a.eval y = .int kk i := hr.ev ((ha.ev (x := y) (by simp [Op.operands])).trans hy)
    obtain ⟨e, hu, hsz⟩ := sliceOf_spec ht
    have hrun : ∀ b c : Nat, (Instr.indexAt t (.slice (some ⟨b, off, none⟩) len c) (.int kk i)).run P w = .ok (.pointer (some ⟨b, off + i.toNat * sz, none⟩)) w := by
      intro b c
      simp [Instr.indexAt, run_underlying hu, asIntOf, hi, hsz, addr_add]
    simp only [LV.rel, SV.rel, CV.rel] at h1 ⊢
    cases hk : σ'.stat k with
    | none => simp [hk] at h1
    | some bb =>
      cases bb with
      | none =>
        simp only [hk] at h1 ⊢
        obtain ⟨b, c, h1, _⟩ := h1
        exact ⟨.pointer (some ⟨b, off + i.toNat * sz, none⟩), by simp only [execOp, h1, h2, Sem.run_bind, hrun, Result.andThen_ok, Sem.run_pure], b, rfl⟩
      | some b =>
        simp only [hk] at h1 ⊢
        obtain ⟨c, h1, _⟩ := h1
        exact ⟨_, by simp only [execOp, h1, h2, Sem.run_bind, hrun, Result.andThen_ok, Sem.run_pure], rfl⟩

theorem LOK.indexX {d : Nat} {t : TypeId} {x y : Operand} {ty : TypeId} {pos : String} {after : Array Edge} {g : Option (Nat × Bool)} {b off len cap sz off' : Nat} {kk : IntKind} {i : Int} (hx : σ.ev x = some (.sv (.one (.val (.slice (some ⟨b, off, none⟩) len cap))))) (hy : σ.ev y = some (.sv (.one (.val (.int kk i)))))
    (ht : sliceOf P t = some sz) (hi : 0 ≤ i ∧ i < len) (ho : off + i.toNat * sz = off') :
    LOK P n ops ⟨some d, .indexAddr t x y, ty, pos, after, g⟩ σ ⟨[(d, .sv (.one (.val (.pointer (some ⟨b, off', none⟩)))))], [], []⟩ :=
  LOK.value fun σ' ha C ι a w hr => by
    subst ho
    have h1 : a.eval x = _ := hr.ev ((ha.ev (x := x) (by simp [Op.operands])).trans hx)
    have h2 : a.eval y = .int kk i := hr.ev ((ha.ev (x := y) (by simp [Op.operands])).trans hy)
    obtain ⟨e, hu, hsz⟩ := sliceOf_spec ht
    exact ⟨_, by simp [execOp, h1, h2, Instr.indexAt, run_underlying hu, asIntOf, hi, hsz, addr_add], rfl⟩

/-- a global's element -/
theorem LOK.indexArrX {d : Nat} {t : TypeId} {x y : Operand} {ty : TypeId} {pos : String} {after : Array Edge} {g : Option (Nat × Bool)} {b off len sz off' : Nat} {kk : IntKind} {i : Int} (hx : σ.ev x = some (.sv (.one (.val (.pointer (some ⟨b, off, none⟩)))))) (hy : σ.ev y = some (.sv (.one (.val (.int kk i)))))
    (ht : arrOf P t = some (len, sz)) (hi : 0 ≤ i ∧ i < len) (ho : off + i.toNat * sz = off') :
    LOK P n ops ⟨some d, .indexAddr t x y, ty, pos, after, g⟩ σ ⟨[(d, .sv (.one (.val (.pointer (some ⟨b, off', none⟩)))))], [], []⟩ :=
  LOK.value fun σ' ha C ι a w hr => by
    subst ho
    have h1 : a.eval x = _ := hr.ev ((ha.ev (x := x) (by simp [Op.operands])).trans hx)
    have h2 : a.eval y = .int kk i := hr.ev ((ha.ev (x := y) (by simp [Op.operands])).trans hy)
    obtain ⟨e, hu, hsz⟩ := arrOf_spec ht
    exact ⟨_, by simp [execOp, h1, h2, Instr.indexAt, run_underlying hu, asIntOf, Instr.sureAddr, hi, hsz, addr_add], rfl⟩

theorem LOK.indexStr {d : Nat} {t : TypeId} {x y : Operand} {ty : TypeId} {pos : String} {after : Array Edge} {g : Option (Nat × Bool)} {s : ByteArray} {kk : IntKind} {i : Int} {b : UInt8} {r : Int} (hx : σ.ev x = some (.sv (.one (.val (.string s))))) (hy : σ.ev y = some (.sv (.one (.val (.int kk i)))))
    (ht : P.underlying t = some .string) (hi : 0 ≤ i) (hb : s[i.toNat]? = some b) (hr' : (b.toNat : Int) = r) :
    LOK P n ops ⟨some d, .index t x y, ty, pos, after, g⟩ σ ⟨[(d, .sv (.one (.val (.int .u8 r))))], [], []⟩ :=
  LOK.value fun σ' ha C ι a w hr => by
    subst hr'
    have h1 : a.eval x = _ := hr.ev ((ha.ev (x := x) (by simp [Op.operands])).trans hx)
    have h2 : a.eval y = .int kk i := hr.ev ((ha.ev (x := y) (by simp [Op.operands])).trans hy)
    exact ⟨_, by simp [execOp, h1, h2, Instr.index, run_underlying ht, asIntOf, hi, hb], rfl⟩

theorem LOK.indexAgg {d : Nat} {t : TypeId} {x y : Operand} {ty : TypeId} {pos : String} {after : Array Edge} {g : Option (Nat × Bool)} {l : List CV} {len : Nat} {e : TypeId} {kk : IntKind} {i : Int} {c : CV} (hx : σ.ev x = some (.sv (.agg l))) (hy : σ.ev y = some (.sv (.one (.val (.int kk i)))))
    (ht : P.underlying t = some (.array len e)) (hsz : sizeIs P e = some 1) (hone : oneType P e = true) (hi : 0 ≤ i ∧ i < len) (hc : l[i.toNat]? = some c) :
    LOK P n ops ⟨some d, .index t x y, ty, pos, after, g⟩ σ ⟨[(d, .sv (.one c))], [], []⟩ :=
  LOK.value fun σ' ha C ι a w hr => by
    obtain ⟨arr, h1, hrel⟩ := hr.ev ((ha.ev (x := x) (by simp [Op.operands])).trans hx)
    have h2 : a.eval y = .int kk i := hr.ev ((ha.ev (x := y) (by simp [Op.operands])).trans hy)
    obtain ⟨v, hv, hcr⟩ := CVs.rel_get hrel hc
    have hv' : arr[i.toNat]? = some v := by simpa using hv
    exact ⟨v, by simp [execOp, h1, h2, Instr.index, run_underlying ht, asIntOf, hi, run_sizeIs hsz, part, isAgg_one hone, hv'], hcr⟩

theorem LOK.fieldOne {d s i : Nat} {x : Operand} {ty : TypeId} {pos : String} {after : Array Edge} {g : Option (Nat × Bool)} {l : List CV} {fs : Array Field} {f : Field} {c : CV} (hx : σ.ev x = some (.sv (.agg l)))
    (hu : P.underlying s = some (.struct fs)) (hf : fs[i]? = some f) (hone : oneType P f.type = true) (hc : l[f.offset]? = some c) :
    LOK P n ops ⟨some d, .field s x i, ty, pos, after, g⟩ σ ⟨[(d, .sv (.one c))], [], []⟩ :=
  LOK.value fun σ' ha C ι a w hr => by
    obtain ⟨arr, h1, hrel⟩ := hr.ev ((ha.ev (x := x) (by simp [Op.operands])).trans hx)
    obtain ⟨v, hv, hcr⟩ := CVs.rel_get hrel hc
    have hv' : arr[f.offset]? = some v := by simpa using hv
    exact ⟨v, by simp [execOp, h1, Instr.field, run_underlying hu, hf, asAgg, part, isAgg_one hone, hv'], hcr⟩

theorem LOK.lenStr {d : Nat} {t : TypeId} {x : Operand} {ty : TypeId} {pos : String} {after : Array Edge} {g : Option (Nat × Bool)} {s : ByteArray} {r : Int} (hx : σ.ev x = some (.sv (.one (.val (.string s))))) (ht : P.underlying t = some .string) (hr' : (s.size : Int) = r) :
    LOK P n ops ⟨some d, .call ⟨.builtin .len, #[x], #[t]⟩, ty, pos, after, g⟩ σ ⟨[(d, .sv (.one (.val (.int .i64 r))))], [], []⟩ :=
  LOK.value fun σ' ha C ι a w hr => by
    subst hr'
    have h1 : a.eval x = _ := hr.ev ((ha.ev (x := x) (by simp [Op.operands, Call.operands])).trans hx)
    exact ⟨_, by simp [execOp, resolve, invoke, builtin, Builtin.len_, h1, run_underlying ht, goInt], rfl⟩

theorem LOK.lenSlc {d : Nat} {t : TypeId} {x : Operand} {ty : TypeId} {pos : String} {after : Array Edge} {g : Option (Nat × Bool)} {k off len sz es : Nat} {r : Int} (hx : σ.ev x = some (.sv (.one (.slc k off len es)))) (ht : sliceOf P t = some sz) (hr' : (len : Int) = r) :
    LOK P n ops ⟨some d, .call ⟨.builtin .len, #[x], #[t]⟩, ty, pos, after, g⟩ σ ⟨[(d, .sv (.one (.val (.int .i64 r))))], [], []⟩ :=
  LOK.value fun σ' ha C ι a w hr => by
    subst hr'
    have h1 := hr.ev ((ha.ev (x := x) (by simp [Op.operands, Call.operands])).trans hx)
    obtain ⟨e, hu, _⟩ := sliceOf_spec ht
    have hrun : ∀ b c : Nat, a.eval x = .slice (some ⟨b, off, none⟩) len c → (execOp a.eval ⟨some d, .call ⟨.builtin .len, #[x], #[t]⟩, ty, pos, after, g⟩).run P w = .ok (.value (.int .i64 len)) w := by
      intro b c h
      simp [execOp, resolve, invoke, builtin, Builtin.len_, h, run_underlying hu, goInt]
    simp only [LV.rel, SV.rel, CV.rel] at h1
    cases hk : σ'.stat k with
    | none => simp [hk] at h1
    | some bb =>
      cases bb with
      | none => simp only [hk] at h1; obtain ⟨b, c, h1, _⟩ := h1; exact ⟨_, hrun b c h1, rfl⟩
      | some b => simp only [hk] at h1; obtain ⟨c, h1, _⟩ := h1; exact ⟨_, hrun _ c h1, rfl⟩

theorem LOK.lenX {d : Nat} {t : TypeId} {x : Operand} {ty : TypeId} {pos : String} {after : Array Edge} {g : Option (Nat × Bool)} {ad : Option Addr} {len cap sz : Nat} {r : Int} (hx : σ.ev x = some (.sv (.one (.val (.slice ad len cap))))) (ht : sliceOf P t = some sz) (hr' : (len : Int) = r) :
    LOK P n ops ⟨some d, .call ⟨.builtin .len, #[x], #[t]⟩, ty, pos, after, g⟩ σ ⟨[(d, .sv (.one (.val (.int .i64 r))))], [], []⟩ :=
  LOK.value fun σ' ha C ι a w hr => by
    subst hr'
    have h1 : a.eval x = _ := hr.ev ((ha.ev (x := x) (by simp [Op.operands, Call.operands])).trans hx)
    obtain ⟨e, hu, _⟩ := sliceOf_spec ht
    exact ⟨_, by simp [execOp, resolve, invoke, builtin, Builtin.len_, h1, run_underlying hu, goInt], rfl⟩

/-- a piece of a text -/
theorem LOK.sliceStr {d : Nat} {t : TypeId} {x : Operand} {lo hi : Option Operand} {ty : TypeId} {pos : String} {after : Array Edge} {g : Option (Nat × Bool)} {s : ByteArray} {l h : Nat} {kl kh : IntKind} {r : ByteArray} (hx : σ.ev x = some (.sv (.one (.val (.string s))))) (ht : P.underlying t = some .string)
    (hl : match lo with | some y => σ.ev y = some (.sv (.one (.val (.int kl (l : Int))))) | none => l = 0) (hh : match hi with | some y => σ.ev y = some (.sv (.one (.val (.int kh (h : Int))))) | none => h = s.size) (hlh : l ≤ h ∧ h ≤ s.size) (hr' : s.extract l h = r) :
    LOK P n ops ⟨some d, .slice t x lo hi none, ty, pos, after, g⟩ σ ⟨[(d, .sv (.one (.val (.string r))))], [], []⟩ :=
  LOK.value fun σ' ha C ι a w hr => by
    subst hr'
    have h1 : a.eval x = _ := hr.ev ((ha.ev (x := x) (by simp [Op.operands])).trans hx)
    obtain ⟨h2, h3⟩ := hlh
    refine ⟨.string (s.extract l h), ?_, rfl⟩
    have c1 : ((h : Int)) ≤ (s.size : Int) := by omega
    have c2 : ((l : Int)) ≤ (h : Int) := by omega
    have c0 : (0 : Int) ≤ (h : Int) := by omega
    have c00 : (0 : Int) ≤ (l : Int) := by omega
    cases lo with
    | none =>
      cases hi with
      | none => simp only at hl hh; subst hl hh; simp [execOp, h1, Instr.sliceAt, Instr.slice, run_underlying ht, Instr.sliceBounds]
      | some y =>
        simp only at hl hh
        subst hl
        have e2 : a.eval y = _ := hr.ev ((ha.ev (x := y) (by simp [Op.operands])).trans hh)
        simp [execOp, h1, e2, Instr.sliceAt, Instr.slice, run_underlying ht, Instr.sliceBounds, Instr.sliceBound, asIntOf, h3]
    | some z =>
      simp only at hl
      have e1 : a.eval z = _ := hr.ev ((ha.ev (x := z) (by simp [Op.operands])).trans hl)
      cases hi with
      | none => simp only at hh; subst hh; simp [execOp, h1, e1, Instr.sliceAt, Instr.slice, run_underlying ht, Instr.sliceBounds, Instr.sliceBound, asIntOf, h2]
      | some y =>
        simp only at hh
        have e2 : a.eval y = _ := hr.ev ((ha.ev (x := y) (by simp [Op.operands])).trans hh)
        simp [execOp, h1, e1, e2, Instr.sliceAt, Instr.slice, run_underlying ht, Instr.sliceBounds, Instr.sliceBound, asIntOf, h3, h2]

-- calls
def evs (σ : St) : List Operand → Option (List LV)
  | [] => some []
  | x :: r => match σ.ev x, evs σ r with
    | some v, some l => some (v :: l)
    | _, _ => none

theorem evs_agree {σ σ' : St} : ∀ {l : List Operand}, (∀ x ∈ l, σ'.ev x = σ.ev x) → evs σ' l = evs σ l
  | [], _ => rfl
  | x :: r, h => by
    simp only [evs]
    rw [h x (by simp), evs_agree fun y hy => h y (by simp [hy])]

theorem evs_rel (h : Rel n C ι σ a w) : ∀ {l : List Operand} {lvs : List LV}, evs σ l = some lvs → LVs.rel σ.stat ι lvs (l.map a.eval)
  | [], lvs, he => by simp only [evs, Option.some.injEq] at he; subst he; trivial
  | x :: r, lvs, he => by
    simp only [evs] at he
    split at he
    · rename_i v l h1 h2
      simp only [Option.some.injEq] at he
      subst he
      exact ⟨h.ev h1, evs_rel h h2⟩
    · simp at he

/-- memory has grown, and nothing else has turned -/
theorem Rel.below (h : Rel n C ι σ a w) {w' : World} (hb : Below w.heap.size w w') : Rel n C ι σ a w' := by
  have hXlt : ∀ j o, σ.X j = some o → j < w.heap.size := fun j o hj => (Array.getElem?_eq_some_iff.1 (h.ext j o hj)).1
  exact {
    defers := h.defers, size := h.size, slots := h.slots
    boxes := fun k b hk => by
      obtain ⟨arr, fr, ha, ht, hs, hr⟩ := h.boxes k b hk
      exact ⟨arr, fr, (hb.block _ (h.blocklt hk)).trans ha, ht, hs, hr⟩
    own := h.own, inj := h.inj, keep := h.keep
    ext := fun j o hj => (hb.block _ (hXlt j o hj)).trans (h.ext j o hj)
    frame := fun j hj hn => (hb.block _ (Nat.lt_of_lt_of_le hj h.big)).trans (h.frame j hj hn)
    big := Nat.le_trans h.big hb.size
    os := hb.os.trans h.os, tape := hb.tape.trans h.tape, output := hb.output.trans h.output }

theorem run_enter {f : FuncId} {args : Array Value} (h : Program.enters P f = true) (w : World) : (callFunc f args).run P w = .ok (.enter f args) w := by
  unfold Program.enters at h
  cases hf : P.funcs[f]? with
  | none => simp [hf] at h
  | some fn =>
    simp only [hf, Bool.and_eq_true, bne_iff_ne, ne_eq] at h
    obtain ⟨h1, h2⟩ := h
    have h3 : fn.body.isNone = false := by cases hb : fn.body <;> simp_all
    have h4 : (fn.name == "runtime.NumGoroutine") = false := by simpa using h1
    simp only [callFunc, Sem.run_bind, run_program, Result.andThen_ok, hf, h3, h4, Bool.false_eq_true, if_false, Sem.run_pure]

theorem LOK.call {d : Nat} {f : FuncId} {args : List Operand} {tys : Array TypeId} {ty : TypeId} {pos : String} {after : Array Edge} {g : Option (Nat × Bool)} {lvs : List LV} {r : LV} (hargs : evs σ args = some lvs) (hcl : lvs.all LV.closed = true) (hs : PSpec P σ.X f lvs r) :
    LOK P n ops ⟨some d, .call ⟨.value (.func f), args.toArray, tys⟩, ty, pos, after, g⟩ σ ⟨[(d, r)], [], []⟩ := by
  refine ⟨fun σ' ha C ι a w hr hd next Q hn => ?_⟩
  have hargs' : evs σ' args = some lvs := by
    rw [evs_agree fun x hx => ha.ev (by simp [Op.operands, Call.operands, hx])]
    exact hargs
  have hrel := LVs.rel_closed (S' := noS) (ι' := fun _ => (0, 0)) hcl (evs_rel hr hargs')
  have hc := hs.out w (args.toArray.map a.eval) (fun b o hb => hr.ext b o (by rw [ha.X]; exact hb)) (by simpa using hrel)
  unfold Oper.wp
  have hrun : (execOp a.eval ⟨some d, .call ⟨.value (.func f), args.toArray, tys⟩, ty, pos, after, g⟩).run P w = .ok (.enter f (args.toArray.map a.eval)) w := by
    simp only [execOp, resolve, Act.eval, Deferred.ofValue, invoke, Sem.run_bind, Sem.run_pure, Result.andThen_ok]
    simp [run_enter hs.enters]
  rw [hrun]
  refine hc.mono ?_
  rintro e w' ⟨v, rfl, hv, hb⟩
  exact hn ι _ w' ((hr.below hb).put (hd d rfl) (LV.rel_later (later_noS _ _ _) hv))

-- a state that says less
def slotsIn (σ : St) : List (Nat × LV) → Prop
  | [] => True
  | (d, lv) :: r => σ.slot d = some lv ∧ slotsIn σ r
def boxesIn (σ : St) : List (Nat × Option Box) → Prop
  | [] => True
  | (k, some b) :: r => σ.stat k = some (some b) ∧ boxesIn σ r
  | (k, none) :: r => (∃ x, σ.stat k = some x) ∧ boxesIn σ r
def CV.inUse (bx : List (Nat × Option Box)) : CV → Bool
  | .ptr k _ => (look k bx).isSome
  | .slc k _ _ _ => (look k bx).isSome
  | _ => true
def SV.inUse (bx : List (Nat × Option Box)) : SV → Bool
  | .one c => c.inUse bx
  | .agg l => l.all (CV.inUse bx)
def LV.inUse (bx : List (Nat × Option Box)) : LV → Bool
  | .sv s => s.inUse bx
  | .tup l => l.all (SV.inUse bx)

theorem slotsIn_look {σ : St} : ∀ {l : List (Nat × LV)}, slotsIn σ l → ∀ d lv, look d l = some lv → σ.slot d = some lv ∧ (d, lv) ∈ l
  | [], _, d, lv, h => by simp [look] at h
  | (d', lv') :: r, hs, d, lv, h => by
    simp only [look] at h
    cases hb : Nat.beq d' d with
    | true =>
      rw [hb] at h
      simp at h
      have := Nat.eq_of_beq_eq_true hb
      subst this h
      exact ⟨hs.1, by simp⟩
    | false =>
      rw [hb] at h
      obtain ⟨h1, h2⟩ := slotsIn_look hs.2 d lv h
      exact ⟨h1, by simp [h2]⟩
theorem boxesIn_look {σ : St} : ∀ {l : List (Nat × Option Box)}, boxesIn σ l → ∀ k x, look k l = some x → (∀ b, x = some b → σ.stat k = some (some b)) ∧ (∃ y, σ.stat k = some y) ∧ (k, x) ∈ l
  | [], _, k, x, h => by simp [look] at h
  | (k', x') :: r, hs, k, x, h => by
    simp only [look] at h
    cases hb : Nat.beq k' k with
    | true =>
      rw [hb] at h
      simp at h
      have := Nat.eq_of_beq_eq_true hb
      subst this h
      cases x' with
      | none => exact ⟨fun b hb => by simp at hb, hs.1, by simp⟩
      | some b => exact ⟨fun b' hb' => by simp at hb'; subst hb'; exact hs.1, ⟨_, hs.1⟩, by simp⟩
    | false =>
      rw [hb] at h
      have hs2 : boxesIn σ r := by cases x' with
        | none => exact hs.2
        | some b => exact hs.2
      obtain ⟨h1, h2, h3⟩ := boxesIn_look hs2 k x h
      exact ⟨h1, h2, by simp [h3]⟩

section le
variable {S S' : Nat → Option (Option Box)}
/-- names that are in use in the new state mean there what they meant; others don't stand there -/
theorem CV.rel_less {bx : List (Nat × Option Box)} (h : ∀ k x, look k bx = some x → (∀ b, x = some b → S k = some (some b)) ∧ ∃ y, S k = some y) {c : CV} (hu : c.inUse bx = true) {v : Value} (hr : c.rel S ι v) : c.rel (fun k => look k bx) ι v := by
  cases c with
  | val u => exact hr
  | junk => trivial
  | ptr k off =>
    simp only [CV.inUse, Option.isSome_iff_exists] at hu
    obtain ⟨x, hx⟩ := hu
    obtain ⟨h1, y, hy⟩ := h k x hx
    simp only [CV.rel, hx] at hr ⊢
    cases x with
    | none =>
      rw [hy] at hr
      cases y with
      | none => exact hr
      | some b => exact ⟨_, hr⟩
    | some b => rw [h1 b rfl] at hr; exact hr
  | slc k off m sz =>
    simp only [CV.inUse, Option.isSome_iff_exists] at hu
    obtain ⟨x, hx⟩ := hu
    obtain ⟨h1, y, hy⟩ := h k x hx
    simp only [CV.rel, hx] at hr ⊢
    cases x with
    | none =>
      rw [hy] at hr
      cases y with
      | none => exact hr
      | some b => obtain ⟨c, h3, h4, _⟩ := hr; exact ⟨_, c, h3, h4⟩
    | some b => rw [h1 b rfl] at hr; exact hr
theorem CVs.rel_less {bx : List (Nat × Option Box)} (h : ∀ k x, look k bx = some x → (∀ b, x = some b → S k = some (some b)) ∧ ∃ y, S k = some y) : ∀ {l : List CV} {vs : List Value}, l.all (CV.inUse bx) = true → CVs.rel S ι l vs → CVs.rel (fun k => look k bx) ι l vs
  | [], [], _, _ => trivial
  | c :: l, v :: vs, hu, hr => by simp only [List.all_cons, Bool.and_eq_true] at hu; exact ⟨CV.rel_less h hu.1 hr.1, CVs.rel_less h hu.2 hr.2⟩
  | [], _ :: _, _, hr => hr.elim
  | _ :: _, [], _, hr => hr.elim
theorem SV.rel_less {bx : List (Nat × Option Box)} (h : ∀ k x, look k bx = some x → (∀ b, x = some b → S k = some (some b)) ∧ ∃ y, S k = some y) {s : SV} {v : Value} (hu : s.inUse bx = true) (hr : s.rel S ι v) : s.rel (fun k => look k bx) ι v := by
  cases s with
  | one c => exact CV.rel_less h hu hr
  | agg l => obtain ⟨arr, e, hl⟩ := hr; exact ⟨arr, e, CVs.rel_less h hu hl⟩
theorem SVs.rel_less {bx : List (Nat × Option Box)} (h : ∀ k x, look k bx = some x → (∀ b, x = some b → S k = some (some b)) ∧ ∃ y, S k = some y) : ∀ {l : List SV} {vs : List Value}, l.all (SV.inUse bx) = true → SVs.rel S ι l vs → SVs.rel (fun k => look k bx) ι l vs
  | [], [], _, _ => trivial
  | c :: l, v :: vs, hu, hr => by simp only [List.all_cons, Bool.and_eq_true] at hu; exact ⟨SV.rel_less h hu.1 hr.1, SVs.rel_less h hu.2 hr.2⟩
  | [], _ :: _, _, hr => hr.elim
  | _ :: _, [], _, hr => hr.elim
theorem LV.rel_less {bx : List (Nat × Option Box)} (h : ∀ k x, look k bx = some x → (∀ b, x = some b → S k = some (some b)) ∧ ∃ y, S k = some y) {s : LV} {v : Value} (hu : s.inUse bx = true) (hr : s.rel S ι v) : s.rel (fun k => look k bx) ι v := by
  cases s with
  | sv s => exact SV.rel_less h hu hr
  | tup l => obtain ⟨arr, e, hl⟩ := hr; exact ⟨arr, e, SVs.rel_less h hu hl⟩
end le

theorem Le.of {s : List (Nat × LV)} {bx : List (Nat × Option Box)} {X : Nat → Option Obj} (hs : slotsIn σ s) (hb : boxesIn σ bx) (hX : σ.X = X)
    (hu : s.all (fun p => p.2.inUse bx) = true) (hub : bx.all (fun p => match p.2 with | some b => b.cells.all (CV.inUse bx) | none => true) = true) : Le n C σ ⟨s, bx, X⟩ := by
  refine ⟨fun ι a w h => ?_⟩
  have hlk : ∀ k x, look k bx = some x → (∀ b, x = some b → σ.stat k = some (some b)) ∧ ∃ y, σ.stat k = some y := fun k x hx =>
    ⟨(boxesIn_look hb k x hx).1, (boxesIn_look hb k x hx).2.1⟩
  refine ⟨ι, {
    defers := h.defers, size := h.size
    slots := fun d lv hd => ?_
    boxes := fun k b hk => ?_
    own := fun k b hk => ?_
    inj := fun k k' b b' hk hk' he => h.inj k k' b b' ((hlk k _ hk).1 b rfl) ((hlk k' _ hk').1 b' rfl) he
    keep := fun k b hk => h.keep k b ((hlk k _ hk).1 b rfl)
    ext := by rw [← hX]; exact h.ext
    frame := h.frame, big := h.big, os := h.os, tape := h.tape, output := h.output }⟩
  · obtain ⟨h1, h2⟩ := slotsIn_look hs d lv hd
    obtain ⟨v, hv, hr⟩ := h.slots d lv h1
    exact ⟨v, hv, LV.rel_less hlk (List.all_eq_true.1 hu _ h2) hr⟩
  · have h1 := (hlk k _ hk).1 b rfl
    have h2 := (boxesIn_look hb k _ hk).2.2
    obtain ⟨arr, fr, harr, ht, hs, hr⟩ := h.boxes k b h1
    have hu' : b.cells.all (CV.inUse bx) = true := by simpa using List.all_eq_true.1 hub _ h2
    refine ⟨arr, fr, harr, ht, hs, ?_⟩
    unfold Box.rel at hr ⊢
    cases hrow : b.row with
    | false => rw [hrow] at hr; exact CVs.rel_less hlk hu' hr
    | true => rw [hrow] at hr; obtain ⟨us, sp, e, hl⟩ := hr; exact ⟨us, sp, e, CVs.rel_less hlk hu' hl⟩
  · have := h.own k b ((hlk k _ hk).1 b rfl)
    exact ⟨this.1, by rw [← hX]; exact this.2⟩

end
end Go.Lg
