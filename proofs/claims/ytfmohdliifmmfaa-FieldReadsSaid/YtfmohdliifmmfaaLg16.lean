/- A piece of a proof over this program: contracts of its functions, and a logic to prove them by. -/
import Derived.Test.YtfmohdliifmmfaaLg15
import Derived.Laws.Pointers
import Derived.Laws.IdiomStrings
import Derived.Laws.MakeOwn
import Derived.Deep.AppendSrc
namespace Go.Lg
open Go Go.RowKit
section
variable {P : Program} {n : Nat} {ops os : List Oper} {acc : List Eff} {K : List Eff → St → Prop} {s : List (Nat × LV)} {bx : List (Nat × Option Box)} {X : Nat → Option Obj} {σ : St}
theorem CV.rel_ptr {S : Nat → Option (Option Box)} {ι : Nat → Nat × Nat} {k off : Nat} {v : Value} (h : (CV.ptr k off).rel S ι v) : ∃ b, v = .pointer (some ⟨b, off, none⟩) := by
  simp only [CV.rel] at h
  cases hk : S k with
  | none => simp [hk] at h
  | some x => cases x with
    | none => rw [hk] at h; exact h
    | some b => rw [hk] at h; exact ⟨_, h⟩
def isPtr (P : Program) (t : TypeId) : Bool := match P.underlying t with | some (.pointer _) => true | _ => false
theorem isPtr_spec {t : TypeId} (h : isPtr P t = true) : P.underlying t = some (.pointer (P.pointee t)) := by
  unfold isPtr at h
  split at h
  · rename_i e he
    unfold Program.pointee
    rw [he]
  · cases h
theorem LOK.ptrNil {d k off : Nat} {op : BinOp} {t t' : TypeId} {x : Operand} {ty : TypeId} {pos : String} {after_ : Array Edge} {g : Option (Nat × Bool)} {r : Bool} (hx : σ.ev x = some (.sv (.one (.ptr k off)))) (ht : isPtr P t = true)
    (hop : (op = .eql ∧ r = false) ∨ (op = .neq ∧ r = true)) :
    LOK P n ops ⟨some d, .binOp op t x (.const (.pointer none)) t', ty, pos, after_, g⟩ σ ⟨[(d, .sv (.one (.val (.bool r))))], [], []⟩ :=
  LOK.value fun σ' ha C ι a w hr => by
    obtain ⟨b, hv⟩ := CV.rel_ptr (hr.ev ((ha.ev (x := x) (by simp [Op.operands])).trans hx))
    have hc : a.eval (.const (.pointer none)) = .pointer none := rfl
    rcases hop with ⟨rfl, rfl⟩ | ⟨rfl, rfl⟩
    · exact ⟨_, by simp only [execOp, hv, hc, eqGuard, Sem.run_bind]; simp [run_eql_pointer_nil w t _ (isPtr_spec ht)], rfl⟩
    · exact ⟨_, by simp only [execOp, hv, hc, eqGuard, Sem.run_bind]; simp [run_neq_pointer_nil w t _ (isPtr_spec ht)], rfl⟩
theorem LOK.nilNil {d : Nat} {op : BinOp} {t t' : TypeId} {x : Operand} {ty : TypeId} {pos : String} {after_ : Array Edge} {g : Option (Nat × Bool)} {r : Bool} (hx : σ.ev x = some (.sv (.one (.val (.pointer none))))) (ht : isPtr P t = true)
    (hop : (op = .eql ∧ r = true) ∨ (op = .neq ∧ r = false)) :
    LOK P n ops ⟨some d, .binOp op t x (.const (.pointer none)) t', ty, pos, after_, g⟩ σ ⟨[(d, .sv (.one (.val (.bool r))))], [], []⟩ :=
  LOK.value fun σ' ha C ι a w hr => by
    have hv : a.eval x = .pointer none := hr.ev ((ha.ev (x := x) (by simp [Op.operands])).trans hx)
    have hc : a.eval (.const (.pointer none)) = .pointer none := rfl
    rcases hop with ⟨rfl, rfl⟩ | ⟨rfl, rfl⟩
    · exact ⟨_, by simp only [execOp, hv, hc, eqGuard, Sem.run_bind]; simp [run_eql_pointer_nil w t _ (isPtr_spec ht)], rfl⟩
    · exact ⟨_, by simp only [execOp, hv, hc, eqGuard, Sem.run_bind]; simp [run_neq_pointer_nil w t _ (isPtr_spec ht)], rfl⟩
theorem LOK.nilCheck {d k off : Nat} {x : Operand} {ty : TypeId} {pos : String} {after_ : Array Edge} {g : Option (Nat × Bool)} (hx : σ.ev x = some (.sv (.one (.ptr k off)))) :
    LOK P n ops ⟨some d, .nilCheck x, ty, pos, after_, g⟩ σ ⟨[(d, .sv (.one (.ptr k off)))], [], []⟩ :=
  LOK.value fun σ' ha C ι a w hr => by
    have h := hr.ev ((ha.ev (x := x) (by simp [Op.operands])).trans hx)
    obtain ⟨b, hv⟩ := CV.rel_ptr h
    exact ⟨a.eval x, by simp only [execOp, hv]; simp, h⟩
theorem K.ptrNil {d k off : Nat} {op : BinOp} {t t' : TypeId} {x : Operand} {ty : TypeId} {pos : String} {after_ : Array Edge} {g : Option (Nat × Bool)} {r : Bool} (hx : (⟨s, bx, X⟩ : St).ev x = some (.sv (.one (.ptr k off)))) (ht : isPtr P t = true)
    (hop : (op = .eql ∧ r = false) ∨ (op = .neq ∧ r = true)) (hw : Want ops s g) (kont : RunK P n ops os ⟨(d, .sv (.one (.val (.bool r)))) :: s, bx, X⟩ (⟨[(d, .sv (.one (.val (.bool r))))], [], []⟩ :: acc) K) :
    RunK P n ops (⟨some d, .binOp op t x (.const (.pointer none)) t', ty, pos, after_, g⟩ :: os) ⟨s, bx, X⟩ acc K := RunK.g1 (LOK.ptrNil hx ht hop) hw kont
theorem K.nilNil {d : Nat} {op : BinOp} {t t' : TypeId} {x : Operand} {ty : TypeId} {pos : String} {after_ : Array Edge} {g : Option (Nat × Bool)} {r : Bool} (hx : (⟨s, bx, X⟩ : St).ev x = some (.sv (.one (.val (.pointer none))))) (ht : isPtr P t = true)
    (hop : (op = .eql ∧ r = true) ∨ (op = .neq ∧ r = false)) (hw : Want ops s g) (kont : RunK P n ops os ⟨(d, .sv (.one (.val (.bool r)))) :: s, bx, X⟩ (⟨[(d, .sv (.one (.val (.bool r))))], [], []⟩ :: acc) K) :
    RunK P n ops (⟨some d, .binOp op t x (.const (.pointer none)) t', ty, pos, after_, g⟩ :: os) ⟨s, bx, X⟩ acc K := RunK.g1 (LOK.nilNil hx ht hop) hw kont
theorem K.nilCheck {d k off : Nat} {x : Operand} {ty : TypeId} {pos : String} {after_ : Array Edge} {g : Option (Nat × Bool)} (hx : (⟨s, bx, X⟩ : St).ev x = some (.sv (.one (.ptr k off)))) (hw : Want ops s g)
    (kont : RunK P n ops os ⟨(d, .sv (.one (.ptr k off))) :: s, bx, X⟩ (⟨[(d, .sv (.one (.ptr k off)))], [], []⟩ :: acc) K) :
    RunK P n ops (⟨some d, .nilCheck x, ty, pos, after_, g⟩ :: os) ⟨s, bx, X⟩ acc K := RunK.g1 (LOK.nilCheck hx) hw kont
-- a slice that is cut from its beginning on
theorem LOK.cutSlc {d k off len sz h : Nat} {t : TypeId} {x y : Operand} {ty : TypeId} {pos : String} {after_ : Array Edge} {g : Option (Nat × Bool)} {kh : IntKind} (hx : σ.ev x = some (.sv (.one (.slc k off len sz)))) (hy : σ.ev y = some (.sv (.one (.val (.int kh (h : Nat))))))
    (ht : sliceOf P t = some sz) (hh : h ≤ len) : LOK P n ops ⟨some d, .slice t x none (some y) none, ty, pos, after_, g⟩ σ ⟨[(d, .sv (.one (.slc k off h sz)))], [], []⟩ :=
  LOK.value fun σ' ha C ι a w hr => by
    have h1 := hr.ev ((ha.ev (x := x) (by simp [Op.operands])).trans hx)
    have h2 : a.eval y = .int kh (h : Nat) := hr.ev ((ha.ev (x := y) (by simp [Op.operands])).trans hy)
    obtain ⟨e, hu, hsz⟩ := sliceOf_spec ht
    have hrun : ∀ b c : Nat, len ≤ c → (Instr.sliceAt t (.slice (some ⟨b, off, none⟩) len c) none (some (.int kh (h : Nat))) none).run P w = .ok (.slice (some ⟨b, off, none⟩) h c) w := by
      intro b c hc
      have ha0 : (⟨b, off, none⟩ : Addr).add 0 = ⟨b, off, none⟩ := by rw [addr_add, Nat.add_zero]
      simp [Instr.sliceAt, Instr.slice, run_underlying hu, Instr.sliceBounds, Instr.sliceBound, asIntOf, hsz, ha0]
      omega
    simp only [LV.rel, SV.rel, CV.rel] at h1 ⊢
    cases hk : σ'.stat k with
    | none => simp [hk] at h1
    | some bb =>
      cases bb with
      | none =>
        simp only [hk] at h1 ⊢
        obtain ⟨b, c, h1, h3⟩ := h1
        exact ⟨_, by simp only [execOp, h1, h2, Option.map_none, Option.map_some, Sem.run_bind, hrun b c h3, Result.andThen_ok, Sem.run_pure], b, c, rfl, by omega⟩
      | some b =>
        simp only [hk] at h1 ⊢
        obtain ⟨c, h1, h3, h4⟩ := h1
        exact ⟨_, by simp only [execOp, h1, h2, Option.map_none, Option.map_some, Sem.run_bind, hrun _ c h3, Result.andThen_ok, Sem.run_pure], c, rfl, by omega, h4⟩
theorem K.cutSlc {d k off len sz h : Nat} {t : TypeId} {x y : Operand} {ty : TypeId} {pos : String} {after_ : Array Edge} {g : Option (Nat × Bool)} {kh : IntKind} (hx : (⟨s, bx, X⟩ : St).ev x = some (.sv (.one (.slc k off len sz)))) (hy : (⟨s, bx, X⟩ : St).ev y = some (.sv (.one (.val (.int kh (h : Nat))))))
    (ht : sliceOf P t = some sz) (hh : h ≤ len) (hw : Want ops s g) (kont : RunK P n ops os ⟨(d, .sv (.one (.slc k off h sz))) :: s, bx, X⟩ (⟨[(d, .sv (.one (.slc k off h sz)))], [], []⟩ :: acc) K) :
    RunK P n ops (⟨some d, .slice t x none (some y) none, ty, pos, after_, g⟩ :: os) ⟨s, bx, X⟩ acc K := RunK.g1 (LOK.cutSlc hx hy ht hh) hw kont
-- a slice that is made
theorem LOK.makeSlc {d k m : Nat} {t e : TypeId} {x y : Operand} {ty : TypeId} {pos : String} {after_ : Array Edge} {g : Option (Nat × Bool)} {kl kc : IntKind} {zs : List Value} {sz : Nat} {zc : List CV} {bytes : Nat}
    (hx : σ.ev x = some (.sv (.one (.val (.int kl (m : Nat)))))) (hy : σ.ev y = some (.sv (.one (.val (.int kc (m : Nat)))))) (hst : slcBuild P t m = some (zs, sz, e)) (hby : (P.info? e).map (·.bytes) = some bytes) (hfit : bytes * m ≤ 281474976710656 ∧ m < 9223372036854775808)
    (hzc : zs.map .val = zc) (hk : σ.fresh k = true) : LOK P n ops ⟨some d, .makeSlice t x y, ty, pos, after_, g⟩ σ ⟨[(d, .sv (.one (.slc k 0 m sz)))], [], [(k, some ⟨e, zc, false⟩)]⟩ :=
  LOK.make fun σ' ha C ι a w hr => by
    subst hzc
    have hk' : σ'.stat k = none := (ha.stat k (.inr (by simp))).trans (St.fresh_none hk)
    have hlt := St.fresh_lt hk
    have h1 : a.eval x = .int kl (m : Nat) := hr.ev ((ha.ev (x := x) (by simp [Op.operands])).trans hx)
    have h2 : a.eval y = .int kc (m : Nat) := hr.ev ((ha.ev (x := y) (by simp [Op.operands])).trans hy)
    unfold slcBuild at hst
    cases hu : P.underlying t with
    | none => simp [hu] at hst
    | some dd =>
      cases dd <;> simp only [hu] at hst <;> try (simp at hst; done)
      rename_i e'
      cases hie : P.info? e' with
      | none => simp [hie] at hst
      | some ie =>
        cases hz : ie.zero with
        | none => simp [hie, hz] at hst
        | some z =>
          simp only [hie, hz] at hst
          by_cases hbig : m * ie.size > 2 ^ 24
          · rw [if_pos hbig] at hst; cases hst
          · rw [if_neg hbig] at hst
            simp only [Option.some.injEq, Prod.mk.injEq] at hst
            obtain ⟨e1, e2, e3⟩ := hst
            subst e3
            rw [hie] at hby
            simp only [Option.map_some, Option.some.injEq] at hby
            have hbb : (ie.bytes : Int) * ((m : Nat) : Int) ≤ 281474976710656 := by
              rw [hby, ← Int.natCast_mul]
              have := hfit.1
              omega
            have hrun := run_make (P := P) w t e' ie z hu hie hz kl kc (m : Nat) (m : Nat) (by omega) (Int.le_refl _) hbb (by have := hfit.2; omega)
            simp only [Int.toNat_natCast] at hrun
            have hmc : madeCells z.cells (m * ie.size) = zs.toArray := by
              unfold madeCells
              rw [range_map, ← e1]
            rw [hmc] at hrun
            refine ⟨.slice (some ⟨w.heap.size, 0, none⟩) m m, w.alloc (.cells zs.toArray e'), put1 ι k (w.heap.size, zs.toArray.size), ?_, ?_, ?_⟩
            · simp only [execOp, h1, h2, Sem.run_bind, hrun, Result.andThen_ok, Sem.run_pure]
            · exact hr.new hlt hk' (b := ⟨e', zs.map .val, false⟩) (by simp only [Box.rel]; exact CVs.rel_map_val _)
            · have hl : zs.length = m * sz := by rw [← e1, ← e2]; simp
              simp [LV.rel, SV.rel, CV.rel, stat_cons, put1, hl]
theorem K.makeSlc {d m : Nat} {t e : TypeId} {x y : Operand} {ty : TypeId} {pos : String} {after_ : Array Edge} {g : Option (Nat × Bool)} {kl kc : IntKind} {zs : List Value} {sz : Nat} {zc : List CV} {bytes : Nat}
    (hx : (⟨s, bx, X⟩ : St).ev x = some (.sv (.one (.val (.int kl (m : Nat)))))) (hy : (⟨s, bx, X⟩ : St).ev y = some (.sv (.one (.val (.int kc (m : Nat)))))) (hst : slcBuild P t m = some (zs, sz, e)) (hby : (P.info? e).map (·.bytes) = some bytes) (hfit : bytes * m ≤ 281474976710656 ∧ m < 9223372036854775808)
    (hzc : zs.map .val = zc) (hk : (⟨s, bx, X⟩ : St).fresh d = true) (hw : Want ops s g) (kont : RunK P n ops os ⟨(d, .sv (.one (.slc d 0 m sz))) :: s, (d, some ⟨e, zc, false⟩) :: bx, X⟩ (⟨[(d, .sv (.one (.slc d 0 m sz)))], [], [(d, some ⟨e, zc, false⟩)]⟩ :: acc) K) :
    RunK P n ops (⟨some d, .makeSlice t x y, ty, pos, after_, g⟩ :: os) ⟨s, bx, X⟩ acc K := RunK.g2 (LOK.makeSlc hx hy hst hby hfit hzc hk) hw kont
-- a text made a slice
theorem rel_bc {S : Nat → Option (Option Box)} {κ : Nat → Nat × Nat} : ∀ (l : List UInt8), CVs.rel S κ (l.map bc) ((l.map fun c => Value.int .u8 (c.toNat : Nat)))
  | [] => trivial
  | _ :: l => ⟨rfl, rel_bc l⟩
theorem LOK.strBytes {d k : Nat} {t t' e : TypeId} {x : Operand} {ty : TypeId} {pos : String} {after_ : Array Edge} {g : Option (Nat × Bool)} {l : List UInt8} (hx : σ.ev x = some (.sv (.one (.val (.string ⟨l.toArray⟩))))) (ht : P.underlying t = some .string)
    (hu : P.underlying t' = some (.slice e)) (hu8 : P.underlying e = some (.int .u8)) (hk : σ.fresh k = true) :
    LOK P n ops ⟨some d, .convert t t' x, ty, pos, after_, g⟩ σ ⟨[(d, .sv (.one (.slc k 0 l.length)))], [], [(k, some ⟨e, l.map bc, true⟩)]⟩ :=
  LOK.make fun σ' ha C ι a w hr => by
    have hk' : σ'.stat k = none := (ha.stat k (.inr (by simp))).trans (St.fresh_none hk)
    have hlt := St.fresh_lt hk
    have h1 : a.eval x = .string ⟨l.toArray⟩ := hr.ev ((ha.ev (x := x) (by simp [Op.operands])).trans hx)
    have hrun := run_bytes_of_string (P := P) w t t' e ⟨l.toArray⟩ ht hu hu8
    have hrow : ∀ c, (bytesRow ⟨l.toArray⟩ c).toList = (l.map fun c => Value.int .u8 (c.toNat : Nat)) ++ List.replicate (c - l.length) (.int .u8 0) := by
      intro c
      unfold bytesRow
      simp [ByteArray.size]
    have hcap : l.length ≤ grownCap w l.length 0 e := grownCap_ge w l.length 0 e
    refine ⟨.slice (some ⟨w.heap.size, 0, none⟩) l.length (grownCap w l.length 0 e), w.drew.alloc (.cells (bytesRow ⟨l.toArray⟩ (grownCap w l.length 0 e)) e ((bytesRow ⟨l.toArray⟩ (grownCap w l.length 0 e)).size, (bytesRow ⟨l.toArray⟩ (grownCap w l.length 0 e)).size + 1)), put1 ι k (w.heap.size, (bytesRow ⟨l.toArray⟩ (grownCap w l.length 0 e)).size), ?_, ?_, ?_⟩
    · simp only [execOp, h1, Sem.run_bind, hrun, Result.andThen_ok, Sem.run_pure]; rfl
    · exact hr.drew.newF hlt hk' (b := ⟨e, l.map bc, true⟩) (fun i hi => by
        have : ¬ ((bytesRow ⟨l.toArray⟩ (grownCap w l.length 0 e)).size ≤ i) := by omega
        simp [this]) (by
        simp only [Box.rel]
        exact ⟨_, _, hrow _, rel_bc l⟩)
    · have hsz : (bytesRow ⟨l.toArray⟩ (grownCap w l.length 0 e)).size = grownCap w l.length 0 e := by
        rw [← Array.length_toList, hrow]
        simp
        omega
      have hst : (⟨σ'.slots, [(k, some ⟨e, l.map bc, true⟩)] ++ σ'.boxes, σ'.X⟩ : St).stat k = some (some ⟨e, l.map bc, true⟩) := by
        show (⟨σ'.slots, (k, some ⟨e, l.map bc, true⟩) :: σ'.boxes, σ'.X⟩ : St).stat k = _
        rw [stat_cons, if_pos rfl]
      simp only [LV.rel, SV.rel, CV.rel, hst, if_true, put1]
      exact ⟨_, rfl, hcap, by rw [hsz]; omega⟩
theorem K.strBytes {d : Nat} {t t' e : TypeId} {x : Operand} {ty : TypeId} {pos : String} {after_ : Array Edge} {g : Option (Nat × Bool)} {l : List UInt8} (hx : (⟨s, bx, X⟩ : St).ev x = some (.sv (.one (.val (.string ⟨l.toArray⟩))))) (ht : P.underlying t = some .string)
    (hu : P.underlying t' = some (.slice e)) (hu8 : P.underlying e = some (.int .u8)) (hk : (⟨s, bx, X⟩ : St).fresh d = true) (hw : Want ops s g)
    (kont : RunK P n ops os ⟨(d, .sv (.one (.slc d 0 l.length))) :: s, (d, some ⟨e, l.map bc, true⟩) :: bx, X⟩ (⟨[(d, .sv (.one (.slc d 0 l.length)))], [], [(d, some ⟨e, l.map bc, true⟩)]⟩ :: acc) K) :
    RunK P n ops (⟨some d, .convert t t' x, ty, pos, after_, g⟩ :: os) ⟨s, bx, X⟩ acc K := RunK.g2 (LOK.strBytes hx ht hu hu8 hk) hw kont
end
end Go.Lg
