/- A piece of a proof over this program: contracts of its functions, and a logic to prove them by. -/
import Derived.Test.YtfmohdliifmmfaaLg11
namespace Go.Lg
open Go Go.RowKit
section
variable {P : Program} {n : Nat} {ops os : List Oper} {acc : List Eff} {K : List Eff → St → Prop} {s : List (Nat × LV)} {bx : List (Nat × Option Box)} {X : Nat → Option Obj} {σ : St}
def arrBuild (P : Program) (t : TypeId) : Option (List Value × Nat) :=
  match P.info? t, P.underlying t with
  | some it, some (.array _ e) =>
    match it.zero, P.info? e with
    | some z, some ie => some (z.cells.toList, ie.size)
    | _, _ => none
  | _, _ => none
class ArrB (P : Program) (t : TypeId) (zs : outParam (List Value)) (sz : outParam Nat) : Prop where
  h : arrBuild P t = some (zs, sz)
theorem LOK.buildArr {d : Nat} {t : TypeId} {parts : List (Nat × Operand)} {ty : TypeId} {pos : String} {after : Array Edge} {g : Option (Nat × Bool)} {ps : List (Nat × SV)} {zs : List Value} {sz : Nat} {cs : List CV}
    (hst : arrBuild P t = some (zs, sz)) (hp : evParts σ parts = some ps) (hso : ps.all (fun p => p.2.solid) = true) (hf : fillL (fun i => some (i * sz, sz)) (zs.map .val) ps = some cs) :
    LOK P n ops ⟨some d, .build t parts.toArray, ty, pos, after, g⟩ σ ⟨[(d, .sv (.agg cs))], [], []⟩ :=
  LOK.value fun σ' ha C ι a w hr => by
    have hp' : evParts σ' parts = some ps := by
      rw [evParts_agree fun x hx => ha.ev (by simp [Op.operands]; simpa using hx)]
      exact hp
    have hrel := evParts_rel hr hp' hso
    obtain ⟨arr', hfill, hcs⟩ := fill_rel (arr := zs.toArray) hrel (by simpa using CVs.rel_map_val zs) hf
    refine ⟨.agg arr', ?_, arr', rfl, hcs⟩
    have hb : P.built t ((parts.toArray.map fun (i, x) => (i, a.eval x)).toList) = some arr' := by
      unfold arrBuild at hst
      unfold Program.built
      cases hit : P.info? t with
      | none => simp [hit] at hst
      | some it =>
        cases hu : P.underlying t with
        | none => simp [hit, hu] at hst
        | some dd =>
          cases dd <;> simp only [hit, hu] at hst <;> try (simp at hst; done)
          rename_i len e
          cases hz : it.zero with
          | none => simp [hz] at hst
          | some z =>
            cases hpl : P.info? e with
            | none => simp [hz, hpl] at hst
            | some ie =>
              simp only [hz, hpl, Option.some.injEq, Prod.mk.injEq] at hst
              obtain ⟨e1, e2⟩ := hst
              simp only
              rw [← e1, ← e2] at hfill
              simp only [hz, hpl]
              simpa using hfill
    simp only [execOp, Sem.run_bind, run_build w t _ arr' hb, Result.andThen_ok, Sem.run_pure]
theorem K.buildArr {d : Nat} {t : TypeId} {ty : TypeId} {pos : String} {after : Array Edge} {g : Option (Nat × Bool)} {parts : List (Nat × Operand)} {ps : List (Nat × SV)} {zs : List Value} {sz : Nat} {cs cs' : List CV} [i : ArrB P t zs sz]
    (hp : evParts ⟨s, bx, X⟩ parts = some ps) (hso : ps.all (fun p => p.2.solid) = true) (hf : fillL (fun i => some (i * sz, sz)) (zs.map .val) ps = some cs) (hn : cs = cs') (hw : Want ops s g) (kont : RunK P n ops os ⟨(d, .sv (.agg cs')) :: s, bx, X⟩ (⟨[(d, .sv (.agg cs'))], [], []⟩ :: acc) K) :
    RunK P n ops (⟨some d, .build t parts.toArray, ty, pos, after, g⟩ :: os) ⟨s, bx, X⟩ acc K := RunK.g1 (LOK.buildArr i.h hp hso (by rw [← hn] at *; exact hf)) hw kont
end
end Go.Lg
