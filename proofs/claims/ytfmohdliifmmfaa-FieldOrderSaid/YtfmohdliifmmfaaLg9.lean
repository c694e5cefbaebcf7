/- A piece of a proof over this program: contracts of its functions, and a logic to prove them by. -/
import Derived.Test.YtfmohdliifmmfaaLg8
import Derived.Shelf.Spec.BitsCarry
namespace Go.Lg
open Go Go.RowKit

structure NSpec (P : Program) (f : FuncId) (args : List Value) (r : Value) : Prop where
  h : ∀ w, (callFunc f args.toArray).run P w = .ok (.value r) w

def plainLVs : List LV → Option (List Value)
  | [] => some []
  | .sv (.one (.val v)) :: r => (plainLVs r).map (v :: ·)
  | _ :: _ => none

theorem plainLVs_rel {S : Nat → Option (Option Box)} {ι : Nat → Nat × Nat} : ∀ {l : List LV} {vs us : List Value}, plainLVs l = some vs → LVs.rel S ι l us → us = vs
  | [], vs, us, h, hr => by
    simp only [plainLVs, Option.some.injEq] at h
    cases us with
    | nil => exact h
    | cons => exact hr.elim
  | lv :: l, vs, us, h, hr => by
    cases us with
    | nil => exact hr.elim
    | cons u us =>
      cases lv with
      | tup l' => simp [plainLVs] at h
      | sv s => cases s with
        | agg l' => simp [plainLVs] at h
        | one c => cases c with
          | val v =>
            simp only [plainLVs, Option.map_eq_some_iff] at h
            obtain ⟨vs', hv, rfl⟩ := h
            obtain ⟨h1, h2⟩ := hr
            have e := plainLVs_rel hv h2
            simp only [LV.rel, SV.rel, CV.rel] at h1
            rw [h1, e]
          | junk => simp [plainLVs] at h
          | ptr k o => simp [plainLVs] at h
          | slc k o m => simp [plainLVs] at h

section
variable {P : Program} {n : Nat} {ops : List Oper} {σ : St}
theorem LOK.callN {d : Nat} {f : FuncId} {args : List Operand} {tys : Array TypeId} {ty : TypeId} {pos : String} {after : Array Edge} {g : Option (Nat × Bool)} {lvs : List LV} {vs : List Value} {r : Value} {lv : LV} (hargs : evs σ args = some lvs) (hv : plainLVs lvs = some vs) (hs : NSpec P f vs r) (hr : toLV r = lv) :
    LOK P n ops ⟨some d, .call ⟨.value (.func f), args.toArray, tys⟩, ty, pos, after, g⟩ σ ⟨[(d, lv)], [], []⟩ :=
  LOK.value fun σ' ha C ι a w hrel => by
    subst hr
    have hargs' : evs σ' args = some lvs := by
      rw [evs_agree fun x hx => ha.ev (by simp [Op.operands, Call.operands, hx])]
      exact hargs
    have e : args.map a.eval = vs := plainLVs_rel hv (evs_rel hrel hargs')
    refine ⟨r, ?_, toLV_rel _ _ _⟩
    have := hs.h w
    simp only [execOp, resolve, Act.eval, Deferred.ofValue, invoke, Sem.run_bind, Sem.run_pure, Result.andThen_ok]
    have e2 : (args.toArray.map a.eval) = vs.toArray := by rw [← e]; simp
    have e3 : (#[] ++ args.toArray.map a.eval ++ #[]) = vs.toArray := by rw [e2]; simp
    first
      | (rw [e3]; exact this)
      | (simp only [Array.empty_append, Array.append_empty]; rw [e2]; exact this)
end

theorem NSpec.add64 {P : Program} {f : FuncId} {fn : Func} (hf : P.funcs[f]? = some fn) (h1 : fn.name = "math/bits.Add64") (h2 : fn.body = none)
    (he : Extern.findNext fn = none) (hx : Extern.find fn = some add64Entry) (x y c : Int) (hb : 0 ≤ x ∧ 0 ≤ y ∧ 0 ≤ c ∧ c ≤ 1) {s t : Int} (hs : (x + y + c) % 18446744073709551616 = s) (ht : (x + y + c) / 18446744073709551616 = t) :
    NSpec P f [.int .u64 x, .int .u64 y, .int .u64 c] (.tuple #[.int .u64 s, .int .u64 t]) := by
  subst hs ht
  refine ⟨fun w => ?_⟩
  have := run_add64 (P := P) x y c hb.1 hb.2.1 hb.2.2.1 hb.2.2.2 w
  have hn : (fn.name == "runtime.NumGoroutine") = false := by rw [h1]; decide
  simp only [callFunc, Sem.run_bind, run_program, Result.andThen_ok, hf, hn, h2, Option.isNone_none, Bool.false_eq_true, if_false, if_true, run_mark, he, hx, this, Sem.run_pure]

theorem NSpec.sub64 {P : Program} {f : FuncId} {fn : Func} (hf : P.funcs[f]? = some fn) (h1 : fn.name = "math/bits.Sub64") (h2 : fn.body = none)
    (he : Extern.findNext fn = none) (hx : Extern.find fn = some Go.Proofs.sub64Entry) (x y c : Int) (hb : 0 ≤ x ∧ 0 ≤ y ∧ 0 ≤ c ∧ c ≤ 1 ∧ y ≤ 18446744073709551615) {s t : Int} (hs : (x - y - c) % 18446744073709551616 = s) (ht : (if x < y + c then 1 else 0) = t) :
    NSpec P f [.int .u64 x, .int .u64 y, .int .u64 c] (.tuple #[.int .u64 s, .int .u64 t]) := by
  subst hs ht
  refine ⟨fun w => ?_⟩
  obtain ⟨X, rfl⟩ := Int.eq_ofNat_of_zero_le hb.1
  obtain ⟨Y, rfl⟩ := Int.eq_ofNat_of_zero_le hb.2.1
  obtain ⟨Z, rfl⟩ := Int.eq_ofNat_of_zero_le hb.2.2.1
  have := Go.Proofs.run_sub64 (P := P) X Y Z (by omega) w
  have hn : (fn.name == "runtime.NumGoroutine") = false := by rw [h1]; decide
  simp only [callFunc, Sem.run_bind, run_program, Result.andThen_ok, hf, hn, h2, Option.isNone_none, Bool.false_eq_true, if_false, if_true, run_mark, he, hx, this, Sem.run_pure]
  have e1 : (((X + 18446744073709551616 - Y - Z) % 18446744073709551616 : Nat) : Int) = ((X : Int) - Y - Z) % 18446744073709551616 := by omega
  have e2 : ((if X < Y + Z then 1 else 0 : Nat) : Int) = if (X : Int) < Y + Z then 1 else 0 := by split <;> split <;> omega
  rw [e1, e2]
end Go.Lg
