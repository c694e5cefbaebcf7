/- A piece of a proof over this program: contracts of its functions, and a logic to prove them by. -/
import Derived.Test.YtimpjdbhalnofaaGreatDoorQ2
import Derived.Test.YtimpjdbhalnofaaGreatDoorQ3
import Derived.Lib.ItoaNum
import Derived.StringKeys
import Derived.WideMake
import Derived.Test.YtimpjdbhalnofaaGreatDoorRows
import Derived.Lib.ItoaLen
import Derived.Shelf.Strings.Builder1
import Derived.Shelf.Strings.Builder2
import Derived.Shelf.Strings.OnBuilder
import Derived.Shelf.Small.Bits
import Derived.Shelf.Strings.BuilderF
import Derived.Shelf.Strconv.Itoa0
import Derived.Shelf.Strconv.Itoa1
import Derived.Shelf.LaysM
import Derived.Shelf.Strconv.Itoa2
import Derived.Shelf.Strconv.Itoa3
import Derived.Shelf.Strings.Prefix
import Derived.Shelf.Bits.Mul64
import Derived.Shelf.Strings.Repeat
import Derived.Test.YtimpjdbhalnofaaGreatDoorProg
section
namespace Go.Lg.Fml
structure Ins where
  op : Int
  a : Int
  b : Int
  k : Bool × Int
  deriving DecidableEq
def takes (op : Int) : Nat := if op = 16 then 3 else if op = 10 ∨ op = 15 then 1 else if 5 ≤ op ∧ op ≤ 17 then 2 else 0
theorem takes_le (op : Int) : takes op ≤ 3 := by unfold takes; split <;> (try split) <;> (try split) <;> omega
inductive Tr where
  | n0 (x : Ins)
  | n1 (x : Ins) (a : Tr)
  | n2 (x : Ins) (a b : Tr)
  | n3 (x : Ins) (a b c : Tr)
def Tr.flat : Tr → List Ins
  | .n0 x => [x]
  | .n1 x a => a.flat ++ [x]
  | .n2 x a b => a.flat ++ (b.flat ++ [x])
  | .n3 x a b c => a.flat ++ (b.flat ++ (c.flat ++ [x]))
def Tr.ok : Tr → Prop
  | .n0 x => takes x.op = 0
  | .n1 x a => takes x.op = 1 ∧ a.ok
  | .n2 x a b => takes x.op = 2 ∧ a.ok ∧ b.ok
  | .n3 x a b c => takes x.op = 3 ∧ a.ok ∧ b.ok ∧ c.ok
section
variable {V : Type} (one : Ins → List V → Except Int V)
def Tr.ev : Tr → Except Int V
  | .n0 x => one x []
  | .n1 x a => match a.ev with
    | .error e => .error e
    | .ok u => one x [u]
  | .n2 x a b => match a.ev with
    | .error e => .error e
    | .ok u => match b.ev with
      | .error e => .error e
      | .ok v => one x [u, v]
  | .n3 x a b c => match a.ev with
    | .error e => .error e
    | .ok u => match b.ev with
      | .error e => .error e
      | .ok v => match c.ev with
        | .error e => .error e
        | .ok w => one x [u, v, w]
def run : List Ins → List V → Except Int (List V)
  | [], st => .ok st
  | x :: t, st => match one x (st.take (takes x.op)).reverse with
    | .error e => .error e
    | .ok v => run t (v :: st.drop (takes x.op))
variable {one}
theorem run_flat : ∀ {t : Tr} {rest : List Ins} {st : List V}, t.ok → run one (t.flat ++ rest) st = match t.ev one with | .error e => .error e | .ok v => run one rest (v :: st)
  | .n0 x, rest, st, h => by
    have h : takes x.op = 0 := h
    simp only [Tr.flat, List.cons_append, List.nil_append, run, Tr.ev, h, List.take_zero, List.drop_zero, List.reverse_nil]
  | .n1 x a, rest, st, h => by
    obtain ⟨h1, h2⟩ := h
    simp only [Tr.flat, List.append_assoc, Tr.ev]
    rw [run_flat h2]
    cases a.ev one with
    | error e => rfl
    | ok u =>
      simp only [List.cons_append, List.nil_append, run, h1]
      simp only [List.take_succ_cons, List.take_zero, List.drop_succ_cons, List.drop_zero, List.reverse_cons, List.reverse_nil, List.nil_append]
  | .n2 x a b, rest, st, h => by
    obtain ⟨h1, h2, h3⟩ := h
    simp only [Tr.flat, List.append_assoc, Tr.ev]
    rw [run_flat h2]
    cases a.ev one with
    | error e => rfl
    | ok u =>
      simp only
      rw [run_flat h3]
      cases b.ev one with
      | error e => rfl
      | ok v =>
        simp only [List.cons_append, List.nil_append, run, h1]
        simp only [List.take_succ_cons, List.take_zero, List.drop_succ_cons, List.drop_zero, List.reverse_cons, List.reverse_nil, List.nil_append, List.cons_append]
  | .n3 x a b c, rest, st, h => by
    obtain ⟨h1, h2, h3, h4⟩ := h
    simp only [Tr.flat, List.append_assoc, Tr.ev]
    rw [run_flat h2]
    cases a.ev one with
    | error e => rfl
    | ok u =>
      simp only
      rw [run_flat h3]
      cases b.ev one with
      | error e => rfl
      | ok v =>
        simp only
        rw [run_flat h4]
        cases c.ev one with
        | error e => rfl
        | ok w =>
          simp only [List.cons_append, List.nil_append, run, h1]
          simp only [List.take_succ_cons, List.take_zero, List.drop_succ_cons, List.drop_zero, List.reverse_cons, List.reverse_nil, List.nil_append, List.cons_append]
theorem run_app : ∀ {l r : List Ins} {st : List V}, run one (l ++ r) st = match run one l st with | .error e => .error e | .ok st' => run one r st'
  | [], r, st => rfl
  | x :: l, r, st => by
    simp only [List.cons_append, run]
    cases one x (st.take (takes x.op)).reverse with
    | error e => rfl
    | ok v => exact run_app
end
def dep (okI : Ins → Bool) : Nat → List Ins → Option Nat
  | n, [] => some n
  | n, x :: t => if okI x = true ∧ takes x.op ≤ n ∧ n - takes x.op + 1 ≤ 16 then dep okI (n - takes x.op + 1) t else none
theorem dep_app {okI : Ins → Bool} : ∀ {l r : List Ins} {n : Nat}, dep okI n (l ++ r) = (dep okI n l).bind fun m => dep okI m r
  | [], r, n => rfl
  | x :: l, r, n => by
    simp only [List.cons_append, dep]
    split
    · exact dep_app
    · rfl
def flats : List Tr → List Ins
  | [] => []
  | t :: ts => flats ts ++ t.flat
theorem dep_trees {okI : Ins → Bool} : ∀ {l : List Ins} {ts : List Tr} {m : Nat}, dep okI ts.length l = some m → (∀ t ∈ ts, t.ok) → ∃ ts', ts'.length = m ∧ (∀ t ∈ ts', t.ok) ∧ flats ts' = flats ts ++ l
  | [], ts, m, h, ho => by
    simp only [dep, Option.some.injEq] at h
    exact ⟨ts, h, ho, by rw [List.append_nil]⟩
  | x :: l, ts, m, h, ho => by
    simp only [dep] at h
    split at h
    · rename_i hx
      obtain ⟨_, h1, _⟩ := hx
      have h3 := takes_le x.op
      have key : ∃ us : List Tr, us.length = ts.length - takes x.op + 1 ∧ (∀ t ∈ us, t.ok) ∧ flats us = flats ts ++ [x] := by
        rcases (show takes x.op = 0 ∨ takes x.op = 1 ∨ takes x.op = 2 ∨ takes x.op = 3 by omega) with e | e | e | e
        · exact ⟨.n0 x :: ts, by rw [e]; rfl, fun t ht => by
            rcases List.mem_cons.1 ht with rfl | ht
            · exact e
            · exact ho t ht, rfl⟩
        · match ts, ho, h1 with
          | a :: ts, ho, _ => exact ⟨.n1 x a :: ts, by rw [e]; rfl, fun t ht => by
              rcases List.mem_cons.1 ht with rfl | ht
              · exact ⟨e, ho a List.mem_cons_self⟩
              · exact ho t (List.mem_cons_of_mem _ ht), by simp only [flats, Tr.flat, List.append_assoc]⟩
          | [], _, h1 => rw [e] at h1; cases h1
        · match ts, ho, h1 with
          | b :: a :: ts, ho, _ => exact ⟨.n2 x a b :: ts, by rw [e]; rfl, fun t ht => by
              rcases List.mem_cons.1 ht with rfl | ht
              · exact ⟨e, ho a (by simp), ho b (by simp)⟩
              · exact ho t (by simp [ht]), by simp only [flats, Tr.flat, List.append_assoc]⟩
          | [_], _, h1 => rw [e] at h1; simp at h1
          | [], _, h1 => rw [e] at h1; cases h1
        · match ts, ho, h1 with
          | c :: b :: a :: ts, ho, _ => exact ⟨.n3 x a b c :: ts, by rw [e]; rfl, fun t ht => by
              rcases List.mem_cons.1 ht with rfl | ht
              · exact ⟨e, ho a (by simp), ho b (by simp), ho c (by simp)⟩
              · exact ho t (by simp [ht]), by simp only [flats, Tr.flat, List.append_assoc]⟩
          | [_, _], _, h1 => rw [e] at h1; simp at h1
          | [_], _, h1 => rw [e] at h1; simp at h1
          | [], _, h1 => rw [e] at h1; cases h1
      obtain ⟨us, u1, u2, u3⟩ := key
      rw [← u1] at h
      obtain ⟨ts', t1, t2, t3⟩ := dep_trees h u2
      exact ⟨ts', t1, t2, by rw [t3, u3, List.append_assoc]; rfl⟩
    · cases h
theorem parse {okI : Ins → Bool} {l : List Ins} (h : dep okI 0 l = some 1) : ∃ t : Tr, t.ok ∧ t.flat = l := by
  obtain ⟨ts, h1, h2, h3⟩ := dep_trees (ts := []) h (fun t ht => by cases ht)
  match ts, h1 with
  | [t], _ => exact ⟨t, h2 t List.mem_cons_self, h3⟩
theorem flat_pos : ∀ t : Tr, t.flat ≠ []
  | .n0 x => by simp [Tr.flat]
  | .n1 x a => by simp [Tr.flat]
  | .n2 x a b => by simp [Tr.flat]
  | .n3 x a b c => by simp [Tr.flat]
def surplus : List Ins → Int
  | [] => 0
  | x :: t => (takes x.op : Int) - 1 + surplus t
theorem surplus_app : ∀ (l r : List Ins), surplus (l ++ r) = surplus l + surplus r
  | [], r => by simp [surplus]
  | x :: l, r => by simp only [List.cons_append, surplus, surplus_app l r]; omega
theorem flat_sum : ∀ {t : Tr}, t.ok → surplus t.flat = -1
  | .n0 x, h => by
    have h : takes x.op = 0 := h
    simp [Tr.flat, surplus, h]
  | .n1 x a, h => by
    obtain ⟨h1, h2⟩ := h
    simp only [Tr.flat, surplus_app, surplus, h1, flat_sum h2]; decide
  | .n2 x a b, h => by
    obtain ⟨h1, h2, h3⟩ := h
    simp only [Tr.flat, surplus_app, surplus, h1, flat_sum h2, flat_sum h3]; decide
  | .n3 x a b c, h => by
    obtain ⟨h1, h2, h3, h4⟩ := h
    simp only [Tr.flat, surplus_app, surplus, h1, flat_sum h2, flat_sum h3, flat_sum h4]; decide
def Back (l : List Ins) : Prop := ∀ p s : List Ins, l = p ++ s → p ≠ [] → 0 ≤ surplus s
theorem flat_back : ∀ {t : Tr}, t.ok → Back t.flat
  | .n0 x, h => fun p s e hp => by
    simp only [Tr.flat] at e
    have : s = [] := by
      cases p with
      | nil => exact absurd rfl hp
      | cons y p' => simp only [List.cons_append, List.cons.injEq] at e; exact (List.append_eq_nil_iff.1 e.2.symm).2
    subst this; exact Int.le_refl _
  | .n1 x a, h => fun p s e hp => by
    obtain ⟨h1, h2⟩ := h
    simp only [Tr.flat] at e
    rcases List.append_eq_append_iff.1 e with ⟨q, h5, h6⟩ | ⟨q, h5, h6⟩
    · have : surplus s ≤ 0 ∧ 0 ≤ surplus s := by
        cases q with
        | nil => simp only [List.nil_append] at h6; rw [← h6]; simp [surplus, h1]
        | cons y q' =>
          simp only [List.cons_append, List.cons.injEq] at h6
          have := (List.append_eq_nil_iff.1 h6.2.symm).2
          subst this; simp [surplus]
      exact this.2
    · rw [h6, surplus_app]
      have h7 : surplus [x] = 0 := by simp [surplus, h1]
      have h8 := flat_back h2 p q h5 hp
      omega
  | .n2 x a b, h => fun p s e hp => by
    obtain ⟨h1, h2, h3⟩ := h
    simp only [Tr.flat] at e
    have hx : surplus [x] = 1 := by simp [surplus, h1]
    have tail : ∀ p s : List Ins, [x] = p ++ s → 0 ≤ surplus s := fun p s e => by
      cases p with
      | nil => simp only [List.nil_append] at e; rw [← e]; omega
      | cons y p' => simp only [List.cons_append, List.cons.injEq] at e; have := (List.append_eq_nil_iff.1 e.2.symm).2; subst this; simp [surplus]
    have anyb : ∀ p s : List Ins, b.flat = p ++ s → -1 ≤ surplus s := fun p s e => by
      by_cases hp : p = []
      · subst hp; rw [List.nil_append] at e; rw [← e, flat_sum h3]; decide
      · have := flat_back h3 p s e hp; omega
    rcases List.append_eq_append_iff.1 e with ⟨q, h5, h6⟩ | ⟨q, h5, h6⟩
    · rcases List.append_eq_append_iff.1 h6 with ⟨q', h7, h8⟩ | ⟨q', h7, h8⟩
      · exact tail q' s h8
      · rw [h8, surplus_app]; have := anyb q q' h7; omega
    · rw [h6, surplus_app, surplus_app, flat_sum h3]
      have h8 := flat_back h2 p q h5 hp
      omega
  | .n3 x a b c, h => fun p s e hp => by
    obtain ⟨h1, h2, h3, h4⟩ := h
    simp only [Tr.flat] at e
    have hx : surplus [x] = 2 := by simp [surplus, h1]
    have tail : ∀ p s : List Ins, [x] = p ++ s → 0 ≤ surplus s := fun p s e => by
      cases p with
      | nil => simp only [List.nil_append] at e; rw [← e]; omega
      | cons y p' => simp only [List.cons_append, List.cons.injEq] at e; have := (List.append_eq_nil_iff.1 e.2.symm).2; subst this; simp [surplus]
    have any : ∀ {t : Tr}, t.ok → (∀ p s : List Ins, t.flat = p ++ s → p ≠ [] → 0 ≤ surplus s) → ∀ p s : List Ins, t.flat = p ++ s → -1 ≤ surplus s := fun {t} ht hb p s e => by
      by_cases hp : p = []
      · subst hp; rw [List.nil_append] at e; rw [← e, flat_sum ht]; decide
      · have := hb p s e hp; omega
    rcases List.append_eq_append_iff.1 e with ⟨q, h5, h6⟩ | ⟨q, h5, h6⟩
    · rcases List.append_eq_append_iff.1 h6 with ⟨q', h7, h8⟩ | ⟨q', h7, h8⟩
      · rcases List.append_eq_append_iff.1 h8 with ⟨q2, h9, h10⟩ | ⟨q2, h9, h10⟩
        · exact tail q2 s h10
        · rw [h10, surplus_app]; have := any h4 (flat_back h4) q' q2 h9; omega
      · rw [h8, surplus_app, surplus_app, flat_sum h4]; have := any h3 (flat_back h3) q q' h7; omega
    · rw [h6, surplus_app, surplus_app, surplus_app, flat_sum h3, flat_sum h4]
      have h8 := flat_back h2 p q h5 hp
      omega
def Tr.ends (p : Nat) : Tr → List Nat
  | .n0 _ => []
  | .n1 _ a => [p + a.flat.length - 1]
  | .n2 _ a b => [p + a.flat.length - 1, p + a.flat.length + b.flat.length - 1]
  | .n3 _ a b c => [p + a.flat.length - 1, p + a.flat.length + b.flat.length - 1, p + a.flat.length + b.flat.length + c.flat.length - 1]
def Tr.top : Tr → Ins
  | .n0 x => x
  | .n1 x _ => x
  | .n2 x _ _ => x
  | .n3 x _ _ _ => x
theorem flat_top : ∀ t : Tr, ∃ l, t.flat = l ++ [t.top]
  | .n0 x => ⟨[], rfl⟩
  | .n1 x a => ⟨_, rfl⟩
  | .n2 x a b => ⟨a.flat ++ b.flat, by simp [Tr.flat, Tr.top]⟩
  | .n3 x a b c => ⟨a.flat ++ (b.flat ++ c.flat), by simp [Tr.flat, Tr.top]⟩
end Go.Lg.Fml
end
section
namespace Go.Proofs.YtimpjdbhalnofaaGreatDoor
open Go Go.Lg Go.Lg.Arith
def textQ (x : Int) : List UInt8 := if x < 0 then 45 :: Lib.decDigits (mg x).toNat else Lib.decDigits (mg x).toNat
end Go.Proofs.YtimpjdbhalnofaaGreatDoor
end
section
namespace Go.Lg
open Go Go.RowKit
def joinM (X H : Nat → Option Obj) : Nat → Option Obj := fun b => (H b).or (X b)
def cutM (H : Nat → Option Obj) (blk : Nat) : Nat → Option Obj := fun b => if b = blk then none else H b
theorem joinM_in {X H : Nat → Option Obj} {b : Nat} {o : Obj} (h : H b = some o) : joinM X H b = some o := by unfold joinM; rw [h]; rfl
theorem joinM_out {X H : Nat → Option Obj} {b : Nat} (h : H b = none) : joinM X H b = X b := by unfold joinM; rw [h]; rfl
theorem joinM_none {X H : Nat → Option Obj} {b : Nat} (h : joinM X H b = none) : H b = none ∧ X b = none := by
  unfold joinM at h
  cases hh : H b with
  | none => rw [hh] at h; exact ⟨rfl, h⟩
  | some o => rw [hh] at h; cases h
structure OwnedM (C : Ctx) (X H : Nat → Option Obj) : Prop where
  own : ∀ b o, H b = some o → (C.own b ∨ C.w0.heap.size ≤ b) ∧ Loose o ∧ X b = none
theorem joinM_with {X H : Nat → Option Obj} {blk : Nat} {o : Obj} : withBlock (joinM X H) blk o = joinM X (withBlock H blk o) := by
  funext b
  unfold withBlock joinM
  by_cases e : b = blk
  · simp [e]
  · simp [e]
theorem joinM_nil (X : Nat → Option Obj) : joinM X (fun _ => none) = X := by funext b; rfl
theorem OwnedM.more {C : Ctx} {X H : Nat → Option Obj} (h : OwnedM C X H) {blk : Nat} {arr : Array Value} {el : TypeId} {fr : Nat × Nat} (hF : Frozen C blk arr fr) (hX : joinM X H blk = none) : OwnedM C X (withBlock H blk (.cells arr el fr)) := ⟨fun b o hb => by
  unfold withBlock at hb
  split at hb
  · rename_i e; subst e; cases hb; exact ⟨hF.own, hF.thaw, (joinM_none hX).2⟩
  · exact h.own b o hb⟩
theorem OwnedM.nil (C : Ctx) (X : Nat → Option Obj) : OwnedM C X (fun _ => none) := ⟨fun _ _ h => by cases h⟩
section
variable {P : Program} {n : Nat} {C : Ctx} {c : Code} {Q : Exit → St → Prop} {X : Nat → Option Obj} {s : List (Nat × LV)} {bx : List (Nat × Option Box)} {k : Nat}
theorem stat_hd (b : Option Box) (j : Nat) : (⟨s, (k, b) :: bx, X⟩ : St).stat j = if j = k then some b else look j bx := stat_cons s bx X k j b
theorem later_same {S S' : Nat → Option (Option Box)} (ι : Nat → Nat × Nat) (h : ∀ j, S j ≠ none → S' j ≠ none ∧ ∀ b', S' j = some (some b') → ∃ b, S j = some (some b)) : Later S S' ι ι :=
  fun j hj => ⟨(h j hj).1, fun b' hb' => ⟨rfl, (h j hj).2 b' hb'⟩⟩
theorem later_hd (ι : Nat → Nat × Nat) (b b' : Box) (X X' : Nat → Option Obj) : Later (⟨s, (k, some b) :: bx, X⟩ : St).stat (⟨s, (k, some b') :: bx, X'⟩ : St).stat ι ι := later_same ι fun j hj => by
  rw [stat_hd] at hj ⊢
  rw [stat_hd]
  by_cases e : j = k
  · rw [if_pos e, if_pos e]; exact ⟨by simp, fun _ _ => ⟨b, rfl⟩⟩
  · rw [if_neg e] at hj ⊢
    rw [if_neg e]; exact ⟨hj, fun b1 hb1 => ⟨b1, hb1⟩⟩
theorem Rel.closeRes {ι : Nat → Nat × Nat} {a : Act} {w : World} {el : TypeId} {vals : List Value} {H : Nat → Option Obj} {R : Rsc} (hO : OwnedM C X H)
    (hR : ∀ (ρ : Nat × Nat) (fr : Nat × Nat), H ρ.1 = none → X ρ.1 = none → ρ.2 = vals.length → R.holds ρ (withBlock H ρ.1 (.cells vals.toArray el fr)))
    (hr : Rel n C ι ⟨s, (k, some ⟨el, vals.map .val, false⟩) :: bx, joinM X H⟩ a w) :
    Rel n C ι ⟨s, (k, some ⟨0, [], .res R⟩) :: bx, X⟩ a w := by
  obtain ⟨F, hF⟩ := hr.res
  have hk : (⟨s, (k, some ⟨el, vals.map .val, false⟩) :: bx, joinM X H⟩ : St).stat k = some (some ⟨el, vals.map .val, false⟩) := by rw [stat_hd, if_pos rfl]
  obtain ⟨arr, fr, harr, hth, hsz, hbr⟩ := hr.boxes k _ hk rfl
  have hav : arr.toList = vals := rel_vals hbr
  have hav2 : arr = vals.toArray := by rw [← hav]
  obtain ⟨hkown, hkX⟩ := hr.own k _ hk
  obtain ⟨hkH, hkX⟩ := joinM_none hkX
  have hlater := later_hd (s := s) (bx := bx) (k := k) ι ⟨el, vals.map .val, false⟩ ⟨0, [], .res R⟩ (joinM X H) X
  have live : ∀ j b, (⟨s, (k, some ⟨0, [], .res R⟩) :: bx, X⟩ : St).stat j = some (some b) → ∃ b0, (⟨s, (k, some ⟨el, vals.map .val, false⟩) :: bx, joinM X H⟩ : St).stat j = some (some b0) ∧ (j ≠ k → b = b0) := fun j b hj => by
    rw [stat_hd] at hj ⊢
    by_cases e : j = k
    · rw [if_pos e]; exact ⟨_, rfl, fun h => absurd e h⟩
    · rw [if_neg e] at hj ⊢; exact ⟨b, hj, fun _ => rfl⟩
  have hroots : ∀ j b, (⟨s, (k, some ⟨el, vals.map .val, false⟩) :: bx, joinM X H⟩ : St).stat j = some (some b) → H (ι j).1 = none ∧ X (ι j).1 = none := fun j b hj => joinM_none (hr.own j b hj).2
  exact {
    defers := hr.defers, size := hr.size
    slots := fun d lv hd => by
      obtain ⟨v, hv, hvr⟩ := hr.slots d lv hd
      exact ⟨v, hv, LV.rel_later hlater hvr⟩
    boxes := fun j b hj hbk => by
      by_cases ej : j = k
      · subst ej
        rw [stat_hd, if_pos rfl] at hj
        simp only [Option.some.injEq] at hj
        subst hj
        cases hbk
      · obtain ⟨b0, h0, h1⟩ := live j b hj
        have := h1 ej
        subst this
        obtain ⟨arr', fr', g1, g2, g3, g4⟩ := hr.boxes j b h0 hbk
        exact ⟨arr', fr', g1, g2, g3, Box.rel_later hlater g4⟩
    own := fun j b hj => by
      obtain ⟨b0, h0, _⟩ := live j b hj
      exact ⟨(hr.own j b0 h0).1, (hroots j b0 h0).2⟩
    inj := fun i j bi bj hi hj he => by
      obtain ⟨b1, h1, _⟩ := live i bi hi
      obtain ⟨b2, h2, _⟩ := live j bj hj
      exact hr.inj i j b1 b2 h1 h2 he
    keep := fun j b hj hge => by obtain ⟨b0, h0, _⟩ := live j b hj; exact hr.keep j b0 h0 hge
    ext := fun b o hb => by
      have hb : X b = some o := hb
      have hH : H b = none := by
        cases hc : H b with
        | none => rfl
        | some o' => have := (hO.own b o' hc).2.2; rw [hb] at this; cases this
      exact hr.ext b o ((joinM_out hH).trans hb)
    res := by
      have hG : ∀ b o, withBlock H (ι k).1 (.cells vals.toArray el fr) b = some o → w.heap[b]? = some o ∧ Loose o ∧ (C.own b ∨ C.w0.heap.size ≤ b) ∧ X b = none ∧ (b = (ι k).1 ∨ H b = some o) := fun b o hb => by
        unfold withBlock at hb
        split at hb
        · rename_i e
          cases hb
          subst e
          refine ⟨by rw [← hav2]; exact harr, by rw [← hav2]; exact hth, hkown, hkX, .inl rfl⟩
        · obtain ⟨h1, h2, h3⟩ := hO.own b o hb
          exact ⟨hr.ext b o (joinM_in hb), h2, h1, h3, .inr hb⟩
      have hFX : ∀ j b, F j b ≠ none → H b = none ∧ X b = none ∧ b ≠ (ι k).1 := fun j b hb => by
        cases ho : F j b with
        | none => exact absurd ho hb
        | some o =>
          obtain ⟨h1, _, _, _, h5, h6⟩ := hF.mem j b o ho
          obtain ⟨h7, h8⟩ := joinM_none h5
          refine ⟨h7, h8, fun e => ?_⟩
          have := h6 k _ hk e.symm
          subst this
          obtain ⟨_, _, _, h9⟩ := h1
          rw [hk] at h9
          cases h9
      refine ⟨fun j => open Classical in if j = k then withBlock H (ι k).1 (.cells vals.toArray el fr) else F j, fun j e' cs' R' hj => ?_, fun j b o ho => ?_, fun i j b h1 h2 => ?_⟩
      · rw [stat_hd] at hj
        by_cases ej : j = k
        · rw [if_pos ej] at hj
          cases hj
          rw [if_pos ej, ej]
          exact ⟨hR (ι k) fr hkH hkX (by rw [← hsz, ← Array.length_toList, hav]), by rw [withBlock_at]; simp⟩
        · rw [if_neg ej] at hj
          rw [if_neg ej]
          exact hF.holds j e' cs' R' (by rw [stat_hd, if_neg ej]; exact hj)
      · by_cases ej : j = k
        · rw [if_pos ej] at ho
          obtain ⟨h1, h2, h3, h4, h5⟩ := hG b o ho
          refine ⟨⟨0, [], R, by rw [stat_hd, if_pos ej]⟩, h1, h2, h3, h4, fun i bi hi ei => ?_⟩
          obtain ⟨b0, h0, _⟩ := live i bi hi
          rw [ej]
          rcases h5 with h5 | h5
          · exact hr.inj i k b0 _ h0 hk (by rw [ei, h5])
          · have := (hroots i b0 h0).1; rw [ei, h5] at this; cases this
        · rw [if_neg ej] at ho
          obtain ⟨⟨e1, cs1, R1, h1⟩, h2, h3, h4, h5, h6⟩ := hF.mem j b o ho
          refine ⟨⟨e1, cs1, R1, by rw [stat_hd, if_neg ej]; rw [stat_hd, if_neg ej] at h1; exact h1⟩, h2, h3, h4, (joinM_none h5).2, fun i bi hi ei => ?_⟩
          obtain ⟨b0, h0, _⟩ := live i bi hi
          exact h6 i b0 h0 ei
      · by_cases ei : i = k
        · by_cases ej : j = k
          · rw [ei, ej]
          · rw [if_pos ei] at h1
            rw [if_neg ej] at h2
            obtain ⟨h3, _, h5⟩ := hFX j b h2
            cases ho : withBlock H (ι k).1 (.cells vals.toArray el fr) b with
            | none => exact absurd ho h1
            | some o =>
              rcases (hG b o ho).2.2.2.2 with h6 | h6
              · exact absurd h6 h5
              · rw [h3] at h6; cases h6
        · by_cases ej : j = k
          · rw [if_neg ei] at h1
            rw [if_pos ej] at h2
            obtain ⟨h3, _, h5⟩ := hFX i b h1
            cases ho : withBlock H (ι k).1 (.cells vals.toArray el fr) b with
            | none => exact absurd ho h2
            | some o =>
              rcases (hG b o ho).2.2.2.2 with h6 | h6
              · exact absurd h6 h5
              · rw [h3] at h6; cases h6
          · rw [if_neg ei] at h1
            rw [if_neg ej] at h2
            exact hF.apart i j b h1 h2
    frame := hr.frame, big := hr.big, os := hr.os, tape := hr.tape, output := hr.output }
theorem Leads.closeRes {Mid : St → Prop} {el : TypeId} {vals : List Value} {H : Nat → Option Obj} {R : Rsc} (hO : OwnedM C X H)
    (hR : ∀ (ρ : Nat × Nat) (fr : Nat × Nat), H ρ.1 = none → X ρ.1 = none → ρ.2 = vals.length → R.holds ρ (withBlock H ρ.1 (.cells vals.toArray el fr)))
    (h : Leads n C Mid ⟨s, (k, some ⟨0, [], .res R⟩) :: bx, X⟩) : Leads n C Mid ⟨s, (k, some ⟨el, vals.map .val, false⟩) :: bx, joinM X H⟩ :=
  ⟨fun ι a w hr => h.out ι a w (hr.closeRes hO hR)⟩
theorem LWP.ends (h : LWP P n C c (fun e σ => Leads n C (fun σ' => Q e σ') σ) ⟨s, bx, X⟩) : LWP P n C c Q ⟨s, bx, X⟩ :=
  ⟨fun ι a w hr => wp_mono (h.out ι a w hr) fun _ a' w' ⟨ι', σ', hl, hr'⟩ => by
    obtain ⟨ι2, σ2, hq, hr2⟩ := hl.out ι' a' w' hr'
    exact ⟨ι2, σ2, hq, hr2⟩⟩
end
end Go.Lg
end
section
namespace Go.Lg
open Go Go.RowKit
def LeadsTo (H : Nat → Option Obj) (b : Nat) (v : Value) (el : TypeId) (sz : Nat) (vals : List Value) : Prop :=
  ∃ (len cap : Nat) (arr : Array Value) (fr : Nat × Nat), v = .slice (some ⟨b, 0, none⟩) len cap ∧ vals.length = len * sz ∧ len ≤ cap ∧ cap * sz ≤ arr.size ∧ H b = some (.cells arr el fr) ∧ ∃ sp, arr.toList = vals ++ sp
section
variable {P : Program} {n : Nat} {C : Ctx} {c : Code} {Q : Exit → St → Prop} {X H : Nat → Option Obj} {s : List (Nat × LV)} {bx : List (Nat × Option Box)}
theorem LWP.loopL {c : Code} {σ : St} (I : Nat → St → Prop) (m : Nat) (h0 : Leads n C (I m) σ)
    (round : ∀ m σ, I m σ → LWP P n C c (thenQ (Leads n C (fun σ' => ∃ m', m' < m ∧ I m' σ')) Q) σ) : LWP P n C (.loop c) Q σ := by
  refine ⟨fun ι a w hr => ?_⟩
  have key : ∀ (m : Nat) (σ : St) (ι : Nat → Nat × Nat) (a : Act) (w : World), I m σ → Rel n C ι σ a w → Code.rounds P c (fun e a' w' => ∃ ι' σ', Q e σ' ∧ Rel n C ι' σ' a' w') (m + 1) a w := by
    intro m
    induction m using Nat.strongRecOn with
    | _ m ih =>
      intro σ ι a w hI hr
      rw [rounds_succ]
      refine wp_mono ((round m σ hI).out ι a w hr) ?_
      rintro e a' w' ⟨ι', σ', hq, hr'⟩
      cases e <;> try exact ⟨ι', σ', hq, hr'⟩
      obtain ⟨ι2, σ2, ⟨m', hlt, hI'⟩, hr2⟩ := hq.out ι' a' w' hr'
      exact rounds_le (by omega) (ih m' hlt σ2 ι2 a' w' hI' hr2)
  obtain ⟨ι2, σ2, hI, hr2⟩ := h0.out ι a w hr
  exact wp_loop_rounds (m + 1) (key m σ2 ι2 a w hI hr2)
theorem rel_front {S : Nat → Option (Option Box)} {ι : Nat → Nat × Nat} : ∀ {A B : List CV} {vs : List Value}, CVs.rel S ι (A ++ B) vs → ∃ va vb, vs = va ++ vb ∧ CVs.rel S ι A va
  | [], _, vs, _ => ⟨[], vs, rfl, trivial⟩
  | _ :: _, _, [], h => h.elim
  | _ :: A, B, v :: vs, h => by
    obtain ⟨va, vb, e, h1⟩ := rel_front (A := A) (B := B) h.2
    exact ⟨v :: va, vb, by rw [e]; rfl, h.1, h1⟩
theorem Rel.rebox {ι : Nat → Nat × Nat} {a : Act} {w : World} {j : Nat} {e : TypeId} {cs cs' : List CV} {r r' : Bool}
    (himp : ∀ vs, Box.rel (⟨s, (j, some ⟨e, cs', r'⟩) :: bx, X⟩ : St).stat ι ⟨e, cs, r⟩ vs → Box.rel (⟨s, (j, some ⟨e, cs', r'⟩) :: bx, X⟩ : St).stat ι ⟨e, cs', r'⟩ vs)
    (hr : Rel n C ι ⟨s, (j, some ⟨e, cs, r⟩) :: bx, X⟩ a w) : Rel n C ι ⟨s, (j, some ⟨e, cs', r'⟩) :: bx, X⟩ a w := by
  have hlater := later_hd (s := s) (bx := bx) (k := j) ι ⟨e, cs, r⟩ ⟨e, cs', r'⟩ X X
  have live : ∀ i b, (⟨s, (j, some ⟨e, cs', r'⟩) :: bx, X⟩ : St).stat i = some (some b) → ∃ b0, (⟨s, (j, some ⟨e, cs, r⟩) :: bx, X⟩ : St).stat i = some (some b0) ∧ (i ≠ j → b = b0) := fun i b hi => by
    rw [stat_hd] at hi ⊢
    by_cases e : i = j
    · rw [if_pos e]; exact ⟨_, rfl, fun h => absurd e h⟩
    · rw [if_neg e] at hi ⊢; exact ⟨b, hi, fun _ => rfl⟩
  exact {
    defers := hr.defers, size := hr.size
    slots := fun d lv hd => by
      obtain ⟨v, hv, hvr⟩ := hr.slots d lv hd
      exact ⟨v, hv, LV.rel_later hlater hvr⟩
    boxes := fun i b hi hbk => by
      by_cases ei : i = j
      · subst ei
        rw [stat_hd, if_pos rfl] at hi
        simp only [Option.some.injEq] at hi
        subst hi
        obtain ⟨arr, fr, g1, g2, g3, g4⟩ := hr.boxes i ⟨e, cs, r⟩ (by rw [stat_hd, if_pos rfl]) rfl
        exact ⟨arr, fr, g1, g2, g3, himp _ (Box.rel_later hlater g4)⟩
      · obtain ⟨b0, h0, h1⟩ := live i b hi
        have := h1 ei
        subst this
        obtain ⟨arr, fr, g1, g2, g3, g4⟩ := hr.boxes i b h0 hbk
        exact ⟨arr, fr, g1, g2, g3, Box.rel_later hlater g4⟩
    own := fun i b hi => by obtain ⟨b0, h0, _⟩ := live i b hi; exact hr.own i b0 h0
    inj := fun i i' bi bj hi hj he => by
      obtain ⟨b1, h1, _⟩ := live i bi hi
      obtain ⟨b2, h2, _⟩ := live i' bj hj
      exact hr.inj i i' b1 b2 h1 h2 he
    keep := fun i b hi hge => by obtain ⟨b0, h0, _⟩ := live i b hi; exact hr.keep i b0 h0 hge
    ext := hr.ext
    res := by
      obtain ⟨F, hG⟩ := hr.res
      refine hG.keep (fun i e cs R hi => ?_) (fun _ _ _ _ _ hi => hi) (fun _ _ ho => ho) (fun b _ hx _ _ => hx) (fun i bi hi => ?_)
      · rw [stat_hd] at hi ⊢
        by_cases e : i = j
        · rw [if_pos e] at hi; cases hi
        · rw [if_neg e] at hi ⊢; exact ⟨hi, rfl⟩
      · obtain ⟨b0, h0, _⟩ := live i bi hi
        exact .inl ⟨b0, h0, rfl⟩
    frame := hr.frame, big := hr.big, os := hr.os, tape := hr.tape, output := hr.output }
theorem Le.trim {j : Nat} {e : TypeId} {A B : List CV} {r : Bool} : Le n C ⟨s, (j, some ⟨e, A ++ B, r⟩) :: bx, X⟩ ⟨s, (j, some ⟨e, A, true⟩) :: bx, X⟩ := ⟨fun ι a w hr => ⟨ι, hr.rebox fun vs h => by
  unfold Box.rel at h ⊢
  cases r with
  | false =>
    obtain ⟨va, vb, e, h1⟩ := rel_front h
    exact ⟨va, vb, e, h1⟩
  | true =>
    obtain ⟨us, sp, e, hl⟩ := h
    obtain ⟨va, vb, e2, h1⟩ := rel_front hl
    exact ⟨va, vb ++ sp, by rw [e, e2, List.append_assoc], h1⟩⟩⟩
theorem Leads.done {Mid : St → Prop} {σ : St} (h : Mid σ) : Leads n C Mid σ := ⟨fun ι a w hr => ⟨ι, σ, h, hr⟩⟩
end
end Go.Lg
end
section
namespace Go.Lg
open Go Go.RowKit
def nilSlc : Value := .slice none 0 0
def blkOf : Value → Option Nat
  | .slice (some a) _ _ => some a.block
  | _ => none
def SliceTo (H : Nat → Option Obj) (v : Value) (el : TypeId) (vals : List Value) : Prop := ∃ b, LeadsTo H b v el 1 vals
structure Cells (H : Nat → Option Obj) (el : TypeId) (op : List Nat) (cells : List Value) (chs : List (List Value)) : Prop where
  len : cells.length = chs.length
  at_ : ∀ (i : Nat) (c : Value) (x : List Value), i ∉ op → cells[i]? = some c → chs[i]? = some x → SliceTo H c el x
  apart : ∀ (i j : Nat) (c c' : Value) (b : Nat), i ∉ op → j ∉ op → cells[i]? = some c → cells[j]? = some c' → blkOf c = some b → blkOf c' = some b → i = j
section
variable {H : Nat → Option Obj} {el : TypeId} {op : List Nat} {cells : List Value} {chs : List (List Value)}
end
def Grid (H : Nat → Option Obj) (st el : TypeId) (v : Value) (cells : List Value) (chs : List (List Value)) : Prop :=
  (∃ db, LeadsTo H db v st 1 cells ∧ Cells (cutM H db) el [] cells chs) ∨ (v = nilSlc ∧ cells = [] ∧ chs = [])
end Go.Lg
end
section
namespace Go.Lg
open Go Go.RowKit
def blkZ : Value → Option Nat
  | .slice (some a) (_ + 1) _ => some a.block
  | _ => none
def SliceZ (H : Nat → Option Obj) (v : Value) (el : TypeId) (sz : Nat) (vals : List Value) : Prop := (vals = [] ∧ ∃ ad cap, v = .slice ad 0 cap) ∨ ∃ b, LeadsTo H b v el sz vals ∧ vals ≠ []
structure Twigs (H : Nat → Option Obj) (el : TypeId) (sz : Nat) (op : List Nat) (cells : List Value) (chs : List (List Value)) : Prop where
  len : cells.length = chs.length
  at_ : ∀ (i : Nat) (c : Value) (x : List Value), i ∉ op → cells[i]? = some c → chs[i]? = some x → SliceZ H c el sz x
  apart : ∀ (i j : Nat) (c c' : Value) (b : Nat), i ∉ op → j ∉ op → cells[i]? = some c → cells[j]? = some c' → blkZ c = some b → blkZ c' = some b → i = j
section
variable {H : Nat → Option Obj} {el : TypeId} {sz : Nat} {op : List Nat} {cells : List Value} {chs : List (List Value)}
end
end Go.Lg
end
section
namespace Go.Lg
open Go Go.RowKit
section
variable {P : Program} {n : Nat} {ops os : List Oper} {acc : List Eff} {K : List Eff → St → Prop} {s : List (Nat × LV)} {bx : List (Nat × Option Box)} {X : Nat → Option Obj} {σ : St}
theorem LOK.cutLoX {d b off len cap sz l : Nat} {t : TypeId} {x y : Operand} {ty : TypeId} {pos : String} {after_ : Array Edge} {g : Option (Nat × Bool)} {kh : IntKind} (hx : σ.ev x = some (.sv (.one (.val (.slice (some ⟨b, off, none⟩) len cap))))) (hy : σ.ev y = some (.sv (.one (.val (.int kh (l : Nat))))))
    (ht : sliceOf P t = some sz) (hl : l ≤ len) : LOK P n ops ⟨some d, .slice t x (some y) none none, ty, pos, after_, g⟩ σ ⟨[(d, .sv (.one (.val (.slice (some ⟨b, if cap = l then off else off + l * sz, none⟩) (len - l) (cap - l)))))], [], []⟩ :=
  LOK.value fun σ' ha C ι a w hr => by
    have h1 : a.eval x = _ := hr.ev ((ha.ev (x := x) (by simp [Op.operands])).trans hx)
    have h2 : a.eval y = .int kh (l : Nat) := hr.ev ((ha.ev (x := y) (by simp [Op.operands])).trans hy)
    obtain ⟨e, hu, hsz⟩ := sliceOf_spec ht
    have hrun : (Instr.sliceAt t (.slice (some ⟨b, off, none⟩) len cap) (some (.int kh (l : Nat))) none none).run P w = .ok (.slice (some ⟨b, if cap = l then off else off + l * sz, none⟩) (len - l) (cap - l)) w := by
      have ha0 : (⟨b, off, none⟩ : Addr).add (l * sz) = ⟨b, off + l * sz, none⟩ := addr_add _ _ _
      simp [Instr.sliceAt, Instr.slice, run_underlying hu, Instr.sliceBounds, Instr.sliceBound, asIntOf, hsz, ha0]
      rw [if_pos hl]
      by_cases e : cap = l
      · simp [e]
      · simp [e]
    exact ⟨_, by simp only [execOp, h1, h2, Option.map_none, Option.map_some, Sem.run_bind, hrun, Result.andThen_ok, Sem.run_pure], rfl⟩
theorem K.cutLoX {d b off len cap sz l off' len' cap' : Nat} {t : TypeId} {x y : Operand} {ty : TypeId} {pos : String} {after_ : Array Edge} {g : Option (Nat × Bool)} {kh : IntKind} (hx : (⟨s, bx, X⟩ : St).ev x = some (.sv (.one (.val (.slice (some ⟨b, off, none⟩) len cap))))) (hy : (⟨s, bx, X⟩ : St).ev y = some (.sv (.one (.val (.int kh (l : Nat))))))
    (ht : sliceOf P t = some sz) (hl : l ≤ len) (ho : (if cap = l then off else off + l * sz) = off') (hn : len - l = len') (hc : cap - l = cap') (hw : Want ops s g) (kont : RunK P n ops os ⟨(d, .sv (.one (.val (.slice (some ⟨b, off', none⟩) len' cap')))) :: s, bx, X⟩ (⟨[(d, .sv (.one (.val (.slice (some ⟨b, off', none⟩) len' cap'))))], [], []⟩ :: acc) K) :
    RunK P n ops (⟨some d, .slice t x (some y) none none, ty, pos, after_, g⟩ :: os) ⟨s, bx, X⟩ acc K := by
  subst ho hn hc
  exact RunK.g1 (LOK.cutLoX hx hy ht hl) hw kont
end
end Go.Lg
end
section
namespace Go.Lg
open Go Go.RowKit
section
variable {n : Nat} {C : Ctx} {σ : St} {ι : Nat → Nat × Nat} {a : Act} {w : World}
end
structure KL (P : Program) (k : TypeId) : Prop where
  check : ∀ (w : World) (em : Bool) {v : Value} {l : Lit}, Go.keyOf P k v = some l → (Instr.checkKey em 10000 k v).run P w = .ok () w
  find : ∀ (w : World) {x : Value} {lx : Lit}, Go.keyOf P k x = some lx → ∀ es : List MapEntry, (∀ e ∈ es, ∃ l, Go.keyOf P k e.key = some l) →
    ((Instr.findKey k x es).run P w = .ok none w ∧ ∀ e ∈ es, e.key ≠ x) ∨ ∃ j e, (Instr.findKey k x es).run P w = .ok (some (j, e.val)) w ∧ es[j]? = some e ∧ e.key = x
  stays : ∀ (w : World) {v : Value} {l : Lit}, Go.keyOf P k v = some l → (Instr.keyThatStays v v).run P w = .ok v w
theorem int_of_keyOf {P : Program} {k : TypeId} {q : IntKind} (hk : P.underlying k = some (.int q)) {v : Value} {l : Lit} (h : Go.keyOf P k v = some l) : ∃ n, v = .int q n := by
  rw [keyOf_int hk] at h
  unfold mapKey at h
  cases v <;> simp [hk] at h
  rename_i q' n
  exact ⟨n, by rw [h.1.1]⟩
open Go.MapKept Go.WideShapes Go.WideMaps in
theorem KL.int {P : Program} {k : TypeId} {q : IntKind} (hk : P.underlying k = some (.int q)) : KL P k where
  check w em _ _ h := by
    obtain ⟨n, rfl⟩ := int_of_keyOf hk h
    exact run_checkKey hk (d := .int q) (k := .int q n) rfl em 9999
  find w _ _ hx es hes := by
    obtain ⟨n, rfl⟩ := int_of_keyOf hk hx
    have hks : ∀ x ∈ es, IsKey (.int q) x.key := fun x hxm => by
      obtain ⟨l, hl⟩ := hes x hxm
      obtain ⟨n', e⟩ := int_of_keyOf hk hl
      rw [e]
      exact rfl
    rcases findNow_spec (d := .int q) (k := .int q n) rfl es 0 hks with ⟨h1, h2⟩ | ⟨j, e0, h1, h2, h3⟩
    · exact Or.inl ⟨run_findKey hk h1, h2⟩
    · exact Or.inr ⟨j, e0, by simpa using run_findKey hk h1, h2, h3⟩
  stays w _ _ h := by
    obtain ⟨n, rfl⟩ := int_of_keyOf hk h
    exact run_keyThatStays (d := .int q) (k := .int q n) rfl
def At (m : List (Value × Value)) (key v z : Value) : Prop := (key, v) ∈ m ∨ ((∀ p ∈ m, p.1 ≠ key) ∧ v = z)
section
variable {P : Program} {n : Nat} {ops os : List Oper} {acc : List Eff} {K : List Eff → St → Prop} {s : List (Nat × LV)} {bx : List (Nat × Option Box)} {X : Nat → Option Obj} {σ : St}
end
end Go.Lg
end
section
namespace Go.Lg
open Go Go.RowKit
section
variable {P : Program} {n : Nat} {C : Ctx} {c : Code} {Q : Exit → St → Prop} {X : Nat → Option Obj}
theorem Rel.freezePtr {ι : Nat → Nat × Nat} {a : Act} {w : World} {s : List (Nat × LV)} {bx : List (Nat × Option Box)} {d k off : Nat} {el : TypeId} {vals : List Value} {row : Bool}
    (hs : s.all (fun p => p.2.inUse bx) = true) (hb : bx.all (fun p => match p.2 with | some b => b.cells.all (CV.inUse bx) | none => true) = true) (hk : look k bx = none)
    (hr : Rel n C ι ⟨(d, .sv (.one (.ptr k off))) :: s, (k, some ⟨el, vals.map .val, row⟩) :: bx, X⟩ a w) :
    ∃ (blk : Nat) (arr : Array Value) (fr : Nat × Nat), X blk = none ∧ Frozen C blk arr fr ∧ (∃ sp, arr.toList = vals ++ sp) ∧
      Rel n C ι ⟨(d, .sv (.one (.val (.pointer (some ⟨blk, off, none⟩))))) :: s, bx, withBlock X blk (.cells arr el fr)⟩ a w := by
  have hst : (⟨(d, .sv (.one (.ptr k off))) :: s, (k, some ⟨el, vals.map .val, row⟩) :: bx, X⟩ : St).stat k = some (some ⟨el, vals.map .val, row⟩) := by
    simp [St.stat, look]
  have hlk : ∀ k' x, look k' bx = some x → k' ≠ k := fun k' x h' e => by rw [e, hk] at h'; cases h'
  have hstb : ∀ k' x, look k' bx = some x → (⟨(d, .sv (.one (.ptr k off))) :: s, (k, some ⟨el, vals.map .val, row⟩) :: bx, X⟩ : St).stat k' = some x := fun k' x h' => by
    simp only [St.stat, look]
    cases e : Nat.beq k k' with
    | true => exact absurd (Nat.eq_of_beq_eq_true e).symm (hlk k' x h')
    | false => exact h'
  obtain ⟨arr, fr, harr, hth, hsz, hbr⟩ := hr.boxes k _ hst rfl
  obtain ⟨v, hv, hvr⟩ := hr.slots d (.sv (.one (.ptr k off))) (by simp [St.slot, look])
  simp only [LV.rel, SV.rel, CV.rel] at hvr
  rw [hst] at hvr
  subst hvr
  have hXn : X (ι k).1 = none := (hr.own k _ hst).2
  have hsp : ∃ sp, arr.toList = vals ++ sp := by
    unfold Box.rel at hbr
    cases hrow : row with
    | false =>
      rw [hrow] at hbr
      exact ⟨[], by rw [List.append_nil]; exact rel_vals hbr⟩
    | true =>
      rw [hrow] at hbr
      obtain ⟨us, sp, e, hl⟩ := hbr
      exact ⟨sp, by rw [e, rel_vals hl]⟩
  refine ⟨(ι k).1, arr, fr, hXn, ⟨(hr.own k _ hst).1, hth⟩, hsp, ?_⟩
  have hon : SameOn bx (⟨(d, .sv (.one (.ptr k off))) :: s, (k, some ⟨el, vals.map .val, row⟩) :: bx, X⟩ : St).stat (fun k => look k bx) := fun k' x h' => (hstb k' x h').trans h'.symm
  exact {
    defers := hr.defers, size := hr.size
    slots := fun d' lv hd => by
      simp only [St.slot, look] at hd
      cases e : Nat.beq d d' with
      | true =>
        rw [e] at hd
        simp at hd
        subst hd
        have := Nat.eq_of_beq_eq_true e
        subst this
        exact ⟨_, hv, rfl⟩
      | false =>
        rw [e] at hd
        have hd : look d' s = some lv := by simpa using hd
        obtain ⟨v', hv', hr'⟩ := hr.slots d' lv (by simp only [St.slot, look, e]; exact hd)
        exact ⟨v', hv', LV.rel_on hon (List.all_eq_true.1 hs _ (look_mem hd)) hr'⟩
    res := by
      obtain ⟨F, hF⟩ := hr.res
      refine hF.keep (fun j e cs R hj => ⟨hstb j _ hj, rfl⟩) (fun _ _ _ _ _ hj => hj) (fun _ _ ho => ho) (fun b _ hx hne _ => ?_) (fun j bj hj => .inl ⟨bj, hstb j _ hj, rfl⟩)
      show withBlock X (ι k).1 _ b = none
      unfold withBlock
      rw [if_neg (fun e => hne k _ hst rfl e.symm)]
      exact hx
    boxes := fun k' b hb' hbk => by
      have hb' : look k' bx = some (some b) := hb'
      obtain ⟨arr', fr', h1, h2, h3, h4⟩ := hr.boxes k' b (hstb k' _ hb') hbk
      exact ⟨arr', fr', h1, h2, h3, Box.rel_on hon (by simpa using List.all_eq_true.1 hb _ (look_mem hb')) h4⟩
    own := fun k' b hb' => by
      have hb' : look k' bx = some (some b) := hb'
      obtain ⟨h1, h2⟩ := hr.own k' b (hstb k' _ hb')
      refine ⟨h1, ?_⟩
      show withBlock X (ι k).1 _ (ι k').1 = none
      unfold withBlock
      rw [if_neg (fun e => hlk k' _ hb' (hr.inj k' k b _ (hstb k' _ hb') hst e))]
      exact h2
    inj := fun k1 k2 b1 b2 h1 h2 he => hr.inj k1 k2 b1 b2 (hstb k1 _ h1) (hstb k2 _ h2) he
    keep := fun k' b hb' hge => hr.keep k' b (hstb k' _ hb') hge
    ext := fun b o hbo => by
      have hbo : withBlock X (ι k).1 (.cells arr el fr) b = some o := hbo
      unfold withBlock at hbo
      by_cases e : b = (ι k).1
      · rw [if_pos e] at hbo
        rw [e, harr]; exact hbo
      · rw [if_neg e] at hbo
        exact hr.ext b o hbo
    frame := hr.frame, big := hr.big, os := hr.os, tape := hr.tape, output := hr.output }
theorem LWP.freezePtr {s : List (Nat × LV)} {bx : List (Nat × Option Box)} {d k off : Nat} {el : TypeId} {vals : List Value} {row : Bool}
    (hs : s.all (fun p => p.2.inUse bx) = true) (hb : bx.all (fun p => match p.2 with | some b => b.cells.all (CV.inUse bx) | none => true) = true) (hk : look k bx = none)
    (h : ∀ (blk : Nat) (arr : Array Value) (fr : Nat × Nat), X blk = none → Frozen C blk arr fr → (∃ sp, arr.toList = vals ++ sp) →
      LWP P n C c Q ⟨(d, .sv (.one (.val (.pointer (some ⟨blk, off, none⟩))))) :: s, bx, withBlock X blk (.cells arr el fr)⟩) :
    LWP P n C c Q ⟨(d, .sv (.one (.ptr k off))) :: s, (k, some ⟨el, vals.map .val, row⟩) :: bx, X⟩ := by
  refine ⟨fun ι a w hr => ?_⟩
  obtain ⟨blk, arr, fr, h1, h2, h5, h6⟩ := hr.freezePtr hs hb hk
  exact (h blk arr fr h1 h2 h5).out ι a w h6
end
section
variable {P : Program} {n : Nat} {ops os : List Oper} {acc : List Eff} {K : List Eff → St → Prop} {s : List (Nat × LV)} {bx : List (Nat × Option Box)} {X : Nat → Option Obj} {σ : St}
theorem LOK.makeFunc {d : Nat} {fn : Fn} {caps : List Operand} {us : List Value} {lvs : List LV} {ty : TypeId} {pos : String} {after_ : Array Edge} {g : Option (Nat × Bool)} (hc : evs σ caps = some lvs) (hu : plainLVs lvs = some us) :
    LOK P n ops ⟨some d, .makeFunc fn #[] caps.toArray, ty, pos, after_, g⟩ σ ⟨[(d, .sv (.one (.val (.func fn #[] us.toArray))))], [], []⟩ :=
  LOK.value fun σ' ha C ι a w hr => by
    have hc' : evs σ' caps = some lvs := by
      rw [evs_agree fun x hx => ha.ev (by simp [Op.operands, hx])]
      exact hc
    have e : caps.map a.eval = us := plainLVs_rel hu (evs_rel hr hc')
    exact ⟨.func fn #[] us.toArray, by rw [← e]; simp [execOp, Instr.makeFunc], rfl⟩
theorem K.makeFunc {d : Nat} {fn : Fn} {caps : List Operand} {us : List Value} {lvs : List LV} {ty : TypeId} {pos : String} {after_ : Array Edge} {g : Option (Nat × Bool)} (hc : evs ⟨s, bx, X⟩ caps = some lvs) (hu : plainLVs lvs = some us) (hw : Want ops s g)
    (kont : RunK P n ops os ⟨(d, .sv (.one (.val (.func fn #[] us.toArray)))) :: s, bx, X⟩ (⟨[(d, .sv (.one (.val (.func fn #[] us.toArray))))], [], []⟩ :: acc) K) :
    RunK P n ops (⟨some d, .makeFunc fn #[] caps.toArray, ty, pos, after_, g⟩ :: os) ⟨s, bx, X⟩ acc K := RunK.g1 (LOK.makeFunc hc hu) hw kont
theorem LOK.callF {d : Nat} {x : Operand} {f : FuncId} {caps : List Value} {args : List Operand} {tys : Array TypeId} {ty : TypeId} {pos : String} {after_ : Array Edge} {g : Option (Nat × Bool)} {lvs : List LV} {r : LV} (hx : σ.ev x = some (.sv (.one (.val (.func (.func f) #[] caps.toArray))))) (hargs : evs σ args = some lvs) (hcl : lvs.all LV.closed = true) (hs : PSpec P σ.X f (lvs ++ caps.map fun v => .sv (.one (.val v))) r) :
    LOK P n ops ⟨some d, .call ⟨.value x, args.toArray, tys⟩, ty, pos, after_, g⟩ σ ⟨[(d, r)], [], []⟩ := by
  refine ⟨fun σ' ha C ι a w hr hd next Q hn => ?_⟩
  have hargs' : evs σ' args = some lvs := by
    rw [evs_agree fun y hy => ha.ev (by simp [Op.operands, Call.operands, hy])]
    exact hargs
  have hv : a.eval x = .func (.func f) #[] caps.toArray := hr.ev ((ha.ev (x := x) (by simp [Op.operands, Call.operands])).trans hx)
  have hrel := LVs.rel_closed (S' := noS) (ι' := fun _ => (0, 0)) hcl (evs_rel hr hargs')
  have happ : ∀ {l : List LV} {us : List Value}, LVs.rel noS (fun _ => (0, 0)) l us → LVs.rel noS (fun _ => (0, 0)) (l ++ caps.map fun v => .sv (.one (.val v))) (us ++ caps) := fun {l} => by
    induction l with
    | nil =>
      intro us h
      cases us with
      | cons => exact h.elim
      | nil =>
        simp only [List.nil_append]
        have key : ∀ cs : List Value, LVs.rel noS (fun _ => (0, 0)) (cs.map fun v => LV.sv (.one (.val v))) cs := fun cs => by
          induction cs with
          | nil => trivial
          | cons c cs ih => exact ⟨rfl, ih⟩
        exact key caps
    | cons a l ih =>
      intro us h
      cases us with
      | nil => exact h.elim
      | cons u us => exact ⟨h.1, ih h.2⟩
  have hc := hs.out w (args.toArray.map a.eval ++ caps.toArray) (fun b o hb => hr.ext b o (by rw [ha.X]; exact hb)) (by simpa using happ hrel)
  unfold Oper.wp
  have hrun : (execOp a.eval ⟨some d, .call ⟨.value x, args.toArray, tys⟩, ty, pos, after_, g⟩).run P w = .ok (.enter f (args.toArray.map a.eval ++ caps.toArray)) w := by
    simp only [execOp, resolve, hv, Deferred.ofValue, invoke, Sem.run_bind, Sem.run_pure, Result.andThen_ok]
    simp [run_enter hs.enters]
  rw [hrun]
  refine hc.mono ?_
  rintro e w' ⟨v, rfl, hv, hb⟩
  exact hn ι _ w' ((hr.below hb).put (hd d rfl) (LV.rel_later (later_noS _ _ _) hv))
theorem K.callF {d : Nat} {x : Operand} {f : FuncId} {caps : List Value} {args : List Operand} {tys : Array TypeId} {ty : TypeId} {pos : String} {after_ : Array Edge} {g : Option (Nat × Bool)} {lvs : List LV} {r : LV} (hx : (⟨s, bx, X⟩ : St).ev x = some (.sv (.one (.val (.func (.func f) #[] caps.toArray))))) (hargs : evs ⟨s, bx, X⟩ args = some lvs) (hcl : lvs.all LV.closed = true) (hs : PSpec P X f (lvs ++ caps.map fun v => .sv (.one (.val v))) r) (hw : Want ops s g)
    (kont : RunK P n ops os ⟨(d, r) :: s, bx, X⟩ (⟨[(d, r)], [], []⟩ :: acc) K) :
    RunK P n ops (⟨some d, .call ⟨.value x, args.toArray, tys⟩, ty, pos, after_, g⟩ :: os) ⟨s, bx, X⟩ acc K := RunK.g1 (LOK.callF hx hargs hcl hs) hw kont
end
end Go.Lg
end
section
namespace Go.Lg.Fld
open Go Go.Lg
def NamesC (cs : List Cp) : Prop := ∀ c ∈ cs, c.fs.length < 4611686018427387904 ∧ c.nm.length ≤ 9223372036854775807 ∧ ∀ f ∈ c.fs, f.nm.length ≤ 9223372036854775807
end Go.Lg.Fld
namespace Go.Proofs.YtimpjdbhalnofaaGreatDoor
open Go Go.Lg Go.Lg.Fld
set_option maxRecDepth 100000
variable (X : Nat → Option Obj)
end Go.Proofs.YtimpjdbhalnofaaGreatDoor
end
section
namespace Go.Proofs.YtimpjdbhalnofaaGreatDoor
open Go Go.Lg Go.Lg.Fld
set_option maxRecDepth 100000
theorem rows_in {Y : Nat → Option Obj} {blk : Nat} {arr : Array Value} {el : TypeId} {fr : Nat × Nat} {sz : Nat} {rows : List (List Value)} (hY : Y blk = some (.cells arr el fr)) (hl : ∀ r ∈ rows, r.length = sz) (hsp : ∃ sp, arr.toList = rows.flatten ++ sp) : Go.Lg.RowsIn Y (some ⟨blk, 0, none⟩) sz rows := fun i r hi => by
  obtain ⟨sp, e⟩ := hsp
  obtain ⟨h1, h2⟩ := flat_row hl (sp := sp) hi
  refine ⟨blk, 0, arr, el, fr, rfl, hY, ?_, ?_⟩
  · rw [← Array.length_toList, e]; omega
  · rw [e, Nat.zero_add]; exact h2
variable (X : Nat → Option Obj)
end Go.Proofs.YtimpjdbhalnofaaGreatDoor
end
section
namespace Go.Lg.Fld
open Go Go.Lg
end Go.Lg.Fld
namespace Go.Proofs.YtimpjdbhalnofaaGreatDoor
open Go Go.Lg Go.Lg.Fld
set_option maxRecDepth 100000
variable (X : Nat → Option Obj)
def cs0 : List Cp := [⟨1, [112, 111, 115], [⟨[120], 3, 1⟩, ⟨[121], 3, 1⟩]⟩, ⟨3, [116, 97, 103], []⟩]
end Go.Proofs.YtimpjdbhalnofaaGreatDoor
end
section
namespace Go.Lg.Fld
open Go Go.Lg
def Scan {α : Type} (p : α → Bool) (l : List α) (k : Nat) (v : Int) : Prop := (v = -1 ∧ ∀ (m : Nat) (y : α), k ≤ m → l[m]? = some y → p y = false) ∨ ∃ (i : Nat) (c : α), v = (i : Nat) ∧ l[i]? = some c ∧ p c = true ∧ ∀ (m : Nat) (y : α), k ≤ m → m < i → l[m]? = some y → p y = false
end Go.Lg.Fld
namespace Go.Proofs.YtimpjdbhalnofaaGreatDoor
open Go Go.Lg Go.Lg.Fld
set_option maxRecDepth 100000
variable (X : Nat → Option Obj)
end Go.Proofs.YtimpjdbhalnofaaGreatDoor
end
section
namespace Go.Lg.Fld
open Go Go.Lg
structure Good (cs : List Cp) : Prop where
  one : ∀ (i : Nat) (c : Cp), cs[i]? = some c → 1 ≤ c.id ∧ c.id ≤ 24 ∧ nmB c.nm = true ∧ firstE (fldE c.fs) 0 c.fs.length = 0 ∧ layErr c.fs = 0
  two : ∀ (i j : Nat) (c d : Cp), i < j → cs[i]? = some c → cs[j]? = some d → c.id < d.id ∧ c.nm ≠ d.nm
end Go.Lg.Fld
end
section
namespace Go.Lg.Fld
open Go Go.Lg
structure Ch where
  kind : Int
  comp : Int
  fld : List UInt8
instance : DecidableEq Ch := fun a b => decidable_of_iff (a.kind = b.kind ∧ a.comp = b.comp ∧ a.fld = b.fld) ⟨fun ⟨h1, h2, h3⟩ => by cases a; cases b; simp_all, fun h => by rw [h]; exact ⟨rfl, rfl, rfl⟩⟩
def fldAt (fs : List Fl) (nm : List UInt8) : Option Fl := fs.find? fun f => f.nm == nm
def fldIx (fs : List Fl) (nm : List UInt8) : Int := findI (fun f => f.nm == nm) fs
theorem fldIx_some {fs : List Fl} {nm : List UInt8} (h : 0 ≤ fldIx fs nm) : ∃ (k : Nat) (g : Fl), fs[k]? = some g ∧ g.nm = nm ∧ fldIx fs nm = (k : Nat) ∧ fldAt fs nm = some g ∧ ∀ (j : Nat) (y : Fl), j < k → fs[j]? = some y → y.nm ≠ nm := by
  unfold fldIx findI at h
  cases hf : fs.findIdx? (fun f => f.nm == nm) with
  | none => rw [hf] at h; simp only at h; omega
  | some k =>
    obtain ⟨hk, h1, h2⟩ := List.findIdx?_eq_some_iff_getElem.1 hf
    refine ⟨k, fs[k], List.getElem?_eq_getElem hk, by simpa using h1, by unfold fldIx findI; rw [hf], ?_, fun j y hj hy => ?_⟩
    · unfold fldAt
      rw [List.find?_eq_some_iff_getElem]
      exact ⟨h1, k, hk, rfl, fun j hj => by simpa using h2 j hj⟩
    · obtain ⟨hj', e⟩ := List.getElem?_eq_some_iff.1 hy
      have := h2 j hj
      rw [e] at this
      simpa using this
end Go.Lg.Fld
end
section
namespace Go.Lg.Fld
open Go Go.Lg
def Apart (fs : List Fl) : Prop := fs.Pairwise fun f g => f.nm ≠ g.nm
end Go.Lg.Fld
end
section
namespace Go.Lg
open Go Go.RowKit
def LentAt (ks : List Nat) (S : Nat → Option (Option Box)) (ι : Nat → Nat × Nat) (Y : Nat → Option Obj) : Prop :=
  ∀ k, k ∈ ks → ∀ b, S k = some (some b) → b.blk = true → ∃ (arr : Array Value) (fr : Nat × Nat), Y (ι k).1 = some (.cells arr b.elem fr) ∧ arr.size = (ι k).2 ∧ b.rel S ι arr.toList
section
variable {P : Program} {n : Nat} {ops os : List Oper} {acc : List Eff} {K : List Eff → St → Prop} {s : List (Nat × LV)} {bx : List (Nat × Option Box)} {X : Nat → Option Obj} {σ : St}
theorem LOK.callY {d : Nat} {f : FuncId} {args : List Operand} {tys : Array TypeId} {ty : TypeId} {pos : String} {after_ : Array Edge} {g : Option (Nat × Bool)} {lvs : List LV} {r : LV} (ks : List Nat) (hargs : evs σ args = some lvs) (hent : Program.enters P f = true)
    (hs : ∀ (Y : Nat → Option Obj) (us : List Value) (S : Nat → Option (Option Box)) (ι : Nat → Nat × Nat), (∀ b o, σ.X b = some o → Y b = some o) → (∀ k, k ∈ ks → S k = σ.stat k) → LVs.rel S ι lvs us → LentAt ks S ι Y → PSpec P Y f (us.map toLV) r) :
    LOK P n ops ⟨some d, .call ⟨.value (.func f), args.toArray, tys⟩, ty, pos, after_, g⟩ σ ⟨[(d, r)], ks, []⟩ := by
  refine ⟨fun σ' ha C ι a w hr hd next Q hn => ?_⟩
  have hargs' : evs σ' args = some lvs := by
    rw [evs_agree fun x hx => ha.ev (by simp [Op.operands, Call.operands, hx])]
    exact hargs
  have hrel := evs_rel hr hargs'
  have hlent : LentAt ks σ'.stat ι (fun b => w.heap[b]?) := fun k _ b hb hbk => by
    obtain ⟨arr, fr, h1, _, h3, h4⟩ := hr.boxes k b hb hbk
    exact ⟨arr, fr, h1, h3, h4⟩
  have hc := (hs (fun b => w.heap[b]?) _ σ'.stat ι (fun b o hb => hr.ext b o (by rw [ha.X]; exact hb)) (fun k hk => ha.stat k (.inl hk)) hrel hlent).out w (args.toArray.map a.eval) (fun b o hb => hb) (by rw [Array.toList_map, List.toList_toArray]; exact args_rel _)
  unfold Oper.wp
  have hrun : (execOp a.eval ⟨some d, .call ⟨.value (.func f), args.toArray, tys⟩, ty, pos, after_, g⟩).run P w = .ok (.enter f (args.toArray.map a.eval)) w := by
    simp only [execOp, resolve, Act.eval, Deferred.ofValue, invoke, Sem.run_bind, Sem.run_pure, Result.andThen_ok]
    simp [run_enter hent]
  rw [hrun]
  refine hc.mono ?_
  rintro e w' ⟨v, rfl, hv, hb⟩
  exact hn ι _ w' ((hr.below hb).put (hd d rfl) (LV.rel_later (later_noS _ _ _) hv))
theorem K.callY {d : Nat} {f : FuncId} {args : List Operand} {tys : Array TypeId} {ty : TypeId} {pos : String} {after_ : Array Edge} {g : Option (Nat × Bool)} {lvs : List LV} {r : LV} (ks : List Nat) (hargs : evs ⟨s, bx, X⟩ args = some lvs) (hent : Program.enters P f = true)
    (hs : ∀ (Y : Nat → Option Obj) (us : List Value) (S : Nat → Option (Option Box)) (ι : Nat → Nat × Nat), (∀ b o, X b = some o → Y b = some o) → (∀ k, k ∈ ks → S k = look k bx) → LVs.rel S ι lvs us → LentAt ks S ι Y → PSpec P Y f (us.map toLV) r) (hw : Want ops s g)
    (kont : RunK P n ops os ⟨(d, r) :: s, bx, X⟩ (⟨[(d, r)], ks, []⟩ :: acc) K) :
    RunK P n ops (⟨some d, .call ⟨.value (.func f), args.toArray, tys⟩, ty, pos, after_, g⟩ :: os) ⟨s, bx, X⟩ acc K := RunK.gen hw (LOK.callY ks hargs hent hs) kont
end
section
variable {P : Program} {n : Nat} {C : Ctx} {c : Code} {Q : Exit → St → Prop} {X : Nat → Option Obj}
theorem Rel.fixRes {ι : Nat → Nat × Nat} {a : Act} {w : World} {s : List (Nat × LV)} {bx : List (Nat × Option Box)} {d k off len sz : Nat} {e : TypeId} {cs : List CV} {R : Rsc}
    (hs : s.all (fun p => p.2.inUse bx) = true) (hb : bx.all (fun p => match p.2 with | some b => b.cells.all (CV.inUse bx) | none => true) = true) (hk : look k bx = none)
    (hr : Rel n C ι ⟨(d, .sv (.one (.slc k off len sz))) :: s, (k, some ⟨e, cs, .res R⟩) :: bx, X⟩ a w) :
    ∃ (ρ : Nat × Nat) (H : Nat → Option Obj) (cap : Nat), R.holds ρ H ∧ OwnedM C X H ∧ len ≤ cap ∧ off + cap * sz ≤ ρ.2 ∧
      Rel n C ι ⟨(d, .sv (.one (.val (.slice (some ⟨ρ.1, off, none⟩) len cap)))) :: s, bx, joinM X H⟩ a w := by
  have hst : (⟨(d, .sv (.one (.slc k off len sz))) :: s, (k, some ⟨e, cs, .res R⟩) :: bx, X⟩ : St).stat k = some (some ⟨e, cs, .res R⟩) := by simp [St.stat, look]
  have hlk : ∀ k' x, look k' bx = some x → k' ≠ k := fun k' x h' e => by rw [e, hk] at h'; cases h'
  have hstb : ∀ k' x, look k' bx = some x → (⟨(d, .sv (.one (.slc k off len sz))) :: s, (k, some ⟨e, cs, .res R⟩) :: bx, X⟩ : St).stat k' = some x := fun k' x h' => by
    simp only [St.stat, look]
    cases e : Nat.beq k k' with
    | true => exact absurd (Nat.eq_of_beq_eq_true e).symm (hlk k' x h')
    | false => exact h'
  have hback : ∀ j x, j ≠ k → (⟨(d, .sv (.one (.slc k off len sz))) :: s, (k, some ⟨e, cs, .res R⟩) :: bx, X⟩ : St).stat j = some x → look j bx = some x := fun j x hj h' => by
    simp only [St.stat, look] at h'
    cases e : Nat.beq k j with
    | true => exact absurd (Nat.eq_of_beq_eq_true e).symm hj
    | false => rw [e] at h'; exact h'
  obtain ⟨F, hF⟩ := hr.res
  obtain ⟨hR, _⟩ := hF.holds k _ _ _ hst
  obtain ⟨v, hv, hvr⟩ := hr.slots d (.sv (.one (.slc k off len sz))) (by simp [St.slot, look])
  simp only [LV.rel, SV.rel, CV.rel] at hvr
  rw [hst] at hvr
  obtain ⟨cap, rfl, hcap, hfit⟩ := hvr
  refine ⟨ι k, F k, cap, hR, ⟨fun b o hb => let h := hF.mem k b o hb; ⟨h.2.2.2.1, h.2.2.1, h.2.2.2.2.1⟩⟩, hcap, hfit, ?_⟩
  have hon : SameOn bx (⟨(d, .sv (.one (.slc k off len sz))) :: s, (k, some ⟨e, cs, .res R⟩) :: bx, X⟩ : St).stat (fun k => look k bx) := fun k' x h' => (hstb k' x h').trans h'.symm
  have hnot : ∀ j b, look j bx = some (some b) → F k (ι j).1 = none := fun j b hj => by
    cases hc : F k (ι j).1 with
    | none => rfl
    | some o => exact absurd ((hF.mem k _ o hc).2.2.2.2.2 j b (hstb j _ hj) rfl) (hlk j _ hj)
  exact {
    defers := hr.defers, size := hr.size
    slots := fun d' lv hd => by
      simp only [St.slot, look] at hd
      cases e : Nat.beq d d' with
      | true =>
        rw [e] at hd
        simp at hd
        subst hd
        have := Nat.eq_of_beq_eq_true e
        subst this
        exact ⟨_, hv, rfl⟩
      | false =>
        rw [e] at hd
        have hd : look d' s = some lv := by simpa using hd
        obtain ⟨v', hv', hr'⟩ := hr.slots d' lv (by simp only [St.slot, look, e]; exact hd)
        exact ⟨v', hv', LV.rel_on hon (List.all_eq_true.1 hs _ (look_mem hd)) hr'⟩
    boxes := fun k' b hb' hbk => by
      have hb' : look k' bx = some (some b) := hb'
      obtain ⟨arr', fr', h1, h2, h3, h4⟩ := hr.boxes k' b (hstb k' _ hb') hbk
      exact ⟨arr', fr', h1, h2, h3, Box.rel_on hon (by simpa using List.all_eq_true.1 hb _ (look_mem hb')) h4⟩
    own := fun k' b hb' => by
      have hb' : look k' bx = some (some b) := hb'
      obtain ⟨h1, h2⟩ := hr.own k' b (hstb k' _ hb')
      exact ⟨h1, (joinM_out (hnot k' b hb')).trans h2⟩
    inj := fun k1 k2 b1 b2 h1 h2 he => hr.inj k1 k2 b1 b2 (hstb k1 _ h1) (hstb k2 _ h2) he
    keep := fun k' b hb' hge => hr.keep k' b (hstb k' _ hb') hge
    ext := fun b o hbo => by
      have hbo : joinM X (F k) b = some o := hbo
      cases hc : F k b with
      | none => rw [joinM_out hc] at hbo; exact hr.ext b o hbo
      | some o' =>
        rw [joinM_in hc] at hbo
        cases hbo
        exact (hF.mem k b o hc).2.1
    res := by
      refine ⟨fun j => open Classical in if j = k then fun _ => none else F j, fun j e' cs' R' hj => ?_, fun j b o ho => ?_, fun i j b h1 h2 => ?_⟩
      · have hj : look j bx = some (some ⟨e', cs', .res R'⟩) := hj
        rw [if_neg (hlk j _ hj)]
        exact hF.holds j e' cs' R' (hstb j _ hj)
      · by_cases ej : j = k
        · rw [if_pos ej] at ho; cases ho
        · rw [if_neg ej] at ho
          obtain ⟨⟨e1, cs1, R1, h1⟩, h2, h3, h4, h5, h6⟩ := hF.mem j b o ho
          refine ⟨⟨e1, cs1, R1, hback j _ ej h1⟩, h2, h3, h4, ?_, fun i bi hi ei => h6 i bi (hstb i _ hi) ei⟩
          have hc : F k b = none := by
            cases hc : F k b with
            | none => rfl
            | some o' => exact absurd (hF.apart j k b (by rw [ho]; simp) (by rw [hc]; simp)) ej
          exact (joinM_out hc).trans h5
      · by_cases ei : i = k
        · rw [if_pos ei] at h1; exact absurd rfl h1
        · by_cases ej : j = k
          · rw [if_pos ej] at h2; exact absurd rfl h2
          · rw [if_neg ei] at h1
            rw [if_neg ej] at h2
            exact hF.apart i j b h1 h2
    frame := hr.frame, big := hr.big, os := hr.os, tape := hr.tape, output := hr.output }
theorem LWP.fixRes {s : List (Nat × LV)} {bx : List (Nat × Option Box)} {d k off len sz : Nat} {e : TypeId} {cs : List CV} {R : Rsc}
    (hs : s.all (fun p => p.2.inUse bx) = true) (hb : bx.all (fun p => match p.2 with | some b => b.cells.all (CV.inUse bx) | none => true) = true) (hk : look k bx = none)
    (h : ∀ (ρ : Nat × Nat) (H : Nat → Option Obj) (cap : Nat), R.holds ρ H → OwnedM C X H → len ≤ cap → off + cap * sz ≤ ρ.2 → LWP P n C c Q ⟨(d, .sv (.one (.val (.slice (some ⟨ρ.1, off, none⟩) len cap)))) :: s, bx, joinM X H⟩) :
    LWP P n C c Q ⟨(d, .sv (.one (.slc k off len sz))) :: s, (k, some ⟨e, cs, .res R⟩) :: bx, X⟩ := by
  refine ⟨fun ι a w hr => ?_⟩
  obtain ⟨ρ, H, cap, h1, h2, h3, h4, h5⟩ := hr.fixRes hs hb hk
  exact (h ρ H cap h1 h2 h3 h4).out ι a w h5
end
theorem Le.loose {n : Nat} {C : Ctx} {s : List (Nat × LV)} {bx : List (Nat × Option Box)} {X : Nat → Option Obj} {j : Nat} {e : TypeId} {A : List CV} {r : Bool} : Le n C ⟨s, (j, some ⟨e, A, r⟩) :: bx, X⟩ ⟨s, (j, some ⟨e, A, true⟩) :: bx, X⟩ := by
  have h := Le.trim (n := n) (C := C) (s := s) (bx := bx) (X := X) (j := j) (e := e) (A := A) (B := []) (r := r)
  rw [List.append_nil] at h
  exact h
end Go.Lg
end
section
namespace Go.Lg.Fld
open Go Go.Lg
def Ch.vals (x : Ch) : List Value := [.int .i64 x.kind, .int .i64 x.comp, .string ⟨x.fld.toArray⟩]
end Go.Lg.Fld
namespace Go.Proofs.YtimpjdbhalnofaaGreatDoor
open Go Go.Lg Go.Lg.Fld
set_option maxRecDepth 100000
variable (X : Nat → Option Obj)
end Go.Proofs.YtimpjdbhalnofaaGreatDoor
end
section
namespace Go.Lg.Fld
open Go Go.Lg
def sgn (neg : Bool) (m : Nat) : Int := if neg = true then -(m : Int) else m
theorem sgn_of (v : Int) : sgn (decide (v < 0)) v.natAbs = v := by
  unfold sgn
  by_cases h : v < 0
  · rw [decide_eq_true h, if_pos rfl]; omega
  · rw [decide_eq_false h, if_neg (by decide)]; omega
theorem sgn_mod (neg : Bool) (m : Nat) : (sgn neg m).tmod 10 = sgn neg (m % 10) := by
  unfold sgn
  cases neg with
  | false => rfl
  | true =>
    rw [if_pos rfl, if_pos rfl, Int.neg_tmod]
    rfl
theorem sgn_div (neg : Bool) (m : Nat) : (sgn neg m).tdiv 10 = sgn neg (m / 10) := by
  unfold sgn
  cases neg with
  | false => rfl
  | true =>
    rw [if_pos rfl, if_pos rfl, Int.neg_tdiv]
    rfl
def digI (u m : Nat) (s : List UInt8) : Prop := if m = 0 ∧ s ≠ [] then Lib.decDigits u = s else Lib.decDigits u = Lib.decDigits m ++ s
theorem digI_start (u : Nat) : digI u u [] := by
  unfold digI
  rw [if_neg (by simp), List.append_nil]
theorem digI_step {u m : Nat} {s : List UInt8} (h : digI u m s) (hm : ¬(m = 0 ∧ s ≠ [])) : digI u (m / 10) (UInt8.ofNat (48 + m % 10) :: s) := by
  unfold digI at h
  rw [if_neg hm] at h
  by_cases hl : m < 10
  · have e : m / 10 = 0 := by omega
    have e2 : m % 10 = m := by omega
    unfold digI
    rw [if_pos ⟨e, by simp⟩, h, e2, Lib.decDigits_one hl]
    rfl
  · unfold digI
    rw [if_neg (by omega), h]
    conv => lhs; rw [Lib.decDigits, dif_neg hl]
    rw [List.append_assoc]
    rfl
theorem digI_end {u : Nat} {s : List UInt8} (h : digI u 0 s) (hs : s ≠ []) : Lib.decDigits u = s := by
  unfold digI at h
  rw [if_pos ⟨rfl, hs⟩] at h
  exact h
theorem digI_len {u m : Nat} {s : List UInt8} (h : digI u m s) (hu : u < 18446744073709551616) : s.length ≤ 20 := by
  have h1 : (Lib.decDigits u).length ≤ 20 := by rw [Lib.decDigits_length]; exact Lib.nDigits_le20 u hu
  unfold digI at h
  split at h
  · rw [← h]; exact h1
  · rw [h, List.length_append] at h1; omega
theorem digit_toNat (p : Nat) (h : p < 10) : (UInt8.ofNat (48 + p)).toNat = 48 + p := by
  simp
  omega
end Go.Lg.Fld
namespace Go.Proofs.YtimpjdbhalnofaaGreatDoor
open Go Go.Lg Go.Lg.Fld
set_option maxRecDepth 100000
variable (X : Nat → Option Obj)
set_option maxHeartbeats 1600000 in
theorem rDigits_spec (v : Int) (h0 : -9223372036854775808 ≤ v) (h1 : v < 9223372036854775808) :
    PSpec Tryz.prog X 72 [Ln .i64 v] (Ls (Lib.itoa v)) := by
  refine PSpec.intro Tryz.func72 rfl (by kernel_rfl) rfl rfl ?_
  intro C
  have hu : v.natAbs < 18446744073709551616 := by omega
  have hu2 : v.natAbs ≤ 9223372036854775808 := by omega
  have hneg : ∀ m : Nat, m < 10 → IntKind.i64.wrap (0 - sgn (decide (v < 0)) m) = sgn (!decide (v < 0)) m := fun m hm => by
    unfold sgn
    cases decide (v < 0) with
    | false => rw [if_neg (by decide), if_pos (by decide)]; refine (wrap_i64 ⟨?_, ?_⟩).trans ?_ <;> omega
    | true => rw [if_pos rfl, if_neg (by decide)]; refine (wrap_i64 ⟨?_, ?_⟩).trans ?_ <;> omega
  (refine LWP.seq <| rgN <| kas rfl <| RunK.nil <| LWP.seq <| rgN <| kas rfl <| RunK.nil <| LWP.seq <| rgN <| kmv rfl <| klt rfl rfl rfl <| kas rfl <| RunK.nil ?_; refine LWP.seq <| LWP.block ?_)
  refine LWP.loop (fun k σ => ∃ (m : Nat) (s : List UInt8), m ≤ v.natAbs ∧ digI v.natAbs m s ∧ k = m + (if s = [] then 1 else 0) ∧ σ = ⟨[(0, Ln .i64 (sgn (decide (v < 0)) m)), (3, Ls s), (4, Lb (decide (v < 0)))], [], X⟩) (v.natAbs + 1)
    ⟨⟨[(0, Ln .i64 v), (3, Ls []), (4, Lb (decide (v < 0)))], [], X⟩, Le.of (by exact ⟨rfl, rfl, rfl, trivial⟩) (by exact trivial) (by exact rfl) (by exact rfl) (by repeat' (first | refine all_cons_true ?_ ?_ | rfl | exact bytes_inUse | exact vals_inUse | exact mid_inUse rfl)), v.natAbs, [], Nat.le_refl _, digI_start _, by simp, by rw [sgn_of]⟩ ?_
  rintro k σ ⟨m, s, hm, hI, rfl, rfl⟩
  have hsl := digI_len hI hu
  by_cases hend : m = 0 ∧ s ≠ []
  · obtain ⟨rfl, hs⟩ := hend
    have he := digI_end hI hs
    have hse : (s == ([] : List UInt8)) = false := beq_eq_false_iff_ne.2 hs
    have hz : sgn (decide (v < 0)) 0 = 0 := by unfold sgn; split <;> rfl
    rw [hz]
    by_cases hv : v < 0
    · rw [show Lib.itoa v = 45 :: s by unfold Lib.itoa; rw [if_pos hv, he]]
      (refine LWP.seq <| LWP.seq <| rgN <| kmv rfl <| kse rfl rfl (strs_eq (r := false) hse) <| kmv rfl <| gmv rfl rfl rfl <| K.neq rfl rfl (r := false) rfl (.taken rfl rfl) ?_; refine kpf rfl rfl <| RunK.nil <| LWP.condF rfl ?_; refine LWP.exit <| LWP.seq <| LWP.seq <| rgN <| kmv (lv := Lb true) (congrArg (fun b => some (Lb b)) (decide_eq_true hv)) <| RunK.nil <| LWP.condT rfl ?_; refine rgN <| kmv rfl <| K.strAdd rfl rfl (Nat.le_trans (Nat.add_le_add_left hsl _) (by decide)) (str_add [45] s) .plain <| kas rfl <| RunK.nil <| LWP.seq <| rgN <| kmv rfl <| kas rfl <| RunK.nil <| LWP.ret ?_)
      exact ⟨[_], ⟨rfl, trivial⟩, rfl⟩
    · rw [show Lib.itoa v = s by unfold Lib.itoa; rw [if_neg hv, ← he]; congr 1; omega]
      (refine LWP.seq <| LWP.seq <| rgN <| kmv rfl <| kse rfl rfl (strs_eq (r := false) hse) <| kmv rfl <| gmv rfl rfl rfl <| K.neq rfl rfl (r := false) rfl (.taken rfl rfl) ?_; refine kpf rfl rfl <| RunK.nil <| LWP.condF rfl ?_; refine LWP.exit <| LWP.seq <| LWP.seq <| rgN <| kmv (lv := Lb false) (congrArg (fun b => some (Lb b)) (decide_eq_false hv)) <| RunK.nil <| LWP.condF rfl ?_; refine LWP.skip ?_; refine LWP.seq <| rgN <| kmv rfl <| kas rfl <| RunK.nil <| LWP.ret ?_)
      exact ⟨[_], ⟨rfl, trivial⟩, rfl⟩
  · have hst := digI_step hI hend
    have hp : m % 10 < 10 := Nat.mod_lt _ (by decide)
    have hmod := sgn_mod (decide (v < 0)) m
    have hdiv : IntKind.i64.wrap ((sgn (decide (v < 0)) m).tdiv 10) = sgn (decide (v < 0)) (m / 10) := by
      rw [sgn_div]
      unfold sgn
      refine wrap_i64 ⟨?_, ?_⟩ <;> split <;> omega
    have hd := digit_toNat (m % 10) hp
    have hadd : IntKind.i64.wrap (48 + ((m % 10 : Nat) : Int)) = ((48 + m % 10 : Nat) : Int) := by
      refine (wrap_i64 ⟨?_, ?_⟩).trans ?_ <;> omega
    have hcv : IntKind.u8.wrap ((48 + m % 10 : Nat) : Int) = (((UInt8.ofNat (48 + m % 10)).toNat : Nat) : Int) := by
      rw [hd]
      refine wrap_u8 ⟨?_, ?_⟩ <;> omega
    have hcut : ((([UInt8.ofNat (48 + m % 10)] : List UInt8).map bc).drop 0).take 1 = ([UInt8.ofNat (48 + m % 10)] : List UInt8).map bc := rfl
    have hless : m / 10 + 0 < m + (if s = [] then 1 else 0) := by
      by_cases hs : s = []
      · rw [if_pos hs]; omega
      · rw [if_neg hs]
        have : m ≠ 0 := fun h => hend ⟨h, hs⟩
        omega
    have hsa := str_add [UInt8.ofNat (48 + m % 10)] s
    have hszA : (⟨([UInt8.ofNat (48 + m % 10)] : List UInt8).toArray⟩ : ByteArray).size + (⟨s.toArray⟩ : ByteArray).size ≤ 9223372036854775807 := by
      show 1 + s.length ≤ _
      omega
    have hcond : (s == ([] : List UInt8)) = true ∨ ((s == ([] : List UInt8)) = false ∧ (sgn (decide (v < 0)) m != 0) = true) := by
      by_cases hs : s = []
      · exact .inl (beq_iff_eq.2 hs)
      · refine .inr ⟨beq_eq_false_iff_ne.2 hs, bne_iff_ne.2 ?_⟩
        have : m ≠ 0 := fun h => hend ⟨h, hs⟩
        unfold sgn
        split <;> omega
    have hsg : (sgn (decide (v < 0)) (m % 10) < 0 ∧ sgn (!decide (v < 0)) (m % 10) = ((m % 10 : Nat) : Int)) ∨ (¬ sgn (decide (v < 0)) (m % 10) < 0 ∧ sgn (decide (v < 0)) (m % 10) = ((m % 10 : Nat) : Int)) := by
      unfold sgn
      cases decide (v < 0) with
      | false => right; simp; omega
      | true =>
        by_cases h : m % 10 = 0
        · right; simp; omega
        · left; simp; omega
    have hn := hneg (m % 10) hp
    generalize sgn (decide (v < 0)) m = z at *
    generalize hz2 : sgn (decide (v < 0)) (m % 10) = z2 at *
    generalize sgn (!decide (v < 0)) (m % 10) = z3 at *
    generalize hb : UInt8.ofNat (48 + m % 10) = b at *
    rcases hcond with hc1 | ⟨hc1, hc2⟩
    · rcases hsg with ⟨hs1, hs2⟩ | ⟨hs1, hs2⟩
      · rw [hs2] at hn
        (refine LWP.seq <| LWP.seq <| rgN <| kmv rfl <| kse rfl rfl (strs_eq (r := true) hc1) <| kmv rfl <| RunK.passed rfl rfl rfl <| RunK.passed rfl rfl rfl <| kpt rfl rfl <| RunK.nil <| LWP.condT rfl ?_; refine LWP.skip ?_; refine LWP.block <| LWP.seq <| rgN <| kmv rfl <| K.rem rfl rfl (by decide) hmod .plain <| kas rfl <| RunK.nil <| LWP.seq <| LWP.seq <| rgN <| kmv rfl <| klt rfl rfl (decide_eq_true hs1) <| RunK.nil <| LWP.condT rfl ?_; refine rgN <| kmv rfl <| K.neg rfl hn .plain <| kas rfl <| RunK.nil <| LWP.seq <| rgN <| kmv rfl <| kad rfl rfl hadd <| kcv rfl hcv ?_; refine K.buildSlc (zs := [.int .u8 0]) (sz := 1) (e := 5) (cs' := [b].map bc) (by kernel_rfl) rfl rfl rfl rfl rfl rfl .plain <| K.convStr (l := [b]) rfl rfl (by kernel_rfl) StrT.u (Nat.le_refl _) hcut .plain <| kmv rfl <| K.strAdd rfl rfl hszA hsa .plain <| kas rfl <| RunK.nil <| rgN <| kmv rfl <| K.quo rfl rfl (by decide) hdiv .plain <| kas rfl <| RunK.nil ?_)
        exact ⟨m / 10 + 0, ⟨[(0, Ln .i64 (sgn (decide (v < 0)) (m / 10))), (3, Ls (b :: s)), (4, Lb (decide (v < 0)))], [], X⟩, hless, Le.of (by exact ⟨rfl, rfl, rfl, trivial⟩) (by exact trivial) (by exact rfl) (by exact rfl) (by repeat' (first | refine all_cons_true ?_ ?_ | rfl | exact bytes_inUse | exact vals_inUse | exact mid_inUse rfl)), m / 10, b :: s, by omega, hst, rfl, rfl⟩
      · subst hs2
        (refine LWP.seq <| LWP.seq <| rgN <| kmv rfl <| kse rfl rfl (strs_eq (r := true) hc1) <| kmv rfl <| RunK.passed rfl rfl rfl <| RunK.passed rfl rfl rfl <| kpt rfl rfl <| RunK.nil <| LWP.condT rfl ?_; refine LWP.skip ?_; refine LWP.block <| LWP.seq <| rgN <| kmv rfl <| K.rem rfl rfl (by decide) hmod .plain <| kas rfl <| RunK.nil <| LWP.seq <| LWP.seq <| rgN <| kmv rfl <| klt rfl rfl (decide_eq_false hs1) <| RunK.nil <| LWP.condF rfl ?_; refine LWP.skip ?_; refine LWP.seq <| rgN <| kmv rfl <| kad rfl rfl hadd <| kcv rfl hcv ?_; refine K.buildSlc (zs := [.int .u8 0]) (sz := 1) (e := 5) (cs' := [b].map bc) (by kernel_rfl) rfl rfl rfl rfl rfl rfl .plain <| K.convStr (l := [b]) rfl rfl (by kernel_rfl) StrT.u (Nat.le_refl _) hcut .plain <| kmv rfl <| K.strAdd rfl rfl hszA hsa .plain <| kas rfl <| RunK.nil <| rgN <| kmv rfl <| K.quo rfl rfl (by decide) hdiv .plain <| kas rfl <| RunK.nil ?_)
        exact ⟨m / 10 + 0, ⟨[(0, Ln .i64 (sgn (decide (v < 0)) (m / 10))), (3, Ls (b :: s)), (4, Lb (decide (v < 0)))], [], X⟩, hless, Le.of (by exact ⟨rfl, rfl, rfl, trivial⟩) (by exact trivial) (by exact rfl) (by exact rfl) (by repeat' (first | refine all_cons_true ?_ ?_ | rfl | exact bytes_inUse | exact vals_inUse | exact mid_inUse rfl)), m / 10, b :: s, by omega, hst, rfl, rfl⟩
    · rcases hsg with ⟨hs1, hs2⟩ | ⟨hs1, hs2⟩
      · rw [hs2] at hn
        (refine LWP.seq <| LWP.seq <| rgN <| kmv rfl <| kse rfl rfl (strs_eq (r := false) hc1) <| kmv rfl <| gmv rfl rfl rfl <| K.neq rfl rfl hc2 (.taken rfl rfl) ?_; refine kpf rfl rfl <| RunK.nil <| LWP.condT rfl ?_; refine LWP.skip ?_; refine LWP.block <| LWP.seq <| rgN <| kmv rfl <| K.rem rfl rfl (by decide) hmod .plain <| kas rfl <| RunK.nil <| LWP.seq <| LWP.seq <| rgN <| kmv rfl <| klt rfl rfl (decide_eq_true hs1) <| RunK.nil <| LWP.condT rfl ?_; refine rgN <| kmv rfl <| K.neg rfl hn .plain <| kas rfl <| RunK.nil <| LWP.seq <| rgN <| kmv rfl <| kad rfl rfl hadd <| kcv rfl hcv ?_; refine K.buildSlc (zs := [.int .u8 0]) (sz := 1) (e := 5) (cs' := [b].map bc) (by kernel_rfl) rfl rfl rfl rfl rfl rfl .plain <| K.convStr (l := [b]) rfl rfl (by kernel_rfl) StrT.u (Nat.le_refl _) hcut .plain <| kmv rfl <| K.strAdd rfl rfl hszA hsa .plain <| kas rfl <| RunK.nil <| rgN <| kmv rfl <| K.quo rfl rfl (by decide) hdiv .plain <| kas rfl <| RunK.nil ?_)
        exact ⟨m / 10 + 0, ⟨[(0, Ln .i64 (sgn (decide (v < 0)) (m / 10))), (3, Ls (b :: s)), (4, Lb (decide (v < 0)))], [], X⟩, hless, Le.of (by exact ⟨rfl, rfl, rfl, trivial⟩) (by exact trivial) (by exact rfl) (by exact rfl) (by repeat' (first | refine all_cons_true ?_ ?_ | rfl | exact bytes_inUse | exact vals_inUse | exact mid_inUse rfl)), m / 10, b :: s, by omega, hst, rfl, rfl⟩
      · subst hs2
        (refine LWP.seq <| LWP.seq <| rgN <| kmv rfl <| kse rfl rfl (strs_eq (r := false) hc1) <| kmv rfl <| gmv rfl rfl rfl <| K.neq rfl rfl hc2 (.taken rfl rfl) ?_; refine kpf rfl rfl <| RunK.nil <| LWP.condT rfl ?_; refine LWP.skip ?_; refine LWP.block <| LWP.seq <| rgN <| kmv rfl <| K.rem rfl rfl (by decide) hmod .plain <| kas rfl <| RunK.nil <| LWP.seq <| LWP.seq <| rgN <| kmv rfl <| klt rfl rfl (decide_eq_false hs1) <| RunK.nil <| LWP.condF rfl ?_; refine LWP.skip ?_; refine LWP.seq <| rgN <| kmv rfl <| kad rfl rfl hadd <| kcv rfl hcv ?_; refine K.buildSlc (zs := [.int .u8 0]) (sz := 1) (e := 5) (cs' := [b].map bc) (by kernel_rfl) rfl rfl rfl rfl rfl rfl .plain <| K.convStr (l := [b]) rfl rfl (by kernel_rfl) StrT.u (Nat.le_refl _) hcut .plain <| kmv rfl <| K.strAdd rfl rfl hszA hsa .plain <| kas rfl <| RunK.nil <| rgN <| kmv rfl <| K.quo rfl rfl (by decide) hdiv .plain <| kas rfl <| RunK.nil ?_)
        exact ⟨m / 10 + 0, ⟨[(0, Ln .i64 (sgn (decide (v < 0)) (m / 10))), (3, Ls (b :: s)), (4, Lb (decide (v < 0)))], [], X⟩, hless, Le.of (by exact ⟨rfl, rfl, rfl, trivial⟩) (by exact trivial) (by exact rfl) (by exact rfl) (by repeat' (first | refine all_cons_true ?_ ?_ | rfl | exact bytes_inUse | exact vals_inUse | exact mid_inUse rfl)), m / 10, b :: s, by omega, hst, rfl, rfl⟩
end Go.Proofs.YtimpjdbhalnofaaGreatDoor
end
section
namespace Go.Proofs.YtimpjdbhalnofaaGreatDoor
open Go Go.Lg Go.Lg.Fml
abbrev Nm := Bool × Int
def gd (n : Nm) : Bool := formB n.1 n.2
def zz (n : Nm) : Int := zv n.1 n.2
def okI (x : Ins) : Bool := (decide (1 ≤ x.op) && decide (x.op ≤ 17)) && (gd x.k && ((decide (0 ≤ x.a) && decide (x.a ≤ 7)) && (decide (0 ≤ x.b) && decide (x.b ≤ 7))))
theorem okI_facts {x : Ins} (h : okI x = true) : (1 ≤ x.op ∧ x.op ≤ 17) ∧ gd x.k = true ∧ (0 ≤ x.a ∧ x.a ≤ 7) ∧ (0 ≤ x.b ∧ x.b ≤ 7) := by
  unfold okI at h
  simp only [Bool.and_eq_true, decide_eq_true_eq] at h
  exact ⟨h.1, h.2.1, h.2.2.1, h.2.2.2⟩
def chkX (l : List Ins) : Int := if 64 < l.length then 5 else if dep okI 0 l = some 1 then 0 else 4
theorem chkX_zero {l : List Ins} (h : chkX l = 0) : l.length ≤ 64 ∧ dep okI 0 l = some 1 := by
  unfold chkX at h
  split at h
  · cases h
  · split at h
    · rename_i h1 h2; exact ⟨by omega, h2⟩
    · cases h
theorem dep_ok {okJ : Ins → Bool} : ∀ {l : List Ins} {n m : Nat}, dep okJ n l = some m → ∀ x ∈ l, okJ x = true
  | [], _, _, _, x, hx => by cases hx
  | y :: l, n, m, h, x, hx => by
    simp only [dep] at h
    split at h
    · rename_i h1
      rcases List.mem_cons.1 hx with rfl | hx
      · exact h1.1
      · exact dep_ok h x hx
    · cases h
theorem chkX_ok {l : List Ins} (h : chkX l = 0) : ∀ x ∈ l, okI x = true := dep_ok (chkX_zero h).2
def truth (b : Bool) : Nm := (false, if b then 1 else 0)
def elemX (fs : List (List Nm)) (a b : Int) : Except Int Nm :=
  if a < 0 ∨ b < 0 then .error 3 else match fs[a.toNat]? with
    | none => .error 3
    | some r => match r[b.toNat]? with
      | none => .error 3
      | some v => .ok v
def leafX (fs : List (List Nm)) (at_ : Int) (x : Ins) : Except Int Nm :=
  if x.op = 1 then .ok x.k else if x.op = 4 then (if at_ < 0 then .error 3 else .ok (false, at_)) else elemX fs x.a (if x.op = 3 then at_ else x.b)
def arith (op x y : Int) : Int := if op = 5 then x + y else if op = 6 then x - y else if op = 7 then x * y else if op = 8 then x.tdiv y else x.tmod y
instance decR127 (z : Int) : Decidable (R127 z) := by unfold R127; exact inferInstance
def doX (op : Int) (x y : Nm) : Except Int Nm :=
  if (gd x && gd y) = false then .error 1 else if 7 < op ∧ zz y = 0 then .error 1 else if R127 (arith op (zz x) (zz y)) then .ok (qn (arith op (zz x) (zz y))) else .error 3
def nodeX (op : Int) : List Nm → Except Int Nm
  | [x] => if gd x = false then .error 1 else if op = 10 then .ok (qn (-(zz x))) else .ok (truth (decide (x = (false, 0))))
  | [x, y] => if 5 ≤ op ∧ op ≤ 9 then doX op x y
    else if op = 17 then (if gd y = false then .error 1 else if y = (false, 0) then .error 9 else .ok x)
    else if (gd x && gd y) = false then .error 1
    else if op = 11 then .ok (if zz y < zz x then y else x)
    else if op = 12 then .ok (if zz x < zz y then y else x)
    else if op = 13 then .ok (truth (decide (x = y)))
    else .ok (truth (decide (zz x < zz y)))
  | [x, y, z] => if gd x = false then .error 1 else .ok (if x = (false, 0) then z else y)
  | _ => .error 0
def oneX (fs : List (List Nm)) (at_ : Int) (x : Ins) (a : List Nm) : Except Int Nm := if takes x.op = 0 then leafX fs at_ x else nodeX x.op a
def lastX : Except Int (List Nm) → Except Int Nm
  | .error e => .error e
  | .ok [v] => if gd v = true then .ok v else .error 4
  | .ok _ => .error 4
def evX (l : List Ins) (fs : List (List Nm)) (at_ : Int) : Except Int Nm := if chkX l = 0 then lastX (run (oneX fs at_) l []) else .error (chkX l)
theorem evX_tree {l : List Ins} {t : Tr} {fs : List (List Nm)} {at_ : Int} (h : chkX l = 0) (ht : t.ok) (hl : t.flat = l) : evX l fs at_ = match t.ev (oneX fs at_) with | .error e => .error e | .ok v => if gd v = true then .ok v else .error 4 := by
  unfold evX
  rw [if_pos h, ← hl, ← List.append_nil t.flat, run_flat ht]
  cases t.ev (oneX fs at_) with
  | error e => rfl
  | ok v => rfl
def dg1 (n : Int) : List UInt8 := Lib.itoa n
def wordX (op : Int) : List UInt8 :=
  if op = 5 then [97, 100, 100] else if op = 6 then [115, 117, 98] else if op = 7 then [109, 117, 108] else if op = 8 then [113, 117, 111] else if op = 9 then [114, 101, 109]
  else if op = 10 then [110, 101, 103] else if op = 11 then [108, 101, 97, 115, 116] else if op = 12 then [103, 114, 101, 97, 116] else if op = 13 then [115, 97, 109, 101]
  else if op = 14 then [108, 101, 115, 115] else if op = 15 then [110, 111, 116] else if op = 16 then [112, 105, 99, 107] else [110, 101, 101, 100]
def leafS (x : Ins) : List UInt8 :=
  if x.op = 1 then textQ (zz x.k) else if x.op = 2 then ([102] ++ dg1 x.a) ++ ([46] ++ dg1 x.b) else if x.op = 3 then ([102] ++ dg1 x.a) ++ [64] else [64]
def joinS : List (List UInt8) → List UInt8
  | [] => []
  | [a] => a
  | a :: b :: t => (a ++ [44]) ++ joinS (b :: t)
def oneS (x : Ins) (a : List (List UInt8)) : Except Int (List UInt8) := .ok (if takes x.op = 0 then leafS x else ((wordX x.op ++ [40]) ++ joinS a) ++ [41])
def showX (l : List Ins) : List UInt8 := if chkX l = 0 then (match run oneS l [] with | .ok [s] => s | _ => []) else []
def Tr.txt (t : Tr) : List UInt8 := match t.ev oneS with | .ok s => s | .error _ => []
theorem ev_txt : ∀ t : Tr, t.ev oneS = .ok (Tr.txt t)
  | .n0 x => rfl
  | .n1 x a => by unfold Tr.txt; simp only [Tr.ev, ev_txt a]; rfl
  | .n2 x a b => by unfold Tr.txt; simp only [Tr.ev, ev_txt a, ev_txt b]; rfl
  | .n3 x a b c => by unfold Tr.txt; simp only [Tr.ev, ev_txt a, ev_txt b, ev_txt c]; rfl
theorem showX_tree {l : List Ins} {t : Tr} (h : chkX l = 0) (ht : t.ok) (hl : t.flat = l) : showX l = Tr.txt t := by
  unfold showX
  rw [if_pos h, ← hl, ← List.append_nil t.flat, run_flat ht, ev_txt t]
  rfl
def usesX (l : List Ins) : List Ins := l.filter fun x => x.op == 2 || x.op == 3
theorem doX_bad {op : Int} {x y : Nm} (h : (gd x && gd y) = false) : doX op x y = .error 1 := if_pos h
theorem node_err {op : Int} {a : List Nm} {e : Int} (ha : a.length = 1 ∨ a.length = 2 ∨ a.length = 3) (h : nodeX op a = .error e) : e ≠ 0 := by
  match a, ha with
  | [x], _ =>
    simp only [nodeX] at h
    repeat' (split at h <;> try (first | (simp only [Except.error.injEq] at h; omega) | cases h))
  | [x, y], _ =>
    simp only [nodeX, doX] at h
    repeat' (split at h <;> try (first | (simp only [Except.error.injEq] at h; omega) | cases h))
  | [x, y, z], _ =>
    simp only [nodeX] at h
    repeat' (split at h <;> try (first | (simp only [Except.error.injEq] at h; omega) | cases h))
  | [], ha => simp at ha
  | _ :: _ :: _ :: _ :: _, ha => simp at ha
theorem leaf_err {fs : List (List Nm)} {at_ : Int} {x : Ins} {e : Int} (h : leafX fs at_ x = .error e) : e ≠ 0 := by
  simp only [leafX, elemX] at h
  repeat' (split at h <;> try (first | (simp only [Except.error.injEq] at h; omega) | cases h))
theorem one_err {fs : List (List Nm)} {at_ : Int} {x : Ins} {a : List Nm} {e : Int} (ha : a.length = takes x.op) (h : oneX fs at_ x a = .error e) : e ≠ 0 := by
  unfold oneX at h
  have := takes_le x.op
  split at h
  · exact leaf_err h
  · exact node_err (by omega) h
theorem tree_err {fs : List (List Nm)} {at_ : Int} : ∀ {t : Tr} {e : Int}, t.ok → t.ev (oneX fs at_) = .error e → e ≠ 0
  | .n0 x, e, ht, h => one_err (a := []) (show _ = takes x.op from (show takes x.op = 0 from ht).symm) h
  | .n1 x a, e, ht, h => by
    simp only [Tr.ev] at h
    cases ha : a.ev (oneX fs at_) with
    | error e' => rw [ha] at h; simp only [Except.error.injEq] at h; subst h; exact tree_err ht.2 ha
    | ok u => rw [ha] at h; exact one_err (a := [u]) ht.1.symm h
  | .n2 x a b, e, ht, h => by
    simp only [Tr.ev] at h
    cases ha : a.ev (oneX fs at_) with
    | error e' => rw [ha] at h; simp only [Except.error.injEq] at h; subst h; exact tree_err ht.2.1 ha
    | ok u =>
      rw [ha] at h
      simp only at h
      cases hb : b.ev (oneX fs at_) with
      | error e' => rw [hb] at h; simp only [Except.error.injEq] at h; subst h; exact tree_err ht.2.2 hb
      | ok v => rw [hb] at h; exact one_err (a := [u, v]) ht.1.symm h
  | .n3 x a b c, e, ht, h => by
    simp only [Tr.ev] at h
    cases ha : a.ev (oneX fs at_) with
    | error e' => rw [ha] at h; simp only [Except.error.injEq] at h; subst h; exact tree_err ht.2.1 ha
    | ok u =>
      rw [ha] at h
      simp only at h
      cases hb : b.ev (oneX fs at_) with
      | error e' => rw [hb] at h; simp only [Except.error.injEq] at h; subst h; exact tree_err ht.2.2.1 hb
      | ok v =>
        rw [hb] at h
        simp only at h
        cases hc : c.ev (oneX fs at_) with
        | error e' => rw [hc] at h; simp only [Except.error.injEq] at h; subst h; exact tree_err ht.2.2.2 hc
        | ok w => rw [hc] at h; exact one_err (a := [u, v, w]) ht.1.symm h
theorem evX_err {l : List Ins} {fs : List (List Nm)} {at_ e : Int} (h : evX l fs at_ = .error e) : e ≠ 0 := by
  by_cases hz : chkX l = 0
  · obtain ⟨t, ht, hl⟩ := parse (chkX_zero hz).2
    rw [evX_tree hz ht hl] at h
    cases hv : t.ev (oneX fs at_) with
    | error e' => rw [hv] at h; simp only [Except.error.injEq] at h; subst h; exact tree_err ht hv
    | ok v =>
      rw [hv] at h
      simp only at h
      split at h
      · cases h
      · simp only [Except.error.injEq] at h; omega
  · unfold evX at h
    rw [if_neg hz] at h
    simp only [Except.error.injEq] at h
    omega
end Go.Proofs.YtimpjdbhalnofaaGreatDoor
end
section
namespace Go.Proofs.YtimpjdbhalnofaaGreatDoor
open Go Go.Lg Go.Lg.Fml Go.Lg.Fld
def o8 (n : Int) : UInt8 := UInt8.ofNat (n % 256).toNat
def loW (n : Int) : Nat := (n % 18446744073709551616).toNat
def hiW (n : Int) : Nat := (n / 18446744073709551616).toNat
def sgB (b : Bool) : UInt8 := if b then 1 else 0
def encI (x : Ins) : List UInt8 := o8 x.op :: (if x.op = 1 then sgB x.k.1 :: (leB 8 (loW x.k.2) ++ leB 8 (hiW x.k.2)) else if x.op = 2 then [o8 x.a, o8 x.b] else if x.op = 3 then [o8 x.a] else [])
def encIs : List Ins → List UInt8
  | [] => []
  | x :: t => encI x ++ encIs t
theorem encIs_app : ∀ (a b : List Ins), encIs (a ++ b) = encIs a ++ encIs b
  | [], _ => rfl
  | x :: t, b => by simp only [List.cons_append, encIs, encIs_app t b, List.append_assoc]
def plainI (x : Ins) : Bool := (decide (x.op = 1) || decide (x.k = (false, 0))) && ((decide (x.op = 2) || decide (x.b = 0)) && (decide (x.op = 2) || (decide (x.op = 3) || decide (x.a = 0))))
def encX (l : List Ins) : List UInt8 := o8 (l.length : Nat) :: encIs l
def encErr (l : List Ins) : Int := if chkX l = 0 then (if l.all plainI = true then 0 else 1) else chkX l
def encTX (l : List Ins) : List UInt8 := if encErr l = 0 then encX l else []
def getI : List UInt8 → Option (Ins × List UInt8)
  | [] => none
  | o :: r => if o.toNat = 1 then (match r with
      | [] => none
      | s :: r => if s.toNat ≤ 1 ∧ 16 ≤ r.length then some (⟨1, 0, 0, (decide (s.toNat = 1), ((le (r.take 8) + 18446744073709551616 * le ((r.drop 8).take 8) : Nat) : Int))⟩, r.drop 16) else none)
    else if o.toNat = 2 then (match r with
      | a :: b :: r => some (⟨2, (a.toNat : Nat), (b.toNat : Nat), (false, 0)⟩, r)
      | _ => none)
    else if o.toNat = 3 then (match r with
      | a :: r => some (⟨3, (a.toNat : Nat), 0, (false, 0)⟩, r)
      | _ => none)
    else some (⟨(o.toNat : Nat), 0, 0, (false, 0)⟩, r)
def getIs : Nat → List UInt8 → Option (List Ins × List UInt8)
  | 0, b => some ([], b)
  | n + 1, b => match getI b with
    | some (x, r) => match getIs n r with
      | some (l, r') => some (x :: l, r')
      | none => none
    | none => none
def decX : List UInt8 → Option (List Ins)
  | [] => none
  | n :: r => match getIs n.toNat r with
    | some (l, []) => if chkX l = 0 then some l else none
    | _ => none
theorem words {n : Int} (h : In2 n) : ((loW n + 18446744073709551616 * hiW n : Nat) : Int) = n ∧ loW n < 256 ^ 8 ∧ hiW n < 256 ^ 8 := by
  have hp : (256 : Nat) ^ 8 = 18446744073709551616 := by decide
  unfold In2 at h
  unfold loW hiW
  omega
theorem encI_len (x : Ins) : 1 ≤ (encI x).length ∧ (encI x).length ≤ 18 := by
  unfold encI
  split
  · simp only [List.length_cons, List.length_append, leB_length]; omega
  · split
    · simp
    · split <;> simp
theorem encIs_len : ∀ l : List Ins, (encIs l).length ≤ l.length * 18
  | [] => by simp [encIs]
  | x :: t => by have := (encI_len x).2; have := encIs_len t; simp only [encIs, List.length_append, List.length_cons]; omega
end Go.Proofs.YtimpjdbhalnofaaGreatDoor
end
section
namespace Go.Lg.Fml
def Tr.args : Tr → List Tr
  | .n0 _ => []
  | .n1 _ a => [a]
  | .n2 _ a b => [a, b]
  | .n3 _ a b c => [a, b, c]
def flatL : List Tr → List Ins
  | [] => []
  | a :: r => a.flat ++ flatL r
def endsL (p : Nat) : List Tr → List Nat
  | [] => []
  | a :: r => (p + a.flat.length - 1) :: endsL (p + a.flat.length) r
theorem flat_args (t : Tr) : t.flat = flatL t.args ++ [t.top] := by
  cases t <;> simp [Tr.flat, Tr.args, flatL, Tr.top]
theorem ok_args {t : Tr} (h : t.ok) : takes t.top.op = t.args.length ∧ ∀ a ∈ t.args, a.ok := by
  cases t with
  | n0 x => exact ⟨h, fun a ha => by cases ha⟩
  | n1 x a => exact ⟨h.1, fun u hu => by simp only [Tr.args, List.mem_cons, List.not_mem_nil, or_false] at hu; subst hu; exact h.2⟩
  | n2 x a b => exact ⟨h.1, fun u hu => by
      simp only [Tr.args, List.mem_cons, List.not_mem_nil, or_false] at hu
      rcases hu with rfl | rfl
      · exact h.2.1
      · exact h.2.2⟩
  | n3 x a b c => exact ⟨h.1, fun u hu => by
      simp only [Tr.args, List.mem_cons, List.not_mem_nil, or_false] at hu
      rcases hu with rfl | rfl | rfl
      · exact h.2.1
      · exact h.2.2.1
      · exact h.2.2.2⟩
theorem args_le (t : Tr) : t.args.length ≤ 3 := by cases t <;> simp [Tr.args]
theorem flatL_app : ∀ (a b : List Tr), flatL (a ++ b) = flatL a ++ flatL b
  | [], b => rfl
  | x :: a, b => by simp only [List.cons_append, flatL, flatL_app a b, List.append_assoc]
theorem endsL_app : ∀ (a b : List Tr) (p : Nat), endsL p (a ++ b) = endsL p a ++ endsL (p + (flatL a).length) b
  | [], b, p => by simp [endsL, flatL]
  | x :: a, b, p => by simp only [List.cons_append, endsL, flatL, endsL_app a b, List.length_append]; rw [Nat.add_assoc]
theorem endsL_len : ∀ (us : List Tr) (p : Nat), (endsL p us).length = us.length
  | [], _ => rfl
  | a :: r, p => by simp only [endsL, List.length_cons, endsL_len r]
section
variable {V : Type} (one : Ins → List V → Except Int V)
def evL : List Tr → Except Int (List V)
  | [] => .ok []
  | a :: r => match a.ev one with
    | .error e => .error e
    | .ok u => match evL r with
      | .error e => .error e
      | .ok vs => .ok (u :: vs)
variable {one}
theorem ev_args (t : Tr) : t.ev one = match evL one t.args with | .error e => .error e | .ok vs => one t.top vs := by
  cases t with
  | n0 x => rfl
  | n1 x a =>
    simp only [Tr.ev, Tr.args, evL, Tr.top]
    cases a.ev one <;> rfl
  | n2 x a b =>
    simp only [Tr.ev, Tr.args, evL, Tr.top]
    cases a.ev one with
    | error e => rfl
    | ok u => cases b.ev one <;> rfl
  | n3 x a b c =>
    simp only [Tr.ev, Tr.args, evL, Tr.top]
    cases a.ev one with
    | error e => rfl
    | ok u => cases b.ev one with
      | error e => rfl
      | ok v => cases c.ev one <;> rfl
theorem evL_step : ∀ {us : List Tr} {i : Nat} {vs : List V} {a : Tr}, evL one (us.take i) = .ok vs → us[i]? = some a → evL one (us.take (i + 1)) = match a.ev one with | .error e => .error e | .ok u => .ok (vs ++ [u])
  | [], i, vs, a, h, ha => by simp at ha
  | b :: us, 0, vs, a, h, ha => by
    simp only [List.getElem?_cons_zero, Option.some.injEq] at ha
    subst ha
    simp only [List.take_zero, evL, Except.ok.injEq] at h
    subst h
    simp only [List.take_succ_cons, List.take_zero, evL]
    cases b.ev one <;> rfl
  | b :: us, i + 1, vs, a, h, ha => by
    simp only [List.getElem?_cons_succ] at ha
    simp only [List.take_succ_cons, evL] at h ⊢
    cases hb : b.ev one with
    | error e => rw [hb] at h; cases h
    | ok u =>
      rw [hb] at h
      simp only at h ⊢
      cases hv : evL one (us.take i) with
      | error e => rw [hv] at h; cases h
      | ok ws =>
        rw [hv] at h
        simp only [Except.ok.injEq] at h
        subst h
        rw [evL_step hv ha]
        cases a.ev one <;> rfl
theorem evL_fail : ∀ {us : List Tr} {i : Nat} {vs : List V} {a : Tr} {e : Int}, evL one (us.take i) = .ok vs → us[i]? = some a → a.ev one = .error e → evL one us = .error e
  | [], i, vs, a, e, h, ha, _ => by simp at ha
  | b :: us, 0, vs, a, e, h, ha, he => by
    simp only [List.getElem?_cons_zero, Option.some.injEq] at ha
    subst ha
    simp only [evL, he]
  | b :: us, i + 1, vs, a, e, h, ha, he => by
    simp only [List.getElem?_cons_succ] at ha
    simp only [List.take_succ_cons, evL] at h ⊢
    cases hb : b.ev one with
    | error e => rw [hb] at h; cases h
    | ok u =>
      rw [hb] at h
      simp only at h ⊢
      cases hv : evL one (us.take i) with
      | error e => rw [hv] at h; cases h
      | ok ws =>
        rw [evL_fail hv ha he]
theorem evL_len : ∀ {us : List Tr} {vs : List V}, evL one us = .ok vs → vs.length = us.length
  | [], vs, h => by simp only [evL, Except.ok.injEq] at h; subst h; rfl
  | b :: us, vs, h => by
    simp only [evL] at h
    cases hb : b.ev one with
    | error e => rw [hb] at h; cases h
    | ok u =>
      rw [hb] at h
      simp only at h
      cases hv : evL one us with
      | error e => rw [hv] at h; cases h
      | ok ws =>
        rw [hv] at h
        simp only [Except.ok.injEq] at h
        subst h
        rw [List.length_cons, List.length_cons, evL_len hv]
end
def At (l : List Ins) (p : Nat) (t : Tr) : Prop := ∃ pre suf, l = pre ++ (t.flat ++ suf) ∧ pre.length = p
theorem At.len {l : List Ins} {p : Nat} {t : Tr} (h : At l p t) : p + t.flat.length ≤ l.length := by
  obtain ⟨pre, suf, rfl, rfl⟩ := h
  simp only [List.length_append]; omega
theorem At.get {l : List Ins} {p : Nat} {t : Tr} (h : At l p t) {k : Nat} (hk : k < t.flat.length) : l[p + k]? = t.flat[k]? := by
  obtain ⟨pre, suf, rfl, rfl⟩ := h
  rw [List.getElem?_append_right (by omega), Nat.add_sub_cancel_left, List.getElem?_append_left hk]
theorem At.top {l : List Ins} {p : Nat} {t : Tr} (h : At l p t) : l[p + t.flat.length - 1]? = some t.top := by
  obtain ⟨r, hr⟩ := flat_top t
  have hl : t.flat.length = r.length + 1 := by rw [hr]; simp
  have := h.get (k := r.length) (by omega)
  rw [show p + t.flat.length - 1 = p + r.length by omega, this, hr, List.getElem?_append_right (Nat.le_refl _), Nat.sub_self]
  rfl
theorem At.arg {l : List Ins} {p : Nat} {t : Tr} (h : At l p t) {i : Nat} {a : Tr} (ha : t.args[i]? = some a) : At l (p + (flatL (t.args.take i)).length) a ∧ (endsL p t.args)[i]? = some (p + (flatL (t.args.take i)).length + a.flat.length - 1) := by
  have hsp : t.args = t.args.take i ++ a :: t.args.drop (i + 1) := by
    obtain ⟨hi, e⟩ := List.getElem?_eq_some_iff.1 ha
    rw [← e, List.getElem_cons_drop, List.take_append_drop]
  have hil : (t.args.take i).length = i := by rw [List.length_take]; have := (List.getElem?_eq_some_iff.1 ha).1; omega
  refine ⟨?_, ?_⟩
  · obtain ⟨pre, suf, rfl, rfl⟩ := h
    refine ⟨pre ++ flatL (t.args.take i), flatL (t.args.drop (i + 1)) ++ ([t.top] ++ suf), ?_, by rw [List.length_append]⟩
    rw [flat_args t]
    conv => lhs; rw [hsp]
    rw [flatL_app]
    simp only [flatL, List.append_assoc]
  · conv => lhs; rw [hsp]
    rw [endsL_app, List.getElem?_append_right (by rw [endsL_len, hil]; exact Nat.le_refl _), endsL_len, hil, Nat.sub_self]
    rfl
theorem back_step {t : Tr} (ht : t.ok) {k : Nat} {x : Ins} (hx : t.flat[k]? = some x) : 1 + surplus (t.flat.drop k) = (1 + surplus (t.flat.drop (k + 1))) - 1 + (takes x.op : Int) ∧ (k = 0 → 1 + surplus (t.flat.drop k) = 0) ∧ (k ≠ 0 → 1 ≤ 1 + surplus (t.flat.drop k)) := by
  obtain ⟨hk, e⟩ := List.getElem?_eq_some_iff.1 hx
  have h1 : t.flat.drop k = x :: t.flat.drop (k + 1) := by rw [List.drop_eq_getElem_cons hk, e]
  refine ⟨?_, fun h0 => ?_, fun h0 => ?_⟩
  · rw [h1]; simp only [surplus]; omega
  · subst h0; rw [List.drop_zero, flat_sum ht]; decide
  · have := flat_back ht (t.flat.take k) (t.flat.drop k) (List.take_append_drop _ _).symm (fun h => h0 (by have := congrArg List.length h; rw [List.length_take, List.length_nil] at this; omega))
    omega
end Go.Lg.Fml
end
section
namespace Go.Proofs.YtimpjdbhalnofaaGreatDoor
open Go Go.Lg Go.Lg.Fml Go.Lg.Fld
def insV (x : Ins) : List Value := [.int .i64 x.op, .int .i64 x.a, .int .i64 x.b, .bool x.k.1, .int .u64 (x.k.2 / 18446744073709551616), .int .u64 (x.k.2 % 18446744073709551616)]
def smallI (x : Ins) : Prop := (-9223372036854775808 ≤ x.op ∧ x.op < 9223372036854775808) ∧ (-9223372036854775808 ≤ x.a ∧ x.a < 9223372036854775808) ∧ (-9223372036854775808 ≤ x.b ∧ x.b < 9223372036854775808) ∧ In2 x.k.2
structure InsIn (X : Nat → Option Obj) (ad : Option Addr) (l : List Ins) : Prop where
  rows : Go.Lg.RowsIn X ad 6 (l.map insV)
  small : ∀ x ∈ l, smallI x
theorem InsIn.mono {X Y : Nat → Option Obj} (hXY : ∀ b o, X b = some o → Y b = some o) {ad : Option Addr} {l : List Ins} (h : InsIn X ad l) : InsIn Y ad l := ⟨h.rows.mono hXY, h.small⟩
theorem InsIn.at {X : Nat → Option Obj} {ad : Option Addr} {l : List Ins} (h : InsIn X ad l) {i : Nat} {x : Ins} (hx : l[i]? = some x) :
    ∃ (blk off : Nat) (arr : Array Value) (el : TypeId) (fr : Nat × Nat), ad = some ⟨blk, off, none⟩ ∧ X blk = some (.cells arr el fr) ∧ off + i * 6 + 6 ≤ arr.size ∧ ((arr.toList.drop (off + i * 6)).take 6).map CV.val = (insV x).map CV.val ∧ arr[off + i * 6]? = some (.int .i64 x.op) := by
  obtain ⟨blk, off, arr, el, fr, h1, h2, h3, h4⟩ := h.rows i (insV x) (by rw [List.getElem?_map, hx]; rfl)
  refine ⟨blk, off, arr, el, fr, h1, h2, h3, by rw [h4], ?_⟩
  have h5 : ((arr.toList.drop (off + i * 6)).take 6)[0]? = some (.int .i64 x.op) := by rw [h4]; rfl
  rw [List.getElem?_take, if_pos (by decide), List.getElem?_drop, Nat.add_zero, Array.getElem?_toList] at h5
  exact h5
structure FssIn (X : Nat → Option Obj) (ad : Option Addr) (fss : List (List Nm)) : Prop where
  at_ : ∀ (i : Nat) (r : List Nm), fss[i]? = some r → ∃ (blk off : Nat) (arr : Array Value) (el : TypeId) (fr : Nat × Nat) (vad : Option Addr) (vcap : Nat), ad = some ⟨blk, off, none⟩ ∧ X blk = some (.cells arr el fr) ∧ off + i * 1 + 1 ≤ arr.size ∧ arr[off + i]? = some (.slice vad r.length vcap) ∧ NumsIn X vad r
theorem FssIn.mono {X Y : Nat → Option Obj} (hXY : ∀ b o, X b = some o → Y b = some o) {ad : Option Addr} {fss : List (List Nm)} (h : FssIn X ad fss) : FssIn Y ad fss := ⟨fun i r hr => by
  obtain ⟨blk, off, arr, el, fr, vad, vcap, h1, h2, h3, h4, h5⟩ := h.at_ i r hr
  exact ⟨blk, off, arr, el, fr, vad, vcap, h1, hXY _ _ h2, h3, h4, h5.rows.mono hXY, h5.in2⟩⟩
abbrev LIn (x : Ins) : LV := .sv (.agg ((insV x).map .val))
abbrev LEnv (fad : Option Addr) (n cap : Nat) (at_ : Int) : LV := .sv (.agg [.val (.slice fad n cap), .val (.int .i64 at_)])
end Go.Proofs.YtimpjdbhalnofaaGreatDoor
end
section
namespace Go.Proofs.YtimpjdbhalnofaaGreatDoor
open Go Go.Lg Go.Lg.Fml Go.Lg.Fld Go.RowKit Go.ChangeShapes Go.WideShapes Go.Joins
set_option maxRecDepth 100000
section
variable {H : Type} {enc : TypeId × Value → H} {w : World}
theorem open_inss {r : Reach} {b0 : Nat} {v : Value} {d : DataW H} {p : List MemPlace} (hv : Value.okWide Tryz.prog w r b0 22 v) (h : DataW.Trod enc Tryz.prog w 0 (fun _ => true) true 22 v d p) :
    ∃ (ad : Option Addr) (cap : Nat) (l : List Ins), v = .slice ad l.length cap ∧ l.length < 9223372036854775808 ∧ InsIn (fun b => w.heap[b]?) ad l := by
  obtain ⟨ad, cap, rows, rfl, h1, h2, h3, h4, _⟩ := open_rows (e := 44) (sz := 6) (by kernel_rfl) (by kernel_rfl) (by decide) hv h
  obtain ⟨l, rfl, h5⟩ := map_of (f := insV) (q := smallI) (vs := rows) (fun u hu => by
    obtain ⟨hlen, n, x, hx⟩ := h4 u hu
    obtain ⟨y0, y1, y2, y3, n', _, _, g0, g1, g2, g3⟩ := trod_struct4 (t := 44) Tryz.underlying44 hx
    obtain ⟨c0, c1, c2, c3, c4, c5, rfl⟩ : ∃ c0 c1 c2 c3 c4 c5, u = [c0, c1, c2, c3, c4, c5] := by
      match u, hlen with
      | [c0, c1, c2, c3, c4, c5], _ => exact ⟨c0, c1, c2, c3, c4, c5, rfl⟩
    obtain ⟨k0, e0, _, wa0⟩ := DataW.trod_int (k := .i64) (by kernel_rfl) g0
    obtain ⟨k1, e1, _, wa1⟩ := DataW.trod_int (k := .i64) (by kernel_rfl) g1
    obtain ⟨k2, e2, _, wa2⟩ := DataW.trod_int (k := .i64) (by kernel_rfl) g2
    obtain ⟨z0, z1, z2, m', _, _, j0, j1, j2⟩ := Deep.trod_struct3 (t := 30) Tryz.underlying30 g3
    obtain ⟨b, e3, _⟩ := DataW.trod_bool (by kernel_rfl) j0
    obtain ⟨x, e4, _, wa4⟩ := DataW.trod_int (k := .u64) (by kernel_rfl) j1
    obtain ⟨y, e5, _, wa5⟩ := DataW.trod_int (k := .u64) (by kernel_rfl) j2
    have q0 : c0 = .int .i64 k0 := by simpa using (show ([c0, c1, c2, c3, c4, c5].drop 0).take 1 = [.int .i64 k0] from e0)
    have q1 : c1 = .int .i64 k1 := by simpa using (show ([c0, c1, c2, c3, c4, c5].drop 1).take 1 = [.int .i64 k1] from e1)
    have q2 : c2 = .int .i64 k2 := by simpa using (show ([c0, c1, c2, c3, c4, c5].drop 2).take 1 = [.int .i64 k2] from e2)
    have q3 : c3 = .bool b := by simpa using (show ((([c0, c1, c2, c3, c4, c5].drop 3).take 3).drop 0).take 1 = [.bool b] from e3)
    have q4 : c4 = .int .u64 x := by simpa using (show ((([c0, c1, c2, c3, c4, c5].drop 3).take 3).drop 1).take 1 = [.int .u64 x] from e4)
    have q5 : c5 = .int .u64 y := by simpa using (show ((([c0, c1, c2, c3, c4, c5].drop 3).take 3).drop 2).take 1 = [.int .u64 y] from e5)
    subst q0 q1 q2 q3 q4 q5
    have b0 := bounds_i64 wa0
    have b1 := bounds_i64 wa1
    have b2 := bounds_i64 wa2
    have b4 := bounds_u64 wa4
    have b5 := bounds_u64 wa5
    refine ⟨⟨k0, k1, k2, (b, x * 18446744073709551616 + y)⟩, ?_, by show -9223372036854775808 ≤ k0 ∧ k0 < 9223372036854775808; omega, by show -9223372036854775808 ≤ k1 ∧ k1 < 9223372036854775808; omega, by show -9223372036854775808 ≤ k2 ∧ k2 < 9223372036854775808; omega, by show 0 ≤ x * 18446744073709551616 + y; omega, by show x * 18446744073709551616 + y < _; omega⟩
    unfold insV
    show _ = [Value.int .i64 k0, .int .i64 k1, .int .i64 k2, .bool b, .int .u64 ((x * 18446744073709551616 + y) / 18446744073709551616), .int .u64 ((x * 18446744073709551616 + y) % 18446744073709551616)]
    rw [show (x * 18446744073709551616 + y) / 18446744073709551616 = x by omega, show (x * 18446744073709551616 + y) % 18446744073709551616 = y by omega])
  exact ⟨ad, cap, l, by rw [List.length_map], by rw [List.length_map] at h1; unfold maxLen at h2; omega, ⟨h3, h5⟩⟩
theorem open_nums_b {fuel : Nat} {l : List Value} {x : DataW H × List MemPlace} (h : DataW.trod enc Tryz.prog w 0 (fun _ => true) true fuel 58 l = some x) :
    ∃ (ad : Option Addr) (cap : Nat) (ns : List (Bool × Int)), l = [.slice ad ns.length cap] ∧ ns.length < 9223372036854775808 ∧ NumsIn (fun b => w.heap[b]?) ad ns := by
  obtain ⟨ad2, cap2, rows2, e2, k1, k2, _, _⟩ := open_rows_l (e := 30) (sz := 3) (by kernel_rfl) (by kernel_rfl) (by decide) h
  obtain ⟨ad, cap, ns, e1, h1⟩ := open_nums_l h
  rw [e1] at e2
  simp only [List.cons.injEq, Value.slice.injEq, and_true] at e2
  exact ⟨ad, cap, ns, e1, by unfold maxLen at k2; omega, h1⟩
theorem open_fss {r : Reach} {b0 : Nat} {v : Value} {d : DataW H} {p : List MemPlace} (hv : Value.okWide Tryz.prog w r b0 23 v) (h : DataW.Trod enc Tryz.prog w 0 (fun _ => true) true 23 v d p) :
    ∃ (ad : Option Addr) (cap : Nat) (fs : List (List Nm)), v = .slice ad fs.length cap ∧ fs.length < 9223372036854775808 ∧ FssIn (fun b => w.heap[b]?) ad fs ∧ ∀ r ∈ fs, r.length < 9223372036854775808 := by
  obtain ⟨ad, cap, rows, rfl, h1, h2, h3, h4, _⟩ := open_rows (e := 58) (sz := 1) (by kernel_rfl) (by kernel_rfl) (by decide) hv h
  obtain ⟨ts, rfl, h5⟩ := map_of (f := fun t : List Nm × Option Addr × Nat => [Value.slice t.2.1 t.1.length t.2.2]) (q := fun t => NumsIn (fun b => w.heap[b]?) t.2.1 t.1 ∧ t.1.length < 9223372036854775808) (vs := rows) (fun u hu => by
    obtain ⟨hlen, n, x, hx⟩ := h4 u hu
    obtain ⟨vad, vcap, ns, e1, k1, hF⟩ := open_nums_b hx
    exact ⟨(ns, vad, vcap), e1, hF, k1⟩)
  refine ⟨ad, cap, ts.map (·.1), by rw [List.length_map, List.length_map], by rw [List.length_map] at h1 ⊢; unfold maxLen at h2; omega, ⟨fun i r hr => ?_⟩, fun r hr => ?_⟩
  · rw [List.getElem?_map] at hr
    cases ht : ts[i]? with
    | none => rw [ht] at hr; cases hr
    | some t =>
      rw [ht] at hr
      simp only [Option.map_some, Option.some.injEq] at hr
      subst hr
      obtain ⟨blk, off, arr, el, fr, g1, g2, g3, g4⟩ := h3 i _ (by rw [List.getElem?_map, ht]; rfl)
      have g5 : arr[off + i]? = some (.slice t.2.1 t.1.length t.2.2) := by
        have := congrArg (fun l : List Value => l[0]?) g4
        simpa [List.getElem?_take, List.getElem?_drop] using this
      exact ⟨blk, off, arr, el, fr, t.2.1, t.2.2, g1, g2, g3, g5, (h5 t (List.mem_of_getElem? ht)).1⟩
  · obtain ⟨t, ht, rfl⟩ := List.mem_map.1 hr
    exact (h5 t ht).2
end
end Go.Proofs.YtimpjdbhalnofaaGreatDoor
end
section
namespace Go.Lg.Fml
theorem dep_snoc {okJ : Ins → Bool} {l : List Ins} {i n : Nat} {x : Ins} (hd : dep okJ 0 (l.take i) = some n) (hx : l[i]? = some x) : dep okJ 0 (l.take (i + 1)) = if okJ x = true ∧ takes x.op ≤ n ∧ n - takes x.op + 1 ≤ 16 then some (n - takes x.op + 1) else none := by
  rw [Go.Lg.Fld.take_snoc hx, dep_app, hd]
  show dep okJ n [x] = _
  simp only [dep]
theorem dep_none {okJ : Ins → Bool} {l : List Ins} {i : Nat} (hd : dep okJ 0 (l.take i) = none) : dep okJ 0 l = none := by
  rw [← List.take_append_drop i l, dep_app, hd]
  rfl
theorem dep_le {okJ : Ins → Bool} : ∀ {l : List Ins} {n m : Nat}, n ≤ 16 → dep okJ n l = some m → m ≤ 16
  | [], n, m, hn, h => by simp only [dep, Option.some.injEq] at h; omega
  | x :: l, n, m, hn, h => by
    simp only [dep] at h
    split at h
    · rename_i h1; exact dep_le h1.2.2 h
    · cases h
end Go.Lg.Fml
namespace Go.Proofs.YtimpjdbhalnofaaGreatDoor
open Go Go.Lg Go.Lg.Fml Go.Lg.Fld
set_option maxRecDepth 100000
variable (X : Nat → Option Obj)
instance : ArrB Tryz.prog 117 (List.replicate 18 (.int .i64 0)) 1 := ⟨by kernel_rfl⟩
def tkC : List CV := [.val (.int .i64 0), .val (.int .i64 0), .val (.int .i64 0), .val (.int .i64 0), .val (.int .i64 0), .val (.int .i64 2), .val (.int .i64 2), .val (.int .i64 2), .val (.int .i64 2), .val (.int .i64 2), .val (.int .i64 1), .val (.int .i64 2), .val (.int .i64 2), .val (.int .i64 2), .val (.int .i64 2), .val (.int .i64 1), .val (.int .i64 3), .val (.int .i64 2)]
theorem takes_at {op : Int} (h : 5 ≤ op ∧ op ≤ 17) : tkC[op.toNat]? = some (CV.val (.int .i64 (takes op : Nat))) := by
  rcases (show op = 5 ∨ op = 6 ∨ op = 7 ∨ op = 8 ∨ op = 9 ∨ op = 10 ∨ op = 11 ∨ op = 12 ∨ op = 13 ∨ op = 14 ∨ op = 15 ∨ op = 16 ∨ op = 17 by omega) with rfl | rfl | rfl | rfl | rfl | rfl | rfl | rfl | rfl | rfl | rfl | rfl | rfl <;> rfl
theorem takes_out {op : Int} (h : op < 5 ∨ 17 < op) : takes op = 0 := by
  unfold takes
  rw [if_neg (by omega), if_neg (by omega), if_neg (by omega)]
set_option maxHeartbeats 1600000 in
theorem rTakes_spec (op : Int) : PSpec Tryz.prog X 34 [Ln .i64 op] (Ln .i64 (takes op : Nat)) := by
  refine PSpec.intro Tryz.func34 rfl (by kernel_rfl) rfl rfl ?_
  intro C
  by_cases h1 : op < 5
  · rw [takes_out (.inl h1)]
    (refine LWP.seq <| rgN <| kas rfl <| RunK.nil <| LWP.seq <| LWP.seq <| rgN <| kmv rfl <| klt rfl rfl (decide_eq_true h1) <| kmv rfl <| RunK.passed rfl rfl rfl <| RunK.passed rfl rfl rfl <| kpt rfl rfl <| RunK.nil ?_; refine LWP.condT rfl ?_; refine LWP.seq <| rgN <| kas rfl <| RunK.nil <| LWP.ret ?_)
    exact ⟨[_], ⟨rfl, trivial⟩, rfl⟩
  by_cases h2 : 17 < op
  · rw [takes_out (.inr h2)]
    (refine LWP.seq <| rgN <| kas rfl <| RunK.nil <| LWP.seq <| LWP.seq <| rgN <| kmv rfl <| klt rfl rfl (decide_eq_false h1) <| kmv rfl <| gmv rfl rfl rfl <| K.gtr rfl rfl (decide_eq_true h2) (.taken rfl rfl) ?_; refine kpf rfl rfl <| RunK.nil <| LWP.condT rfl ?_; refine LWP.seq <| rgN <| kas rfl <| RunK.nil <| LWP.ret ?_)
    exact ⟨[_], ⟨rfl, trivial⟩, rfl⟩
  have hat := takes_at (op := op) ⟨by omega, by omega⟩
  have hix : 0 + Int.toNat op * 1 = op.toNat := by omega
  (refine LWP.seq <| rgN <| kas rfl <| RunK.nil <| LWP.seq <| LWP.seq <| rgN <| kmv rfl <| klt rfl rfl (decide_eq_false h1) <| kmv rfl <| gmv rfl rfl rfl <| K.gtr rfl rfl (decide_eq_false h2) (.taken rfl rfl) ?_; refine kpf rfl rfl <| RunK.nil <| LWP.condF rfl ?_; refine LWP.skip ?_; refine LWP.seq <| rgN <| K.buildArr rfl rfl (by exact rfl) rfl .plain ?_; refine K.alloc rfl .plain ?_; refine K.storeAll rfl rfl rfl rfl rfl rfl .plain ?_; refine RunK.nil <| LWP.seq <| rgN <| kmv rfl <| K.indexArr rfl rfl (by omega) hix .plain ?_; refine kl1 rfl rfl hat <| kas rfl <| RunK.nil <| LWP.ret ?_)
  exact ⟨[_], ⟨rfl, trivial⟩, rfl⟩
theorem chkX_bad {l : List Ins} {i n : Nat} {x : Ins} (h64 : ¬ 64 < l.length) (hd : dep okI 0 (l.take i) = some n) (hx : l[i]? = some x) (hb : ¬ (okI x = true ∧ takes x.op ≤ n ∧ n - takes x.op + 1 ≤ 16)) : chkX l = 4 := by
  unfold chkX
  rw [if_neg h64, if_neg]
  rw [dep_none (i := i + 1) ((dep_snoc hd hx).trans (if_neg hb))]
  exact fun h => by cases h
set_option maxHeartbeats 6400000 in
theorem rCheck11 (l : List Ins) (ad : Option Addr) (cap : Nat) (hin : InsIn X ad l) (hbig : l.length < 4611686018427387904) : PSpec Tryz.prog X 14 [Lx ad l.length cap] (Ln .i64 (chkX l)) := by
  refine PSpec.intro Tryz.func14 rfl (by kernel_rfl) rfl rfl ?_
  intro C
  by_cases hlong : 64 < l.length
  · have e : chkX l = 5 := if_pos hlong
    rw [e]
    (refine LWP.seq <| rgN <| kas rfl <| RunK.nil <| LWP.seq <| LWP.seq <| rgN <| kmv rfl <| K.lenX rfl SliceT.h rfl .plain ?_; refine K.gtr rfl rfl (decide_eq_true (by omega)) .plain <| RunK.nil <| LWP.condT rfl ?_; refine LWP.seq <| rgN <| kas rfl <| RunK.nil <| LWP.ret ?_)
    exact ⟨[_], ⟨rfl, trivial⟩, rfl⟩
  (refine LWP.seq <| rgN <| kas rfl <| RunK.nil <| LWP.seq <| LWP.seq <| rgN <| kmv rfl <| K.lenX rfl SliceT.h rfl .plain ?_; refine K.gtr rfl rfl (decide_eq_false (by omega)) .plain <| RunK.nil <| LWP.condF rfl ?_; refine LWP.skip ?_; refine LWP.seq <| rgN <| kas rfl <| RunK.nil <| LWP.seq <| LWP.seq <| rgN <| kas rfl <| RunK.nil <| LWP.block ?_)
  refine LWP.loop (fun m σ => ∃ i n : Nat, i ≤ l.length ∧ m = l.length - i ∧ dep okI 0 (l.take i) = some n ∧ σ = ⟨[(0, Lx ad l.length cap), (3, Ln .i64 (n : Nat)), (4, Ln .i64 (i : Nat))], [], X⟩) l.length
    ⟨⟨[(0, Lx ad l.length cap), (3, Ln .i64 (0 : Nat)), (4, Ln .i64 (0 : Nat))], [], X⟩, Le.of (by exact ⟨rfl, rfl, rfl, trivial⟩) (by exact trivial) (by exact rfl) (by exact rfl) (by exact rfl), 0, 0, by omega, rfl, rfl, rfl⟩ ?_
  rintro m σ ⟨i, n, hi, rfl, hd, rfl⟩
  have hn16 := dep_le (by omega) hd
  by_cases hlt : i < l.length
  · obtain ⟨x, hx⟩ : ∃ x, l[i]? = some x := ⟨_, List.getElem?_eq_getElem hlt⟩
    obtain ⟨blk, off, arr, el, fr, rfl, hX, hsz, hcs, _⟩ := hin.at hx
    have hio : off + Int.toNat (i : Int) * 6 = off + i * 6 := by simp
    obtain ⟨_, _, _, hk2⟩ := hin.small x (List.mem_of_getElem? hx)
    have hG := Good_spec X x.k.1 x.k.2 hk2 (gd x.k) rfl
    have hT := rTakes_spec X x.op
    have hbad := fun h => chkX_bad (x := x) hlong hd hx h
    have htk := takes_le x.op
    by_cases c0 : x.op < 1
    · rw [hbad (fun h => by have := (okI_facts h.1).1; omega)]
      (refine LWP.seq <| LWP.seq <| rgN <| kmv rfl <| kmv rfl <| K.lenX rfl SliceT.h rfl .plain ?_; refine klt rfl rfl (decide_eq_true (by omega)) <| RunK.nil <| LWP.condT rfl ?_; refine LWP.skip ?_; refine LWP.seq <| LWP.block <| LWP.seq <| rgN <| kmv rfl <| kmv rfl <| K.indexX rfl rfl SliceT.h (by omega) hio .plain <| K.loadXagg rfl hX (by kernel_rfl) hsz hcs .plain <| K.alloc rfl .plain ?_; refine K.storeAll rfl rfl rfl rfl rfl rfl .plain ?_; refine RunK.nil <| LWP.seq <| LWP.seq <| rgN <| kfa rfl rfl ?_; refine kl1 rfl rfl rfl <| klt rfl rfl (decide_eq_true (by omega)) <| kmv rfl <| RunK.passed rfl rfl rfl <| RunK.passed rfl rfl rfl <| RunK.passed rfl rfl rfl <| kpt rfl rfl <| kmv rfl <| RunK.passed rfl rfl rfl <| RunK.passed rfl rfl rfl <| RunK.passed rfl rfl rfl <| RunK.passed rfl rfl rfl <| kpt rfl rfl <| kmv rfl ?_; refine RunK.passed rfl rfl rfl <| RunK.passed rfl rfl rfl <| RunK.passed rfl rfl rfl <| kpt rfl rfl <| kmv rfl <| RunK.passed rfl rfl rfl <| RunK.passed rfl rfl rfl <| RunK.passed rfl rfl rfl <| kpt rfl rfl <| kmv rfl <| RunK.passed rfl rfl rfl <| RunK.passed rfl rfl rfl <| RunK.passed rfl rfl rfl <| kpt rfl rfl ?_; refine kmv rfl <| RunK.passed rfl rfl rfl <| RunK.passed rfl rfl rfl <| RunK.passed rfl rfl rfl <| kpt rfl rfl <| kmv rfl <| RunK.passed rfl rfl rfl <| RunK.passed rfl rfl rfl <| RunK.passed rfl rfl rfl <| RunK.passed rfl rfl rfl <| RunK.passed rfl rfl rfl <| kpt rfl rfl <| RunK.nil <| LWP.condT rfl ?_; refine LWP.seq <| rgN <| kas rfl <| RunK.nil <| LWP.ret ?_)
      exact ⟨[_], ⟨rfl, trivial⟩, rfl⟩
    by_cases c1 : 17 < x.op
    · rw [hbad (fun h => by have := (okI_facts h.1).1; omega)]
      (refine LWP.seq <| LWP.seq <| rgN <| kmv rfl <| kmv rfl <| K.lenX rfl SliceT.h rfl .plain ?_; refine klt rfl rfl (decide_eq_true (by omega)) <| RunK.nil <| LWP.condT rfl ?_; refine LWP.skip ?_; refine LWP.seq <| LWP.block <| LWP.seq <| rgN <| kmv rfl <| kmv rfl <| K.indexX rfl rfl SliceT.h (by omega) hio .plain <| K.loadXagg rfl hX (by kernel_rfl) hsz hcs .plain <| K.alloc rfl .plain ?_; refine K.storeAll rfl rfl rfl rfl rfl rfl .plain ?_; refine RunK.nil <| LWP.seq <| LWP.seq <| rgN <| kfa rfl rfl ?_; refine kl1 rfl rfl rfl <| klt rfl rfl (decide_eq_false (by omega)) <| kmv rfl <| K.fieldAddr rfl rfl (.taken rfl rfl) ?_; refine K.loadOne rfl rfl rfl (.taken rfl rfl) ?_; refine K.gtr rfl rfl (decide_eq_true (by omega)) (.taken rfl rfl) ?_; refine kpf rfl rfl <| kmv rfl <| RunK.passed rfl rfl rfl <| RunK.passed rfl rfl rfl <| RunK.passed rfl rfl rfl <| RunK.passed rfl rfl rfl <| kpt rfl rfl <| kmv rfl <| RunK.passed rfl rfl rfl <| RunK.passed rfl rfl rfl <| RunK.passed rfl rfl rfl <| kpt rfl rfl <| kmv rfl <| RunK.passed rfl rfl rfl ?_; refine RunK.passed rfl rfl rfl <| RunK.passed rfl rfl rfl <| kpt rfl rfl <| kmv rfl <| RunK.passed rfl rfl rfl <| RunK.passed rfl rfl rfl <| RunK.passed rfl rfl rfl <| kpt rfl rfl <| kmv rfl <| RunK.passed rfl rfl rfl <| RunK.passed rfl rfl rfl <| RunK.passed rfl rfl rfl <| kpt rfl rfl <| kmv rfl ?_; refine RunK.passed rfl rfl rfl <| RunK.passed rfl rfl rfl <| RunK.passed rfl rfl rfl <| RunK.passed rfl rfl rfl <| RunK.passed rfl rfl rfl <| kpt rfl rfl <| RunK.nil <| LWP.condT rfl ?_; refine LWP.seq <| rgN <| kas rfl <| RunK.nil <| LWP.ret ?_)
      exact ⟨[_], ⟨rfl, trivial⟩, rfl⟩
    cases hg : gd x.k with
    | false =>
      rw [hbad (fun h => by rw [(okI_facts h.1).2.1] at hg; cases hg)]
      rw [hg] at hG
      (refine LWP.seq <| LWP.seq <| rgN <| kmv rfl <| kmv rfl <| K.lenX rfl SliceT.h rfl .plain ?_; refine klt rfl rfl (decide_eq_true (by omega)) <| RunK.nil <| LWP.condT rfl ?_; refine LWP.skip ?_; refine LWP.seq <| LWP.block <| LWP.seq <| rgN <| kmv rfl <| kmv rfl <| K.indexX rfl rfl SliceT.h (by omega) hio .plain <| K.loadXagg rfl hX (by kernel_rfl) hsz hcs .plain <| K.alloc rfl .plain ?_; refine K.storeAll rfl rfl rfl rfl rfl rfl .plain ?_; refine RunK.nil <| LWP.seq <| LWP.seq <| rgN <| kfa rfl rfl ?_; refine kl1 rfl rfl rfl <| klt rfl rfl (decide_eq_false (by omega)) <| kmv rfl <| K.fieldAddr rfl rfl (.taken rfl rfl) ?_; refine K.loadOne rfl rfl rfl (.taken rfl rfl) ?_; refine K.gtr rfl rfl (decide_eq_false (by omega)) (.taken rfl rfl) ?_; refine kpf rfl rfl <| kmv rfl <| K.fieldAddr rfl rfl (.taken rfl rfl) ?_; refine K.loadPart rfl rfl rfl (by exact nl3 rfl rfl rfl rfl) (.taken rfl rfl) ?_; refine gca rfl rfl (hG) rfl rfl <| K.not rfl rfl (.taken rfl rfl) ?_; refine kpf rfl rfl <| kmv rfl <| RunK.passed rfl rfl rfl <| RunK.passed rfl rfl rfl <| RunK.passed rfl rfl rfl <| kpt rfl rfl <| kmv rfl <| RunK.passed rfl rfl rfl <| RunK.passed rfl rfl rfl <| RunK.passed rfl rfl rfl <| kpt rfl rfl <| kmv rfl <| RunK.passed rfl rfl rfl <| RunK.passed rfl rfl rfl ?_; refine RunK.passed rfl rfl rfl <| kpt rfl rfl <| kmv rfl <| RunK.passed rfl rfl rfl <| RunK.passed rfl rfl rfl <| RunK.passed rfl rfl rfl <| kpt rfl rfl <| kmv rfl <| RunK.passed rfl rfl rfl <| RunK.passed rfl rfl rfl <| RunK.passed rfl rfl rfl <| RunK.passed rfl rfl rfl <| RunK.passed rfl rfl rfl <| kpt rfl rfl ?_; refine RunK.nil <| LWP.condT rfl ?_; refine LWP.seq <| rgN <| kas rfl <| RunK.nil <| LWP.ret ?_)
      exact ⟨[_], ⟨rfl, trivial⟩, rfl⟩
    | true =>
    rw [hg] at hG
    by_cases c3 : x.a < 0
    · rw [hbad (fun h => by have := (okI_facts h.1).2.2.1; omega)]
      (refine LWP.seq <| LWP.seq <| rgN <| kmv rfl <| kmv rfl <| K.lenX rfl SliceT.h rfl .plain ?_; refine klt rfl rfl (decide_eq_true (by omega)) <| RunK.nil <| LWP.condT rfl ?_; refine LWP.skip ?_; refine LWP.seq <| LWP.block <| LWP.seq <| rgN <| kmv rfl <| kmv rfl <| K.indexX rfl rfl SliceT.h (by omega) hio .plain <| K.loadXagg rfl hX (by kernel_rfl) hsz hcs .plain <| K.alloc rfl .plain ?_; refine K.storeAll rfl rfl rfl rfl rfl rfl .plain ?_; refine RunK.nil <| LWP.seq <| LWP.seq <| rgN <| kfa rfl rfl ?_; refine kl1 rfl rfl rfl <| klt rfl rfl (decide_eq_false (by omega)) <| kmv rfl <| K.fieldAddr rfl rfl (.taken rfl rfl) ?_; refine K.loadOne rfl rfl rfl (.taken rfl rfl) ?_; refine K.gtr rfl rfl (decide_eq_false (by omega)) (.taken rfl rfl) ?_; refine kpf rfl rfl <| kmv rfl <| K.fieldAddr rfl rfl (.taken rfl rfl) ?_; refine K.loadPart rfl rfl rfl (by exact nl3 rfl rfl rfl rfl) (.taken rfl rfl) ?_; refine gca rfl rfl (hG) rfl rfl <| K.not rfl rfl (.taken rfl rfl) ?_; refine kpf rfl rfl <| kmv rfl <| K.fieldAddr rfl rfl (.taken rfl rfl) ?_; refine K.loadOne rfl rfl rfl (.taken rfl rfl) ?_; refine K.lss rfl rfl (decide_eq_true (by omega)) (.taken rfl rfl) ?_; refine kpf rfl rfl <| kmv rfl <| RunK.passed rfl rfl rfl <| RunK.passed rfl rfl rfl <| RunK.passed rfl rfl rfl <| kpt rfl rfl <| kmv rfl <| RunK.passed rfl rfl rfl <| RunK.passed rfl rfl rfl <| RunK.passed rfl rfl rfl <| kpt rfl rfl <| kmv rfl <| RunK.passed rfl rfl rfl <| RunK.passed rfl rfl rfl ?_; refine RunK.passed rfl rfl rfl <| kpt rfl rfl <| kmv rfl <| RunK.passed rfl rfl rfl <| RunK.passed rfl rfl rfl <| RunK.passed rfl rfl rfl <| RunK.passed rfl rfl rfl <| RunK.passed rfl rfl rfl <| kpt rfl rfl <| RunK.nil <| LWP.condT rfl ?_; refine LWP.seq <| rgN <| kas rfl <| RunK.nil <| LWP.ret ?_)
      exact ⟨[_], ⟨rfl, trivial⟩, rfl⟩
    by_cases c4 : 7 < x.a
    · rw [hbad (fun h => by have := (okI_facts h.1).2.2.1; omega)]
      ((refine LWP.seq <| LWP.seq <| rgN <| kmv rfl <| kmv rfl <| K.lenX rfl SliceT.h rfl .plain ?_; refine klt rfl rfl (decide_eq_true (by omega)) <| RunK.nil <| LWP.condT rfl ?_; refine LWP.skip ?_; refine LWP.seq <| LWP.block <| LWP.seq <| rgN <| kmv rfl <| kmv rfl <| K.indexX rfl rfl SliceT.h (by omega) hio .plain <| K.loadXagg rfl hX (by kernel_rfl) hsz hcs .plain <| K.alloc rfl .plain ?_; refine K.storeAll rfl rfl rfl rfl rfl rfl .plain ?_; refine RunK.nil <| LWP.seq <| LWP.seq <| rgN <| kfa rfl rfl ?_; refine kl1 rfl rfl rfl <| klt rfl rfl (decide_eq_false (by omega)) <| kmv rfl <| K.fieldAddr rfl rfl (.taken rfl rfl) ?_; refine K.loadOne rfl rfl rfl (.taken rfl rfl) ?_; refine K.gtr rfl rfl (decide_eq_false (by omega)) (.taken rfl rfl) ?_; refine kpf rfl rfl <| kmv rfl <| K.fieldAddr rfl rfl (.taken rfl rfl) ?_; refine K.loadPart rfl rfl rfl (by exact nl3 rfl rfl rfl rfl) (.taken rfl rfl) ?_; refine gca rfl rfl (hG) rfl rfl <| K.not rfl rfl (.taken rfl rfl) ?_); (refine kpf rfl rfl <| kmv rfl <| K.fieldAddr rfl rfl (.taken rfl rfl) ?_; refine K.loadOne rfl rfl rfl (.taken rfl rfl) ?_; refine K.lss rfl rfl (decide_eq_false (by omega)) (.taken rfl rfl) ?_; refine kpf rfl rfl <| kmv rfl <| K.fieldAddr rfl rfl (.taken rfl rfl) ?_; refine K.loadOne rfl rfl rfl (.taken rfl rfl) ?_; refine K.gtr rfl rfl (decide_eq_true (by omega)) (.taken rfl rfl) ?_; refine kpf rfl rfl <| kmv rfl <| RunK.passed rfl rfl rfl <| RunK.passed rfl rfl rfl <| RunK.passed rfl rfl rfl <| kpt rfl rfl <| kmv rfl <| RunK.passed rfl rfl rfl <| RunK.passed rfl rfl rfl <| RunK.passed rfl rfl rfl <| kpt rfl rfl <| kmv rfl <| RunK.passed rfl rfl rfl <| RunK.passed rfl rfl rfl ?_; refine RunK.passed rfl rfl rfl <| RunK.passed rfl rfl rfl <| RunK.passed rfl rfl rfl <| kpt rfl rfl <| RunK.nil <| LWP.condT rfl ?_; refine LWP.seq <| rgN <| kas rfl <| RunK.nil <| LWP.ret ?_))
      exact ⟨[_], ⟨rfl, trivial⟩, rfl⟩
    by_cases c5 : x.b < 0
    · rw [hbad (fun h => by have := (okI_facts h.1).2.2.2; omega)]
      ((refine LWP.seq <| LWP.seq <| rgN <| kmv rfl <| kmv rfl <| K.lenX rfl SliceT.h rfl .plain ?_; refine klt rfl rfl (decide_eq_true (by omega)) <| RunK.nil <| LWP.condT rfl ?_; refine LWP.skip ?_; refine LWP.seq <| LWP.block <| LWP.seq <| rgN <| kmv rfl <| kmv rfl <| K.indexX rfl rfl SliceT.h (by omega) hio .plain <| K.loadXagg rfl hX (by kernel_rfl) hsz hcs .plain <| K.alloc rfl .plain ?_; refine K.storeAll rfl rfl rfl rfl rfl rfl .plain ?_; refine RunK.nil <| LWP.seq <| LWP.seq <| rgN <| kfa rfl rfl ?_; refine kl1 rfl rfl rfl <| klt rfl rfl (decide_eq_false (by omega)) <| kmv rfl <| K.fieldAddr rfl rfl (.taken rfl rfl) ?_; refine K.loadOne rfl rfl rfl (.taken rfl rfl) ?_; refine K.gtr rfl rfl (decide_eq_false (by omega)) (.taken rfl rfl) ?_; refine kpf rfl rfl <| kmv rfl <| K.fieldAddr rfl rfl (.taken rfl rfl) ?_; refine K.loadPart rfl rfl rfl (by exact nl3 rfl rfl rfl rfl) (.taken rfl rfl) ?_; refine gca rfl rfl (hG) rfl rfl <| K.not rfl rfl (.taken rfl rfl) ?_); (refine kpf rfl rfl <| kmv rfl <| K.fieldAddr rfl rfl (.taken rfl rfl) ?_; refine K.loadOne rfl rfl rfl (.taken rfl rfl) ?_; refine K.lss rfl rfl (decide_eq_false (by omega)) (.taken rfl rfl) ?_; refine kpf rfl rfl <| kmv rfl <| K.fieldAddr rfl rfl (.taken rfl rfl) ?_; refine K.loadOne rfl rfl rfl (.taken rfl rfl) ?_; refine K.gtr rfl rfl (decide_eq_false (by omega)) (.taken rfl rfl) ?_; refine kpf rfl rfl <| kmv rfl <| K.fieldAddr rfl rfl (.taken rfl rfl) ?_; refine K.loadOne rfl rfl rfl (.taken rfl rfl) ?_; refine K.lss rfl rfl (decide_eq_true (by omega)) (.taken rfl rfl) ?_; refine kpf rfl rfl <| kmv rfl <| RunK.passed rfl rfl rfl <| RunK.passed rfl rfl rfl <| RunK.passed rfl rfl rfl <| kpt rfl rfl <| kmv rfl <| RunK.passed rfl rfl rfl <| RunK.passed rfl rfl rfl <| RunK.passed rfl rfl rfl <| RunK.passed rfl rfl rfl <| RunK.passed rfl rfl rfl <| kpt rfl rfl <| RunK.nil ?_; refine LWP.condT rfl ?_; refine LWP.seq <| rgN <| kas rfl <| RunK.nil <| LWP.ret ?_))
      exact ⟨[_], ⟨rfl, trivial⟩, rfl⟩
    by_cases c6 : 7 < x.b
    · rw [hbad (fun h => by have := (okI_facts h.1).2.2.2; omega)]
      ((refine LWP.seq <| LWP.seq <| rgN <| kmv rfl <| kmv rfl <| K.lenX rfl SliceT.h rfl .plain ?_; refine klt rfl rfl (decide_eq_true (by omega)) <| RunK.nil <| LWP.condT rfl ?_; refine LWP.skip ?_; refine LWP.seq <| LWP.block <| LWP.seq <| rgN <| kmv rfl <| kmv rfl <| K.indexX rfl rfl SliceT.h (by omega) hio .plain <| K.loadXagg rfl hX (by kernel_rfl) hsz hcs .plain <| K.alloc rfl .plain ?_; refine K.storeAll rfl rfl rfl rfl rfl rfl .plain ?_; refine RunK.nil <| LWP.seq <| LWP.seq <| rgN <| kfa rfl rfl ?_; refine kl1 rfl rfl rfl <| klt rfl rfl (decide_eq_false (by omega)) <| kmv rfl <| K.fieldAddr rfl rfl (.taken rfl rfl) ?_; refine K.loadOne rfl rfl rfl (.taken rfl rfl) ?_; refine K.gtr rfl rfl (decide_eq_false (by omega)) (.taken rfl rfl) ?_; refine kpf rfl rfl <| kmv rfl <| K.fieldAddr rfl rfl (.taken rfl rfl) ?_; refine K.loadPart rfl rfl rfl (by exact nl3 rfl rfl rfl rfl) (.taken rfl rfl) ?_; refine gca rfl rfl (hG) rfl rfl <| K.not rfl rfl (.taken rfl rfl) ?_); (refine kpf rfl rfl <| kmv rfl <| K.fieldAddr rfl rfl (.taken rfl rfl) ?_; refine K.loadOne rfl rfl rfl (.taken rfl rfl) ?_; refine K.lss rfl rfl (decide_eq_false (by omega)) (.taken rfl rfl) ?_; refine kpf rfl rfl <| kmv rfl <| K.fieldAddr rfl rfl (.taken rfl rfl) ?_; refine K.loadOne rfl rfl rfl (.taken rfl rfl) ?_; refine K.gtr rfl rfl (decide_eq_false (by omega)) (.taken rfl rfl) ?_; refine kpf rfl rfl <| kmv rfl <| K.fieldAddr rfl rfl (.taken rfl rfl) ?_; refine K.loadOne rfl rfl rfl (.taken rfl rfl) ?_; refine K.lss rfl rfl (decide_eq_false (by omega)) (.taken rfl rfl) ?_; refine kpf rfl rfl <| kmv rfl <| K.fieldAddr rfl rfl (.taken rfl rfl) ?_; refine K.loadOne rfl rfl rfl (.taken rfl rfl) ?_; refine K.gtr rfl rfl (decide_eq_true (by omega)) (.taken rfl rfl) ?_); (refine kpf rfl rfl <| kmv rfl <| RunK.passed rfl rfl rfl <| RunK.passed rfl rfl rfl <| RunK.passed rfl rfl rfl <| RunK.passed rfl rfl rfl <| RunK.passed rfl rfl rfl <| kpt rfl rfl <| RunK.nil <| LWP.condT rfl ?_; refine LWP.seq <| rgN <| kas rfl <| RunK.nil <| LWP.ret ?_))
      exact ⟨[_], ⟨rfl, trivial⟩, rfl⟩
    by_cases c7 : n < takes x.op
    · rw [hbad (fun h => by have := h.2.1; omega)]
      ((refine LWP.seq <| LWP.seq <| rgN <| kmv rfl <| kmv rfl <| K.lenX rfl SliceT.h rfl .plain ?_; refine klt rfl rfl (decide_eq_true (by omega)) <| RunK.nil <| LWP.condT rfl ?_; refine LWP.skip ?_; refine LWP.seq <| LWP.block <| LWP.seq <| rgN <| kmv rfl <| kmv rfl <| K.indexX rfl rfl SliceT.h (by omega) hio .plain <| K.loadXagg rfl hX (by kernel_rfl) hsz hcs .plain <| K.alloc rfl .plain ?_; refine K.storeAll rfl rfl rfl rfl rfl rfl .plain ?_; refine RunK.nil <| LWP.seq <| LWP.seq <| rgN <| kfa rfl rfl ?_; refine kl1 rfl rfl rfl <| klt rfl rfl (decide_eq_false (by omega)) <| kmv rfl <| K.fieldAddr rfl rfl (.taken rfl rfl) ?_; refine K.loadOne rfl rfl rfl (.taken rfl rfl) ?_; refine K.gtr rfl rfl (decide_eq_false (by omega)) (.taken rfl rfl) ?_; refine kpf rfl rfl <| kmv rfl <| K.fieldAddr rfl rfl (.taken rfl rfl) ?_; refine K.loadPart rfl rfl rfl (by exact nl3 rfl rfl rfl rfl) (.taken rfl rfl) ?_; refine gca rfl rfl (hG) rfl rfl <| K.not rfl rfl (.taken rfl rfl) ?_); (refine kpf rfl rfl <| kmv rfl <| K.fieldAddr rfl rfl (.taken rfl rfl) ?_; refine K.loadOne rfl rfl rfl (.taken rfl rfl) ?_; refine K.lss rfl rfl (decide_eq_false (by omega)) (.taken rfl rfl) ?_; refine kpf rfl rfl <| kmv rfl <| K.fieldAddr rfl rfl (.taken rfl rfl) ?_; refine K.loadOne rfl rfl rfl (.taken rfl rfl) ?_; refine K.gtr rfl rfl (decide_eq_false (by omega)) (.taken rfl rfl) ?_; refine kpf rfl rfl <| kmv rfl <| K.fieldAddr rfl rfl (.taken rfl rfl) ?_; refine K.loadOne rfl rfl rfl (.taken rfl rfl) ?_; refine K.lss rfl rfl (decide_eq_false (by omega)) (.taken rfl rfl) ?_; refine kpf rfl rfl <| kmv rfl <| K.fieldAddr rfl rfl (.taken rfl rfl) ?_; refine K.loadOne rfl rfl rfl (.taken rfl rfl) ?_; refine K.gtr rfl rfl (decide_eq_false (by omega)) (.taken rfl rfl) ?_); (refine kpf rfl rfl <| kmv rfl <| gmv rfl rfl rfl <| K.fieldAddr rfl rfl (.taken rfl rfl) ?_; refine K.loadOne rfl rfl rfl (.taken rfl rfl) ?_; refine gca rfl rfl (hT) rfl rfl <| K.lss rfl rfl (decide_eq_true (by omega)) (.taken rfl rfl) ?_; refine kpf rfl rfl <| RunK.nil <| LWP.condT rfl ?_; refine LWP.seq <| rgN <| kas rfl <| RunK.nil <| LWP.ret ?_))
      exact ⟨[_], ⟨rfl, trivial⟩, rfl⟩
    have hok : okI x = true := by
      unfold okI
      rw [hg, decide_eq_true (show 1 ≤ x.op by omega), decide_eq_true (show x.op ≤ 17 by omega), decide_eq_true (show 0 ≤ x.a by omega), decide_eq_true (show x.a ≤ 7 by omega), decide_eq_true (show 0 ≤ x.b by omega), decide_eq_true (show x.b ≤ 7 by omega)]
      rfl
    have hsub : IntKind.i64.wrap ((n : Int) - (takes x.op : Nat)) = ((n - takes x.op : Nat) : Int) := by rw [wrap_i64 (by omega)]; omega
    have hadd : IntKind.i64.wrap (((n - takes x.op : Nat) : Int) + 1) = ((n - takes x.op + 1 : Nat) : Int) := by rw [wrap_i64 (by omega)]; omega
    by_cases c8 : 16 < n - takes x.op + 1
    · rw [hbad (fun h => by have := h.2.2; omega)]
      ((refine LWP.seq <| LWP.seq <| rgN <| kmv rfl <| kmv rfl <| K.lenX rfl SliceT.h rfl .plain ?_; refine klt rfl rfl (decide_eq_true (by omega)) <| RunK.nil <| LWP.condT rfl ?_; refine LWP.skip ?_; refine LWP.seq <| LWP.block <| LWP.seq <| rgN <| kmv rfl <| kmv rfl <| K.indexX rfl rfl SliceT.h (by omega) hio .plain <| K.loadXagg rfl hX (by kernel_rfl) hsz hcs .plain <| K.alloc rfl .plain ?_; refine K.storeAll rfl rfl rfl rfl rfl rfl .plain ?_; refine RunK.nil <| LWP.seq <| LWP.seq <| rgN <| kfa rfl rfl ?_; refine kl1 rfl rfl rfl <| klt rfl rfl (decide_eq_false (by omega)) <| kmv rfl <| K.fieldAddr rfl rfl (.taken rfl rfl) ?_; refine K.loadOne rfl rfl rfl (.taken rfl rfl) ?_; refine K.gtr rfl rfl (decide_eq_false (by omega)) (.taken rfl rfl) ?_; refine kpf rfl rfl <| kmv rfl <| K.fieldAddr rfl rfl (.taken rfl rfl) ?_; refine K.loadPart rfl rfl rfl (by exact nl3 rfl rfl rfl rfl) (.taken rfl rfl) ?_; refine gca rfl rfl (hG) rfl rfl <| K.not rfl rfl (.taken rfl rfl) ?_); (refine kpf rfl rfl <| kmv rfl <| K.fieldAddr rfl rfl (.taken rfl rfl) ?_; refine K.loadOne rfl rfl rfl (.taken rfl rfl) ?_; refine K.lss rfl rfl (decide_eq_false (by omega)) (.taken rfl rfl) ?_; refine kpf rfl rfl <| kmv rfl <| K.fieldAddr rfl rfl (.taken rfl rfl) ?_; refine K.loadOne rfl rfl rfl (.taken rfl rfl) ?_; refine K.gtr rfl rfl (decide_eq_false (by omega)) (.taken rfl rfl) ?_; refine kpf rfl rfl <| kmv rfl <| K.fieldAddr rfl rfl (.taken rfl rfl) ?_; refine K.loadOne rfl rfl rfl (.taken rfl rfl) ?_; refine K.lss rfl rfl (decide_eq_false (by omega)) (.taken rfl rfl) ?_; refine kpf rfl rfl <| kmv rfl <| K.fieldAddr rfl rfl (.taken rfl rfl) ?_; refine K.loadOne rfl rfl rfl (.taken rfl rfl) ?_; refine K.gtr rfl rfl (decide_eq_false (by omega)) (.taken rfl rfl) ?_); (refine kpf rfl rfl <| kmv rfl <| gmv rfl rfl rfl <| K.fieldAddr rfl rfl (.taken rfl rfl) ?_; refine K.loadOne rfl rfl rfl (.taken rfl rfl) ?_; refine gca rfl rfl (hT) rfl rfl <| K.lss rfl rfl (decide_eq_false (by omega)) (.taken rfl rfl) ?_; refine kpf rfl rfl <| RunK.nil <| LWP.condF rfl ?_; refine LWP.skip ?_; refine LWP.seq <| rgN <| kmv rfl <| kfa rfl rfl ?_; refine kl1 rfl rfl rfl <| kca rfl rfl (hT) <| K.sub rfl rfl hsub .plain <| kad rfl rfl hadd <| kas rfl <| RunK.nil <| LWP.seq <| rgN <| kmv rfl <| K.gtr rfl rfl (decide_eq_true (by omega)) .plain <| RunK.nil <| LWP.condT rfl ?_; refine LWP.seq <| rgN <| kas rfl <| RunK.nil <| LWP.ret ?_))
      exact ⟨[_], ⟨rfl, trivial⟩, rfl⟩
    have hadi : IntKind.i64.wrap ((i : Int) + 1) = ((i + 1 : Nat) : Int) := by rw [wrap_i64 (by omega)]; omega
    have hnext := (dep_snoc hd hx).trans (if_pos ⟨hok, by omega, by omega⟩)
    ((refine LWP.seq <| LWP.seq <| rgN <| kmv rfl <| kmv rfl <| K.lenX rfl SliceT.h rfl .plain ?_; refine klt rfl rfl (decide_eq_true (by omega)) <| RunK.nil <| LWP.condT rfl ?_; refine LWP.skip ?_; refine LWP.seq <| LWP.block <| LWP.seq <| rgN <| kmv rfl <| kmv rfl <| K.indexX rfl rfl SliceT.h (by omega) hio .plain <| K.loadXagg rfl hX (by kernel_rfl) hsz hcs .plain <| K.alloc rfl .plain ?_; refine K.storeAll rfl rfl rfl rfl rfl rfl .plain ?_; refine RunK.nil <| LWP.seq <| LWP.seq <| rgN <| kfa rfl rfl ?_; refine kl1 rfl rfl rfl <| klt rfl rfl (decide_eq_false (by omega)) <| kmv rfl <| K.fieldAddr rfl rfl (.taken rfl rfl) ?_; refine K.loadOne rfl rfl rfl (.taken rfl rfl) ?_; refine K.gtr rfl rfl (decide_eq_false (by omega)) (.taken rfl rfl) ?_; refine kpf rfl rfl <| kmv rfl <| K.fieldAddr rfl rfl (.taken rfl rfl) ?_; refine K.loadPart rfl rfl rfl (by exact nl3 rfl rfl rfl rfl) (.taken rfl rfl) ?_; refine gca rfl rfl (hG) rfl rfl <| K.not rfl rfl (.taken rfl rfl) ?_); (refine kpf rfl rfl <| kmv rfl <| K.fieldAddr rfl rfl (.taken rfl rfl) ?_; refine K.loadOne rfl rfl rfl (.taken rfl rfl) ?_; refine K.lss rfl rfl (decide_eq_false (by omega)) (.taken rfl rfl) ?_; refine kpf rfl rfl <| kmv rfl <| K.fieldAddr rfl rfl (.taken rfl rfl) ?_; refine K.loadOne rfl rfl rfl (.taken rfl rfl) ?_; refine K.gtr rfl rfl (decide_eq_false (by omega)) (.taken rfl rfl) ?_; refine kpf rfl rfl <| kmv rfl <| K.fieldAddr rfl rfl (.taken rfl rfl) ?_; refine K.loadOne rfl rfl rfl (.taken rfl rfl) ?_; refine K.lss rfl rfl (decide_eq_false (by omega)) (.taken rfl rfl) ?_; refine kpf rfl rfl <| kmv rfl <| K.fieldAddr rfl rfl (.taken rfl rfl) ?_; refine K.loadOne rfl rfl rfl (.taken rfl rfl) ?_; refine K.gtr rfl rfl (decide_eq_false (by omega)) (.taken rfl rfl) ?_); (refine kpf rfl rfl <| kmv rfl <| gmv rfl rfl rfl <| K.fieldAddr rfl rfl (.taken rfl rfl) ?_; refine K.loadOne rfl rfl rfl (.taken rfl rfl) ?_; refine gca rfl rfl (hT) rfl rfl <| K.lss rfl rfl (decide_eq_false (by omega)) (.taken rfl rfl) ?_; refine kpf rfl rfl <| RunK.nil <| LWP.condF rfl ?_; refine LWP.skip ?_; refine LWP.seq <| rgN <| kmv rfl <| kfa rfl rfl ?_; refine kl1 rfl rfl rfl <| kca rfl rfl (hT) <| K.sub rfl rfl hsub .plain <| kad rfl rfl hadd <| kas rfl <| RunK.nil <| LWP.seq <| rgN <| kmv rfl <| K.gtr rfl rfl (decide_eq_false (by omega)) .plain <| RunK.nil <| LWP.condF rfl ?_; refine LWP.skip ?_; refine rgN <| kmv rfl <| kad rfl rfl hadi <| kas rfl <| RunK.nil ?_))
    exact ⟨_, ⟨[(0, Lx (some ⟨blk, off, none⟩) l.length cap), (3, Ln .i64 (n - takes x.op + 1 : Nat)), (4, Ln .i64 (i + 1 : Nat))], [], X⟩, by omega, Le.of (by exact ⟨rfl, rfl, rfl, trivial⟩) (by exact trivial) (by exact rfl) (by exact rfl) (by exact rfl), i + 1, _, by omega, rfl, hnext, rfl⟩
  have e : i = l.length := by omega
  subst e
  rw [List.take_length] at hd
  by_cases h1 : n = 1
  · have e : chkX l = 0 := by unfold chkX; rw [if_neg hlong, if_pos (by rw [hd, h1])]
    rw [e]
    (refine LWP.seq <| LWP.seq <| rgN <| kmv rfl <| kmv rfl <| K.lenX rfl SliceT.h rfl .plain ?_; refine klt rfl rfl (decide_eq_false (by omega)) <| RunK.nil <| LWP.condF rfl ?_; refine LWP.exit <| LWP.seq <| LWP.seq <| rgN <| kmv rfl <| kne rfl rfl (bne_eq_false_iff_eq.2 (by omega)) <| RunK.nil <| LWP.condF rfl ?_; refine LWP.skip ?_; refine LWP.seq <| rgN <| kas rfl <| RunK.nil <| LWP.ret ?_)
    exact ⟨[_], ⟨rfl, trivial⟩, rfl⟩
  · have e : chkX l = 4 := by unfold chkX; rw [if_neg hlong, if_neg (by rw [hd]; exact fun h => h1 (by simpa using h))]
    rw [e]
    (refine LWP.seq <| LWP.seq <| rgN <| kmv rfl <| kmv rfl <| K.lenX rfl SliceT.h rfl .plain ?_; refine klt rfl rfl (decide_eq_false (by omega)) <| RunK.nil <| LWP.condF rfl ?_; refine LWP.exit <| LWP.seq <| LWP.seq <| rgN <| kmv rfl <| kne rfl rfl (bne_iff_ne.2 (by omega)) <| RunK.nil <| LWP.condT rfl ?_; refine LWP.seq <| rgN <| kas rfl <| RunK.nil <| LWP.ret ?_)
    exact ⟨[_], ⟨rfl, trivial⟩, rfl⟩
end Go.Proofs.YtimpjdbhalnofaaGreatDoor
end
section
namespace Go.Lg.Sg
open Go Go.Lg
def nuV (l : List Int) : List Value := l.map (Value.int .i64 ·)
def NuIn (X : Nat → Option Obj) (ad : Option Addr) (l : List Int) : Prop := RowsIn X ad 1 (l.map fun n => [.int .i64 n])
theorem nu_at {l : List Int} {i : Nat} {x : Int} (h : l[i]? = some x) : ((nuV l).map CV.val)[i * 1]? = some (.val (.int .i64 x)) := by
  unfold nuV
  rw [Nat.mul_one, List.getElem?_map, List.getElem?_map, h]
  rfl
abbrev nuB (k : Nat) (l : List Int) : Nat × Option Box := (k, some ⟨3, (nuV l).map .val, true⟩)
abbrev nuB' (k : Nat) (l : List Int) (r : Bool) : Nat × Option Box := (k, some ⟨3, (nuV l).map .val, r⟩)
end Go.Lg.Sg
end
section
namespace Go.Lg.Fml
theorem takes_sum_le : ∀ (l : List Ins), -(l.length : Int) ≤ surplus l ∧ surplus l ≤ 2 * (l.length : Int)
  | [] => by simp [surplus]
  | x :: l => by
    have := takes_le x.op
    have := takes_sum_le l
    simp only [surplus, List.length_cons]
    omega
theorem flat_len (t : Tr) : 1 ≤ t.flat.length := List.length_pos_iff.2 (flat_pos t)
theorem endsL_at : ∀ {us : List Tr} {p i : Nat} {a : Tr}, us[i]? = some a → (endsL p us)[i]? = some (p + (flatL (us.take (i + 1))).length - 1)
  | [], _, _, _, h => by simp at h
  | b :: us, p, 0, a, h => by simp [endsL, flatL]
  | b :: us, p, i + 1, a, h => by
    rw [List.getElem?_cons_succ] at h
    rw [endsL, List.getElem?_cons_succ, endsL_at h, List.take_succ_cons, flatL, List.length_append, Nat.add_assoc]
end Go.Lg.Fml
namespace Go.Proofs.YtimpjdbhalnofaaGreatDoor
open Go Go.Lg Go.Lg.Fml Go.Lg.Fld Go.Lg.Sg
set_option maxRecDepth 100000
variable (X : Nat → Option Obj)
set_option maxHeartbeats 3200000 in
theorem rStart_spec (l : List Ins) (ad : Option Addr) (cap : Nat) (hin : InsIn X ad l) (hbig : l.length < 1152921504606846976) {p : Nat} {t : Tr} (hA : At l p t) (ht : t.ok) (e : Int) (he : e = ((p + t.flat.length : Nat) : Int) - 1) :
    PSpec Tryz.prog X 99 [Lx ad l.length cap, Ln .i64 e] (Ln .i64 (p : Nat)) := by
  refine PSpec.intro Tryz.func99 rfl (by kernel_rfl) rfl rfl ?_
  intro C
  have hlen := hA.len
  have h1 := flat_len t
  have hs0 : 1 + surplus (t.flat.drop t.flat.length) = 1 := by rw [List.drop_length]; rfl
  (refine LWP.seq <| rgN <| kas rfl <| RunK.nil <| LWP.seq <| rgN <| kas rfl <| RunK.nil <| LWP.seq <| LWP.seq <| rgN <| kmv rfl <| kas rfl <| RunK.nil ?_; refine LWP.block ?_)
  refine LWP.loop (fun m σ => ∃ k : Nat, 1 ≤ k ∧ k ≤ t.flat.length ∧ m = k ∧ σ = ⟨[(0, Lx ad l.length cap), (5, Ln .i64 (1 + surplus (t.flat.drop k))), (6, Ln .i64 (((p + k : Nat) : Int) - 1))], [], X⟩) t.flat.length
    ⟨⟨[(0, Lx ad l.length cap), (5, Ln .i64 1), (6, Ln .i64 e)], [], X⟩, Le.of (by exact ⟨rfl, rfl, rfl, trivial⟩) (by exact trivial) (by exact rfl) (by exact rfl) (by exact rfl), t.flat.length, h1, Nat.le_refl _, rfl, by rw [hs0, he]⟩ ?_
  rintro m σ ⟨k', hk1, hk, rfl, rfl⟩
  obtain ⟨k, rfl⟩ : ∃ k, m = k + 1 := ⟨m - 1, by omega⟩
  obtain ⟨x, hx⟩ : ∃ x, t.flat[k]? = some x := ⟨_, List.getElem?_eq_getElem (by omega)⟩
  obtain ⟨b1, b2, b3⟩ := back_step ht hx
  have hxl : l[p + k]? = some x := (hA.get (by omega)).trans hx
  obtain ⟨blk, off, arr, el, fr, rfl, hX, hsz, hcs, hop⟩ := hin.at hxl
  have hT := rTakes_spec X x.op
  have htk := takes_le x.op
  have hs1 := takes_sum_le (t.flat.drop (k + 1))
  rw [List.length_drop] at hs1
  have hio : off + Int.toNat (((p + (k + 1) : Nat) : Int) - 1) * 6 = off + (p + k) * 6 := by
    have : Int.toNat (((p + (k + 1) : Nat) : Int) - 1) = p + k := by omega
    rw [this]
  have hin0 : 0 ≤ ((p + (k + 1) : Nat) : Int) - 1 ∧ ((p + (k + 1) : Nat) : Int) - 1 < (l.length : Nat) := by omega
  have hsub : IntKind.i64.wrap (1 + surplus (t.flat.drop (k + 1)) - 1) = surplus (t.flat.drop (k + 1)) := by rw [wrap_i64 (by omega)]; omega
  have hadd : IntKind.i64.wrap (surplus (t.flat.drop (k + 1)) + (takes x.op : Nat)) = 1 + surplus (t.flat.drop k) := by rw [wrap_i64 (by omega)]; omega
  by_cases h0 : k = 0
  · subst h0
    have b2 := b2 rfl
    rw [b2] at hadd
    have e2 : (((p + (0 + 1) : Nat) : Int) - 1) = (p : Nat) := by omega
    rw [e2] at hio hin0 ⊢
    (refine LWP.seq <| LWP.seq <| rgN <| kmv rfl <| K.geq rfl rfl (decide_eq_true (by omega)) .plain <| RunK.nil <| LWP.condT rfl ?_; refine LWP.skip ?_; refine LWP.seq <| LWP.block <| LWP.seq <| rgN <| kmv rfl <| K.sub rfl rfl hsub .plain <| kmv rfl <| kmv rfl <| K.indexX rfl rfl SliceT.h hin0 hio .plain <| K.fieldAddrX rfl rfl .plain ?_; refine K.loadX rfl hX rfl hop .plain <| kca rfl rfl (hT) <| kad rfl rfl hadd <| kas rfl <| RunK.nil <| LWP.seq <| rgN <| kmv rfl <| keq rfl rfl (r := true) rfl <| RunK.nil <| LWP.condT rfl ?_; refine LWP.seq <| rgN <| kmv rfl <| kas rfl <| RunK.nil <| LWP.ret ?_)
    exact ⟨[_], ⟨rfl, trivial⟩, rfl⟩
  have b3 := b3 h0
  have hdec : IntKind.i64.wrap ((((p + (k + 1) : Nat) : Int) - 1) - 1) = ((p + k : Nat) : Int) - 1 := by rw [wrap_i64 (by omega)]; omega
  (refine LWP.seq <| LWP.seq <| rgN <| kmv rfl <| K.geq rfl rfl (decide_eq_true (by omega)) .plain <| RunK.nil <| LWP.condT rfl ?_; refine LWP.skip ?_; refine LWP.seq <| LWP.block <| LWP.seq <| rgN <| kmv rfl <| K.sub rfl rfl hsub .plain <| kmv rfl <| kmv rfl <| K.indexX rfl rfl SliceT.h hin0 hio .plain <| K.fieldAddrX rfl rfl .plain ?_; refine K.loadX rfl hX rfl hop .plain <| kca rfl rfl (hT) <| kad rfl rfl hadd <| kas rfl <| RunK.nil <| LWP.seq <| rgN <| kmv rfl <| keq rfl rfl (r := false) (beq_eq_false_iff_ne.2 (by omega)) <| RunK.nil <| LWP.condF rfl ?_; refine LWP.skip ?_; refine rgN <| kmv rfl <| K.sub rfl rfl hdec .plain <| kas rfl <| RunK.nil ?_)
  exact ⟨_, ⟨[(0, Lx (some ⟨blk, off, none⟩) l.length cap), (5, Ln .i64 (1 + surplus (t.flat.drop k))), (6, Ln .i64 (((p + k : Nat) : Int) - 1))], [], X⟩, by omega, Le.of (by exact ⟨rfl, rfl, rfl, trivial⟩) (by exact trivial) (by exact rfl) (by exact rfl) (by exact rfl), k, by omega, by omega, rfl, rfl⟩
def endsI (p : Nat) (us : List Tr) : List Int := (endsL p us).map fun n => ((n : Nat) : Int)
theorem endsI_len (p : Nat) (us : List Tr) : (endsI p us).length = us.length := by unfold endsI; rw [List.length_map, endsL_len]
theorem endsI_step {p : Nat} {us : List Tr} {j : Nat} {a : Tr} (h : us[j]? = some a) : (endsI p us).drop j = ((p + (flatL (us.take (j + 1))).length - 1 : Nat) : Int) :: (endsI p us).drop (j + 1) := by
  have h1 : (endsI p us)[j]? = some ((p + (flatL (us.take (j + 1))).length - 1 : Nat) : Int) := by unfold endsI; rw [List.getElem?_map, endsL_at h]; rfl
  obtain ⟨hj, e⟩ := List.getElem?_eq_some_iff.1 h1
  rw [List.drop_eq_getElem_cons hj, e]
set_option maxHeartbeats 6400000 in
theorem rBranches_spec (l : List Ins) (ad : Option Addr) (cap : Nat) (hin : InsIn X ad l) (hbig : l.length < 1152921504606846976) {p : Nat} {t : Tr} (hA : At l p t) (ht : t.ok) (hpos : 0 < t.args.length) (e : Int) (he : e = ((p + t.flat.length : Nat) : Int) - 1) :
    MSpec Tryz.prog X 66 [Lx ad l.length cap, Ln .i64 e] [] (.sv (.one (.slc 1000001 0 (endsI p t.args).length))) [nuB 1000001 (endsI p t.args)] := by
  refine MSpec.intro Tryz.func66 rfl (by kernel_rfl) rfl rfl (by exact (by repeat' (first | refine all_cons_true ?_ ?_ | rfl | exact bytes_inUse | exact vals_inUse | exact mid_inUse rfl))) rfl rfl ?_
  intro C
  have hrl : ∀ l : List Int, ((nuV l).map CV.val).length = l.length * 1 := fun l => by unfold nuV; rw [List.length_map, List.length_map, Nat.mul_one]
  have hlen := hA.len
  have h1 := flat_len t
  have hfa := flat_args t
  have hfl : t.flat.length = (flatL t.args).length + 1 := by rw [hfa]; simp
  have hal := args_le t
  obtain ⟨htop, hoks⟩ := ok_args ht
  obtain ⟨blk, off, arr, el, fr, rfl, hX, hsz, hcs, hop⟩ := hin.at hA.top
  have hT := rTakes_spec X t.top.op
  rw [htop] at hT
  have hio : off + Int.toNat e * 6 = off + (p + t.flat.length - 1) * 6 := by
    have : Int.toNat e = p + t.flat.length - 1 := by omega
    rw [this]
  have hin0 : 0 ≤ e ∧ e < (l.length : Nat) := by omega
  have hdrop0 : (endsI p t.args).drop t.args.length = [] := List.drop_eq_nil_of_le (by rw [endsI_len]; exact Nat.le_refl _)
  have he1 : IntKind.i64.wrap (e - 1) = ((p + (flatL (t.args.take (t.args.length - 0))).length : Nat) : Int) - 1 := by
    rw [Nat.sub_zero, List.take_length, wrap_i64 (by omega)]; omega
  refine LWP.ends ?_
  (refine LWP.seq <| rgN <| kas rfl <| RunK.nil <| LWP.seq <| rgN <| K.buildSlc (zs := []) (sz := 1) (e := 3) (by kernel_rfl) rfl rfl rfl rfl rfl rfl .plain <| kas rfl <| RunK.nil <| LWP.seq <| rgN <| kmv rfl <| K.sub rfl rfl he1 .plain <| kas rfl ?_; refine RunK.nil <| LWP.seq <| LWP.seq <| rgN <| kas rfl <| RunK.nil <| LWP.block ?_)
  refine LWP.loop (fun m σ => ∃ (i : Nat) (r : Bool), i ≤ t.args.length ∧ (0 < i → r = true) ∧ m = t.args.length - i ∧ σ = ⟨[(0, Lx (some ⟨blk, off, none⟩) l.length cap), (1, Ln .i64 e), (5, .sv (.one (.slc 500 0 ((endsI p t.args).drop (t.args.length - i)).length))), (6, Ln .i64 (((p + (flatL (t.args.take (t.args.length - i))).length : Nat) : Int) - 1)), (7, Ln .i64 (i : Nat))], [nuB' 500 ((endsI p t.args).drop (t.args.length - i)) r], X⟩) t.args.length
    ⟨⟨[(0, Lx (some ⟨blk, off, none⟩) l.length cap), (1, Ln .i64 e), (5, .sv (.one (.slc 500 0 ([] : List Int).length))), (6, Ln .i64 (((p + (flatL (t.args.take (t.args.length - 0))).length : Nat) : Int) - 1)), (7, Ln .i64 (0 : Nat))], [nuB' 500 [] false], X⟩, Le.ofR [(500, 8)] (by exact ⟨rfl, rfl, rfl, rfl, rfl, trivial⟩) (by repeat' (first | exact trivial | refine And.intro ⟨_, rfl, ?_⟩ ?_ | refine And.intro ⟨_, rfl⟩ ?_ | rfl | exact Box.ren_bytes _ _ _ _ | exact Box.ren_vals _ _ _ _ | exact Box.ren_mid rfl)) (by exact rfl) (by exact rfl) (by repeat' (first | refine all_cons_true ?_ ?_ | rfl | exact bytes_inUse | exact vals_inUse | exact mid_inUse rfl)) (by exact rfl) (by exact rfl), 0, false, by omega, (fun h => absurd h (by decide)), rfl, by rw [Nat.sub_zero, hdrop0]⟩ ?_
  rintro m σ ⟨i, r, hi, hr, rfl, rfl⟩
  by_cases hlt : i < t.args.length
  · obtain ⟨j, hj⟩ : ∃ j, t.args.length - i = j + 1 := ⟨t.args.length - i - 1, by omega⟩
    have hj2 : t.args.length - (i + 1) = j := by omega
    rw [hj]
    obtain ⟨a, ha⟩ : ∃ a, t.args[j]? = some a := ⟨_, List.getElem?_eq_getElem (by omega)⟩
    obtain ⟨hAa, _⟩ := hA.arg ha
    have hstep := endsI_step (p := p) ha
    have htk : t.args.take (j + 1) = t.args.take j ++ [a] := take_snoc ha
    have hft : (flatL (t.args.take (j + 1))).length = (flatL (t.args.take j)).length + a.flat.length := by rw [htk, flatL_app, List.length_append]; simp [flatL]
    have ha1 := flat_len a
    have hal2 := hAa.len
    have hS := rStart_spec X l (some ⟨blk, off, none⟩) cap hin hbig hAa (hoks a (List.mem_of_getElem? ha)) (((p + (flatL (t.args.take (j + 1))).length : Nat) : Int) - 1) (by omega)
    have hcell : (((p + (flatL (t.args.take (j + 1))).length : Nat) : Int) - 1) = ((p + (flatL (t.args.take (j + 1))).length - 1 : Nat) : Int) := by omega
    have hsub : IntKind.i64.wrap (((p + (flatL (t.args.take j)).length : Nat) : Int) - 1) = ((p + (flatL (t.args.take j)).length : Nat) : Int) - 1 := by rw [wrap_i64 (by omega)]
    have hadd : IntKind.i64.wrap ((i : Int) + 1) = ((i + 1 : Nat) : Int) := by rw [wrap_i64 (by omega)]; omega
    rw [← hcell] at hstep
    have hElen : ((endsI p t.args).drop (j + 1)).length ≤ 3 := by rw [List.length_drop, endsI_len]; omega
    generalize ((p + (flatL (t.args.take (j + 1))).length : Nat) : Int) - 1 = v at *
    generalize hE : (endsI p t.args).drop (j + 1) = E at *
    have hnc : [CV.val (.int .i64 v)] ++ (nuV E).map CV.val = (nuV (v :: E)).map CV.val := rfl
    have hnl : 1 + E.length = (v :: E).length := by rw [List.length_cons, Nat.add_comm]
    have htake : ((nuV E).map CV.val).take (E.length * 1) = (nuV E).map CV.val := List.take_of_length_le (by rw [hrl]; exact Nat.le_refl _)
    have hsol : ((nuV E).map CV.val).all CV.solid = true := vals_solid (by unfold nuV; rw [List.all_map]; exact List.all_eq_true.2 fun _ _ => rfl)
    (refine LWP.seq <| LWP.seq <| rgN <| kmv rfl <| kmv rfl <| kmv rfl <| K.indexX rfl rfl SliceT.h hin0 hio .plain <| K.fieldAddrX rfl rfl .plain ?_; refine K.loadX rfl hX rfl hop .plain <| kca rfl rfl (hT) <| klt rfl rfl (decide_eq_true (by omega)) <| RunK.nil <| LWP.condT rfl ?_; refine LWP.skip ?_; refine LWP.seq <| LWP.block <| LWP.seq <| rgN <| kmv rfl <| K.buildSlc (zs := [.int .i64 0]) (sz := 1) (e := 3) (cs' := [.val (.int .i64 v)]) (by kernel_rfl) rfl rfl rfl rfl rfl rfl .plain <| kmv rfl <| K.appendSlc (by_ := 8) (e2 := 3) (l2 := (nuV E).map .val) (nl := (v :: E).length) (nc := (nuV (v :: E)).map .val) rfl rfl rfl rfl rfl (by rw [hrl]; exact Nat.le_refl _) htake hsol (by kernel_rfl) (by kernel_rfl) (by omega) (by omega) rfl hnl hnc .plain <| kas rfl <| RunK.nil <| rgN <| kmv rfl <| kmv rfl <| kca rfl rfl (hS) ?_; refine K.sub rfl rfl hsub .plain <| kas rfl <| RunK.nil <| rgN <| kmv rfl <| kad rfl rfl hadd <| kas rfl <| RunK.nil ?_)
    exact ⟨_, ⟨[(0, Lx (some ⟨blk, off, none⟩) l.length cap), (1, Ln .i64 e), (5, .sv (.one (.slc 500 0 (v :: E).length))), (6, Ln .i64 (((p + (flatL (t.args.take j)).length : Nat) : Int) - 1)), (7, Ln .i64 (i + 1 : Nat))], [nuB' 500 (v :: E) true], X⟩, by omega, Le.ofR [(500, 24)] (by exact ⟨rfl, rfl, rfl, rfl, rfl, trivial⟩) (by repeat' (first | exact trivial | refine And.intro ⟨_, rfl, ?_⟩ ?_ | refine And.intro ⟨_, rfl⟩ ?_ | rfl | exact Box.ren_bytes _ _ _ _ | exact Box.ren_vals _ _ _ _ | exact Box.ren_mid rfl)) (by exact rfl) (by exact rfl) (by repeat' (first | refine all_cons_true ?_ ?_ | rfl | exact bytes_inUse | exact vals_inUse | exact mid_inUse rfl)) (by exact rfl) (by exact rfl), i + 1, true, by omega, (fun _ => rfl), rfl, by rw [hj2, hstep]⟩
  · have e2 : i = t.args.length := by omega
    obtain rfl : r = true := hr (by omega)
    subst e2
    rw [Nat.sub_self, List.drop_zero]
    (refine LWP.seq <| LWP.seq <| rgN <| kmv rfl <| kmv rfl <| kmv rfl <| K.indexX rfl rfl SliceT.h hin0 hio .plain <| K.fieldAddrX rfl rfl .plain ?_; refine K.loadX rfl hX rfl hop .plain <| kca rfl rfl (hT) <| klt rfl rfl (decide_eq_false (by omega)) <| RunK.nil <| LWP.condF rfl ?_; refine LWP.exit <| LWP.seq <| rgN <| kmv rfl <| kas rfl <| RunK.nil <| LWP.ret ?_)
    refine Leads.le (σ' := ⟨[(4, .sv (.one (.slc 500 0 (endsI p t.args).length)))], [nuB 500 (endsI p t.args)], X⟩) (Le.ofR [(500, 500)] (by exact ⟨rfl, trivial⟩) (by repeat' (first | exact trivial | refine And.intro ⟨_, rfl, ?_⟩ ?_ | refine And.intro ⟨_, rfl⟩ ?_ | rfl | exact Box.ren_bytes _ _ _ _ | exact Box.ren_vals _ _ _ _ | exact Box.ren_mid rfl)) (by exact rfl) (by exact rfl) (by repeat' (first | refine all_cons_true ?_ ?_ | rfl | exact bytes_inUse | exact vals_inUse | exact mid_inUse rfl)) (by exact rfl) (by exact rfl)) ?_
    refine Leads.le Le.loose (Leads.done ?_)
    exact ⟨[(1000001, 500)], ⟨[_], ⟨rfl, trivial⟩, rfl⟩, (by repeat' (first | exact trivial | refine And.intro ⟨_, rfl, ?_⟩ ?_ | refine And.intro ⟨_, rfl⟩ ?_ | rfl | exact Box.ren_bytes _ _ _ _ | exact Box.ren_vals _ _ _ _ | exact Box.ren_mid rfl)), rfl, rfl⟩
end Go.Proofs.YtimpjdbhalnofaaGreatDoor
end
section
namespace Go.Proofs
open Go.Shelf
def Tryz.lays156_ren : Go.Shelf.Ren := ⟨fun | 156 => 70 | 165 => 105 | 166 => 106 | 169 => 107 | 240 => 136 | 241 => 137 | 276 => 149 | 277 => 150 | n => n, fun | 31 => 79 | 9 => 9 | 3 => 3 | 4 => 4 | 0 => 0 | 20 => 20 | 72 => 152 | 76 => 156 | 70 => 150 | 37 => 56 | 75 => 155 | 127 => 179 | 164 => 188 | 5 => 5 | 80 => 90 | n => n, fun | n => n⟩
theorem Tryz.lays156 : Go.Proofs.Lays.n156 Tryz.prog Tryz.lays156_ren := {
  mixed := by kernel_rfl
  f156 := Tryz.func70.trans (congrArg some (by kernel_rfl))
  f165 := Tryz.func105.trans (congrArg some (by kernel_rfl))
  f166 := Tryz.func106.trans (congrArg some (by kernel_rfl))
  f169 := Tryz.func107.trans (congrArg some (by kernel_rfl))
  f240 := Tryz.func136.trans (congrArg some (by kernel_rfl))
  f241 := Tryz.func137.trans (congrArg some (by kernel_rfl))
  f276 := Tryz.func149.trans (congrArg some (by kernel_rfl))
  f277 := Tryz.func150.trans (congrArg some (by kernel_rfl))
  t0 := Tryz.underlying0
  a0 := Tryz.isAgg0
  z0 := Tryz.sizeOf0
  v0 := Tryz.zeroValue0
  t3 := Tryz.underlying3
  a3 := Tryz.isAgg3
  z3 := Tryz.sizeOf3
  v3 := Tryz.zeroValue3
  t4 := Tryz.underlying4
  a4 := Tryz.isAgg4
  z4 := Tryz.sizeOf4
  v4 := Tryz.zeroValue4
  t9 := Tryz.underlying9
  a9 := Tryz.isAgg9
  z9 := Tryz.sizeOf9
  v9 := Tryz.zeroValue9
  t20 := Tryz.underlying20
  a20 := Tryz.isAgg20
  z20 := Tryz.sizeOf20
  v20 := Tryz.zeroValue20
  t31 := Tryz.underlying79
  a31 := Tryz.isAgg79
  z31 := Tryz.sizeOf79
  v31 := Tryz.zeroValue79
  t37 := Tryz.underlying56
  a37 := Tryz.isAgg56
  z37 := Tryz.sizeOf56
  v37 := Tryz.zeroValue56
  t70 := Tryz.underlying150
  a70 := Tryz.isAgg150
  z70 := Tryz.sizeOf150
  v70 := Tryz.zeroValue150
  t72 := Tryz.underlying152
  a72 := Tryz.isAgg152
  z72 := Tryz.sizeOf152
  v72 := Tryz.zeroValue152
  t75 := Tryz.underlying155
  a75 := Tryz.isAgg155
  z75 := Tryz.sizeOf155
  v75 := Tryz.zeroValue155
  t76 := Tryz.underlying156
  a76 := Tryz.isAgg156
  z76 := Tryz.sizeOf156
  v76 := Tryz.zeroValue156
  t127 := Tryz.underlying179
  a127 := Tryz.isAgg179
  z127 := Tryz.sizeOf179
  v127 := Tryz.zeroValue179
  t164 := Tryz.underlying188
  a164 := Tryz.isAgg188
  z164 := Tryz.sizeOf188
  v164 := Tryz.zeroValue188 }
theorem Tryz.Builder_Extra_156 : Builder.Extra Tryz.prog Tryz.lays156_ren := {
  sizeBuilder := by kernel_rfl
  liesBuilder := by kernel_rfl
  t5 := Tryz.underlying5
  a5 := Tryz.isAgg5
  z5 := Tryz.sizeOf5
  v5 := Tryz.zeroValue5
  infoByte := by kernel_rfl
  cellsByte := by kernel_rfl
  sizeByte := by kernel_rfl
  neB5 := by decide }
open Go.RowKit in
theorem Tryz.strings_Join (bk o c : Nat) (xs : List ByteArray) (sep : ByteArray) (w : World) (hcells : ∀ (j : Nat) x, xs[j]? = some x → w.cell? ⟨bk, o + j, none⟩ = some (.string x)) (hbk : bk < w.heap.size) (hN : xs.length ≤ 140737488355328) (hcap : xs.length ≤ c) (hlen : (Lib.join (xs.map (·.data.toList)) sep.data.toList).length ≤ 140737488355328) :
    Calls Tryz.prog 70 #[.slice (some ⟨bk, o, none⟩) xs.length c, .string sep] w fun e w' => e = .returned (.string ⟨(Lib.join (xs.map (·.data.toList)) sep.data.toList).toArray⟩) ∧ Below w.heap.size w w' := Any.strings_Join Tryz.lays156 Tryz.Builder_Extra_156 bk o c xs sep w hcells hbk hN hcap hlen
def Tryz.lays134_ren : Go.Shelf.Ren := ⟨fun | 134 => 118 | 129 => 140 | n => n, fun | 53 => 28 | 3 => 3 | 4 => 4 | 46 => 60 | 5 => 5 | 9 => 9 | n => n, fun | n => n⟩
theorem Tryz.lays134 : Go.Proofs.Lays.n134 Tryz.prog Tryz.lays134_ren := {
  mixed := by kernel_rfl
  f129 := Tryz.func140.trans (congrArg some (by kernel_rfl))
  f134 := Tryz.func118.trans (congrArg some (by kernel_rfl))
  t3 := Tryz.underlying3
  a3 := Tryz.isAgg3
  z3 := Tryz.sizeOf3
  v3 := Tryz.zeroValue3
  t4 := Tryz.underlying4
  a4 := Tryz.isAgg4
  z4 := Tryz.sizeOf4
  v4 := Tryz.zeroValue4
  t5 := Tryz.underlying5
  a5 := Tryz.isAgg5
  z5 := Tryz.sizeOf5
  v5 := Tryz.zeroValue5
  t9 := Tryz.underlying9
  a9 := Tryz.isAgg9
  z9 := Tryz.sizeOf9
  v9 := Tryz.zeroValue9
  t46 := Tryz.underlying60
  a46 := Tryz.isAgg60
  z46 := Tryz.sizeOf60
  v46 := Tryz.zeroValue60
  t53 := Tryz.underlying28
  a53 := Tryz.isAgg28
  z53 := Tryz.sizeOf28
  v53 := Tryz.zeroValue28 }
theorem Tryz.bits_LeadingZeros64 (x : Int) (w : World) (h0 : 0 ≤ x) (h1 : x ≤ 18446744073709551615) :
    Calls Tryz.prog 118 #[.int .u64 x] w fun e w' => e = .returned (.int .i64 (64 - (Lib.bitLen x.toNat : Int))) ∧ w' = w := Any.bits_LeadingZeros64 Tryz.lays134 x w h0 h1
def Tryz.lays283_ren : Go.Shelf.Ren := ⟨fun | 283 => 145 | n => n, fun | 3 => 3 | 9 => 9 | 4 => 4 | n => n, fun | n => n⟩
theorem Tryz.lays283 : Go.Proofs.Lays.n283 Tryz.prog Tryz.lays283_ren := {
  mixed := by kernel_rfl
  f283 := Tryz.func145.trans (congrArg some (by kernel_rfl))
  t3 := Tryz.underlying3
  a3 := Tryz.isAgg3
  z3 := Tryz.sizeOf3
  v3 := Tryz.zeroValue3
  t4 := Tryz.underlying4
  a4 := Tryz.isAgg4
  z4 := Tryz.sizeOf4
  v4 := Tryz.zeroValue4
  t9 := Tryz.underlying9
  a9 := Tryz.isAgg9
  z9 := Tryz.sizeOf9
  v9 := Tryz.zeroValue9 }
open Go.Lib in
theorem Tryz.internal_strconv_small (i : Nat) (h : i < 100) (w : World) :
    Calls Tryz.prog 145 #[.int .i64 i] w fun e w' => e = .returned (.string ⟨(Lib.decDigits i).toArray⟩) ∧ w' = w := Any.internal_strconv_small Tryz.lays283 i h w
def Tryz.laysM284_ren : Go.Shelf.Ren := ⟨fun | 284 => 146 | 129 => 140 | 317 => 153 | 318 => 154 | n => n, fun | 53 => 28 | 3 => 3 | 212 => 195 | 0 => 0 | 4 => 4 | 46 => 60 | 5 => 5 | 9 => 9 | n => n, fun | 17 => 2 | n => n⟩
theorem Tryz.laysM284 : Go.Proofs.LaysM.n284 Tryz.prog Tryz.laysM284_ren := {
  mixed := by kernel_rfl
  f129 := Tryz.func140.trans (congrArg some (by kernel_rfl))
  f284 := Tryz.func146.trans (congrArg some (by kernel_rfl))
  f317 := Tryz.func153.trans (congrArg some (by kernel_rfl))
  f318 := Tryz.func154.trans (congrArg some (by kernel_rfl))
  t0 := Tryz.underlying0
  a0 := Tryz.isAgg0
  z0 := Tryz.sizeOf0
  v0 := Tryz.zeroValue0
  t3 := Tryz.underlying3
  a3 := Tryz.isAgg3
  z3 := Tryz.sizeOf3
  v3 := Tryz.zeroValue3
  t4 := Tryz.underlying4
  a4 := Tryz.isAgg4
  z4 := Tryz.sizeOf4
  v4 := Tryz.zeroValue4
  t5 := Tryz.underlying5
  a5 := Tryz.isAgg5
  z5 := Tryz.sizeOf5
  v5 := Tryz.zeroValue5
  t9 := Tryz.underlying9
  a9 := Tryz.isAgg9
  z9 := Tryz.sizeOf9
  v9 := Tryz.zeroValue9
  t46 := Tryz.underlying60
  a46 := Tryz.isAgg60
  z46 := Tryz.sizeOf60
  v46 := Tryz.zeroValue60
  t53 := Tryz.underlying28
  a53 := Tryz.isAgg28
  z53 := Tryz.sizeOf28
  v53 := Tryz.zeroValue28
  t212 := Tryz.underlying195
  a212 := Tryz.isAgg195
  z212 := Tryz.sizeOf195
  v212 := Tryz.zeroValue195
  g17 := by kernel_rfl
  i0 := by kernel_rfl
  i3 := by kernel_rfl
  i4 := by kernel_rfl
  i5 := by kernel_rfl
  i9 := by kernel_rfl
  i46 := by kernel_rfl
  i53 := by kernel_rfl
  i212 := by kernel_rfl
  m17 := by kernel_rfl }
open Go.Lib in
theorem Tryz.internal_strconv_numDigits (u : Nat) (h1 : 1 ≤ u) (h2 : u < 18446744073709551616) (w : World) (htab : Lib.TabIs Tryz.prog w "internal/strconv.uint64pow10" .u64 Lib.pow10Tab) :
    Calls Tryz.prog 146 #[.int .u64 u] w fun e w' => e = .returned (.int .i64 (Lib.nDigits u)) ∧ w' = w := Any.internal_strconv_numDigits Tryz.laysM284 u h1 h2 w htab
def Tryz.lays285_ren : Go.Shelf.Ren := ⟨fun | 285 => 147 | n => n, fun | 37 => 56 | 53 => 28 | 3 => 3 | 4 => 4 | 51 => 191 | 9 => 9 | 5 => 5 | 0 => 0 | n => n, fun | n => n⟩
theorem Tryz.lays285 : Go.Proofs.Lays.n285 Tryz.prog Tryz.lays285_ren := {
  mixed := by kernel_rfl
  f285 := Tryz.func147.trans (congrArg some (by kernel_rfl))
  t0 := Tryz.underlying0
  a0 := Tryz.isAgg0
  z0 := Tryz.sizeOf0
  v0 := Tryz.zeroValue0
  t3 := Tryz.underlying3
  a3 := Tryz.isAgg3
  z3 := Tryz.sizeOf3
  v3 := Tryz.zeroValue3
  t4 := Tryz.underlying4
  a4 := Tryz.isAgg4
  z4 := Tryz.sizeOf4
  v4 := Tryz.zeroValue4
  t5 := Tryz.underlying5
  a5 := Tryz.isAgg5
  z5 := Tryz.sizeOf5
  v5 := Tryz.zeroValue5
  t9 := Tryz.underlying9
  a9 := Tryz.isAgg9
  z9 := Tryz.sizeOf9
  v9 := Tryz.zeroValue9
  t37 := Tryz.underlying56
  a37 := Tryz.isAgg56
  z37 := Tryz.sizeOf56
  v37 := Tryz.zeroValue56
  t51 := Tryz.underlying191
  a51 := Tryz.isAgg191
  z51 := Tryz.sizeOf191
  v51 := Tryz.zeroValue191
  t53 := Tryz.underlying28
  a53 := Tryz.isAgg28
  z53 := Tryz.sizeOf28
  v53 := Tryz.zeroValue28 }
open Go.RowKit Go.Sort Go.Lib in
theorem Tryz.internal_strconv_formatBase10 (blk off cap : Nat) (u : Nat) (d : Array UInt8) (w : World) (hH : Holds (fun (b : UInt8) => Value.int .u8 (b.toNat : Int)) w blk off d) (hu : u < 10 ^ d.size) (hu64 : u < 18446744073709551616) (hsz : d.size < 4611686018427387904) :
    Calls Tryz.prog 147 #[.slice (some ⟨blk, off, none⟩) d.size cap, .int .u64 u] w fun e w' =>
      e = .returned (.tuple #[]) ∧ ∃ (n v' : Nat) (dk : Array UInt8), w' = (putRow (fun (b : UInt8) => Value.int .u8 (b.toNat : Int)) w blk off dk).drewN n ∧ FmtInv d.size u 0 v' dk := Any.internal_strconv_formatBase10 Tryz.lays285 blk off cap u d w hH hu hu64 hsz
def Tryz.lays171_ren : Go.Shelf.Ren := ⟨fun | 171 => 69 | 243 => 104 | 246 => 135 | 283 => 145 | 284 => 146 | 285 => 147 | 286 => 148 | 129 => 140 | 317 => 153 | 318 => 154 | 319 => 155 | 320 => 156 | 337 => 157 | 338 => 158 | n => n, fun | 3 => 3 | 9 => 9 | 2 => 2 | 4 => 4 | 171 => 184 | 0 => 0 | 53 => 28 | 37 => 56 | 5 => 5 | 173 => 186 | 212 => 195 | 51 => 191 | 20 => 20 | 213 => 196 | 46 => 60 | 232 => 199 | 233 => 200 | n => n, fun | 17 => 2 | 18 => 4 | 19 => 5 | n => n⟩
theorem Tryz.lays171 : Go.Proofs.Lays.n171 Tryz.prog Tryz.lays171_ren := {
  mixed := by kernel_rfl
  f129 := Tryz.func140.trans (congrArg some (by kernel_rfl))
  f171 := Tryz.func69.trans (congrArg some (by kernel_rfl))
  f243 := Tryz.func104.trans (congrArg some (by kernel_rfl))
  f246 := Tryz.func135.trans (congrArg some (by kernel_rfl))
  f283 := Tryz.func145.trans (congrArg some (by kernel_rfl))
  f284 := Tryz.func146.trans (congrArg some (by kernel_rfl))
  f285 := Tryz.func147.trans (congrArg some (by kernel_rfl))
  f286 := Tryz.func148.trans (congrArg some (by kernel_rfl))
  f317 := Tryz.func153.trans (congrArg some (by kernel_rfl))
  f318 := Tryz.func154.trans (congrArg some (by kernel_rfl))
  f319 := Tryz.func155.trans (congrArg some (by kernel_rfl))
  f320 := Tryz.func156.trans (congrArg some (by kernel_rfl))
  f337 := Tryz.func157.trans (congrArg some (by kernel_rfl))
  f338 := Tryz.func158.trans (congrArg some (by kernel_rfl))
  t0 := Tryz.underlying0
  a0 := Tryz.isAgg0
  z0 := Tryz.sizeOf0
  v0 := Tryz.zeroValue0
  t2 := Tryz.underlying2
  a2 := Tryz.isAgg2
  z2 := Tryz.sizeOf2
  v2 := Tryz.zeroValue2
  t3 := Tryz.underlying3
  a3 := Tryz.isAgg3
  z3 := Tryz.sizeOf3
  v3 := Tryz.zeroValue3
  t4 := Tryz.underlying4
  a4 := Tryz.isAgg4
  z4 := Tryz.sizeOf4
  v4 := Tryz.zeroValue4
  t5 := Tryz.underlying5
  a5 := Tryz.isAgg5
  z5 := Tryz.sizeOf5
  v5 := Tryz.zeroValue5
  t9 := Tryz.underlying9
  a9 := Tryz.isAgg9
  z9 := Tryz.sizeOf9
  v9 := Tryz.zeroValue9
  t20 := Tryz.underlying20
  a20 := Tryz.isAgg20
  z20 := Tryz.sizeOf20
  v20 := Tryz.zeroValue20
  t37 := Tryz.underlying56
  a37 := Tryz.isAgg56
  z37 := Tryz.sizeOf56
  v37 := Tryz.zeroValue56
  t46 := Tryz.underlying60
  a46 := Tryz.isAgg60
  z46 := Tryz.sizeOf60
  v46 := Tryz.zeroValue60
  t51 := Tryz.underlying191
  a51 := Tryz.isAgg191
  z51 := Tryz.sizeOf191
  v51 := Tryz.zeroValue191
  t53 := Tryz.underlying28
  a53 := Tryz.isAgg28
  z53 := Tryz.sizeOf28
  v53 := Tryz.zeroValue28
  t171 := Tryz.underlying184
  a171 := Tryz.isAgg184
  z171 := Tryz.sizeOf184
  v171 := Tryz.zeroValue184
  t173 := Tryz.underlying186
  a173 := Tryz.isAgg186
  z173 := Tryz.sizeOf186
  v173 := Tryz.zeroValue186
  t212 := Tryz.underlying195
  a212 := Tryz.isAgg195
  z212 := Tryz.sizeOf195
  v212 := Tryz.zeroValue195
  t213 := Tryz.underlying196
  a213 := Tryz.isAgg196
  z213 := Tryz.sizeOf196
  t232 := Tryz.underlying199
  a232 := Tryz.isAgg199
  z232 := Tryz.sizeOf199
  v232 := Tryz.zeroValue199
  t233 := Tryz.underlying200
  a233 := Tryz.isAgg200
  z233 := Tryz.sizeOf200
  v233 := Tryz.zeroValue200
  g17 := by kernel_rfl
  g18 := by kernel_rfl
  g19 := by kernel_rfl }
open Go.RowKit Go.Sort Go.Lib in
theorem Tryz.strconv_Itoa_small (i : Nat) (hi : i < 100) (w : World) :
    Calls Tryz.prog 69 #[.int .i64 i] w fun e w' => e = .returned (.string ⟨(Lib.decDigits i).toArray⟩) ∧ w' = w := Any.strconv_Itoa_small Tryz.lays171 i hi w
def Tryz.lays99_ren : Go.Shelf.Ren := ⟨fun | 99 => 143 | 206 => 152 | n => n, fun | 9 => 9 | 4 => 4 | 3 => 3 | n => n, fun | n => n⟩
theorem Tryz.lays99 : Go.Proofs.Lays.n99 Tryz.prog Tryz.lays99_ren := {
  mixed := by kernel_rfl
  f99 := Tryz.func143.trans (congrArg some (by kernel_rfl))
  f206 := Tryz.func152.trans (congrArg some (by kernel_rfl))
  t3 := Tryz.underlying3
  a3 := Tryz.isAgg3
  z3 := Tryz.sizeOf3
  v3 := Tryz.zeroValue3
  t4 := Tryz.underlying4
  a4 := Tryz.isAgg4
  z4 := Tryz.sizeOf4
  v4 := Tryz.zeroValue4
  t9 := Tryz.underlying9
  a9 := Tryz.isAgg9
  z9 := Tryz.sizeOf9
  v9 := Tryz.zeroValue9 }
def Tryz.lays264_ren : Go.Shelf.Ren := ⟨fun | 264 => 81 | n => n, fun | 53 => 28 | 46 => 60 | n => n, fun | n => n⟩
theorem Tryz.lays264 : Go.Proofs.Lays.n264 Tryz.prog Tryz.lays264_ren := {
  mixed := by kernel_rfl
  f264 := Tryz.func81.trans (congrArg some (by kernel_rfl))
  t46 := Tryz.underlying60
  a46 := Tryz.isAgg60
  z46 := Tryz.sizeOf60
  v46 := Tryz.zeroValue60
  t53 := Tryz.underlying28
  a53 := Tryz.isAgg28
  z53 := Tryz.sizeOf28
  v53 := Tryz.zeroValue28 }
open Go.RowKit Go.Lib in
theorem Tryz.bits_Mul64 (x y : Nat) (hx : x < 18446744073709551616) (hy : y < 18446744073709551616) (w : World) :
    Calls Tryz.prog 81 #[.int .u64 x, .int .u64 y] w fun e w' => e = .returned (.tuple #[.int .u64 ((x * y / 18446744073709551616 : Nat) : Int), .int .u64 ((x * y % 18446744073709551616 : Nat) : Int)]) ∧ w' = w := Any.bits_Mul64 Tryz.lays264 x y hx hy w
def Tryz.lays105_ren : Go.Shelf.Ren := ⟨fun | 105 => 134 | 212 => 142 | 99 => 143 | 165 => 105 | 166 => 106 | 170 => 144 | 169 => 107 | 263 => 151 | 264 => 81 | 206 => 152 | 240 => 136 | 241 => 137 | 276 => 149 | 277 => 150 | n => n, fun | 9 => 9 | 3 => 3 | 4 => 4 | 20 => 20 | 0 => 0 | 46 => 60 | 109 => 181 | 5 => 5 | 72 => 152 | 76 => 156 | 51 => 191 | 146 => 192 | 53 => 28 | 148 => 131 | 70 => 150 | 37 => 56 | 75 => 155 | 127 => 179 | 164 => 188 | 80 => 90 | n => n, fun | n => n⟩
theorem Tryz.lays105 : Go.Proofs.Lays.n105 Tryz.prog Tryz.lays105_ren := {
  mixed := by kernel_rfl
  f99 := Tryz.func143.trans (congrArg some (by kernel_rfl))
  f105 := Tryz.func134.trans (congrArg some (by kernel_rfl))
  f165 := Tryz.func105.trans (congrArg some (by kernel_rfl))
  f166 := Tryz.func106.trans (congrArg some (by kernel_rfl))
  f169 := Tryz.func107.trans (congrArg some (by kernel_rfl))
  f170 := Tryz.func144.trans (congrArg some (by kernel_rfl))
  f206 := Tryz.func152.trans (congrArg some (by kernel_rfl))
  f212 := Tryz.func142.trans (congrArg some (by kernel_rfl))
  f240 := Tryz.func136.trans (congrArg some (by kernel_rfl))
  f241 := Tryz.func137.trans (congrArg some (by kernel_rfl))
  f263 := Tryz.func151.trans (congrArg some (by kernel_rfl))
  f264 := Tryz.func81.trans (congrArg some (by kernel_rfl))
  f276 := Tryz.func149.trans (congrArg some (by kernel_rfl))
  f277 := Tryz.func150.trans (congrArg some (by kernel_rfl))
  t0 := Tryz.underlying0
  a0 := Tryz.isAgg0
  z0 := Tryz.sizeOf0
  v0 := Tryz.zeroValue0
  t3 := Tryz.underlying3
  a3 := Tryz.isAgg3
  z3 := Tryz.sizeOf3
  v3 := Tryz.zeroValue3
  t4 := Tryz.underlying4
  a4 := Tryz.isAgg4
  z4 := Tryz.sizeOf4
  v4 := Tryz.zeroValue4
  t5 := Tryz.underlying5
  a5 := Tryz.isAgg5
  z5 := Tryz.sizeOf5
  v5 := Tryz.zeroValue5
  t9 := Tryz.underlying9
  a9 := Tryz.isAgg9
  z9 := Tryz.sizeOf9
  v9 := Tryz.zeroValue9
  t20 := Tryz.underlying20
  a20 := Tryz.isAgg20
  z20 := Tryz.sizeOf20
  v20 := Tryz.zeroValue20
  t37 := Tryz.underlying56
  a37 := Tryz.isAgg56
  z37 := Tryz.sizeOf56
  v37 := Tryz.zeroValue56
  t46 := Tryz.underlying60
  a46 := Tryz.isAgg60
  z46 := Tryz.sizeOf60
  v46 := Tryz.zeroValue60
  t51 := Tryz.underlying191
  a51 := Tryz.isAgg191
  z51 := Tryz.sizeOf191
  v51 := Tryz.zeroValue191
  t53 := Tryz.underlying28
  a53 := Tryz.isAgg28
  z53 := Tryz.sizeOf28
  v53 := Tryz.zeroValue28
  t70 := Tryz.underlying150
  a70 := Tryz.isAgg150
  z70 := Tryz.sizeOf150
  v70 := Tryz.zeroValue150
  t72 := Tryz.underlying152
  a72 := Tryz.isAgg152
  z72 := Tryz.sizeOf152
  v72 := Tryz.zeroValue152
  t75 := Tryz.underlying155
  a75 := Tryz.isAgg155
  z75 := Tryz.sizeOf155
  v75 := Tryz.zeroValue155
  t76 := Tryz.underlying156
  a76 := Tryz.isAgg156
  z76 := Tryz.sizeOf156
  v76 := Tryz.zeroValue156
  t109 := Tryz.underlying181
  a109 := Tryz.isAgg181
  z109 := Tryz.sizeOf181
  v109 := Tryz.zeroValue181
  t127 := Tryz.underlying179
  a127 := Tryz.isAgg179
  z127 := Tryz.sizeOf179
  v127 := Tryz.zeroValue179
  t146 := Tryz.underlying192
  a146 := Tryz.isAgg192
  z146 := Tryz.sizeOf192
  v146 := Tryz.zeroValue192
  t148 := Tryz.underlying131
  a148 := Tryz.isAgg131
  z148 := Tryz.sizeOf131
  v148 := Tryz.zeroValue131
  t164 := Tryz.underlying188
  a164 := Tryz.isAgg188
  z164 := Tryz.sizeOf188
  v164 := Tryz.zeroValue188 }
theorem Tryz.Builder_Extra_105 : Builder.Extra Tryz.prog Tryz.lays105_ren := {
  sizeBuilder := by kernel_rfl
  liesBuilder := by kernel_rfl
  t5 := Tryz.underlying5
  a5 := Tryz.isAgg5
  z5 := Tryz.sizeOf5
  v5 := Tryz.zeroValue5
  infoByte := by kernel_rfl
  cellsByte := by kernel_rfl
  sizeByte := by kernel_rfl
  neB5 := by decide }
open Go.RowKit Go.Lib in
theorem Tryz.strings_Repeat (s : ByteArray) (c : Nat) (w : World) (hc : c ≤ 9223372036854775807) (hlen : s.size * c ≤ 140737488355328) :
    Calls Tryz.prog 134 #[.string s, .int .i64 c] w fun e w' => e = .returned (.string ⟨(Lib.repeatL s.data.toList c).toArray⟩) ∧ Below w.heap.size w w' := Any.strings_Repeat Tryz.lays105 Tryz.Builder_Extra_105 s c w hc hlen
end Go.Proofs
end
section
namespace Go.Proofs.YtimpjdbhalnofaaGreatDoor
open Go Go.Lg Go.Lg.Arith
variable (X : Nat → Option Obj)
theorem mul64_spec (x y p : Int) (hx : 0 ≤ x ∧ x < 18446744073709551616) (hy : 0 ≤ y ∧ y < 18446744073709551616) (hp : x * y = p) :
    PSpec Tryz.prog X 81 [Ln .u64 x, Ln .u64 y] (.tup [Sn .u64 (p / 18446744073709551616), Sn .u64 (p % 18446744073709551616)]) := by
  subst hp
  obtain ⟨a, rfl⟩ := Int.eq_ofNat_of_zero_le hx.1
  obtain ⟨b, rfl⟩ := Int.eq_ofNat_of_zero_le hy.1
  refine PSpec.ofCalls (vals := [.int .u64 a, .int .u64 b]) (v := .tuple #[.int .u64 (a * b / 18446744073709551616), .int .u64 (a * b % 18446744073709551616)]) (by kernel_rfl) rfl rfl (fun w _ => ?_)
  have h := Tryz.bits_Mul64 a b (by omega) (by omega) w
  have e1 : ((a * b / 18446744073709551616 : Nat) : Int) = (a : Int) * b / 18446744073709551616 := by rw [Int.natCast_ediv, Int.natCast_mul]; rfl
  have e2 : ((a * b % 18446744073709551616 : Nat) : Int) = (a : Int) * b % 18446744073709551616 := by rw [Int.natCast_emod, Int.natCast_mul]; rfl
  rw [e1, e2] at h
  exact h
theorem times_spec (M N : Int) (hM : In2 M) (hN : In2 N) (hw : M < 18446744073709551616 ∨ N < 18446744073709551616) (r : Bool) (hr : decide (M * N < 340282366920938463463374607431768211456) = r) :
    PSpec Tryz.prog X 57 [LZ M, LZ N] (.tup [SZ (M * N % 340282366920938463463374607431768211456), Sb r]) := by
  have core : ∀ H L m p q P : Int, 0 ≤ H ∧ H < 18446744073709551616 → 0 ≤ L ∧ L < 18446744073709551616 → 0 ≤ m ∧ m < 18446744073709551616 → H * m = p → L * m = q → (H * 18446744073709551616 + L) * m = P →
      0 ≤ p ∧ 0 ≤ q ∧ P = p * 18446744073709551616 + q ∧ q / 18446744073709551616 < 18446744073709551616 ∧ p / 18446744073709551616 < 18446744073709551616 := by
    intro H L m p q P hH hL hm hp hq hP
    have b1 := mul_bound (A := 18446744073709551615) (B := 18446744073709551615) ⟨hH.1, by omega⟩ (show 0 ≤ m ∧ m ≤ 18446744073709551615 by omega)
    have b2 := mul_bound (A := 18446744073709551615) (B := 18446744073709551615) ⟨hL.1, by omega⟩ (show 0 ≤ m ∧ m ≤ 18446744073709551615 by omega)
    have := times_low hp hq hP
    rw [hp] at b1
    rw [hq] at b2
    omega
  unfold In2 at *
  refine PSpec.intro Tryz.func57 rfl (by kernel_rfl) rfl rfl ?_
  intro C
  by_cases h0 : M / 18446744073709551616 = 0
  · obtain ⟨p, hp⟩ : ∃ p, N / 18446744073709551616 * (M % 18446744073709551616) = p := ⟨_, rfl⟩
    obtain ⟨q, hq⟩ : ∃ q, N % 18446744073709551616 * (M % 18446744073709551616) = q := ⟨_, rfl⟩
    obtain ⟨S, hS⟩ : ∃ S, M * N = S := ⟨_, rfl⟩
    obtain ⟨c1, c2, c3, c4, c5⟩ := core _ _ _ p q S (by omega) (by omega) (by omega) hp hq (by
      rw [← hS, show N / 18446744073709551616 * 18446744073709551616 + N % 18446744073709551616 = N by omega, show M % 18446744073709551616 = M by omega]; exact Int.mul_comm _ _)
    rw [hS] at hr ⊢
    by_cases hP : S < 340282366920938463463374607431768211456
    · rw [decide_eq_true hP] at hr
      subst hr
      (refine LWP.seq <| rgN <| K.box rfl rfl rfl .plain <| K.box rfl rfl rfl .plain <| K.alloc rfl .plain ?_; refine kas rfl <| RunK.nil <| LWP.seq <| LWP.seq <| rgN <| kfa rfl rfl ?_; refine kl1 rfl rfl rfl <| keq rfl rfl (beq_iff_eq.2 (by omega)) <| RunK.nil <| LWP.condT rfl ?_; refine rgN <| K.loadAll rfl rfl rfl .plain ?_; refine K.loadAll rfl rfl rfl .plain ?_; refine K.storeAll rfl rfl rfl rfl rfl rfl .plain ?_; refine K.storeAll rfl rfl rfl rfl rfl rfl .plain ?_; refine RunK.nil <| LWP.seq <| LWP.seq <| rgN <| kfa rfl rfl ?_; refine kl1 rfl rfl rfl <| kne rfl rfl ((bne_eq_false_iff_eq.2 (by omega))) <| RunK.nil <| LWP.condF rfl ?_; refine LWP.skip ?_; refine LWP.seq <| rgN <| kfa rfl rfl ?_; refine kl1 rfl rfl rfl <| kfa rfl rfl ?_; refine kl1 rfl rfl rfl <| kca rfl rfl (mul64_spec _ _ _ p (by omega) (by omega) hp) <| kmv rfl <| kex rfl rfl <| kex rfl rfl <| kas rfl <| kas rfl <| RunK.nil <| LWP.seq <| rgN <| kfa rfl rfl ?_; refine kl1 rfl rfl rfl <| kfa rfl rfl ?_; refine kl1 rfl rfl rfl <| kca rfl rfl (mul64_spec _ _ _ q (by omega) (by omega) hq) <| kmv rfl <| kex rfl rfl <| kex rfl rfl <| kas rfl <| kas rfl <| RunK.nil <| LWP.seq <| rgN <| kmv rfl <| kmv rfl <| K.callN rfl rfl (add64 (s := S % 340282366920938463463374607431768211456 / 18446744073709551616) (t := 0) (by omega) (by omega) (by omega)) rfl .plain <| kmv rfl ?_; refine kex rfl rfl <| kex rfl rfl <| kas rfl <| kas rfl <| RunK.nil <| LWP.seq <| rgN <| kmv rfl <| kmv rfl <| K.build rfl rfl (by exact rfl) (by exact nl2 rfl rfl rfl) .plain ?_; refine kmv rfl <| keq rfl rfl (beq_iff_eq.2 (by omega)) <| kmv rfl <| gmv rfl rfl rfl <| K.eql rfl rfl (beq_iff_eq.2 (by omega)) (.taken rfl rfl) ?_; refine kpt rfl rfl <| K.storeAll rfl rfl rfl rfl rfl rfl .plain ?_; refine kas rfl <| RunK.nil <| LWP.ret ?_)
      unfold SZ; rw [show S % 340282366920938463463374607431768211456 % 18446744073709551616 = q % 18446744073709551616 by omega]
      exact ⟨[_, _], ⟨⟨_, _, rfl, rfl, rfl, .inl ⟨AggT.h, rfl⟩⟩, rfl, trivial⟩, rfl⟩
    · rw [decide_eq_false hP] at hr
      subst hr
      by_cases ho : p / 18446744073709551616 = 0
      · (refine LWP.seq <| rgN <| K.box rfl rfl rfl .plain <| K.box rfl rfl rfl .plain <| K.alloc rfl .plain ?_; refine kas rfl <| RunK.nil <| LWP.seq <| LWP.seq <| rgN <| kfa rfl rfl ?_; refine kl1 rfl rfl rfl <| keq rfl rfl (beq_iff_eq.2 (by omega)) <| RunK.nil <| LWP.condT rfl ?_; refine rgN <| K.loadAll rfl rfl rfl .plain ?_; refine K.loadAll rfl rfl rfl .plain ?_; refine K.storeAll rfl rfl rfl rfl rfl rfl .plain ?_; refine K.storeAll rfl rfl rfl rfl rfl rfl .plain ?_; refine RunK.nil <| LWP.seq <| LWP.seq <| rgN <| kfa rfl rfl ?_; refine kl1 rfl rfl rfl <| kne rfl rfl ((bne_eq_false_iff_eq.2 (by omega))) <| RunK.nil <| LWP.condF rfl ?_; refine LWP.skip ?_; refine LWP.seq <| rgN <| kfa rfl rfl ?_; refine kl1 rfl rfl rfl <| kfa rfl rfl ?_; refine kl1 rfl rfl rfl <| kca rfl rfl (mul64_spec _ _ _ p (by omega) (by omega) hp) <| kmv rfl <| kex rfl rfl <| kex rfl rfl <| kas rfl <| kas rfl <| RunK.nil <| LWP.seq <| rgN <| kfa rfl rfl ?_; refine kl1 rfl rfl rfl <| kfa rfl rfl ?_; refine kl1 rfl rfl rfl <| kca rfl rfl (mul64_spec _ _ _ q (by omega) (by omega) hq) <| kmv rfl <| kex rfl rfl <| kex rfl rfl <| kas rfl <| kas rfl <| RunK.nil <| LWP.seq <| rgN <| kmv rfl <| kmv rfl <| K.callN rfl rfl (add64 (s := S % 340282366920938463463374607431768211456 / 18446744073709551616) (t := 1) (by omega) (by omega) (by omega)) rfl .plain <| kmv rfl ?_; refine kex rfl rfl <| kex rfl rfl <| kas rfl <| kas rfl <| RunK.nil <| LWP.seq <| rgN <| kmv rfl <| kmv rfl <| K.build rfl rfl (by exact rfl) (by exact nl2 rfl rfl rfl) .plain ?_; refine kmv rfl <| keq rfl rfl (beq_iff_eq.2 (by omega)) <| kmv rfl <| gmv rfl rfl rfl <| K.eql rfl rfl (beq_eq_false_iff_ne.2 (by omega)) (.taken rfl rfl) ?_; refine kpt rfl rfl <| K.storeAll rfl rfl rfl rfl rfl rfl .plain ?_; refine kas rfl <| RunK.nil <| LWP.ret ?_)
        unfold SZ; rw [show S % 340282366920938463463374607431768211456 % 18446744073709551616 = q % 18446744073709551616 by omega]
        exact ⟨[_, _], ⟨⟨_, _, rfl, rfl, rfl, .inl ⟨AggT.h, rfl⟩⟩, rfl, trivial⟩, rfl⟩
      · (refine LWP.seq <| rgN <| K.box rfl rfl rfl .plain <| K.box rfl rfl rfl .plain <| K.alloc rfl .plain ?_; refine kas rfl <| RunK.nil <| LWP.seq <| LWP.seq <| rgN <| kfa rfl rfl ?_; refine kl1 rfl rfl rfl <| keq rfl rfl (beq_iff_eq.2 (by omega)) <| RunK.nil <| LWP.condT rfl ?_; refine rgN <| K.loadAll rfl rfl rfl .plain ?_; refine K.loadAll rfl rfl rfl .plain ?_; refine K.storeAll rfl rfl rfl rfl rfl rfl .plain ?_; refine K.storeAll rfl rfl rfl rfl rfl rfl .plain ?_; refine RunK.nil <| LWP.seq <| LWP.seq <| rgN <| kfa rfl rfl ?_; refine kl1 rfl rfl rfl <| kne rfl rfl ((bne_eq_false_iff_eq.2 (by omega))) <| RunK.nil <| LWP.condF rfl ?_; refine LWP.skip ?_; refine LWP.seq <| rgN <| kfa rfl rfl ?_; refine kl1 rfl rfl rfl <| kfa rfl rfl ?_; refine kl1 rfl rfl rfl <| kca rfl rfl (mul64_spec _ _ _ p (by omega) (by omega) hp) <| kmv rfl <| kex rfl rfl <| kex rfl rfl <| kas rfl <| kas rfl <| RunK.nil <| LWP.seq <| rgN <| kfa rfl rfl ?_; refine kl1 rfl rfl rfl <| kfa rfl rfl ?_; refine kl1 rfl rfl rfl <| kca rfl rfl (mul64_spec _ _ _ q (by omega) (by omega) hq) <| kmv rfl <| kex rfl rfl <| kex rfl rfl <| kas rfl <| kas rfl <| RunK.nil <| LWP.seq <| rgN <| kmv rfl <| kmv rfl <| K.callN rfl rfl (add64 (s := S % 340282366920938463463374607431768211456 / 18446744073709551616) (t := (q / 18446744073709551616 + p % 18446744073709551616) / 18446744073709551616) (by omega) (by omega) (by omega)) rfl .plain <| kmv rfl ?_; refine kex rfl rfl <| kex rfl rfl <| kas rfl <| kas rfl <| RunK.nil <| LWP.seq <| rgN <| kmv rfl <| kmv rfl <| K.build rfl rfl (by exact rfl) (by exact nl2 rfl rfl rfl) .plain ?_; refine kmv rfl <| keq rfl rfl (beq_eq_false_iff_ne.2 (by omega)) <| kmv rfl <| RunK.passed rfl rfl rfl <| RunK.passed rfl rfl rfl <| kpf rfl rfl <| K.storeAll rfl rfl rfl rfl rfl rfl .plain ?_; refine kas rfl <| RunK.nil <| LWP.ret ?_)
        unfold SZ; rw [show S % 340282366920938463463374607431768211456 % 18446744073709551616 = q % 18446744073709551616 by omega]
        exact ⟨[_, _], ⟨⟨_, _, rfl, rfl, rfl, .inl ⟨AggT.h, rfl⟩⟩, rfl, trivial⟩, rfl⟩
  · have hN0 : N / 18446744073709551616 = 0 := by omega
    obtain ⟨p, hp⟩ : ∃ p, M / 18446744073709551616 * (N % 18446744073709551616) = p := ⟨_, rfl⟩
    obtain ⟨q, hq⟩ : ∃ q, M % 18446744073709551616 * (N % 18446744073709551616) = q := ⟨_, rfl⟩
    obtain ⟨S, hS⟩ : ∃ S, M * N = S := ⟨_, rfl⟩
    obtain ⟨c1, c2, c3, c4, c5⟩ := core _ _ _ p q S (by omega) (by omega) (by omega) hp hq (by
      rw [← hS, show M / 18446744073709551616 * 18446744073709551616 + M % 18446744073709551616 = M by omega, show N % 18446744073709551616 = N by omega])
    rw [hS] at hr ⊢
    by_cases hP : S < 340282366920938463463374607431768211456
    · rw [decide_eq_true hP] at hr
      subst hr
      (refine LWP.seq <| rgN <| K.box rfl rfl rfl .plain <| K.box rfl rfl rfl .plain <| K.alloc rfl .plain ?_; refine kas rfl <| RunK.nil <| LWP.seq <| LWP.seq <| rgN <| kfa rfl rfl ?_; refine kl1 rfl rfl rfl <| keq rfl rfl (beq_eq_false_iff_ne.2 (by omega)) <| RunK.nil <| LWP.condF rfl ?_; refine LWP.skip ?_; refine LWP.seq <| LWP.seq <| rgN <| kfa rfl rfl ?_; refine kl1 rfl rfl rfl <| kne rfl rfl ((bne_eq_false_iff_eq.2 (by omega))) <| RunK.nil <| LWP.condF rfl ?_; refine LWP.skip ?_; refine LWP.seq <| rgN <| kfa rfl rfl ?_; refine kl1 rfl rfl rfl <| kfa rfl rfl ?_; refine kl1 rfl rfl rfl <| kca rfl rfl (mul64_spec _ _ _ p (by omega) (by omega) hp) <| kmv rfl <| kex rfl rfl <| kex rfl rfl <| kas rfl <| kas rfl <| RunK.nil <| LWP.seq <| rgN <| kfa rfl rfl ?_; refine kl1 rfl rfl rfl <| kfa rfl rfl ?_; refine kl1 rfl rfl rfl <| kca rfl rfl (mul64_spec _ _ _ q (by omega) (by omega) hq) <| kmv rfl <| kex rfl rfl <| kex rfl rfl <| kas rfl <| kas rfl <| RunK.nil <| LWP.seq <| rgN <| kmv rfl <| kmv rfl <| K.callN rfl rfl (add64 (s := S % 340282366920938463463374607431768211456 / 18446744073709551616) (t := 0) (by omega) (by omega) (by omega)) rfl .plain <| kmv rfl ?_; refine kex rfl rfl <| kex rfl rfl <| kas rfl <| kas rfl <| RunK.nil <| LWP.seq <| rgN <| kmv rfl <| kmv rfl <| K.build rfl rfl (by exact rfl) (by exact nl2 rfl rfl rfl) .plain ?_; refine kmv rfl <| keq rfl rfl (beq_iff_eq.2 (by omega)) <| kmv rfl <| gmv rfl rfl rfl <| K.eql rfl rfl (beq_iff_eq.2 (by omega)) (.taken rfl rfl) ?_; refine kpt rfl rfl <| K.storeAll rfl rfl rfl rfl rfl rfl .plain ?_; refine kas rfl <| RunK.nil <| LWP.ret ?_)
      unfold SZ; rw [show S % 340282366920938463463374607431768211456 % 18446744073709551616 = q % 18446744073709551616 by omega]
      exact ⟨[_, _], ⟨⟨_, _, rfl, rfl, rfl, .inl ⟨AggT.h, rfl⟩⟩, rfl, trivial⟩, rfl⟩
    · rw [decide_eq_false hP] at hr
      subst hr
      by_cases ho : p / 18446744073709551616 = 0
      · (refine LWP.seq <| rgN <| K.box rfl rfl rfl .plain <| K.box rfl rfl rfl .plain <| K.alloc rfl .plain ?_; refine kas rfl <| RunK.nil <| LWP.seq <| LWP.seq <| rgN <| kfa rfl rfl ?_; refine kl1 rfl rfl rfl <| keq rfl rfl (beq_eq_false_iff_ne.2 (by omega)) <| RunK.nil <| LWP.condF rfl ?_; refine LWP.skip ?_; refine LWP.seq <| LWP.seq <| rgN <| kfa rfl rfl ?_; refine kl1 rfl rfl rfl <| kne rfl rfl ((bne_eq_false_iff_eq.2 (by omega))) <| RunK.nil <| LWP.condF rfl ?_; refine LWP.skip ?_; refine LWP.seq <| rgN <| kfa rfl rfl ?_; refine kl1 rfl rfl rfl <| kfa rfl rfl ?_; refine kl1 rfl rfl rfl <| kca rfl rfl (mul64_spec _ _ _ p (by omega) (by omega) hp) <| kmv rfl <| kex rfl rfl <| kex rfl rfl <| kas rfl <| kas rfl <| RunK.nil <| LWP.seq <| rgN <| kfa rfl rfl ?_; refine kl1 rfl rfl rfl <| kfa rfl rfl ?_; refine kl1 rfl rfl rfl <| kca rfl rfl (mul64_spec _ _ _ q (by omega) (by omega) hq) <| kmv rfl <| kex rfl rfl <| kex rfl rfl <| kas rfl <| kas rfl <| RunK.nil <| LWP.seq <| rgN <| kmv rfl <| kmv rfl <| K.callN rfl rfl (add64 (s := S % 340282366920938463463374607431768211456 / 18446744073709551616) (t := 1) (by omega) (by omega) (by omega)) rfl .plain <| kmv rfl ?_; refine kex rfl rfl <| kex rfl rfl <| kas rfl <| kas rfl <| RunK.nil <| LWP.seq <| rgN <| kmv rfl <| kmv rfl <| K.build rfl rfl (by exact rfl) (by exact nl2 rfl rfl rfl) .plain ?_; refine kmv rfl <| keq rfl rfl (beq_iff_eq.2 (by omega)) <| kmv rfl <| gmv rfl rfl rfl <| K.eql rfl rfl (beq_eq_false_iff_ne.2 (by omega)) (.taken rfl rfl) ?_; refine kpt rfl rfl <| K.storeAll rfl rfl rfl rfl rfl rfl .plain ?_; refine kas rfl <| RunK.nil <| LWP.ret ?_)
        unfold SZ; rw [show S % 340282366920938463463374607431768211456 % 18446744073709551616 = q % 18446744073709551616 by omega]
        exact ⟨[_, _], ⟨⟨_, _, rfl, rfl, rfl, .inl ⟨AggT.h, rfl⟩⟩, rfl, trivial⟩, rfl⟩
      · (refine LWP.seq <| rgN <| K.box rfl rfl rfl .plain <| K.box rfl rfl rfl .plain <| K.alloc rfl .plain ?_; refine kas rfl <| RunK.nil <| LWP.seq <| LWP.seq <| rgN <| kfa rfl rfl ?_; refine kl1 rfl rfl rfl <| keq rfl rfl (beq_eq_false_iff_ne.2 (by omega)) <| RunK.nil <| LWP.condF rfl ?_; refine LWP.skip ?_; refine LWP.seq <| LWP.seq <| rgN <| kfa rfl rfl ?_; refine kl1 rfl rfl rfl <| kne rfl rfl ((bne_eq_false_iff_eq.2 (by omega))) <| RunK.nil <| LWP.condF rfl ?_; refine LWP.skip ?_; refine LWP.seq <| rgN <| kfa rfl rfl ?_; refine kl1 rfl rfl rfl <| kfa rfl rfl ?_; refine kl1 rfl rfl rfl <| kca rfl rfl (mul64_spec _ _ _ p (by omega) (by omega) hp) <| kmv rfl <| kex rfl rfl <| kex rfl rfl <| kas rfl <| kas rfl <| RunK.nil <| LWP.seq <| rgN <| kfa rfl rfl ?_; refine kl1 rfl rfl rfl <| kfa rfl rfl ?_; refine kl1 rfl rfl rfl <| kca rfl rfl (mul64_spec _ _ _ q (by omega) (by omega) hq) <| kmv rfl <| kex rfl rfl <| kex rfl rfl <| kas rfl <| kas rfl <| RunK.nil <| LWP.seq <| rgN <| kmv rfl <| kmv rfl <| K.callN rfl rfl (add64 (s := S % 340282366920938463463374607431768211456 / 18446744073709551616) (t := (q / 18446744073709551616 + p % 18446744073709551616) / 18446744073709551616) (by omega) (by omega) (by omega)) rfl .plain <| kmv rfl ?_; refine kex rfl rfl <| kex rfl rfl <| kas rfl <| kas rfl <| RunK.nil <| LWP.seq <| rgN <| kmv rfl <| kmv rfl <| K.build rfl rfl (by exact rfl) (by exact nl2 rfl rfl rfl) .plain ?_; refine kmv rfl <| keq rfl rfl (beq_eq_false_iff_ne.2 (by omega)) <| kmv rfl <| RunK.passed rfl rfl rfl <| RunK.passed rfl rfl rfl <| kpf rfl rfl <| K.storeAll rfl rfl rfl rfl rfl rfl .plain ?_; refine kas rfl <| RunK.nil <| LWP.ret ?_)
        unfold SZ; rw [show S % 340282366920938463463374607431768211456 % 18446744073709551616 = q % 18446744073709551616 by omega]
        exact ⟨[_, _], ⟨⟨_, _, rfl, rfl, rfl, .inl ⟨AggT.h, rfl⟩⟩, rfl, trivial⟩, rfl⟩
theorem times_far (M N : Int) (hM : In2 M) (hN : In2 N) (h1 : 18446744073709551616 ≤ M) (h2 : 18446744073709551616 ≤ N) :
    PSpec Tryz.prog X 57 [LZ M, LZ N] (.tup [.agg [.val (.int .u64 0), .val (.int .u64 0)], Sb false]) := by
  unfold In2 at *
  refine PSpec.intro Tryz.func57 rfl (by kernel_rfl) rfl rfl ?_
  intro C
  (refine LWP.seq <| rgN <| K.box rfl rfl rfl .plain <| K.box rfl rfl rfl .plain <| K.alloc rfl .plain ?_; refine kas rfl <| RunK.nil <| LWP.seq <| LWP.seq <| rgN <| kfa rfl rfl ?_; refine kl1 rfl rfl rfl <| keq rfl rfl (beq_eq_false_iff_ne.2 (by omega)) <| RunK.nil <| LWP.condF rfl ?_; refine LWP.skip ?_; refine LWP.seq <| LWP.seq <| rgN <| kfa rfl rfl ?_; refine kl1 rfl rfl rfl <| kne rfl rfl (bne_iff_ne.2 (by omega)) <| RunK.nil <| LWP.condT rfl ?_; refine LWP.seq <| rgN <| K.build rfl rfl (by exact rfl) (by exact nl2 rfl rfl rfl) .plain ?_; refine K.storeAll rfl rfl rfl rfl rfl rfl .plain ?_; refine kas rfl <| RunK.nil <| LWP.ret ?_)
  exact ⟨[_, _], ⟨⟨_, _, rfl, rfl, rfl, .inl ⟨AggT.h, rfl⟩⟩, rfl, trivial⟩, rfl⟩
end Go.Proofs.YtimpjdbhalnofaaGreatDoor
end
