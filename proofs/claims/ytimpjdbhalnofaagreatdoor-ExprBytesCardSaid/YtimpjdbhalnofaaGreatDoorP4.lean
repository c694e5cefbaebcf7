/- A piece of a proof over this program: contracts of its functions, and a logic to prove them by. -/
import Derived.Test.YtimpjdbhalnofaaGreatDoorP2
import Derived.Test.YtimpjdbhalnofaaGreatDoorP3
import Derived.Lib.SmallJoins
import Derived.Test.YtimpjdbhalnofaaGreatDoorRows
import Derived.Lib.ItoaNum
import Derived.StringKeys
import Derived.WideMake
import Derived.Lib.ItoaLen
import Derived.Test.YtimpjdbhalnofaaGreatDoorShelf
section
namespace Go.Lg.Fld
open Go Go.Lg
def findI {α : Type} (p : α → Bool) (l : List α) : Int := match l.findIdx? p with | some i => (i : Nat) | none => -1
end Go.Lg.Fld
namespace Go.Proofs.YtimpjdbhalnofaaGreatDoor
open Go Go.Lg Go.Lg.Fld
set_option maxRecDepth 100000
variable (X : Nat → Option Obj)
end Go.Proofs.YtimpjdbhalnofaaGreatDoor
end
section
namespace Go.Lg.Fld
open Go Go.Lg
structure Pt where
  comp : Int
  val : List (Bool × Int)
theorem any_true {α : Type} {p : α → Bool} {l : List α} {k i : Nat} {y : α} (hk : k < i) (hy : l[k]? = some y) (hp : p y = true) : (l.take i).any p = true := by
  rw [List.any_eq_true]
  exact ⟨y, List.mem_of_getElem? (by rw [List.getElem?_take, if_pos hk]; exact hy), hp⟩
theorem two_at {arr : Array Value} {p : Nat} {a b : Value} (h : (arr.toList.drop p).take 2 = [a, b]) : arr[p]? = some a ∧ arr[p + 1]? = some b := by
  have key : ∀ j, j < 2 → arr[p + j]? = [a, b][j]? := fun j hj => by
    rw [← h, List.getElem?_take, if_pos hj, List.getElem?_drop, Array.getElem?_toList]
  exact ⟨key 0 (by omega), key 1 (by omega)⟩
end Go.Lg.Fld
namespace Go.Proofs.YtimpjdbhalnofaaGreatDoor
open Go Go.Lg Go.Lg.Fld
set_option maxRecDepth 100000
structure PartsIn (X : Nat → Option Obj) (ad : Option Addr) (ps : List Pt) : Prop where
  at_ : ∀ (i : Nat) (p : Pt), ps[i]? = some p → ∃ (blk off : Nat) (arr : Array Value) (el : TypeId) (fr : Nat × Nat) (vad : Option Addr) (vcap : Nat), ad = some ⟨blk, off, none⟩ ∧ X blk = some (.cells arr el fr) ∧ off + i * 2 + 2 ≤ arr.size ∧
    (arr.toList.drop (off + i * 2)).take 2 = [.int .i64 p.comp, .slice vad p.val.length vcap] ∧ NumsIn X vad p.val
  small : ∀ p ∈ ps, -9223372036854775808 ≤ p.comp ∧ p.comp < 9223372036854775808
theorem PartsIn.get {X : Nat → Option Obj} {ad : Option Addr} {ps : List Pt} (h : PartsIn X ad ps) {i : Nat} {p : Pt} (hc : ps[i]? = some p) : ∃ (blk off : Nat) (arr : Array Value) (el : TypeId) (fr : Nat × Nat) (vad : Option Addr) (vcap : Nat), ad = some ⟨blk, off, none⟩ ∧ X blk = some (.cells arr el fr) ∧ off + i * 2 + 2 ≤ arr.size ∧
    ((arr.toList.drop (off + i * 2)).take 2).map CV.val = [.val (.int .i64 p.comp), .val (.slice vad p.val.length vcap)] ∧ arr[off + i * 2]? = some (.int .i64 p.comp) ∧ arr[off + i * 2 + 1]? = some (.slice vad p.val.length vcap) ∧ NumsIn X vad p.val := by
  obtain ⟨blk, off, arr, el, fr, vad, vcap, h1, h2, h3, h4, h5⟩ := h.at_ i p hc
  obtain ⟨g1, g2⟩ := two_at h4
  exact ⟨blk, off, arr, el, fr, vad, vcap, h1, h2, h3, by rw [h4]; rfl, g1, g2, h5⟩
variable (X : Nat → Option Obj)
end Go.Proofs.YtimpjdbhalnofaaGreatDoor
end
section
namespace Go.Proofs.YtimpjdbhalnofaaGreatDoor
open Go Go.Lg Go.Lg.Fld Go.RowKit Go.ChangeShapes Go.WideShapes Go.Joins
set_option maxRecDepth 100000
section
variable {H : Type} {enc : TypeId × Value → H} {w : World}
end
end Go.Proofs.YtimpjdbhalnofaaGreatDoor
end
section
namespace Go.Lg.Fml
structure Ins where
  op : Int
  a : Int
  b : Int
  k : Bool × Int
  deriving DecidableEq
def takes (op : Int) : Nat := if op = 16 then 3 else if op = 10 ∨ op = 15 then 1 else if 5 ≤ op ∧ op ≤ 17 then 2 else 0
theorem takes_le (op : Int) : takes op ≤ 3 := by unfold takes; split <;> (try split) <;> (try split) <;> omega
inductive Tr where
  | n0 (x : Ins)
  | n1 (x : Ins) (a : Tr)
  | n2 (x : Ins) (a b : Tr)
  | n3 (x : Ins) (a b c : Tr)
def Tr.flat : Tr → List Ins
  | .n0 x => [x]
  | .n1 x a => a.flat ++ [x]
  | .n2 x a b => a.flat ++ (b.flat ++ [x])
  | .n3 x a b c => a.flat ++ (b.flat ++ (c.flat ++ [x]))
def Tr.ok : Tr → Prop
  | .n0 x => takes x.op = 0
  | .n1 x a => takes x.op = 1 ∧ a.ok
  | .n2 x a b => takes x.op = 2 ∧ a.ok ∧ b.ok
  | .n3 x a b c => takes x.op = 3 ∧ a.ok ∧ b.ok ∧ c.ok
section
variable {V : Type} (one : Ins → List V → Except Int V)
def Tr.ev : Tr → Except Int V
  | .n0 x => one x []
  | .n1 x a => match a.ev with
    | .error e => .error e
    | .ok u => one x [u]
  | .n2 x a b => match a.ev with
    | .error e => .error e
    | .ok u => match b.ev with
      | .error e => .error e
      | .ok v => one x [u, v]
  | .n3 x a b c => match a.ev with
    | .error e => .error e
    | .ok u => match b.ev with
      | .error e => .error e
      | .ok v => match c.ev with
        | .error e => .error e
        | .ok w => one x [u, v, w]
def run : List Ins → List V → Except Int (List V)
  | [], st => .ok st
  | x :: t, st => match one x (st.take (takes x.op)).reverse with
    | .error e => .error e
    | .ok v => run t (v :: st.drop (takes x.op))
variable {one}
theorem run_flat : ∀ {t : Tr} {rest : List Ins} {st : List V}, t.ok → run one (t.flat ++ rest) st = match t.ev one with | .error e => .error e | .ok v => run one rest (v :: st)
  | .n0 x, rest, st, h => by
    have h : takes x.op = 0 := h
    simp only [Tr.flat, List.cons_append, List.nil_append, run, Tr.ev, h, List.take_zero, List.drop_zero, List.reverse_nil]
  | .n1 x a, rest, st, h => by
    obtain ⟨h1, h2⟩ := h
    simp only [Tr.flat, List.append_assoc, Tr.ev]
    rw [run_flat h2]
    cases a.ev one with
    | error e => rfl
    | ok u =>
      simp only [List.cons_append, List.nil_append, run, h1]
      simp only [List.take_succ_cons, List.take_zero, List.drop_succ_cons, List.drop_zero, List.reverse_cons, List.reverse_nil, List.nil_append]
  | .n2 x a b, rest, st, h => by
    obtain ⟨h1, h2, h3⟩ := h
    simp only [Tr.flat, List.append_assoc, Tr.ev]
    rw [run_flat h2]
    cases a.ev one with
    | error e => rfl
    | ok u =>
      simp only
      rw [run_flat h3]
      cases b.ev one with
      | error e => rfl
      | ok v =>
        simp only [List.cons_append, List.nil_append, run, h1]
        simp only [List.take_succ_cons, List.take_zero, List.drop_succ_cons, List.drop_zero, List.reverse_cons, List.reverse_nil, List.nil_append, List.cons_append]
  | .n3 x a b c, rest, st, h => by
    obtain ⟨h1, h2, h3, h4⟩ := h
    simp only [Tr.flat, List.append_assoc, Tr.ev]
    rw [run_flat h2]
    cases a.ev one with
    | error e => rfl
    | ok u =>
      simp only
      rw [run_flat h3]
      cases b.ev one with
      | error e => rfl
      | ok v =>
        simp only
        rw [run_flat h4]
        cases c.ev one with
        | error e => rfl
        | ok w =>
          simp only [List.cons_append, List.nil_append, run, h1]
          simp only [List.take_succ_cons, List.take_zero, List.drop_succ_cons, List.drop_zero, List.reverse_cons, List.reverse_nil, List.nil_append, List.cons_append]
theorem run_app : ∀ {l r : List Ins} {st : List V}, run one (l ++ r) st = match run one l st with | .error e => .error e | .ok st' => run one r st'
  | [], r, st => rfl
  | x :: l, r, st => by
    simp only [List.cons_append, run]
    cases one x (st.take (takes x.op)).reverse with
    | error e => rfl
    | ok v => exact run_app
end
def dep (okI : Ins → Bool) : Nat → List Ins → Option Nat
  | n, [] => some n
  | n, x :: t => if okI x = true ∧ takes x.op ≤ n ∧ n - takes x.op + 1 ≤ 16 then dep okI (n - takes x.op + 1) t else none
theorem dep_app {okI : Ins → Bool} : ∀ {l r : List Ins} {n : Nat}, dep okI n (l ++ r) = (dep okI n l).bind fun m => dep okI m r
  | [], r, n => rfl
  | x :: l, r, n => by
    simp only [List.cons_append, dep]
    split
    · exact dep_app
    · rfl
def flats : List Tr → List Ins
  | [] => []
  | t :: ts => flats ts ++ t.flat
theorem dep_trees {okI : Ins → Bool} : ∀ {l : List Ins} {ts : List Tr} {m : Nat}, dep okI ts.length l = some m → (∀ t ∈ ts, t.ok) → ∃ ts', ts'.length = m ∧ (∀ t ∈ ts', t.ok) ∧ flats ts' = flats ts ++ l
  | [], ts, m, h, ho => by
    simp only [dep, Option.some.injEq] at h
    exact ⟨ts, h, ho, by rw [List.append_nil]⟩
  | x :: l, ts, m, h, ho => by
    simp only [dep] at h
    split at h
    · rename_i hx
      obtain ⟨_, h1, _⟩ := hx
      have h3 := takes_le x.op
      have key : ∃ us : List Tr, us.length = ts.length - takes x.op + 1 ∧ (∀ t ∈ us, t.ok) ∧ flats us = flats ts ++ [x] := by
        rcases (show takes x.op = 0 ∨ takes x.op = 1 ∨ takes x.op = 2 ∨ takes x.op = 3 by omega) with e | e | e | e
        · exact ⟨.n0 x :: ts, by rw [e]; rfl, fun t ht => by
            rcases List.mem_cons.1 ht with rfl | ht
            · exact e
            · exact ho t ht, rfl⟩
        · match ts, ho, h1 with
          | a :: ts, ho, _ => exact ⟨.n1 x a :: ts, by rw [e]; rfl, fun t ht => by
              rcases List.mem_cons.1 ht with rfl | ht
              · exact ⟨e, ho a List.mem_cons_self⟩
              · exact ho t (List.mem_cons_of_mem _ ht), by simp only [flats, Tr.flat, List.append_assoc]⟩
          | [], _, h1 => rw [e] at h1; cases h1
        · match ts, ho, h1 with
          | b :: a :: ts, ho, _ => exact ⟨.n2 x a b :: ts, by rw [e]; rfl, fun t ht => by
              rcases List.mem_cons.1 ht with rfl | ht
              · exact ⟨e, ho a (by simp), ho b (by simp)⟩
              · exact ho t (by simp [ht]), by simp only [flats, Tr.flat, List.append_assoc]⟩
          | [_], _, h1 => rw [e] at h1; simp at h1
          | [], _, h1 => rw [e] at h1; cases h1
        · match ts, ho, h1 with
          | c :: b :: a :: ts, ho, _ => exact ⟨.n3 x a b c :: ts, by rw [e]; rfl, fun t ht => by
              rcases List.mem_cons.1 ht with rfl | ht
              · exact ⟨e, ho a (by simp), ho b (by simp), ho c (by simp)⟩
              · exact ho t (by simp [ht]), by simp only [flats, Tr.flat, List.append_assoc]⟩
          | [_, _], _, h1 => rw [e] at h1; simp at h1
          | [_], _, h1 => rw [e] at h1; simp at h1
          | [], _, h1 => rw [e] at h1; cases h1
      obtain ⟨us, u1, u2, u3⟩ := key
      rw [← u1] at h
      obtain ⟨ts', t1, t2, t3⟩ := dep_trees h u2
      exact ⟨ts', t1, t2, by rw [t3, u3, List.append_assoc]; rfl⟩
    · cases h
theorem parse {okI : Ins → Bool} {l : List Ins} (h : dep okI 0 l = some 1) : ∃ t : Tr, t.ok ∧ t.flat = l := by
  obtain ⟨ts, h1, h2, h3⟩ := dep_trees (ts := []) h (fun t ht => by cases ht)
  match ts, h1 with
  | [t], _ => exact ⟨t, h2 t List.mem_cons_self, h3⟩
def surplus : List Ins → Int
  | [] => 0
  | x :: t => (takes x.op : Int) - 1 + surplus t
def Back (l : List Ins) : Prop := ∀ p s : List Ins, l = p ++ s → p ≠ [] → 0 ≤ surplus s
def Tr.ends (p : Nat) : Tr → List Nat
  | .n0 _ => []
  | .n1 _ a => [p + a.flat.length - 1]
  | .n2 _ a b => [p + a.flat.length - 1, p + a.flat.length + b.flat.length - 1]
  | .n3 _ a b c => [p + a.flat.length - 1, p + a.flat.length + b.flat.length - 1, p + a.flat.length + b.flat.length + c.flat.length - 1]
def Tr.top : Tr → Ins
  | .n0 x => x
  | .n1 x _ => x
  | .n2 x _ _ => x
  | .n3 x _ _ _ => x
theorem flat_top : ∀ t : Tr, ∃ l, t.flat = l ++ [t.top]
  | .n0 x => ⟨[], rfl⟩
  | .n1 x a => ⟨_, rfl⟩
  | .n2 x a b => ⟨a.flat ++ b.flat, by simp [Tr.flat, Tr.top]⟩
  | .n3 x a b c => ⟨a.flat ++ (b.flat ++ c.flat), by simp [Tr.flat, Tr.top]⟩
end Go.Lg.Fml
end
section
namespace Go.Proofs.YtimpjdbhalnofaaGreatDoor
open Go Go.Lg Go.Lg.Arith
def textQ (x : Int) : List UInt8 := if x < 0 then 45 :: Lib.decDigits (mg x).toNat else Lib.decDigits (mg x).toNat
end Go.Proofs.YtimpjdbhalnofaaGreatDoor
end
section
namespace Go.Lg.Fld
open Go Go.Lg
section
variable {cs : List Cp} {i : Nat} {c : Cp}
theorem fldE_at {fs : List Fl} {k : Nat} {f : Fl} (h : fs[k]? = some f) : fldE fs k = if nmB f.nm = true then (if (fs.take k).any (fun g => g.nm == f.nm) = true then 4 else 0) else 4 := by unfold fldE; rw [h]
end
theorem FieldsIn.nm {X : Nat → Option Obj} {ad : Option Addr} {fs : List Fl} (h : FieldsIn X ad fs) {k : Nat} {f : Fl} (hf : fs[k]? = some f) :
    ∃ (blk off : Nat) (arr : Array Value) (el : TypeId) (fr : Nat × Nat), ad = some ⟨blk, off, none⟩ ∧ X blk = some (.cells arr el fr) ∧ arr[off + k * 3]? = some (.string ⟨f.nm.toArray⟩) := by
  obtain ⟨blk, off, arr, el, fr, h1, h2, h3, h4⟩ := h.rows k f.vals (by rw [List.getElem?_map, hf]; rfl)
  exact ⟨blk, off, arr, el, fr, h1, h2, (three_at h4).1⟩
end Go.Lg.Fld
namespace Go.Proofs.YtimpjdbhalnofaaGreatDoor
open Go Go.Lg Go.Lg.Fld
set_option maxRecDepth 100000
variable (X : Nat → Option Obj)
end Go.Proofs.YtimpjdbhalnofaaGreatDoor
end
section
namespace Go.Lg
open Go Go.RowKit
def joinM (X H : Nat → Option Obj) : Nat → Option Obj := fun b => (H b).or (X b)
def cutM (H : Nat → Option Obj) (blk : Nat) : Nat → Option Obj := fun b => if b = blk then none else H b
theorem joinM_in {X H : Nat → Option Obj} {b : Nat} {o : Obj} (h : H b = some o) : joinM X H b = some o := by unfold joinM; rw [h]; rfl
theorem joinM_out {X H : Nat → Option Obj} {b : Nat} (h : H b = none) : joinM X H b = X b := by unfold joinM; rw [h]; rfl
theorem joinM_none {X H : Nat → Option Obj} {b : Nat} (h : joinM X H b = none) : H b = none ∧ X b = none := by
  unfold joinM at h
  cases hh : H b with
  | none => rw [hh] at h; exact ⟨rfl, h⟩
  | some o => rw [hh] at h; cases h
theorem cutM_other {H : Nat → Option Obj} {blk b : Nat} (h : b ≠ blk) : cutM H blk b = H b := if_neg h
theorem cutM_some {H : Nat → Option Obj} {blk b : Nat} {o : Obj} (h : cutM H blk b = some o) : b ≠ blk ∧ H b = some o := by
  unfold cutM at h
  split at h
  · cases h
  · rename_i hne; exact ⟨hne, h⟩
structure OwnedM (C : Ctx) (X H : Nat → Option Obj) : Prop where
  own : ∀ b o, H b = some o → (C.own b ∨ C.w0.heap.size ≤ b) ∧ Loose o ∧ X b = none
theorem OwnedM.cut {C : Ctx} {X H : Nat → Option Obj} (h : OwnedM C X H) (blk : Nat) : OwnedM C X (cutM H blk) := ⟨fun b o hb => h.own b o (cutM_some hb).2⟩
theorem joinM_with {X H : Nat → Option Obj} {blk : Nat} {o : Obj} : withBlock (joinM X H) blk o = joinM X (withBlock H blk o) := by
  funext b
  unfold withBlock joinM
  by_cases e : b = blk
  · simp [e]
  · simp [e]
theorem joinM_nil (X : Nat → Option Obj) : joinM X (fun _ => none) = X := by funext b; rfl
theorem OwnedM.more {C : Ctx} {X H : Nat → Option Obj} (h : OwnedM C X H) {blk : Nat} {arr : Array Value} {el : TypeId} {fr : Nat × Nat} (hF : Frozen C blk arr fr) (hX : joinM X H blk = none) : OwnedM C X (withBlock H blk (.cells arr el fr)) := ⟨fun b o hb => by
  unfold withBlock at hb
  split at hb
  · rename_i e; subst e; cases hb; exact ⟨hF.own, hF.thaw, (joinM_none hX).2⟩
  · exact h.own b o hb⟩
theorem OwnedM.nil (C : Ctx) (X : Nat → Option Obj) : OwnedM C X (fun _ => none) := ⟨fun _ _ h => by cases h⟩
theorem OwnedM.frozen {C : Ctx} {X H : Nat → Option Obj} (h : OwnedM C X H) {blk : Nat} {arr : Array Value} {el : TypeId} {fr : Nat × Nat} (hb : H blk = some (.cells arr el fr)) : Frozen C blk arr fr := ⟨(h.own _ _ hb).1, (h.own _ _ hb).2.1⟩
section
variable {P : Program} {n : Nat} {C : Ctx} {c : Code} {Q : Exit → St → Prop} {X : Nat → Option Obj} {s : List (Nat × LV)} {bx : List (Nat × Option Box)} {k : Nat}
theorem stat_hd (b : Option Box) (j : Nat) : (⟨s, (k, b) :: bx, X⟩ : St).stat j = if j = k then some b else look j bx := stat_cons s bx X k j b
theorem later_same {S S' : Nat → Option (Option Box)} (ι : Nat → Nat × Nat) (h : ∀ j, S j ≠ none → S' j ≠ none ∧ ∀ b', S' j = some (some b') → ∃ b, S j = some (some b)) : Later S S' ι ι :=
  fun j hj => ⟨(h j hj).1, fun b' hb' => ⟨rfl, (h j hj).2 b' hb'⟩⟩
theorem later_hd (ι : Nat → Nat × Nat) (b b' : Box) (X X' : Nat → Option Obj) : Later (⟨s, (k, some b) :: bx, X⟩ : St).stat (⟨s, (k, some b') :: bx, X'⟩ : St).stat ι ι := later_same ι fun j hj => by
  rw [stat_hd] at hj ⊢
  rw [stat_hd]
  by_cases e : j = k
  · rw [if_pos e, if_pos e]; exact ⟨by simp, fun _ _ => ⟨b, rfl⟩⟩
  · rw [if_neg e] at hj ⊢
    rw [if_neg e]; exact ⟨hj, fun b1 hb1 => ⟨b1, hb1⟩⟩
theorem Rel.closeRes {ι : Nat → Nat × Nat} {a : Act} {w : World} {el : TypeId} {vals : List Value} {H : Nat → Option Obj} {R : Rsc} (hO : OwnedM C X H)
    (hR : ∀ (ρ : Nat × Nat) (fr : Nat × Nat), H ρ.1 = none → X ρ.1 = none → ρ.2 = vals.length → R.holds ρ (withBlock H ρ.1 (.cells vals.toArray el fr)))
    (hr : Rel n C ι ⟨s, (k, some ⟨el, vals.map .val, false⟩) :: bx, joinM X H⟩ a w) :
    Rel n C ι ⟨s, (k, some ⟨0, [], .res R⟩) :: bx, X⟩ a w := by
  obtain ⟨F, hF⟩ := hr.res
  have hk : (⟨s, (k, some ⟨el, vals.map .val, false⟩) :: bx, joinM X H⟩ : St).stat k = some (some ⟨el, vals.map .val, false⟩) := by rw [stat_hd, if_pos rfl]
  obtain ⟨arr, fr, harr, hth, hsz, hbr⟩ := hr.boxes k _ hk rfl
  have hav : arr.toList = vals := rel_vals hbr
  have hav2 : arr = vals.toArray := by rw [← hav]
  obtain ⟨hkown, hkX⟩ := hr.own k _ hk
  obtain ⟨hkH, hkX⟩ := joinM_none hkX
  have hlater := later_hd (s := s) (bx := bx) (k := k) ι ⟨el, vals.map .val, false⟩ ⟨0, [], .res R⟩ (joinM X H) X
  have live : ∀ j b, (⟨s, (k, some ⟨0, [], .res R⟩) :: bx, X⟩ : St).stat j = some (some b) → ∃ b0, (⟨s, (k, some ⟨el, vals.map .val, false⟩) :: bx, joinM X H⟩ : St).stat j = some (some b0) ∧ (j ≠ k → b = b0) := fun j b hj => by
    rw [stat_hd] at hj ⊢
    by_cases e : j = k
    · rw [if_pos e]; exact ⟨_, rfl, fun h => absurd e h⟩
    · rw [if_neg e] at hj ⊢; exact ⟨b, hj, fun _ => rfl⟩
  have hroots : ∀ j b, (⟨s, (k, some ⟨el, vals.map .val, false⟩) :: bx, joinM X H⟩ : St).stat j = some (some b) → H (ι j).1 = none ∧ X (ι j).1 = none := fun j b hj => joinM_none (hr.own j b hj).2
  exact {
    defers := hr.defers, size := hr.size
    slots := fun d lv hd => by
      obtain ⟨v, hv, hvr⟩ := hr.slots d lv hd
      exact ⟨v, hv, LV.rel_later hlater hvr⟩
    boxes := fun j b hj hbk => by
      by_cases ej : j = k
      · subst ej
        rw [stat_hd, if_pos rfl] at hj
        simp only [Option.some.injEq] at hj
        subst hj
        cases hbk
      · obtain ⟨b0, h0, h1⟩ := live j b hj
        have := h1 ej
        subst this
        obtain ⟨arr', fr', g1, g2, g3, g4⟩ := hr.boxes j b h0 hbk
        exact ⟨arr', fr', g1, g2, g3, Box.rel_later hlater g4⟩
    own := fun j b hj => by
      obtain ⟨b0, h0, _⟩ := live j b hj
      exact ⟨(hr.own j b0 h0).1, (hroots j b0 h0).2⟩
    inj := fun i j bi bj hi hj he => by
      obtain ⟨b1, h1, _⟩ := live i bi hi
      obtain ⟨b2, h2, _⟩ := live j bj hj
      exact hr.inj i j b1 b2 h1 h2 he
    keep := fun j b hj hge => by obtain ⟨b0, h0, _⟩ := live j b hj; exact hr.keep j b0 h0 hge
    ext := fun b o hb => by
      have hb : X b = some o := hb
      have hH : H b = none := by
        cases hc : H b with
        | none => rfl
        | some o' => have := (hO.own b o' hc).2.2; rw [hb] at this; cases this
      exact hr.ext b o ((joinM_out hH).trans hb)
    res := by
      have hG : ∀ b o, withBlock H (ι k).1 (.cells vals.toArray el fr) b = some o → w.heap[b]? = some o ∧ Loose o ∧ (C.own b ∨ C.w0.heap.size ≤ b) ∧ X b = none ∧ (b = (ι k).1 ∨ H b = some o) := fun b o hb => by
        unfold withBlock at hb
        split at hb
        · rename_i e
          cases hb
          subst e
          refine ⟨by rw [← hav2]; exact harr, by rw [← hav2]; exact hth, hkown, hkX, .inl rfl⟩
        · obtain ⟨h1, h2, h3⟩ := hO.own b o hb
          exact ⟨hr.ext b o (joinM_in hb), h2, h1, h3, .inr hb⟩
      have hFX : ∀ j b, F j b ≠ none → H b = none ∧ X b = none ∧ b ≠ (ι k).1 := fun j b hb => by
        cases ho : F j b with
        | none => exact absurd ho hb
        | some o =>
          obtain ⟨h1, _, _, _, h5, h6⟩ := hF.mem j b o ho
          obtain ⟨h7, h8⟩ := joinM_none h5
          refine ⟨h7, h8, fun e => ?_⟩
          have := h6 k _ hk e.symm
          subst this
          obtain ⟨_, _, _, h9⟩ := h1
          rw [hk] at h9
          cases h9
      refine ⟨fun j => open Classical in if j = k then withBlock H (ι k).1 (.cells vals.toArray el fr) else F j, fun j e' cs' R' hj => ?_, fun j b o ho => ?_, fun i j b h1 h2 => ?_⟩
      · rw [stat_hd] at hj
        by_cases ej : j = k
        · rw [if_pos ej] at hj
          cases hj
          rw [if_pos ej, ej]
          exact ⟨hR (ι k) fr hkH hkX (by rw [← hsz, ← Array.length_toList, hav]), by rw [withBlock_at]; simp⟩
        · rw [if_neg ej] at hj
          rw [if_neg ej]
          exact hF.holds j e' cs' R' (by rw [stat_hd, if_neg ej]; exact hj)
      · by_cases ej : j = k
        · rw [if_pos ej] at ho
          obtain ⟨h1, h2, h3, h4, h5⟩ := hG b o ho
          refine ⟨⟨0, [], R, by rw [stat_hd, if_pos ej]⟩, h1, h2, h3, h4, fun i bi hi ei => ?_⟩
          obtain ⟨b0, h0, _⟩ := live i bi hi
          rw [ej]
          rcases h5 with h5 | h5
          · exact hr.inj i k b0 _ h0 hk (by rw [ei, h5])
          · have := (hroots i b0 h0).1; rw [ei, h5] at this; cases this
        · rw [if_neg ej] at ho
          obtain ⟨⟨e1, cs1, R1, h1⟩, h2, h3, h4, h5, h6⟩ := hF.mem j b o ho
          refine ⟨⟨e1, cs1, R1, by rw [stat_hd, if_neg ej]; rw [stat_hd, if_neg ej] at h1; exact h1⟩, h2, h3, h4, (joinM_none h5).2, fun i bi hi ei => ?_⟩
          obtain ⟨b0, h0, _⟩ := live i bi hi
          exact h6 i b0 h0 ei
      · by_cases ei : i = k
        · by_cases ej : j = k
          · rw [ei, ej]
          · rw [if_pos ei] at h1
            rw [if_neg ej] at h2
            obtain ⟨h3, _, h5⟩ := hFX j b h2
            cases ho : withBlock H (ι k).1 (.cells vals.toArray el fr) b with
            | none => exact absurd ho h1
            | some o =>
              rcases (hG b o ho).2.2.2.2 with h6 | h6
              · exact absurd h6 h5
              · rw [h3] at h6; cases h6
        · by_cases ej : j = k
          · rw [if_neg ei] at h1
            rw [if_pos ej] at h2
            obtain ⟨h3, _, h5⟩ := hFX i b h1
            cases ho : withBlock H (ι k).1 (.cells vals.toArray el fr) b with
            | none => exact absurd ho h2
            | some o =>
              rcases (hG b o ho).2.2.2.2 with h6 | h6
              · exact absurd h6 h5
              · rw [h3] at h6; cases h6
          · rw [if_neg ei] at h1
            rw [if_neg ej] at h2
            exact hF.apart i j b h1 h2
    frame := hr.frame, big := hr.big, os := hr.os, tape := hr.tape, output := hr.output }
theorem LWP.closeRes {el : TypeId} {vals : List Value} {H : Nat → Option Obj} {R : Rsc} (hO : OwnedM C X H)
    (hR : ∀ (ρ : Nat × Nat) (fr : Nat × Nat), H ρ.1 = none → X ρ.1 = none → ρ.2 = vals.length → R.holds ρ (withBlock H ρ.1 (.cells vals.toArray el fr)))
    (h : LWP P n C c Q ⟨s, (k, some ⟨0, [], .res R⟩) :: bx, X⟩) : LWP P n C c Q ⟨s, (k, some ⟨el, vals.map .val, false⟩) :: bx, joinM X H⟩ :=
  ⟨fun ι a w hr => h.out ι a w (hr.closeRes hO hR)⟩
theorem Leads.closeRes {Mid : St → Prop} {el : TypeId} {vals : List Value} {H : Nat → Option Obj} {R : Rsc} (hO : OwnedM C X H)
    (hR : ∀ (ρ : Nat × Nat) (fr : Nat × Nat), H ρ.1 = none → X ρ.1 = none → ρ.2 = vals.length → R.holds ρ (withBlock H ρ.1 (.cells vals.toArray el fr)))
    (h : Leads n C Mid ⟨s, (k, some ⟨0, [], .res R⟩) :: bx, X⟩) : Leads n C Mid ⟨s, (k, some ⟨el, vals.map .val, false⟩) :: bx, joinM X H⟩ :=
  ⟨fun ι a w hr => h.out ι a w (hr.closeRes hO hR)⟩
theorem LWP.ends (h : LWP P n C c (fun e σ => Leads n C (fun σ' => Q e σ') σ) ⟨s, bx, X⟩) : LWP P n C c Q ⟨s, bx, X⟩ :=
  ⟨fun ι a w hr => wp_mono (h.out ι a w hr) fun _ a' w' ⟨ι', σ', hl, hr'⟩ => by
    obtain ⟨ι2, σ2, hq, hr2⟩ := hl.out ι' a' w' hr'
    exact ⟨ι2, σ2, hq, hr2⟩⟩
end
end Go.Lg
end
section
namespace Go.Lg
open Go Go.RowKit
section
variable {P : Program} {n : Nat} {C : Ctx} {c : Code} {Q : Exit → St → Prop} {X : Nat → Option Obj} {s : List (Nat × LV)} {bx : List (Nat × Option Box)}
end
end Go.Lg
end
section
namespace Go.Lg
open Go Go.RowKit
section
variable {P : Program} {n : Nat} {ops os : List Oper} {acc : List Eff} {K : List Eff → St → Prop} {s : List (Nat × LV)} {bx : List (Nat × Option Box)} {X : Nat → Option Obj} {σ : St}
end
end Go.Lg
end
section
namespace Go.Lg
open Go Go.RowKit
def LeadsTo (H : Nat → Option Obj) (b : Nat) (v : Value) (el : TypeId) (sz : Nat) (vals : List Value) : Prop :=
  ∃ (len cap : Nat) (arr : Array Value) (fr : Nat × Nat), v = .slice (some ⟨b, 0, none⟩) len cap ∧ vals.length = len * sz ∧ len ≤ cap ∧ cap * sz ≤ arr.size ∧ H b = some (.cells arr el fr) ∧ ∃ sp, arr.toList = vals ++ sp
theorem LeadsTo.mono {H H' : Nat → Option Obj} {b : Nat} {v : Value} {el : TypeId} {sz : Nat} {vals : List Value} (h : LeadsTo H b v el sz vals) (he : H' b = H b) : LeadsTo H' b v el sz vals := by
  obtain ⟨len, cap, arr, fr, h1, h2, h3, h4, h5, h6⟩ := h
  exact ⟨len, cap, arr, fr, h1, h2, h3, h4, he.trans h5, h6⟩
theorem LeadsTo.cut {H : Nat → Option Obj} {b b' : Nat} {v : Value} {el : TypeId} {sz : Nat} {vals : List Value} (h : LeadsTo H b v el sz vals) (hne : b ≠ b') : LeadsTo (cutM H b') b v el sz vals := h.mono (cutM_other hne)
theorem LeadsTo.more {H : Nat → Option Obj} {b b' : Nat} {o : Obj} {v : Value} {el : TypeId} {sz : Nat} {vals : List Value} (h : LeadsTo H b v el sz vals) (hne : b ≠ b') : LeadsTo (withBlock H b' o) b v el sz vals := h.mono (by unfold withBlock; rw [if_neg hne])
theorem mid_inUse {bx : List (Nat × Option Box)} {l l' : List Value} {c : CV} (h : c.inUse bx = true) : (l.map CV.val ++ c :: l'.map CV.val).all (CV.inUse bx) = true := by
  rw [List.all_append, List.all_cons, vals_inUse, vals_inUse, h]; rfl
theorem Box.ren_mid {f : Nat → Nat} {e : TypeId} {l l' : List Value} {c c' : CV} {r : Bool} (h : c.ren f = c') : Box.ren f ⟨e, l.map CV.val ++ c :: l'.map CV.val, r⟩ = ⟨e, l.map CV.val ++ c' :: l'.map CV.val, r⟩ := by
  unfold Box.ren
  rw [List.map_append, List.map_cons, Go.Lg.ren_vals, Go.Lg.ren_vals, h]
section
variable {P : Program} {n : Nat} {C : Ctx} {c : Code} {Q : Exit → St → Prop} {X H : Nat → Option Obj} {s : List (Nat × LV)} {bx : List (Nat × Option Box)}
theorem closed {blk len cap sz : Nat} {arr : Array Value} {fr : Nat × Nat} {el : TypeId} {vals : List Value} (hlen : vals.length = len * sz) (hX : joinM X H blk = none) (hO : OwnedM C X H) (hF : Frozen C blk arr fr) (hc : len ≤ cap) (hfit : 0 + cap * sz ≤ arr.size) (hsp : ∃ sp, arr.toList = vals ++ sp) :
    H blk = none ∧ OwnedM C X (withBlock H blk (.cells arr el fr)) ∧ LeadsTo (withBlock H blk (.cells arr el fr)) blk (.slice (some ⟨blk, 0, none⟩) len cap) el sz vals :=
  ⟨(joinM_none hX).1, hO.more hF hX, ⟨len, cap, arr, fr, rfl, hlen, hc, by omega, withBlock_at _ _ _, hsp⟩⟩
theorem LWP.loopL {c : Code} {σ : St} (I : Nat → St → Prop) (m : Nat) (h0 : Leads n C (I m) σ)
    (round : ∀ m σ, I m σ → LWP P n C c (thenQ (Leads n C (fun σ' => ∃ m', m' < m ∧ I m' σ')) Q) σ) : LWP P n C (.loop c) Q σ := by
  refine ⟨fun ι a w hr => ?_⟩
  have key : ∀ (m : Nat) (σ : St) (ι : Nat → Nat × Nat) (a : Act) (w : World), I m σ → Rel n C ι σ a w → Code.rounds P c (fun e a' w' => ∃ ι' σ', Q e σ' ∧ Rel n C ι' σ' a' w') (m + 1) a w := by
    intro m
    induction m using Nat.strongRecOn with
    | _ m ih =>
      intro σ ι a w hI hr
      rw [rounds_succ]
      refine wp_mono ((round m σ hI).out ι a w hr) ?_
      rintro e a' w' ⟨ι', σ', hq, hr'⟩
      cases e <;> try exact ⟨ι', σ', hq, hr'⟩
      obtain ⟨ι2, σ2, ⟨m', hlt, hI'⟩, hr2⟩ := hq.out ι' a' w' hr'
      exact rounds_le (by omega) (ih m' hlt σ2 ι2 a' w' hI' hr2)
  obtain ⟨ι2, σ2, hI, hr2⟩ := h0.out ι a w hr
  exact wp_loop_rounds (m + 1) (key m σ2 ι2 a w hI hr2)
theorem rel_front {S : Nat → Option (Option Box)} {ι : Nat → Nat × Nat} : ∀ {A B : List CV} {vs : List Value}, CVs.rel S ι (A ++ B) vs → ∃ va vb, vs = va ++ vb ∧ CVs.rel S ι A va
  | [], _, vs, _ => ⟨[], vs, rfl, trivial⟩
  | _ :: _, _, [], h => h.elim
  | _ :: A, B, v :: vs, h => by
    obtain ⟨va, vb, e, h1⟩ := rel_front (A := A) (B := B) h.2
    exact ⟨v :: va, vb, by rw [e]; rfl, h.1, h1⟩
theorem Rel.rebox {ι : Nat → Nat × Nat} {a : Act} {w : World} {j : Nat} {e : TypeId} {cs cs' : List CV} {r r' : Bool}
    (himp : ∀ vs, Box.rel (⟨s, (j, some ⟨e, cs', r'⟩) :: bx, X⟩ : St).stat ι ⟨e, cs, r⟩ vs → Box.rel (⟨s, (j, some ⟨e, cs', r'⟩) :: bx, X⟩ : St).stat ι ⟨e, cs', r'⟩ vs)
    (hr : Rel n C ι ⟨s, (j, some ⟨e, cs, r⟩) :: bx, X⟩ a w) : Rel n C ι ⟨s, (j, some ⟨e, cs', r'⟩) :: bx, X⟩ a w := by
  have hlater := later_hd (s := s) (bx := bx) (k := j) ι ⟨e, cs, r⟩ ⟨e, cs', r'⟩ X X
  have live : ∀ i b, (⟨s, (j, some ⟨e, cs', r'⟩) :: bx, X⟩ : St).stat i = some (some b) → ∃ b0, (⟨s, (j, some ⟨e, cs, r⟩) :: bx, X⟩ : St).stat i = some (some b0) ∧ (i ≠ j → b = b0) := fun i b hi => by
    rw [stat_hd] at hi ⊢
    by_cases e : i = j
    · rw [if_pos e]; exact ⟨_, rfl, fun h => absurd e h⟩
    · rw [if_neg e] at hi ⊢; exact ⟨b, hi, fun _ => rfl⟩
  exact {
    defers := hr.defers, size := hr.size
    slots := fun d lv hd => by
      obtain ⟨v, hv, hvr⟩ := hr.slots d lv hd
      exact ⟨v, hv, LV.rel_later hlater hvr⟩
    boxes := fun i b hi hbk => by
      by_cases ei : i = j
      · subst ei
        rw [stat_hd, if_pos rfl] at hi
        simp only [Option.some.injEq] at hi
        subst hi
        obtain ⟨arr, fr, g1, g2, g3, g4⟩ := hr.boxes i ⟨e, cs, r⟩ (by rw [stat_hd, if_pos rfl]) rfl
        exact ⟨arr, fr, g1, g2, g3, himp _ (Box.rel_later hlater g4)⟩
      · obtain ⟨b0, h0, h1⟩ := live i b hi
        have := h1 ei
        subst this
        obtain ⟨arr, fr, g1, g2, g3, g4⟩ := hr.boxes i b h0 hbk
        exact ⟨arr, fr, g1, g2, g3, Box.rel_later hlater g4⟩
    own := fun i b hi => by obtain ⟨b0, h0, _⟩ := live i b hi; exact hr.own i b0 h0
    inj := fun i i' bi bj hi hj he => by
      obtain ⟨b1, h1, _⟩ := live i bi hi
      obtain ⟨b2, h2, _⟩ := live i' bj hj
      exact hr.inj i i' b1 b2 h1 h2 he
    keep := fun i b hi hge => by obtain ⟨b0, h0, _⟩ := live i b hi; exact hr.keep i b0 h0 hge
    ext := hr.ext
    res := by
      obtain ⟨F, hG⟩ := hr.res
      refine hG.keep (fun i e cs R hi => ?_) (fun _ _ _ _ _ hi => hi) (fun _ _ ho => ho) (fun b _ hx _ _ => hx) (fun i bi hi => ?_)
      · rw [stat_hd] at hi ⊢
        by_cases e : i = j
        · rw [if_pos e] at hi; cases hi
        · rw [if_neg e] at hi ⊢; exact ⟨hi, rfl⟩
      · obtain ⟨b0, h0, _⟩ := live i bi hi
        exact .inl ⟨b0, h0, rfl⟩
    frame := hr.frame, big := hr.big, os := hr.os, tape := hr.tape, output := hr.output }
theorem Le.trim {j : Nat} {e : TypeId} {A B : List CV} {r : Bool} : Le n C ⟨s, (j, some ⟨e, A ++ B, r⟩) :: bx, X⟩ ⟨s, (j, some ⟨e, A, true⟩) :: bx, X⟩ := ⟨fun ι a w hr => ⟨ι, hr.rebox fun vs h => by
  unfold Box.rel at h ⊢
  cases r with
  | false =>
    obtain ⟨va, vb, e, h1⟩ := rel_front h
    exact ⟨va, vb, e, h1⟩
  | true =>
    obtain ⟨us, sp, e, hl⟩ := h
    obtain ⟨va, vb, e2, h1⟩ := rel_front hl
    exact ⟨va, vb ++ sp, by rw [e, e2, List.append_assoc], h1⟩⟩⟩
theorem Le.same {σ σ' : St} (h : Same σ σ') : Le n C σ σ' := ⟨fun ι _ _ hr => ⟨ι, hr.same h⟩⟩
theorem Leads.done {Mid : St → Prop} {σ : St} (h : Mid σ) : Leads n C Mid σ := ⟨fun ι a w hr => ⟨ι, σ, h, hr⟩⟩
end
end Go.Lg
end
section
namespace Go.Lg
open Go Go.RowKit
def nilSlc : Value := .slice none 0 0
def blkOf : Value → Option Nat
  | .slice (some a) _ _ => some a.block
  | _ => none
theorem LeadsTo.blk {H : Nat → Option Obj} {b : Nat} {v : Value} {el : TypeId} {sz : Nat} {vals : List Value} (h : LeadsTo H b v el sz vals) : blkOf v = some b := by
  obtain ⟨len, cap, arr, fr, rfl, _⟩ := h
  rfl
def SliceTo (H : Nat → Option Obj) (v : Value) (el : TypeId) (vals : List Value) : Prop := ∃ b, LeadsTo H b v el 1 vals
theorem SliceTo.mono {H H' : Nat → Option Obj} {v : Value} {el : TypeId} {vals : List Value} (h : SliceTo H v el vals) (he : ∀ b, blkOf v = some b → H' b = H b) : SliceTo H' v el vals := by
  obtain ⟨b, h⟩ := h
  exact ⟨b, h.mono (he b h.blk)⟩
theorem SliceTo.some_of {H : Nat → Option Obj} {v : Value} {el : TypeId} {vals : List Value} (h : SliceTo H v el vals) {b : Nat} (hb : blkOf v = some b) : H b ≠ Option.none := by
  obtain ⟨b', h⟩ := h
  have := h.blk
  rw [this] at hb
  simp only [Option.some.injEq] at hb
  subst hb
  obtain ⟨_, _, _, _, _, _, _, _, h5, _⟩ := h
  rw [h5]; simp
structure Cells (H : Nat → Option Obj) (el : TypeId) (op : List Nat) (cells : List Value) (chs : List (List Value)) : Prop where
  len : cells.length = chs.length
  at_ : ∀ (i : Nat) (c : Value) (x : List Value), i ∉ op → cells[i]? = some c → chs[i]? = some x → SliceTo H c el x
  apart : ∀ (i j : Nat) (c c' : Value) (b : Nat), i ∉ op → j ∉ op → cells[i]? = some c → cells[j]? = some c' → blkOf c = some b → blkOf c' = some b → i = j
theorem Cells.nil (H : Nat → Option Obj) (el : TypeId) (op : List Nat) : Cells H el op [] [] := ⟨rfl, fun i c x _ h => (by simp at h), fun i j c c' b _ _ h => (by simp at h)⟩
section
variable {H : Nat → Option Obj} {el : TypeId} {op : List Nat} {cells : List Value} {chs : List (List Value)}
theorem Cells.some_of (G : Cells H el op cells chs) {i : Nat} {c : Value} {b : Nat} (hi : i ∉ op) (hc : cells[i]? = some c) (hb : blkOf c = some b) : H b ≠ none := by
  obtain ⟨x, hx⟩ : ∃ x, chs[i]? = some x := ⟨_, List.getElem?_eq_getElem (by have := (List.getElem?_eq_some_iff.1 hc).1; have := G.len; omega)⟩
  exact (G.at_ i c x hi hc hx).some_of hb
theorem Cells.mono {H' : Nat → Option Obj} (G : Cells H el op cells chs) (h : ∀ (i : Nat) (c : Value) (b : Nat), i ∉ op → cells[i]? = some c → blkOf c = some b → H' b = H b) : Cells H' el op cells chs :=
  ⟨G.len, fun i c x hi hc hx => (G.at_ i c x hi hc hx).mono fun b hb => h i c b hi hc hb, G.apart⟩
theorem Cells.more (G : Cells H el op cells chs) {b : Nat} {o : Obj} (hb : H b = none) : Cells (withBlock H b o) el op cells chs := G.mono fun i c b' hi hc hb' => by
  unfold withBlock
  rw [if_neg (fun e => G.some_of hi hc hb' (by rw [e, hb]))]
theorem Cells.shutAt {p : Nat} (G : Cells H el (p :: op) cells chs) (hp : p < cells.length) {b : Nat} {o : Obj} {v : Value} {x : List Value} (hb : H b = none) (hv : LeadsTo (withBlock H b o) b v el 1 x) : Cells (withBlock H b o) el op (cells.set p v) (chs.set p x) := by
  have hno : ∀ (i : Nat), i ∉ op → i ≠ p → i ∉ p :: op := fun i hi hne h => by
    rcases List.mem_cons.1 h with h | h
    · exact hne h
    · exact hi h
  refine ⟨by rw [List.length_set, List.length_set]; exact G.len, fun i c x' hi hc hx => ?_, fun i j c c' β hi hj hc hc' hβ hβ' => ?_⟩
  · by_cases e : i = p
    · subst e
      rw [List.getElem?_set_self hp] at hc
      rw [List.getElem?_set_self (by have := G.len; omega)] at hx
      simp only [Option.some.injEq] at hc hx
      subst hc hx
      exact ⟨b, hv⟩
    · rw [List.getElem?_set_ne (fun e' => e e'.symm)] at hc hx
      exact (G.more hb).at_ i c x' (hno i hi e) hc hx
  · by_cases e : i = p
    · by_cases e2 : j = p
      · omega
      · exfalso
        subst e
        rw [List.getElem?_set_self hp] at hc
        simp only [Option.some.injEq] at hc
        subst hc
        rw [List.getElem?_set_ne (fun e' => e2 e'.symm)] at hc'
        rw [hv.blk] at hβ
        simp only [Option.some.injEq] at hβ
        exact G.some_of (hno j hj e2) hc' hβ' (by rw [← hβ, hb])
    · by_cases e2 : j = p
      · exfalso
        subst e2
        rw [List.getElem?_set_self hp] at hc'
        simp only [Option.some.injEq] at hc'
        subst hc'
        rw [List.getElem?_set_ne (fun e' => e e'.symm)] at hc
        rw [hv.blk] at hβ'
        simp only [Option.some.injEq] at hβ'
        exact G.some_of (hno i hi e) hc hβ (by rw [← hβ', hb])
      · rw [List.getElem?_set_ne (fun e' => e e'.symm)] at hc
        rw [List.getElem?_set_ne (fun e' => e2 e'.symm)] at hc'
        exact G.apart i j c c' β (hno i hi e) (hno j hj e2) hc hc' hβ hβ'
theorem Cells.snoc (G : Cells H el op cells chs) (c : Value) (x : List Value) : Cells H el (cells.length :: op) (cells ++ [c]) (chs ++ [x]) := by
  have hlt : ∀ (i : Nat) (ci : Value), i ∉ cells.length :: op → (cells ++ [c])[i]? = some ci → i ∉ op ∧ i < cells.length ∧ cells[i]? = some ci := fun i ci hi hci => by
    have h1 := (List.getElem?_eq_some_iff.1 hci).1
    rw [List.length_append] at h1
    have h2 : i ≠ cells.length := fun e => hi (by rw [e]; exact List.mem_cons_self ..)
    have h3 : i < cells.length := by simp at h1; omega
    rw [List.getElem?_append_left h3] at hci
    exact ⟨fun h => hi (List.mem_cons_of_mem _ h), h3, hci⟩
  refine ⟨by rw [List.length_append, List.length_append, G.len]; rfl, fun i ci xi hi hci hxi => ?_, fun i j ci cj β hi hj hci hcj hβ hβ' => ?_⟩
  · obtain ⟨h1, h2, h3⟩ := hlt i ci hi hci
    rw [List.getElem?_append_left (by have := G.len; omega)] at hxi
    exact G.at_ i ci xi h1 h3 hxi
  · obtain ⟨h1, _, h3⟩ := hlt i ci hi hci
    obtain ⟨g1, _, g3⟩ := hlt j cj hj hcj
    exact G.apart i j ci cj β h1 g1 h3 g3 hβ hβ'
theorem Cells.take (G : Cells H el op cells chs) (k : Nat) : Cells H el op (cells.take k) (chs.take k) := by
  have hlt : ∀ (i : Nat) (ci : Value), (cells.take k)[i]? = some ci → cells[i]? = some ci := fun i ci h => by
    rw [List.getElem?_take] at h
    split at h
    · exact h
    · cases h
  refine ⟨by rw [List.length_take, List.length_take, G.len], fun i ci xi hi hci hxi => G.at_ i ci xi hi (hlt i ci hci) ?_, fun i j ci cj β hi hj hci hcj => G.apart i j ci cj β hi hj (hlt i ci hci) (hlt j cj hcj)⟩
  rw [List.getElem?_take] at hxi
  split at hxi
  · exact hxi
  · cases hxi
end
def Grid (H : Nat → Option Obj) (st el : TypeId) (v : Value) (cells : List Value) (chs : List (List Value)) : Prop :=
  (∃ db, LeadsTo H db v st 1 cells ∧ Cells (cutM H db) el [] cells chs) ∨ (v = nilSlc ∧ cells = [] ∧ chs = [])
theorem Grid.empty (H : Nat → Option Obj) (st el : TypeId) : Grid H st el nilSlc [] [] := .inr ⟨rfl, rfl, rfl⟩
theorem Grid.len {H : Nat → Option Obj} {st el : TypeId} {v : Value} {cells : List Value} {chs : List (List Value)} (G : Grid H st el v cells chs) : cells.length = chs.length := by
  rcases G with ⟨_, _, G⟩ | ⟨_, h1, h2⟩
  · exact G.len
  · rw [h1, h2]; rfl
end Go.Lg
end
section
namespace Go.Lg
open Go Go.RowKit
section
variable {P : Program} {n : Nat} {ops os : List Oper} {acc : List Eff} {K : List Eff → St → Prop} {s : List (Nat × LV)} {bx : List (Nat × Option Box)} {X : Nat → Option Obj} {σ : St}
end
end Go.Lg
end
section
namespace Go.Lg
open Go Go.RowKit
section
variable {P : Program} {n : Nat} {ops os : List Oper} {acc : List Eff} {K : List Eff → St → Prop} {s : List (Nat × LV)} {bx : List (Nat × Option Box)} {X : Nat → Option Obj} {σ : St}
end
end Go.Lg
end
section
namespace Go.Lg
open Go Go.RowKit
def blkZ : Value → Option Nat
  | .slice (some a) (_ + 1) _ => some a.block
  | _ => none
theorem LeadsTo.blkZ {H : Nat → Option Obj} {b : Nat} {v : Value} {el : TypeId} {sz : Nat} {vals : List Value} (h : LeadsTo H b v el sz vals) (h0 : vals ≠ []) : Go.Lg.blkZ v = some b := by
  obtain ⟨len, cap, arr, fr, rfl, h2, _⟩ := h
  cases len with
  | zero => exact absurd (List.eq_nil_of_length_eq_zero (by omega)) h0
  | succ n => rfl
def SliceZ (H : Nat → Option Obj) (v : Value) (el : TypeId) (sz : Nat) (vals : List Value) : Prop := (vals = [] ∧ ∃ ad cap, v = .slice ad 0 cap) ∨ ∃ b, LeadsTo H b v el sz vals ∧ vals ≠ []
theorem SliceZ.mono {H H' : Nat → Option Obj} {v : Value} {el : TypeId} {sz : Nat} {vals : List Value} (h : SliceZ H v el sz vals) (he : ∀ b, blkZ v = some b → H' b = H b) : SliceZ H' v el sz vals := by
  rcases h with h | ⟨b, h, h0⟩
  · exact .inl h
  · exact .inr ⟨b, h.mono (he b (h.blkZ h0)), h0⟩
theorem SliceZ.some_of {H : Nat → Option Obj} {v : Value} {el : TypeId} {sz : Nat} {vals : List Value} (h : SliceZ H v el sz vals) {b : Nat} (hb : blkZ v = some b) : H b ≠ Option.none := by
  rcases h with ⟨_, ad, cap, rfl⟩ | ⟨b', h, h0⟩
  · simp [blkZ] at hb
  · have := h.blkZ h0
    rw [this] at hb
    simp only [Option.some.injEq] at hb
    subst hb
    obtain ⟨_, _, _, _, _, _, _, _, h5, _⟩ := h
    rw [h5]; simp
structure Twigs (H : Nat → Option Obj) (el : TypeId) (sz : Nat) (op : List Nat) (cells : List Value) (chs : List (List Value)) : Prop where
  len : cells.length = chs.length
  at_ : ∀ (i : Nat) (c : Value) (x : List Value), i ∉ op → cells[i]? = some c → chs[i]? = some x → SliceZ H c el sz x
  apart : ∀ (i j : Nat) (c c' : Value) (b : Nat), i ∉ op → j ∉ op → cells[i]? = some c → cells[j]? = some c' → blkZ c = some b → blkZ c' = some b → i = j
theorem Twigs.nil (H : Nat → Option Obj) (el : TypeId) (sz : Nat) (op : List Nat) : Twigs H el sz op [] [] := ⟨rfl, fun i c x _ h => (by simp at h), fun i j c c' b _ _ h => (by simp at h)⟩
section
variable {H : Nat → Option Obj} {el : TypeId} {sz : Nat} {op : List Nat} {cells : List Value} {chs : List (List Value)}
theorem Twigs.some_of (G : Twigs H el sz op cells chs) {i : Nat} {c : Value} {b : Nat} (hi : i ∉ op) (hc : cells[i]? = some c) (hb : blkZ c = some b) : H b ≠ none := by
  obtain ⟨x, hx⟩ : ∃ x, chs[i]? = some x := ⟨_, List.getElem?_eq_getElem (by have := (List.getElem?_eq_some_iff.1 hc).1; have := G.len; omega)⟩
  exact (G.at_ i c x hi hc hx).some_of hb
theorem Twigs.mono {H' : Nat → Option Obj} (G : Twigs H el sz op cells chs) (h : ∀ (i : Nat) (c : Value) (b : Nat), i ∉ op → cells[i]? = some c → blkZ c = some b → H' b = H b) : Twigs H' el sz op cells chs :=
  ⟨G.len, fun i c x hi hc hx => (G.at_ i c x hi hc hx).mono fun b hb => h i c b hi hc hb, G.apart⟩
theorem Twigs.more (G : Twigs H el sz op cells chs) {b : Nat} {o : Obj} (hb : H b = none) : Twigs (withBlock H b o) el sz op cells chs := G.mono fun i c b' hi hc hb' => by
  unfold withBlock
  rw [if_neg (fun e => G.some_of hi hc hb' (by rw [e, hb]))]
theorem Twigs.shutAt {p : Nat} (G : Twigs H el sz (p :: op) cells chs) (hp : p < cells.length) {b : Nat} {o : Obj} {v : Value} {x : List Value} (hb : H b = none) (hv : LeadsTo (withBlock H b o) b v el sz x) (hx0 : x ≠ []) : Twigs (withBlock H b o) el sz op (cells.set p v) (chs.set p x) := by
  have hno : ∀ (i : Nat), i ∉ op → i ≠ p → i ∉ p :: op := fun i hi hne h => by
    rcases List.mem_cons.1 h with h | h
    · exact hne h
    · exact hi h
  refine ⟨by rw [List.length_set, List.length_set]; exact G.len, fun i c x' hi hc hx => ?_, fun i j c c' β hi hj hc hc' hβ hβ' => ?_⟩
  · by_cases e : i = p
    · subst e
      rw [List.getElem?_set_self hp] at hc
      rw [List.getElem?_set_self (by have := G.len; omega)] at hx
      simp only [Option.some.injEq] at hc hx
      subst hc hx
      exact .inr ⟨b, hv, hx0⟩
    · rw [List.getElem?_set_ne (fun e' => e e'.symm)] at hc hx
      exact (G.more hb).at_ i c x' (hno i hi e) hc hx
  · by_cases e : i = p
    · by_cases e2 : j = p
      · omega
      · exfalso
        subst e
        rw [List.getElem?_set_self hp] at hc
        simp only [Option.some.injEq] at hc
        subst hc
        rw [List.getElem?_set_ne (fun e' => e2 e'.symm)] at hc'
        rw [hv.blkZ hx0] at hβ
        simp only [Option.some.injEq] at hβ
        exact G.some_of (hno j hj e2) hc' hβ' (by rw [← hβ, hb])
    · by_cases e2 : j = p
      · exfalso
        subst e2
        rw [List.getElem?_set_self hp] at hc'
        simp only [Option.some.injEq] at hc'
        subst hc'
        rw [List.getElem?_set_ne (fun e' => e e'.symm)] at hc
        rw [hv.blkZ hx0] at hβ'
        simp only [Option.some.injEq] at hβ'
        exact G.some_of (hno i hi e) hc hβ (by rw [← hβ', hb])
      · rw [List.getElem?_set_ne (fun e' => e e'.symm)] at hc
        rw [List.getElem?_set_ne (fun e' => e2 e'.symm)] at hc'
        exact G.apart i j c c' β (hno i hi e) (hno j hj e2) hc hc' hβ hβ'
theorem Twigs.snoc (G : Twigs H el sz op cells chs) (c : Value) (x : List Value) : Twigs H el sz (cells.length :: op) (cells ++ [c]) (chs ++ [x]) := by
  have hlt : ∀ (i : Nat) (ci : Value), i ∉ cells.length :: op → (cells ++ [c])[i]? = some ci → i ∉ op ∧ i < cells.length ∧ cells[i]? = some ci := fun i ci hi hci => by
    have h1 := (List.getElem?_eq_some_iff.1 hci).1
    rw [List.length_append] at h1
    have h2 : i ≠ cells.length := fun e => hi (by rw [e]; exact List.mem_cons_self ..)
    have h3 : i < cells.length := by simp at h1; omega
    rw [List.getElem?_append_left h3] at hci
    exact ⟨fun h => hi (List.mem_cons_of_mem _ h), h3, hci⟩
  refine ⟨by rw [List.length_append, List.length_append, G.len]; rfl, fun i ci xi hi hci hxi => ?_, fun i j ci cj β hi hj hci hcj hβ hβ' => ?_⟩
  · obtain ⟨h1, h2, h3⟩ := hlt i ci hi hci
    rw [List.getElem?_append_left (by have := G.len; omega)] at hxi
    exact G.at_ i ci xi h1 h3 hxi
  · obtain ⟨h1, _, h3⟩ := hlt i ci hi hci
    obtain ⟨g1, _, g3⟩ := hlt j cj hj hcj
    exact G.apart i j ci cj β h1 g1 h3 g3 hβ hβ'
theorem Twigs.take (G : Twigs H el sz op cells chs) (k : Nat) : Twigs H el sz op (cells.take k) (chs.take k) := by
  have hlt : ∀ (i : Nat) (ci : Value), (cells.take k)[i]? = some ci → cells[i]? = some ci := fun i ci h => by
    rw [List.getElem?_take] at h
    split at h
    · exact h
    · cases h
  refine ⟨by rw [List.length_take, List.length_take, G.len], fun i ci xi hi hci hxi => G.at_ i ci xi hi (hlt i ci hci) ?_, fun i j ci cj β hi hj hci hcj => G.apart i j ci cj β hi hj (hlt i ci hci) (hlt j cj hcj)⟩
  rw [List.getElem?_take] at hxi
  split at hxi
  · exact hxi
  · cases hxi
end
end Go.Lg
end
section
namespace Go.Lg.Fld
open Go Go.Lg
end Go.Lg.Fld
namespace Go.Proofs.YtimpjdbhalnofaaGreatDoor
open Go Go.Lg Go.Lg.Fld
set_option maxRecDepth 100000
end Go.Proofs.YtimpjdbhalnofaaGreatDoor
end
section
namespace Go.Lg
open Go Go.RowKit
section
variable {P : Program} {n : Nat} {ops os : List Oper} {acc : List Eff} {K : List Eff → St → Prop} {s : List (Nat × LV)} {bx : List (Nat × Option Box)} {X : Nat → Option Obj} {σ : St}
theorem LOK.cutLoX {d b off len cap sz l : Nat} {t : TypeId} {x y : Operand} {ty : TypeId} {pos : String} {after_ : Array Edge} {g : Option (Nat × Bool)} {kh : IntKind} (hx : σ.ev x = some (.sv (.one (.val (.slice (some ⟨b, off, none⟩) len cap))))) (hy : σ.ev y = some (.sv (.one (.val (.int kh (l : Nat))))))
    (ht : sliceOf P t = some sz) (hl : l ≤ len) : LOK P n ops ⟨some d, .slice t x (some y) none none, ty, pos, after_, g⟩ σ ⟨[(d, .sv (.one (.val (.slice (some ⟨b, if cap = l then off else off + l * sz, none⟩) (len - l) (cap - l)))))], [], []⟩ :=
  LOK.value fun σ' ha C ι a w hr => by
    have h1 : a.eval x = _ := hr.ev ((ha.ev (x := x) (by simp [Op.operands])).trans hx)
    have h2 : a.eval y = .int kh (l : Nat) := hr.ev ((ha.ev (x := y) (by simp [Op.operands])).trans hy)
    obtain ⟨e, hu, hsz⟩ := sliceOf_spec ht
    have hrun : (Instr.sliceAt t (.slice (some ⟨b, off, none⟩) len cap) (some (.int kh (l : Nat))) none none).run P w = .ok (.slice (some ⟨b, if cap = l then off else off + l * sz, none⟩) (len - l) (cap - l)) w := by
      have ha0 : (⟨b, off, none⟩ : Addr).add (l * sz) = ⟨b, off + l * sz, none⟩ := addr_add _ _ _
      simp [Instr.sliceAt, Instr.slice, run_underlying hu, Instr.sliceBounds, Instr.sliceBound, asIntOf, hsz, ha0]
      rw [if_pos hl]
      by_cases e : cap = l
      · simp [e]
      · simp [e]
    exact ⟨_, by simp only [execOp, h1, h2, Option.map_none, Option.map_some, Sem.run_bind, hrun, Result.andThen_ok, Sem.run_pure], rfl⟩
theorem K.cutLoX {d b off len cap sz l off' len' cap' : Nat} {t : TypeId} {x y : Operand} {ty : TypeId} {pos : String} {after_ : Array Edge} {g : Option (Nat × Bool)} {kh : IntKind} (hx : (⟨s, bx, X⟩ : St).ev x = some (.sv (.one (.val (.slice (some ⟨b, off, none⟩) len cap))))) (hy : (⟨s, bx, X⟩ : St).ev y = some (.sv (.one (.val (.int kh (l : Nat))))))
    (ht : sliceOf P t = some sz) (hl : l ≤ len) (ho : (if cap = l then off else off + l * sz) = off') (hn : len - l = len') (hc : cap - l = cap') (hw : Want ops s g) (kont : RunK P n ops os ⟨(d, .sv (.one (.val (.slice (some ⟨b, off', none⟩) len' cap')))) :: s, bx, X⟩ (⟨[(d, .sv (.one (.val (.slice (some ⟨b, off', none⟩) len' cap'))))], [], []⟩ :: acc) K) :
    RunK P n ops (⟨some d, .slice t x (some y) none none, ty, pos, after_, g⟩ :: os) ⟨s, bx, X⟩ acc K := by
  subst ho hn hc
  exact RunK.g1 (LOK.cutLoX hx hy ht hl) hw kont
end
end Go.Lg
end
section
namespace Go.Lg
open Go Go.RowKit
section
variable {P : Program} {n : Nat} {C : Ctx} {c : Code} {Q : Exit → St → Prop} {X H : Nat → Option Obj} {s : List (Nat × LV)} {bx : List (Nat × Option Box)}
theorem Rel.rebox2 {ι : Nat → Nat × Nat} {a : Act} {w : World} {j : Nat} {e : TypeId} {cs cs' : List CV} {r r' : Bool}
    (himp : ∀ vs, (∃ (arr : Array Value) (fr : Nat × Nat), w.heap[(ι j).1]? = some (.cells arr e fr) ∧ arr.toList = vs) → Box.rel (⟨s, (j, some ⟨e, cs', r'⟩) :: bx, X⟩ : St).stat ι ⟨e, cs, r⟩ vs → Box.rel (⟨s, (j, some ⟨e, cs', r'⟩) :: bx, X⟩ : St).stat ι ⟨e, cs', r'⟩ vs)
    (hr : Rel n C ι ⟨s, (j, some ⟨e, cs, r⟩) :: bx, X⟩ a w) : Rel n C ι ⟨s, (j, some ⟨e, cs', r'⟩) :: bx, X⟩ a w := by
  have hlater := later_hd (s := s) (bx := bx) (k := j) ι ⟨e, cs, r⟩ ⟨e, cs', r'⟩ X X
  have live : ∀ i b, (⟨s, (j, some ⟨e, cs', r'⟩) :: bx, X⟩ : St).stat i = some (some b) → ∃ b0, (⟨s, (j, some ⟨e, cs, r⟩) :: bx, X⟩ : St).stat i = some (some b0) ∧ (i ≠ j → b = b0) := fun i b hi => by
    rw [stat_hd] at hi ⊢
    by_cases e : i = j
    · rw [if_pos e]; exact ⟨_, rfl, fun h => absurd e h⟩
    · rw [if_neg e] at hi ⊢; exact ⟨b, hi, fun _ => rfl⟩
  exact {
    defers := hr.defers, size := hr.size
    slots := fun d lv hd => by
      obtain ⟨v, hv, hvr⟩ := hr.slots d lv hd
      exact ⟨v, hv, LV.rel_later hlater hvr⟩
    boxes := fun i b hi hbk => by
      by_cases ei : i = j
      · subst ei
        rw [stat_hd, if_pos rfl] at hi
        simp only [Option.some.injEq] at hi
        subst hi
        obtain ⟨arr, fr, g1, g2, g3, g4⟩ := hr.boxes i ⟨e, cs, r⟩ (by rw [stat_hd, if_pos rfl]) rfl
        exact ⟨arr, fr, g1, g2, g3, himp _ ⟨arr, fr, g1, rfl⟩ (Box.rel_later hlater g4)⟩
      · obtain ⟨b0, h0, h1⟩ := live i b hi
        have := h1 ei
        subst this
        obtain ⟨arr, fr, g1, g2, g3, g4⟩ := hr.boxes i b h0 hbk
        exact ⟨arr, fr, g1, g2, g3, Box.rel_later hlater g4⟩
    own := fun i b hi => by obtain ⟨b0, h0, _⟩ := live i b hi; exact hr.own i b0 h0
    inj := fun i i' bi bj hi hj he => by
      obtain ⟨b1, h1, _⟩ := live i bi hi
      obtain ⟨b2, h2, _⟩ := live i' bj hj
      exact hr.inj i i' b1 b2 h1 h2 he
    keep := fun i b hi hge => by obtain ⟨b0, h0, _⟩ := live i b hi; exact hr.keep i b0 h0 hge
    ext := hr.ext
    res := by
      obtain ⟨F, hG⟩ := hr.res
      refine hG.keep (fun i e cs R hi => ?_) (fun _ _ _ _ _ hi => hi) (fun _ _ ho => ho) (fun b _ hx _ _ => hx) (fun i bi hi => ?_)
      · rw [stat_hd] at hi ⊢
        by_cases e : i = j
        · rw [if_pos e] at hi; cases hi
        · rw [if_neg e] at hi ⊢; exact ⟨hi, rfl⟩
      · obtain ⟨b0, h0, _⟩ := live i bi hi
        exact .inl ⟨b0, h0, rfl⟩
    frame := hr.frame, big := hr.big, os := hr.os, tape := hr.tape, output := hr.output }
theorem Rel.spare {ι : Nat → Nat × Nat} {a : Act} {w : World} {j : Nat} {e : TypeId} {vals : List Value} (hr : Rel n C ι ⟨s, (j, some ⟨e, vals.map .val, true⟩) :: bx, X⟩ a w) : ∃ sp : List Value, Rel n C ι ⟨s, (j, some ⟨e, (vals ++ sp).map .val, false⟩) :: bx, X⟩ a w := by
  obtain ⟨arr, fr, g1, _, _, g4⟩ := hr.boxes j ⟨e, vals.map .val, true⟩ (by rw [stat_hd, if_pos rfl]) rfl
  obtain ⟨us, sp, e1, hl⟩ := g4
  have hu := rel_vals hl
  subst hu
  refine ⟨sp, hr.rebox2 fun vs hv _ => ?_⟩
  obtain ⟨arr', fr', h1, h2⟩ := hv
  rw [g1] at h1
  simp only [Option.some.injEq, Obj.cells.injEq] at h1
  obtain ⟨rfl, _⟩ := h1
  rw [← h2, e1]
  exact CVs.rel_map_val (us ++ sp)
theorem LWP.spare {j : Nat} {e : TypeId} {vals : List Value} (h : ∀ sp : List Value, LWP P n C c Q ⟨s, (j, some ⟨e, (vals ++ sp).map .val, false⟩) :: bx, X⟩) : LWP P n C c Q ⟨s, (j, some ⟨e, vals.map .val, true⟩) :: bx, X⟩ := ⟨fun ι a w hr => by
  obtain ⟨sp, hr'⟩ := hr.spare
  exact (h sp).out ι a w hr'⟩
theorem Leads.spare {Mid : St → Prop} {j : Nat} {e : TypeId} {vals : List Value} (h : ∀ sp : List Value, Leads n C Mid ⟨s, (j, some ⟨e, (vals ++ sp).map .val, false⟩) :: bx, X⟩) : Leads n C Mid ⟨s, (j, some ⟨e, vals.map .val, true⟩) :: bx, X⟩ := ⟨fun ι a w hr => by
  obtain ⟨sp, hr'⟩ := hr.spare
  exact (h sp).out ι a w hr'⟩
end
section
variable {H : Nat → Option Obj} {el : TypeId} {sz : Nat} {cells : List Value} {chs : List (List Value)}
theorem Twigs.push (G : Twigs H el sz [] cells chs) {b : Nat} {o : Obj} {v : Value} {x : List Value} (hb : H b = none) (hv : LeadsTo (withBlock H b o) b v el sz x) (hx : x ≠ []) : Twigs (withBlock H b o) el sz [] (cells ++ [v]) (chs ++ [x]) := by
  have G3 := (G.snoc nilSlc []).shutAt (by rw [List.length_append]; simp) hb hv hx
  have e1 : (cells ++ [nilSlc]).set cells.length v = cells ++ [v] := by rw [List.set_append_right _ _ (Nat.le_refl _), Nat.sub_self]; rfl
  have e2 : (chs ++ [([] : List Value)]).set cells.length x = chs ++ [x] := by rw [G.len, List.set_append_right _ _ (Nat.le_refl _), Nat.sub_self]; rfl
  rw [e1, e2] at G3
  exact G3
end
end Go.Lg
end
section
namespace Go.Lg
open Go Go.RowKit
section
variable {n : Nat} {C : Ctx} {X Y : Nat → Option Obj} {s : List (Nat × LV)} {bx : List (Nat × Option Box)}
theorem Le.drop (hXY : ∀ b o, X b = some o → Y b = some o) : Le n C ⟨s, bx, Y⟩ ⟨s, bx, X⟩ := ⟨fun ι a w hr => ⟨ι, by
  have hn : ∀ b, Y b = none → X b = none := fun b hb => by
    cases hx : X b with
    | none => rfl
    | some o => rw [hXY b o hx] at hb; cases hb
  exact {
    defers := hr.defers, size := hr.size, slots := hr.slots, boxes := hr.boxes
    own := fun k b hk => ⟨(hr.own k b hk).1, hn _ (hr.own k b hk).2⟩
    inj := hr.inj, keep := hr.keep
    ext := fun b o hb => hr.ext b o (hXY b o hb)
    res := by
      obtain ⟨F, hF⟩ := hr.res
      exact ⟨F, hF.holds, fun k b o h => by
        obtain ⟨h1, h2, h3, h4, h5, h6⟩ := hF.mem k b o h
        exact ⟨h1, h2, h3, h4, hn _ h5, h6⟩, hF.apart⟩
    frame := hr.frame, big := hr.big, os := hr.os, tape := hr.tape, output := hr.output }⟩⟩
end
end Go.Lg
end
section
namespace Go.Lg
open Go Go.RowKit
section
variable {n : Nat} {C : Ctx} {σ : St} {ι : Nat → Nat × Nat} {a : Act} {w : World}
end
structure KL (P : Program) (k : TypeId) : Prop where
  check : ∀ (w : World) (em : Bool) {v : Value} {l : Lit}, Go.keyOf P k v = some l → (Instr.checkKey em 10000 k v).run P w = .ok () w
  find : ∀ (w : World) {x : Value} {lx : Lit}, Go.keyOf P k x = some lx → ∀ es : List MapEntry, (∀ e ∈ es, ∃ l, Go.keyOf P k e.key = some l) →
    ((Instr.findKey k x es).run P w = .ok none w ∧ ∀ e ∈ es, e.key ≠ x) ∨ ∃ j e, (Instr.findKey k x es).run P w = .ok (some (j, e.val)) w ∧ es[j]? = some e ∧ e.key = x
  stays : ∀ (w : World) {v : Value} {l : Lit}, Go.keyOf P k v = some l → (Instr.keyThatStays v v).run P w = .ok v w
theorem KL.of {P : Program} {k : TypeId} (L : WideMaps.KeyLaw P k) : KL P k := ⟨L.check, L.find, L.stays⟩
theorem keyOf_int {P : Program} {k : TypeId} {q : IntKind} (hk : P.underlying k = some (.int q)) {v : Value} : Go.keyOf P k v = mapKey P k v := by unfold Go.keyOf; simp only [hk]
theorem int_of_keyOf {P : Program} {k : TypeId} {q : IntKind} (hk : P.underlying k = some (.int q)) {v : Value} {l : Lit} (h : Go.keyOf P k v = some l) : ∃ n, v = .int q n := by
  rw [keyOf_int hk] at h
  unfold mapKey at h
  cases v <;> simp [hk] at h
  rename_i q' n
  exact ⟨n, by rw [h.1.1]⟩
open Go.MapKept Go.WideShapes Go.WideMaps in
theorem KL.int {P : Program} {k : TypeId} {q : IntKind} (hk : P.underlying k = some (.int q)) : KL P k where
  check w em _ _ h := by
    obtain ⟨n, rfl⟩ := int_of_keyOf hk h
    exact run_checkKey hk (d := .int q) (k := .int q n) rfl em 9999
  find w _ _ hx es hes := by
    obtain ⟨n, rfl⟩ := int_of_keyOf hk hx
    have hks : ∀ x ∈ es, IsKey (.int q) x.key := fun x hxm => by
      obtain ⟨l, hl⟩ := hes x hxm
      obtain ⟨n', e⟩ := int_of_keyOf hk hl
      rw [e]
      exact rfl
    rcases findNow_spec (d := .int q) (k := .int q n) rfl es 0 hks with ⟨h1, h2⟩ | ⟨j, e0, h1, h2, h3⟩
    · exact Or.inl ⟨run_findKey hk h1, h2⟩
    · exact Or.inr ⟨j, e0, by simpa using run_findKey hk h1, h2, h3⟩
  stays w _ _ h := by
    obtain ⟨n, rfl⟩ := int_of_keyOf hk h
    exact run_keyThatStays (d := .int q) (k := .int q n) rfl
def At (m : List (Value × Value)) (key v z : Value) : Prop := (key, v) ∈ m ∨ ((∀ p ∈ m, p.1 ≠ key) ∧ v = z)
section
variable {P : Program} {n : Nat} {ops os : List Oper} {acc : List Eff} {K : List Eff → St → Prop} {s : List (Nat × LV)} {bx : List (Nat × Option Box)} {X : Nat → Option Obj} {σ : St}
end
end Go.Lg
end
section
namespace Go.Lg
open Go Go.RowKit
section
variable {P : Program} {n : Nat} {C : Ctx} {c : Code} {Q : Exit → St → Prop} {X : Nat → Option Obj}
theorem Rel.freezePtr {ι : Nat → Nat × Nat} {a : Act} {w : World} {s : List (Nat × LV)} {bx : List (Nat × Option Box)} {d k off : Nat} {el : TypeId} {vals : List Value} {row : Bool}
    (hs : s.all (fun p => p.2.inUse bx) = true) (hb : bx.all (fun p => match p.2 with | some b => b.cells.all (CV.inUse bx) | none => true) = true) (hk : look k bx = none)
    (hr : Rel n C ι ⟨(d, .sv (.one (.ptr k off))) :: s, (k, some ⟨el, vals.map .val, row⟩) :: bx, X⟩ a w) :
    ∃ (blk : Nat) (arr : Array Value) (fr : Nat × Nat), X blk = none ∧ Frozen C blk arr fr ∧ (∃ sp, arr.toList = vals ++ sp) ∧
      Rel n C ι ⟨(d, .sv (.one (.val (.pointer (some ⟨blk, off, none⟩))))) :: s, bx, withBlock X blk (.cells arr el fr)⟩ a w := by
  have hst : (⟨(d, .sv (.one (.ptr k off))) :: s, (k, some ⟨el, vals.map .val, row⟩) :: bx, X⟩ : St).stat k = some (some ⟨el, vals.map .val, row⟩) := by
    simp [St.stat, look]
  have hlk : ∀ k' x, look k' bx = some x → k' ≠ k := fun k' x h' e => by rw [e, hk] at h'; cases h'
  have hstb : ∀ k' x, look k' bx = some x → (⟨(d, .sv (.one (.ptr k off))) :: s, (k, some ⟨el, vals.map .val, row⟩) :: bx, X⟩ : St).stat k' = some x := fun k' x h' => by
    simp only [St.stat, look]
    cases e : Nat.beq k k' with
    | true => exact absurd (Nat.eq_of_beq_eq_true e).symm (hlk k' x h')
    | false => exact h'
  obtain ⟨arr, fr, harr, hth, hsz, hbr⟩ := hr.boxes k _ hst rfl
  obtain ⟨v, hv, hvr⟩ := hr.slots d (.sv (.one (.ptr k off))) (by simp [St.slot, look])
  simp only [LV.rel, SV.rel, CV.rel] at hvr
  rw [hst] at hvr
  subst hvr
  have hXn : X (ι k).1 = none := (hr.own k _ hst).2
  have hsp : ∃ sp, arr.toList = vals ++ sp := by
    unfold Box.rel at hbr
    cases hrow : row with
    | false =>
      rw [hrow] at hbr
      exact ⟨[], by rw [List.append_nil]; exact rel_vals hbr⟩
    | true =>
      rw [hrow] at hbr
      obtain ⟨us, sp, e, hl⟩ := hbr
      exact ⟨sp, by rw [e, rel_vals hl]⟩
  refine ⟨(ι k).1, arr, fr, hXn, ⟨(hr.own k _ hst).1, hth⟩, hsp, ?_⟩
  have hon : SameOn bx (⟨(d, .sv (.one (.ptr k off))) :: s, (k, some ⟨el, vals.map .val, row⟩) :: bx, X⟩ : St).stat (fun k => look k bx) := fun k' x h' => (hstb k' x h').trans h'.symm
  exact {
    defers := hr.defers, size := hr.size
    slots := fun d' lv hd => by
      simp only [St.slot, look] at hd
      cases e : Nat.beq d d' with
      | true =>
        rw [e] at hd
        simp at hd
        subst hd
        have := Nat.eq_of_beq_eq_true e
        subst this
        exact ⟨_, hv, rfl⟩
      | false =>
        rw [e] at hd
        have hd : look d' s = some lv := by simpa using hd
        obtain ⟨v', hv', hr'⟩ := hr.slots d' lv (by simp only [St.slot, look, e]; exact hd)
        exact ⟨v', hv', LV.rel_on hon (List.all_eq_true.1 hs _ (look_mem hd)) hr'⟩
    res := by
      obtain ⟨F, hF⟩ := hr.res
      refine hF.keep (fun j e cs R hj => ⟨hstb j _ hj, rfl⟩) (fun _ _ _ _ _ hj => hj) (fun _ _ ho => ho) (fun b _ hx hne _ => ?_) (fun j bj hj => .inl ⟨bj, hstb j _ hj, rfl⟩)
      show withBlock X (ι k).1 _ b = none
      unfold withBlock
      rw [if_neg (fun e => hne k _ hst rfl e.symm)]
      exact hx
    boxes := fun k' b hb' hbk => by
      have hb' : look k' bx = some (some b) := hb'
      obtain ⟨arr', fr', h1, h2, h3, h4⟩ := hr.boxes k' b (hstb k' _ hb') hbk
      exact ⟨arr', fr', h1, h2, h3, Box.rel_on hon (by simpa using List.all_eq_true.1 hb _ (look_mem hb')) h4⟩
    own := fun k' b hb' => by
      have hb' : look k' bx = some (some b) := hb'
      obtain ⟨h1, h2⟩ := hr.own k' b (hstb k' _ hb')
      refine ⟨h1, ?_⟩
      show withBlock X (ι k).1 _ (ι k').1 = none
      unfold withBlock
      rw [if_neg (fun e => hlk k' _ hb' (hr.inj k' k b _ (hstb k' _ hb') hst e))]
      exact h2
    inj := fun k1 k2 b1 b2 h1 h2 he => hr.inj k1 k2 b1 b2 (hstb k1 _ h1) (hstb k2 _ h2) he
    keep := fun k' b hb' hge => hr.keep k' b (hstb k' _ hb') hge
    ext := fun b o hbo => by
      have hbo : withBlock X (ι k).1 (.cells arr el fr) b = some o := hbo
      unfold withBlock at hbo
      by_cases e : b = (ι k).1
      · rw [if_pos e] at hbo
        rw [e, harr]; exact hbo
      · rw [if_neg e] at hbo
        exact hr.ext b o hbo
    frame := hr.frame, big := hr.big, os := hr.os, tape := hr.tape, output := hr.output }
theorem LWP.freezePtr {s : List (Nat × LV)} {bx : List (Nat × Option Box)} {d k off : Nat} {el : TypeId} {vals : List Value} {row : Bool}
    (hs : s.all (fun p => p.2.inUse bx) = true) (hb : bx.all (fun p => match p.2 with | some b => b.cells.all (CV.inUse bx) | none => true) = true) (hk : look k bx = none)
    (h : ∀ (blk : Nat) (arr : Array Value) (fr : Nat × Nat), X blk = none → Frozen C blk arr fr → (∃ sp, arr.toList = vals ++ sp) →
      LWP P n C c Q ⟨(d, .sv (.one (.val (.pointer (some ⟨blk, off, none⟩))))) :: s, bx, withBlock X blk (.cells arr el fr)⟩) :
    LWP P n C c Q ⟨(d, .sv (.one (.ptr k off))) :: s, (k, some ⟨el, vals.map .val, row⟩) :: bx, X⟩ := by
  refine ⟨fun ι a w hr => ?_⟩
  obtain ⟨blk, arr, fr, h1, h2, h5, h6⟩ := hr.freezePtr hs hb hk
  exact (h blk arr fr h1 h2 h5).out ι a w h6
end
section
variable {P : Program} {n : Nat} {ops os : List Oper} {acc : List Eff} {K : List Eff → St → Prop} {s : List (Nat × LV)} {bx : List (Nat × Option Box)} {X : Nat → Option Obj} {σ : St}
theorem LOK.makeFunc {d : Nat} {fn : Fn} {caps : List Operand} {us : List Value} {lvs : List LV} {ty : TypeId} {pos : String} {after_ : Array Edge} {g : Option (Nat × Bool)} (hc : evs σ caps = some lvs) (hu : plainLVs lvs = some us) :
    LOK P n ops ⟨some d, .makeFunc fn #[] caps.toArray, ty, pos, after_, g⟩ σ ⟨[(d, .sv (.one (.val (.func fn #[] us.toArray))))], [], []⟩ :=
  LOK.value fun σ' ha C ι a w hr => by
    have hc' : evs σ' caps = some lvs := by
      rw [evs_agree fun x hx => ha.ev (by simp [Op.operands, hx])]
      exact hc
    have e : caps.map a.eval = us := plainLVs_rel hu (evs_rel hr hc')
    exact ⟨.func fn #[] us.toArray, by rw [← e]; simp [execOp, Instr.makeFunc], rfl⟩
theorem K.makeFunc {d : Nat} {fn : Fn} {caps : List Operand} {us : List Value} {lvs : List LV} {ty : TypeId} {pos : String} {after_ : Array Edge} {g : Option (Nat × Bool)} (hc : evs ⟨s, bx, X⟩ caps = some lvs) (hu : plainLVs lvs = some us) (hw : Want ops s g)
    (kont : RunK P n ops os ⟨(d, .sv (.one (.val (.func fn #[] us.toArray)))) :: s, bx, X⟩ (⟨[(d, .sv (.one (.val (.func fn #[] us.toArray))))], [], []⟩ :: acc) K) :
    RunK P n ops (⟨some d, .makeFunc fn #[] caps.toArray, ty, pos, after_, g⟩ :: os) ⟨s, bx, X⟩ acc K := RunK.g1 (LOK.makeFunc hc hu) hw kont
theorem LOK.callF {d : Nat} {x : Operand} {f : FuncId} {caps : List Value} {args : List Operand} {tys : Array TypeId} {ty : TypeId} {pos : String} {after_ : Array Edge} {g : Option (Nat × Bool)} {lvs : List LV} {r : LV} (hx : σ.ev x = some (.sv (.one (.val (.func (.func f) #[] caps.toArray))))) (hargs : evs σ args = some lvs) (hcl : lvs.all LV.closed = true) (hs : PSpec P σ.X f (lvs ++ caps.map fun v => .sv (.one (.val v))) r) :
    LOK P n ops ⟨some d, .call ⟨.value x, args.toArray, tys⟩, ty, pos, after_, g⟩ σ ⟨[(d, r)], [], []⟩ := by
  refine ⟨fun σ' ha C ι a w hr hd next Q hn => ?_⟩
  have hargs' : evs σ' args = some lvs := by
    rw [evs_agree fun y hy => ha.ev (by simp [Op.operands, Call.operands, hy])]
    exact hargs
  have hv : a.eval x = .func (.func f) #[] caps.toArray := hr.ev ((ha.ev (x := x) (by simp [Op.operands, Call.operands])).trans hx)
  have hrel := LVs.rel_closed (S' := noS) (ι' := fun _ => (0, 0)) hcl (evs_rel hr hargs')
  have happ : ∀ {l : List LV} {us : List Value}, LVs.rel noS (fun _ => (0, 0)) l us → LVs.rel noS (fun _ => (0, 0)) (l ++ caps.map fun v => .sv (.one (.val v))) (us ++ caps) := fun {l} => by
    induction l with
    | nil =>
      intro us h
      cases us with
      | cons => exact h.elim
      | nil =>
        simp only [List.nil_append]
        have key : ∀ cs : List Value, LVs.rel noS (fun _ => (0, 0)) (cs.map fun v => LV.sv (.one (.val v))) cs := fun cs => by
          induction cs with
          | nil => trivial
          | cons c cs ih => exact ⟨rfl, ih⟩
        exact key caps
    | cons a l ih =>
      intro us h
      cases us with
      | nil => exact h.elim
      | cons u us => exact ⟨h.1, ih h.2⟩
  have hc := hs.out w (args.toArray.map a.eval ++ caps.toArray) (fun b o hb => hr.ext b o (by rw [ha.X]; exact hb)) (by simpa using happ hrel)
  unfold Oper.wp
  have hrun : (execOp a.eval ⟨some d, .call ⟨.value x, args.toArray, tys⟩, ty, pos, after_, g⟩).run P w = .ok (.enter f (args.toArray.map a.eval ++ caps.toArray)) w := by
    simp only [execOp, resolve, hv, Deferred.ofValue, invoke, Sem.run_bind, Sem.run_pure, Result.andThen_ok]
    simp [run_enter hs.enters]
  rw [hrun]
  refine hc.mono ?_
  rintro e w' ⟨v, rfl, hv, hb⟩
  exact hn ι _ w' ((hr.below hb).put (hd d rfl) (LV.rel_later (later_noS _ _ _) hv))
theorem K.callF {d : Nat} {x : Operand} {f : FuncId} {caps : List Value} {args : List Operand} {tys : Array TypeId} {ty : TypeId} {pos : String} {after_ : Array Edge} {g : Option (Nat × Bool)} {lvs : List LV} {r : LV} (hx : (⟨s, bx, X⟩ : St).ev x = some (.sv (.one (.val (.func (.func f) #[] caps.toArray))))) (hargs : evs ⟨s, bx, X⟩ args = some lvs) (hcl : lvs.all LV.closed = true) (hs : PSpec P X f (lvs ++ caps.map fun v => .sv (.one (.val v))) r) (hw : Want ops s g)
    (kont : RunK P n ops os ⟨(d, r) :: s, bx, X⟩ (⟨[(d, r)], [], []⟩ :: acc) K) :
    RunK P n ops (⟨some d, .call ⟨.value x, args.toArray, tys⟩, ty, pos, after_, g⟩ :: os) ⟨s, bx, X⟩ acc K := RunK.g1 (LOK.callF hx hargs hcl hs) hw kont
end
theorem Le.trans {n : Nat} {C : Ctx} {σ1 σ2 σ3 : St} (h : Le n C σ1 σ2) (h' : Le n C σ2 σ3) : Le n C σ1 σ3 := ⟨fun ι a w hr => by
  obtain ⟨ι1, h1⟩ := h.out ι a w hr
  exact h'.out ι1 a w h1⟩
end Go.Lg
end
section
namespace Go.Lg.Fld
open Go Go.Lg
end Go.Lg.Fld
namespace Go.Proofs.YtimpjdbhalnofaaGreatDoor
open Go Go.Lg Go.Lg.Fld
set_option maxRecDepth 100000
variable (X : Nat → Option Obj)
end Go.Proofs.YtimpjdbhalnofaaGreatDoor
end
section
namespace Go.Lg.Fld
open Go Go.Lg
def NamesC (cs : List Cp) : Prop := ∀ c ∈ cs, c.fs.length < 4611686018427387904 ∧ c.nm.length ≤ 9223372036854775807 ∧ ∀ f ∈ c.fs, f.nm.length ≤ 9223372036854775807
theorem SmallC.names {cs : List Cp} (h : SmallC cs) : NamesC cs := fun c hc => by
  obtain ⟨h1, h2, h3⟩ := h.2 c hc
  exact ⟨by omega, by omega, fun f hf => by have := h3 f hf; omega⟩
end Go.Lg.Fld
namespace Go.Proofs.YtimpjdbhalnofaaGreatDoor
open Go Go.Lg Go.Lg.Fld
set_option maxRecDepth 100000
variable (X : Nat → Option Obj)
end Go.Proofs.YtimpjdbhalnofaaGreatDoor
end
section
namespace Go.Lg.Fld
open Go Go.Lg
theorem FieldsIn.none {X : Nat → Option Obj} {fs : List Fl} (h : FieldsIn X none fs) : fs = [] := by
  cases hfs : fs with
  | nil => rfl
  | cons f t =>
    obtain ⟨_, _, _, _, _, e, _⟩ := h.nm (k := 0) (f := f) (by rw [hfs]; rfl)
    cases e
end Go.Lg.Fld
namespace Go.Proofs.YtimpjdbhalnofaaGreatDoor
open Go Go.Lg Go.Lg.Fld
set_option maxRecDepth 100000
variable (X : Nat → Option Obj)
section
variable (ver : Int) (ad : Option Addr) (cap : Nat) (cs : List Cp) (f : FuncId) (caps : List Value) (p : Cp → Bool)
end
end Go.Proofs.YtimpjdbhalnofaaGreatDoor
end
section
namespace Go.Lg.Fld
open Go Go.Lg
end Go.Lg.Fld
namespace Go.Proofs.YtimpjdbhalnofaaGreatDoor
open Go Go.Lg Go.Lg.Fld
set_option maxRecDepth 100000
variable (X : Nat → Option Obj)
end Go.Proofs.YtimpjdbhalnofaaGreatDoor
end
section
namespace Go.Lg.Fld
open Go Go.Lg
end Go.Lg.Fld
namespace Go.Proofs.YtimpjdbhalnofaaGreatDoor
open Go Go.Lg Go.Lg.Fld
set_option maxRecDepth 100000
section
variable {n : Nat} {C : Ctx} {X : Nat → Option Obj} {s : List (Nat × LV)} {bx : List (Nat × Option Box)} {k : Nat}
end
variable (X : Nat → Option Obj)
end Go.Proofs.YtimpjdbhalnofaaGreatDoor
end
section

end
section
namespace Go.Proofs.YtimpjdbhalnofaaGreatDoor
open Go Go.Lg Go.Lg.Fld Go.RowKit Go.ChangeShapes Go.WideShapes Go.Joins
set_option maxRecDepth 100000
section
variable {H : Type} {enc : TypeId × Value → H} {w : World}
end
end Go.Proofs.YtimpjdbhalnofaaGreatDoor
end
section
namespace Go.Proofs.YtimpjdbhalnofaaGreatDoor
open Go Go.Lg Go.Lg.Fld
set_option maxRecDepth 100000
variable (X : Nat → Option Obj)
end Go.Proofs.YtimpjdbhalnofaaGreatDoor
end
section
namespace Go.Proofs.YtimpjdbhalnofaaGreatDoor
open Go Go.Lg Go.Lg.Fld
set_option maxRecDepth 100000
theorem rows_in {Y : Nat → Option Obj} {blk : Nat} {arr : Array Value} {el : TypeId} {fr : Nat × Nat} {sz : Nat} {rows : List (List Value)} (hY : Y blk = some (.cells arr el fr)) (hl : ∀ r ∈ rows, r.length = sz) (hsp : ∃ sp, arr.toList = rows.flatten ++ sp) : Go.Lg.RowsIn Y (some ⟨blk, 0, none⟩) sz rows := fun i r hi => by
  obtain ⟨sp, e⟩ := hsp
  obtain ⟨h1, h2⟩ := flat_row hl (sp := sp) hi
  refine ⟨blk, 0, arr, el, fr, rfl, hY, ?_, ?_⟩
  · rw [← Array.length_toList, e]; omega
  · rw [e, Nat.zero_add]; exact h2
variable (X : Nat → Option Obj)
end Go.Proofs.YtimpjdbhalnofaaGreatDoor
end
section
namespace Go.Lg.Fld
open Go Go.Lg
end Go.Lg.Fld
namespace Go.Proofs.YtimpjdbhalnofaaGreatDoor
open Go Go.Lg Go.Lg.Fld
set_option maxRecDepth 100000
variable (X : Nat → Option Obj)
def cs0 : List Cp := [⟨1, [112, 111, 115], [⟨[120], 3, 1⟩, ⟨[121], 3, 1⟩]⟩, ⟨3, [116, 97, 103], []⟩]
end Go.Proofs.YtimpjdbhalnofaaGreatDoor
end
section
namespace Go.Proofs.YtimpjdbhalnofaaGreatDoor
open Go Go.Lg Go.Lg.Fld
set_option maxRecDepth 100000
variable (X : Nat → Option Obj)
end Go.Proofs.YtimpjdbhalnofaaGreatDoor
end
section
namespace Go.Lg.Fld
open Go Go.Lg
def Scan {α : Type} (p : α → Bool) (l : List α) (k : Nat) (v : Int) : Prop := (v = -1 ∧ ∀ (m : Nat) (y : α), k ≤ m → l[m]? = some y → p y = false) ∨ ∃ (i : Nat) (c : α), v = (i : Nat) ∧ l[i]? = some c ∧ p c = true ∧ ∀ (m : Nat) (y : α), k ≤ m → m < i → l[m]? = some y → p y = false
theorem Scan.start {α : Type} {p : α → Bool} {l : List α} : Scan p l l.length (-1) := .inl ⟨rfl, fun m y hm hy => by have := (List.getElem?_eq_some_iff.1 hy).1; omega⟩
theorem Scan.hit {α : Type} {p : α → Bool} {l : List α} {k : Nat} {y : α} (hy : l[k]? = some y) (hp : p y = true) : Scan p l k (k : Nat) := .inr ⟨k, y, rfl, hy, hp, fun m y hm hk => by omega⟩
end Go.Lg.Fld
namespace Go.Proofs.YtimpjdbhalnofaaGreatDoor
open Go Go.Lg Go.Lg.Fld
set_option maxRecDepth 100000
variable (X : Nat → Option Obj)
end Go.Proofs.YtimpjdbhalnofaaGreatDoor
end
section
namespace Go.Proofs.YtimpjdbhalnofaaGreatDoor
open Go Go.Lg Go.Lg.Fld
set_option maxRecDepth 100000
variable (X : Nat → Option Obj)
end Go.Proofs.YtimpjdbhalnofaaGreatDoor
end
section
namespace Go.Lg.Fld
open Go Go.Lg
structure Good (cs : List Cp) : Prop where
  one : ∀ (i : Nat) (c : Cp), cs[i]? = some c → 1 ≤ c.id ∧ c.id ≤ 24 ∧ nmB c.nm = true ∧ firstE (fldE c.fs) 0 c.fs.length = 0 ∧ layErr c.fs = 0
  two : ∀ (i j : Nat) (c d : Cp), i < j → cs[i]? = some c → cs[j]? = some d → c.id < d.id ∧ c.nm ≠ d.nm
theorem fields_apart {fs : List Fl} (h : firstE (fldE fs) 0 fs.length = 0) {i j : Nat} {f g : Fl} (hij : i < j) (hf : fs[i]? = some f) (hg : fs[j]? = some g) : f.nm ≠ g.nm := fun e => by
  have h1 := firstE_zero h j (Nat.zero_le _) (by have := (List.getElem?_eq_some_iff.1 hg).1; omega)
  rw [fldE_at hg] at h1
  have := any_true (p := fun x : Fl => x.nm == g.nm) hij hf (by rw [beq_iff_eq]; exact e)
  rw [this] at h1
  split at h1 <;> cases h1
end Go.Lg.Fld
end
section
namespace Go.Lg.Fld
open Go Go.Lg
structure Ch where
  kind : Int
  comp : Int
  fld : List UInt8
instance : DecidableEq Ch := fun a b => decidable_of_iff (a.kind = b.kind ∧ a.comp = b.comp ∧ a.fld = b.fld) ⟨fun ⟨h1, h2, h3⟩ => by cases a; cases b; simp_all, fun h => by rw [h]; exact ⟨rfl, rfl, rfl⟩⟩
def fldAt (fs : List Fl) (nm : List UInt8) : Option Fl := fs.find? fun f => f.nm == nm
def fldIx (fs : List Fl) (nm : List UInt8) : Int := findI (fun f => f.nm == nm) fs
theorem fldIx_some {fs : List Fl} {nm : List UInt8} (h : 0 ≤ fldIx fs nm) : ∃ (k : Nat) (g : Fl), fs[k]? = some g ∧ g.nm = nm ∧ fldIx fs nm = (k : Nat) ∧ fldAt fs nm = some g ∧ ∀ (j : Nat) (y : Fl), j < k → fs[j]? = some y → y.nm ≠ nm := by
  unfold fldIx findI at h
  cases hf : fs.findIdx? (fun f => f.nm == nm) with
  | none => rw [hf] at h; simp only at h; omega
  | some k =>
    obtain ⟨hk, h1, h2⟩ := List.findIdx?_eq_some_iff_getElem.1 hf
    refine ⟨k, fs[k], List.getElem?_eq_getElem hk, by simpa using h1, by unfold fldIx findI; rw [hf], ?_, fun j y hj hy => ?_⟩
    · unfold fldAt
      rw [List.find?_eq_some_iff_getElem]
      exact ⟨h1, k, hk, rfl, fun j hj => by simpa using h2 j hj⟩
    · obtain ⟨hj', e⟩ := List.getElem?_eq_some_iff.1 hy
      have := h2 j hj
      rw [e] at this
      simpa using this
theorem fldIx_none {fs : List Fl} {nm : List UInt8} (h : fldIx fs nm < 0) : (∀ f ∈ fs, f.nm ≠ nm) ∧ fldAt fs nm = none ∧ fldIx fs nm = -1 := by
  unfold fldIx findI at h
  cases hf : fs.findIdx? (fun f => f.nm == nm) with
  | some k => rw [hf] at h; simp only at h; omega
  | none =>
    have h1 := List.findIdx?_eq_none_iff.1 hf
    refine ⟨fun f hf => by simpa using h1 f hf, ?_, by unfold fldIx findI; rw [hf]⟩
    unfold fldAt
    rw [List.find?_eq_none]
    intro f hf
    simpa using h1 f hf
theorem fldIx_at {fs : List Fl} (ha : ∀ (i j : Nat) (f g : Fl), i < j → fs[i]? = some f → fs[j]? = some g → f.nm ≠ g.nm) {k : Nat} {g : Fl} (hk : fs[k]? = some g) : fldIx fs g.nm = (k : Nat) ∧ fldAt fs g.nm = some g := by
  have h0 : 0 ≤ fldIx fs g.nm := by
    rcases Int.lt_or_le (fldIx fs g.nm) 0 with h | h
    · exact absurd rfl ((fldIx_none h).1 g (List.mem_of_getElem? hk))
    · exact h
  obtain ⟨j, f, hj, hn, he, hf, hp⟩ := fldIx_some h0
  have : j = k := by
    rcases Nat.lt_trichotomy j k with h | h | h
    · exact absurd hn (ha j k f g h hj hk)
    · exact h
    · exact absurd rfl (hp k g h hk)
  subst this
  rw [hk] at hj
  cases hj
  exact ⟨he, hf⟩
end Go.Lg.Fld
end
section
namespace Go.Lg.Fld
open Go Go.Lg
def Apart (fs : List Fl) : Prop := fs.Pairwise fun f g => f.nm ≠ g.nm
theorem Apart.ix {fs : List Fl} (h : Apart fs) {i j : Nat} {f g : Fl} (hij : i < j) (hf : fs[i]? = some f) (hg : fs[j]? = some g) : f.nm ≠ g.nm := by
  obtain ⟨hi, e1⟩ := List.getElem?_eq_some_iff.1 hf
  obtain ⟨hj, e2⟩ := List.getElem?_eq_some_iff.1 hg
  have := List.pairwise_iff_getElem.1 h i j hi hj hij
  rw [e1, e2] at this
  exact this
theorem Apart.at {fs : List Fl} (h : Apart fs) {k : Nat} {g : Fl} (hk : fs[k]? = some g) : fldIx fs g.nm = (k : Nat) ∧ fldAt fs g.nm = some g := fldIx_at (fun _ _ _ _ hij hf hg => h.ix hij hf hg) hk
theorem Apart.mem {fs : List Fl} (h : Apart fs) {g : Fl} (hg : g ∈ fs) : fldAt fs g.nm = some g := by
  obtain ⟨k, hk⟩ := List.mem_iff_getElem?.1 hg
  exact (h.at hk).2
theorem Apart.eq {fs : List Fl} (h : Apart fs) {f g : Fl} (hf : f ∈ fs) (hg : g ∈ fs) (e : f.nm = g.nm) : f = g := by
  have h1 := h.mem hf
  rw [e, h.mem hg] at h1
  exact (Option.some.inj h1).symm
theorem Good.apart {cs : List Cp} (h : Good cs) {c : Cp} (hc : c ∈ cs) : Apart c.fs := by
  obtain ⟨i, hi⟩ := List.mem_iff_getElem?.1 hc
  obtain ⟨_, _, _, h4, _⟩ := h.one i c hi
  refine List.pairwise_iff_getElem.2 fun i j hi hj hij => ?_
  exact fields_apart h4 hij (List.getElem?_eq_getElem hi) (List.getElem?_eq_getElem hj)
end Go.Lg.Fld
end
section
namespace Go.Lg.Fld
open Go Go.Lg
end Go.Lg.Fld
end
section
namespace Go.Lg
open Go Go.RowKit
def LentAt (ks : List Nat) (S : Nat → Option (Option Box)) (ι : Nat → Nat × Nat) (Y : Nat → Option Obj) : Prop :=
  ∀ k, k ∈ ks → ∀ b, S k = some (some b) → b.blk = true → ∃ (arr : Array Value) (fr : Nat × Nat), Y (ι k).1 = some (.cells arr b.elem fr) ∧ arr.size = (ι k).2 ∧ b.rel S ι arr.toList
section
variable {P : Program} {n : Nat} {ops os : List Oper} {acc : List Eff} {K : List Eff → St → Prop} {s : List (Nat × LV)} {bx : List (Nat × Option Box)} {X : Nat → Option Obj} {σ : St}
theorem LOK.callY {d : Nat} {f : FuncId} {args : List Operand} {tys : Array TypeId} {ty : TypeId} {pos : String} {after_ : Array Edge} {g : Option (Nat × Bool)} {lvs : List LV} {r : LV} (ks : List Nat) (hargs : evs σ args = some lvs) (hent : Program.enters P f = true)
    (hs : ∀ (Y : Nat → Option Obj) (us : List Value) (S : Nat → Option (Option Box)) (ι : Nat → Nat × Nat), (∀ b o, σ.X b = some o → Y b = some o) → (∀ k, k ∈ ks → S k = σ.stat k) → LVs.rel S ι lvs us → LentAt ks S ι Y → PSpec P Y f (us.map toLV) r) :
    LOK P n ops ⟨some d, .call ⟨.value (.func f), args.toArray, tys⟩, ty, pos, after_, g⟩ σ ⟨[(d, r)], ks, []⟩ := by
  refine ⟨fun σ' ha C ι a w hr hd next Q hn => ?_⟩
  have hargs' : evs σ' args = some lvs := by
    rw [evs_agree fun x hx => ha.ev (by simp [Op.operands, Call.operands, hx])]
    exact hargs
  have hrel := evs_rel hr hargs'
  have hlent : LentAt ks σ'.stat ι (fun b => w.heap[b]?) := fun k _ b hb hbk => by
    obtain ⟨arr, fr, h1, _, h3, h4⟩ := hr.boxes k b hb hbk
    exact ⟨arr, fr, h1, h3, h4⟩
  have hc := (hs (fun b => w.heap[b]?) _ σ'.stat ι (fun b o hb => hr.ext b o (by rw [ha.X]; exact hb)) (fun k hk => ha.stat k (.inl hk)) hrel hlent).out w (args.toArray.map a.eval) (fun b o hb => hb) (by rw [Array.toList_map, List.toList_toArray]; exact args_rel _)
  unfold Oper.wp
  have hrun : (execOp a.eval ⟨some d, .call ⟨.value (.func f), args.toArray, tys⟩, ty, pos, after_, g⟩).run P w = .ok (.enter f (args.toArray.map a.eval)) w := by
    simp only [execOp, resolve, Act.eval, Deferred.ofValue, invoke, Sem.run_bind, Sem.run_pure, Result.andThen_ok]
    simp [run_enter hent]
  rw [hrun]
  refine hc.mono ?_
  rintro e w' ⟨v, rfl, hv, hb⟩
  exact hn ι _ w' ((hr.below hb).put (hd d rfl) (LV.rel_later (later_noS _ _ _) hv))
theorem K.callY {d : Nat} {f : FuncId} {args : List Operand} {tys : Array TypeId} {ty : TypeId} {pos : String} {after_ : Array Edge} {g : Option (Nat × Bool)} {lvs : List LV} {r : LV} (ks : List Nat) (hargs : evs ⟨s, bx, X⟩ args = some lvs) (hent : Program.enters P f = true)
    (hs : ∀ (Y : Nat → Option Obj) (us : List Value) (S : Nat → Option (Option Box)) (ι : Nat → Nat × Nat), (∀ b o, X b = some o → Y b = some o) → (∀ k, k ∈ ks → S k = look k bx) → LVs.rel S ι lvs us → LentAt ks S ι Y → PSpec P Y f (us.map toLV) r) (hw : Want ops s g)
    (kont : RunK P n ops os ⟨(d, r) :: s, bx, X⟩ (⟨[(d, r)], ks, []⟩ :: acc) K) :
    RunK P n ops (⟨some d, .call ⟨.value (.func f), args.toArray, tys⟩, ty, pos, after_, g⟩ :: os) ⟨s, bx, X⟩ acc K := RunK.gen hw (LOK.callY ks hargs hent hs) kont
end
section
variable {P : Program} {n : Nat} {C : Ctx} {c : Code} {Q : Exit → St → Prop} {X : Nat → Option Obj}
theorem Rel.fixRes {ι : Nat → Nat × Nat} {a : Act} {w : World} {s : List (Nat × LV)} {bx : List (Nat × Option Box)} {d k off len sz : Nat} {e : TypeId} {cs : List CV} {R : Rsc}
    (hs : s.all (fun p => p.2.inUse bx) = true) (hb : bx.all (fun p => match p.2 with | some b => b.cells.all (CV.inUse bx) | none => true) = true) (hk : look k bx = none)
    (hr : Rel n C ι ⟨(d, .sv (.one (.slc k off len sz))) :: s, (k, some ⟨e, cs, .res R⟩) :: bx, X⟩ a w) :
    ∃ (ρ : Nat × Nat) (H : Nat → Option Obj) (cap : Nat), R.holds ρ H ∧ OwnedM C X H ∧ len ≤ cap ∧ off + cap * sz ≤ ρ.2 ∧
      Rel n C ι ⟨(d, .sv (.one (.val (.slice (some ⟨ρ.1, off, none⟩) len cap)))) :: s, bx, joinM X H⟩ a w := by
  have hst : (⟨(d, .sv (.one (.slc k off len sz))) :: s, (k, some ⟨e, cs, .res R⟩) :: bx, X⟩ : St).stat k = some (some ⟨e, cs, .res R⟩) := by simp [St.stat, look]
  have hlk : ∀ k' x, look k' bx = some x → k' ≠ k := fun k' x h' e => by rw [e, hk] at h'; cases h'
  have hstb : ∀ k' x, look k' bx = some x → (⟨(d, .sv (.one (.slc k off len sz))) :: s, (k, some ⟨e, cs, .res R⟩) :: bx, X⟩ : St).stat k' = some x := fun k' x h' => by
    simp only [St.stat, look]
    cases e : Nat.beq k k' with
    | true => exact absurd (Nat.eq_of_beq_eq_true e).symm (hlk k' x h')
    | false => exact h'
  have hback : ∀ j x, j ≠ k → (⟨(d, .sv (.one (.slc k off len sz))) :: s, (k, some ⟨e, cs, .res R⟩) :: bx, X⟩ : St).stat j = some x → look j bx = some x := fun j x hj h' => by
    simp only [St.stat, look] at h'
    cases e : Nat.beq k j with
    | true => exact absurd (Nat.eq_of_beq_eq_true e).symm hj
    | false => rw [e] at h'; exact h'
  obtain ⟨F, hF⟩ := hr.res
  obtain ⟨hR, _⟩ := hF.holds k _ _ _ hst
  obtain ⟨v, hv, hvr⟩ := hr.slots d (.sv (.one (.slc k off len sz))) (by simp [St.slot, look])
  simp only [LV.rel, SV.rel, CV.rel] at hvr
  rw [hst] at hvr
  obtain ⟨cap, rfl, hcap, hfit⟩ := hvr
  refine ⟨ι k, F k, cap, hR, ⟨fun b o hb => let h := hF.mem k b o hb; ⟨h.2.2.2.1, h.2.2.1, h.2.2.2.2.1⟩⟩, hcap, hfit, ?_⟩
  have hon : SameOn bx (⟨(d, .sv (.one (.slc k off len sz))) :: s, (k, some ⟨e, cs, .res R⟩) :: bx, X⟩ : St).stat (fun k => look k bx) := fun k' x h' => (hstb k' x h').trans h'.symm
  have hnot : ∀ j b, look j bx = some (some b) → F k (ι j).1 = none := fun j b hj => by
    cases hc : F k (ι j).1 with
    | none => rfl
    | some o => exact absurd ((hF.mem k _ o hc).2.2.2.2.2 j b (hstb j _ hj) rfl) (hlk j _ hj)
  exact {
    defers := hr.defers, size := hr.size
    slots := fun d' lv hd => by
      simp only [St.slot, look] at hd
      cases e : Nat.beq d d' with
      | true =>
        rw [e] at hd
        simp at hd
        subst hd
        have := Nat.eq_of_beq_eq_true e
        subst this
        exact ⟨_, hv, rfl⟩
      | false =>
        rw [e] at hd
        have hd : look d' s = some lv := by simpa using hd
        obtain ⟨v', hv', hr'⟩ := hr.slots d' lv (by simp only [St.slot, look, e]; exact hd)
        exact ⟨v', hv', LV.rel_on hon (List.all_eq_true.1 hs _ (look_mem hd)) hr'⟩
    boxes := fun k' b hb' hbk => by
      have hb' : look k' bx = some (some b) := hb'
      obtain ⟨arr', fr', h1, h2, h3, h4⟩ := hr.boxes k' b (hstb k' _ hb') hbk
      exact ⟨arr', fr', h1, h2, h3, Box.rel_on hon (by simpa using List.all_eq_true.1 hb _ (look_mem hb')) h4⟩
    own := fun k' b hb' => by
      have hb' : look k' bx = some (some b) := hb'
      obtain ⟨h1, h2⟩ := hr.own k' b (hstb k' _ hb')
      exact ⟨h1, (joinM_out (hnot k' b hb')).trans h2⟩
    inj := fun k1 k2 b1 b2 h1 h2 he => hr.inj k1 k2 b1 b2 (hstb k1 _ h1) (hstb k2 _ h2) he
    keep := fun k' b hb' hge => hr.keep k' b (hstb k' _ hb') hge
    ext := fun b o hbo => by
      have hbo : joinM X (F k) b = some o := hbo
      cases hc : F k b with
      | none => rw [joinM_out hc] at hbo; exact hr.ext b o hbo
      | some o' =>
        rw [joinM_in hc] at hbo
        cases hbo
        exact (hF.mem k b o hc).2.1
    res := by
      refine ⟨fun j => open Classical in if j = k then fun _ => none else F j, fun j e' cs' R' hj => ?_, fun j b o ho => ?_, fun i j b h1 h2 => ?_⟩
      · have hj : look j bx = some (some ⟨e', cs', .res R'⟩) := hj
        rw [if_neg (hlk j _ hj)]
        exact hF.holds j e' cs' R' (hstb j _ hj)
      · by_cases ej : j = k
        · rw [if_pos ej] at ho; cases ho
        · rw [if_neg ej] at ho
          obtain ⟨⟨e1, cs1, R1, h1⟩, h2, h3, h4, h5, h6⟩ := hF.mem j b o ho
          refine ⟨⟨e1, cs1, R1, hback j _ ej h1⟩, h2, h3, h4, ?_, fun i bi hi ei => h6 i bi (hstb i _ hi) ei⟩
          have hc : F k b = none := by
            cases hc : F k b with
            | none => rfl
            | some o' => exact absurd (hF.apart j k b (by rw [ho]; simp) (by rw [hc]; simp)) ej
          exact (joinM_out hc).trans h5
      · by_cases ei : i = k
        · rw [if_pos ei] at h1; exact absurd rfl h1
        · by_cases ej : j = k
          · rw [if_pos ej] at h2; exact absurd rfl h2
          · rw [if_neg ei] at h1
            rw [if_neg ej] at h2
            exact hF.apart i j b h1 h2
    frame := hr.frame, big := hr.big, os := hr.os, tape := hr.tape, output := hr.output }
theorem LWP.fixRes {s : List (Nat × LV)} {bx : List (Nat × Option Box)} {d k off len sz : Nat} {e : TypeId} {cs : List CV} {R : Rsc}
    (hs : s.all (fun p => p.2.inUse bx) = true) (hb : bx.all (fun p => match p.2 with | some b => b.cells.all (CV.inUse bx) | none => true) = true) (hk : look k bx = none)
    (h : ∀ (ρ : Nat × Nat) (H : Nat → Option Obj) (cap : Nat), R.holds ρ H → OwnedM C X H → len ≤ cap → off + cap * sz ≤ ρ.2 → LWP P n C c Q ⟨(d, .sv (.one (.val (.slice (some ⟨ρ.1, off, none⟩) len cap)))) :: s, bx, joinM X H⟩) :
    LWP P n C c Q ⟨(d, .sv (.one (.slc k off len sz))) :: s, (k, some ⟨e, cs, .res R⟩) :: bx, X⟩ := by
  refine ⟨fun ι a w hr => ?_⟩
  obtain ⟨ρ, H, cap, h1, h2, h3, h4, h5⟩ := hr.fixRes hs hb hk
  exact (h ρ H cap h1 h2 h3 h4).out ι a w h5
end
theorem Le.loose {n : Nat} {C : Ctx} {s : List (Nat × LV)} {bx : List (Nat × Option Box)} {X : Nat → Option Obj} {j : Nat} {e : TypeId} {A : List CV} {r : Bool} : Le n C ⟨s, (j, some ⟨e, A, r⟩) :: bx, X⟩ ⟨s, (j, some ⟨e, A, true⟩) :: bx, X⟩ := by
  have h := Le.trim (n := n) (C := C) (s := s) (bx := bx) (X := X) (j := j) (e := e) (A := A) (B := []) (r := r)
  rw [List.append_nil] at h
  exact h
end Go.Lg
end
section
namespace Go.Lg.Fld
open Go Go.Lg
def Ch.vals (x : Ch) : List Value := [.int .i64 x.kind, .int .i64 x.comp, .string ⟨x.fld.toArray⟩]
end Go.Lg.Fld
namespace Go.Proofs.YtimpjdbhalnofaaGreatDoor
open Go Go.Lg Go.Lg.Fld
set_option maxRecDepth 100000
variable (X : Nat → Option Obj)
end Go.Proofs.YtimpjdbhalnofaaGreatDoor
end
section
namespace Go.Proofs.YtimpjdbhalnofaaGreatDoor
open Go Go.Lg Go.Lg.Fld
set_option maxRecDepth 100000
variable (X : Nat → Option Obj)
end Go.Proofs.YtimpjdbhalnofaaGreatDoor
end
section
namespace Go.Lg.Fld
open Go Go.Lg
end Go.Lg.Fld
namespace Go.Proofs.YtimpjdbhalnofaaGreatDoor
open Go Go.Lg Go.Lg.Fld
set_option maxRecDepth 100000
variable (X : Nat → Option Obj)
end Go.Proofs.YtimpjdbhalnofaaGreatDoor
end
section
namespace Go.Lg.Fld
open Go Go.Lg
end Go.Lg.Fld
namespace Go.Proofs.YtimpjdbhalnofaaGreatDoor
open Go Go.Lg Go.Lg.Fld
set_option maxRecDepth 100000
variable (X : Nat → Option Obj)
end Go.Proofs.YtimpjdbhalnofaaGreatDoor
end
section
namespace Go.Proofs.YtimpjdbhalnofaaGreatDoor
open Go Go.Lg Go.Lg.Fml
abbrev Nm := Bool × Int
def gd (n : Nm) : Bool := formB n.1 n.2
def zz (n : Nm) : Int := zv n.1 n.2
def okI (x : Ins) : Bool := (decide (1 ≤ x.op) && decide (x.op ≤ 17)) && (gd x.k && ((decide (0 ≤ x.a) && decide (x.a ≤ 7)) && (decide (0 ≤ x.b) && decide (x.b ≤ 7))))
theorem okI_facts {x : Ins} (h : okI x = true) : (1 ≤ x.op ∧ x.op ≤ 17) ∧ gd x.k = true ∧ (0 ≤ x.a ∧ x.a ≤ 7) ∧ (0 ≤ x.b ∧ x.b ≤ 7) := by
  unfold okI at h
  simp only [Bool.and_eq_true, decide_eq_true_eq] at h
  exact ⟨h.1, h.2.1, h.2.2.1, h.2.2.2⟩
def chkX (l : List Ins) : Int := if 64 < l.length then 5 else if dep okI 0 l = some 1 then 0 else 4
theorem chkX_zero {l : List Ins} (h : chkX l = 0) : l.length ≤ 64 ∧ dep okI 0 l = some 1 := by
  unfold chkX at h
  split at h
  · cases h
  · split at h
    · rename_i h1 h2; exact ⟨by omega, h2⟩
    · cases h
theorem dep_ok {okJ : Ins → Bool} : ∀ {l : List Ins} {n m : Nat}, dep okJ n l = some m → ∀ x ∈ l, okJ x = true
  | [], _, _, _, x, hx => by cases hx
  | y :: l, n, m, h, x, hx => by
    simp only [dep] at h
    split at h
    · rename_i h1
      rcases List.mem_cons.1 hx with rfl | hx
      · exact h1.1
      · exact dep_ok h x hx
    · cases h
theorem chkX_ok {l : List Ins} (h : chkX l = 0) : ∀ x ∈ l, okI x = true := dep_ok (chkX_zero h).2
theorem chkX_ne {l : List Ins} (h : chkX l = 0) : l ≠ [] := fun e => by
  have := (chkX_zero h).2
  rw [e] at this
  cases this
def truth (b : Bool) : Nm := (false, if b then 1 else 0)
def elemX (fs : List (List Nm)) (a b : Int) : Except Int Nm :=
  if a < 0 ∨ b < 0 then .error 3 else match fs[a.toNat]? with
    | none => .error 3
    | some r => match r[b.toNat]? with
      | none => .error 3
      | some v => .ok v
def leafX (fs : List (List Nm)) (at_ : Int) (x : Ins) : Except Int Nm :=
  if x.op = 1 then .ok x.k else if x.op = 4 then (if at_ < 0 then .error 3 else .ok (false, at_)) else elemX fs x.a (if x.op = 3 then at_ else x.b)
def arith (op x y : Int) : Int := if op = 5 then x + y else if op = 6 then x - y else if op = 7 then x * y else if op = 8 then x.tdiv y else x.tmod y
instance decR127 (z : Int) : Decidable (R127 z) := by unfold R127; exact inferInstance
def doX (op : Int) (x y : Nm) : Except Int Nm :=
  if (gd x && gd y) = false then .error 1 else if 7 < op ∧ zz y = 0 then .error 1 else if R127 (arith op (zz x) (zz y)) then .ok (qn (arith op (zz x) (zz y))) else .error 3
def nodeX (op : Int) : List Nm → Except Int Nm
  | [x] => if gd x = false then .error 1 else if op = 10 then .ok (qn (-(zz x))) else .ok (truth (decide (x = (false, 0))))
  | [x, y] => if 5 ≤ op ∧ op ≤ 9 then doX op x y
    else if op = 17 then (if gd y = false then .error 1 else if y = (false, 0) then .error 9 else .ok x)
    else if (gd x && gd y) = false then .error 1
    else if op = 11 then .ok (if zz y < zz x then y else x)
    else if op = 12 then .ok (if zz x < zz y then y else x)
    else if op = 13 then .ok (truth (decide (x = y)))
    else .ok (truth (decide (zz x < zz y)))
  | [x, y, z] => if gd x = false then .error 1 else .ok (if x = (false, 0) then z else y)
  | _ => .error 0
def oneX (fs : List (List Nm)) (at_ : Int) (x : Ins) (a : List Nm) : Except Int Nm := if takes x.op = 0 then leafX fs at_ x else nodeX x.op a
def lastX : Except Int (List Nm) → Except Int Nm
  | .error e => .error e
  | .ok [v] => if gd v = true then .ok v else .error 4
  | .ok _ => .error 4
def evX (l : List Ins) (fs : List (List Nm)) (at_ : Int) : Except Int Nm := if chkX l = 0 then lastX (run (oneX fs at_) l []) else .error (chkX l)
theorem evX_tree {l : List Ins} {t : Tr} {fs : List (List Nm)} {at_ : Int} (h : chkX l = 0) (ht : t.ok) (hl : t.flat = l) : evX l fs at_ = match t.ev (oneX fs at_) with | .error e => .error e | .ok v => if gd v = true then .ok v else .error 4 := by
  unfold evX
  rw [if_pos h, ← hl, ← List.append_nil t.flat, run_flat ht]
  cases t.ev (oneX fs at_) with
  | error e => rfl
  | ok v => rfl
def dg1 (n : Int) : List UInt8 := Lib.itoa n
def wordX (op : Int) : List UInt8 :=
  if op = 5 then [97, 100, 100] else if op = 6 then [115, 117, 98] else if op = 7 then [109, 117, 108] else if op = 8 then [113, 117, 111] else if op = 9 then [114, 101, 109]
  else if op = 10 then [110, 101, 103] else if op = 11 then [108, 101, 97, 115, 116] else if op = 12 then [103, 114, 101, 97, 116] else if op = 13 then [115, 97, 109, 101]
  else if op = 14 then [108, 101, 115, 115] else if op = 15 then [110, 111, 116] else if op = 16 then [112, 105, 99, 107] else [110, 101, 101, 100]
def leafS (x : Ins) : List UInt8 :=
  if x.op = 1 then textQ (zz x.k) else if x.op = 2 then ([102] ++ dg1 x.a) ++ ([46] ++ dg1 x.b) else if x.op = 3 then ([102] ++ dg1 x.a) ++ [64] else [64]
def joinS : List (List UInt8) → List UInt8
  | [] => []
  | [a] => a
  | a :: b :: t => (a ++ [44]) ++ joinS (b :: t)
def oneS (x : Ins) (a : List (List UInt8)) : Except Int (List UInt8) := .ok (if takes x.op = 0 then leafS x else ((wordX x.op ++ [40]) ++ joinS a) ++ [41])
def showX (l : List Ins) : List UInt8 := if chkX l = 0 then (match run oneS l [] with | .ok [s] => s | _ => []) else []
def usesX (l : List Ins) : List Ins := l.filter fun x => x.op == 2 || x.op == 3
theorem doX_bad {op : Int} {x y : Nm} (h : (gd x && gd y) = false) : doX op x y = .error 1 := if_pos h
theorem node_err {op : Int} {a : List Nm} {e : Int} (ha : a.length = 1 ∨ a.length = 2 ∨ a.length = 3) (h : nodeX op a = .error e) : e ≠ 0 := by
  match a, ha with
  | [x], _ =>
    simp only [nodeX] at h
    repeat' (split at h <;> try (first | (simp only [Except.error.injEq] at h; omega) | cases h))
  | [x, y], _ =>
    simp only [nodeX, doX] at h
    repeat' (split at h <;> try (first | (simp only [Except.error.injEq] at h; omega) | cases h))
  | [x, y, z], _ =>
    simp only [nodeX] at h
    repeat' (split at h <;> try (first | (simp only [Except.error.injEq] at h; omega) | cases h))
  | [], ha => simp at ha
  | _ :: _ :: _ :: _ :: _, ha => simp at ha
theorem leaf_err {fs : List (List Nm)} {at_ : Int} {x : Ins} {e : Int} (h : leafX fs at_ x = .error e) : e ≠ 0 := by
  simp only [leafX, elemX] at h
  repeat' (split at h <;> try (first | (simp only [Except.error.injEq] at h; omega) | cases h))
theorem one_err {fs : List (List Nm)} {at_ : Int} {x : Ins} {a : List Nm} {e : Int} (ha : a.length = takes x.op) (h : oneX fs at_ x a = .error e) : e ≠ 0 := by
  unfold oneX at h
  have := takes_le x.op
  split at h
  · exact leaf_err h
  · exact node_err (by omega) h
theorem tree_err {fs : List (List Nm)} {at_ : Int} : ∀ {t : Tr} {e : Int}, t.ok → t.ev (oneX fs at_) = .error e → e ≠ 0
  | .n0 x, e, ht, h => one_err (a := []) (show _ = takes x.op from (show takes x.op = 0 from ht).symm) h
  | .n1 x a, e, ht, h => by
    simp only [Tr.ev] at h
    cases ha : a.ev (oneX fs at_) with
    | error e' => rw [ha] at h; simp only [Except.error.injEq] at h; subst h; exact tree_err ht.2 ha
    | ok u => rw [ha] at h; exact one_err (a := [u]) ht.1.symm h
  | .n2 x a b, e, ht, h => by
    simp only [Tr.ev] at h
    cases ha : a.ev (oneX fs at_) with
    | error e' => rw [ha] at h; simp only [Except.error.injEq] at h; subst h; exact tree_err ht.2.1 ha
    | ok u =>
      rw [ha] at h
      simp only at h
      cases hb : b.ev (oneX fs at_) with
      | error e' => rw [hb] at h; simp only [Except.error.injEq] at h; subst h; exact tree_err ht.2.2 hb
      | ok v => rw [hb] at h; exact one_err (a := [u, v]) ht.1.symm h
  | .n3 x a b c, e, ht, h => by
    simp only [Tr.ev] at h
    cases ha : a.ev (oneX fs at_) with
    | error e' => rw [ha] at h; simp only [Except.error.injEq] at h; subst h; exact tree_err ht.2.1 ha
    | ok u =>
      rw [ha] at h
      simp only at h
      cases hb : b.ev (oneX fs at_) with
      | error e' => rw [hb] at h; simp only [Except.error.injEq] at h; subst h; exact tree_err ht.2.2.1 hb
      | ok v =>
        rw [hb] at h
        simp only at h
        cases hc : c.ev (oneX fs at_) with
        | error e' => rw [hc] at h; simp only [Except.error.injEq] at h; subst h; exact tree_err ht.2.2.2 hc
        | ok w => rw [hc] at h; exact one_err (a := [u, v, w]) ht.1.symm h
theorem evX_err {l : List Ins} {fs : List (List Nm)} {at_ e : Int} (h : evX l fs at_ = .error e) : e ≠ 0 := by
  by_cases hz : chkX l = 0
  · obtain ⟨t, ht, hl⟩ := parse (chkX_zero hz).2
    rw [evX_tree hz ht hl] at h
    cases hv : t.ev (oneX fs at_) with
    | error e' => rw [hv] at h; simp only [Except.error.injEq] at h; subst h; exact tree_err ht hv
    | ok v =>
      rw [hv] at h
      simp only at h
      split at h
      · cases h
      · simp only [Except.error.injEq] at h; omega
  · unfold evX at h
    rw [if_neg hz] at h
    simp only [Except.error.injEq] at h
    omega
end Go.Proofs.YtimpjdbhalnofaaGreatDoor
end
section
namespace Go.Proofs.YtimpjdbhalnofaaGreatDoor
open Go Go.Lg Go.Lg.Fml Go.Lg.Fld
def o8 (n : Int) : UInt8 := UInt8.ofNat (n % 256).toNat
theorem o8_of (c : UInt8) : o8 (c.toNat : Nat) = c := by
  have h : c.toNat < 256 := c.toNat_lt
  apply UInt8.toNat_inj.1
  unfold o8
  rw [UInt8.toNat_ofNat']
  omega
def loW (n : Int) : Nat := (n % 18446744073709551616).toNat
def hiW (n : Int) : Nat := (n / 18446744073709551616).toNat
def sgB (b : Bool) : UInt8 := if b then 1 else 0
def encI (x : Ins) : List UInt8 := o8 x.op :: (if x.op = 1 then sgB x.k.1 :: (leB 8 (loW x.k.2) ++ leB 8 (hiW x.k.2)) else if x.op = 2 then [o8 x.a, o8 x.b] else if x.op = 3 then [o8 x.a] else [])
def encIs : List Ins → List UInt8
  | [] => []
  | x :: t => encI x ++ encIs t
theorem encIs_app : ∀ (a b : List Ins), encIs (a ++ b) = encIs a ++ encIs b
  | [], _ => rfl
  | x :: t, b => by simp only [List.cons_append, encIs, encIs_app t b, List.append_assoc]
def plainI (x : Ins) : Bool := (decide (x.op = 1) || decide (x.k = (false, 0))) && ((decide (x.op = 2) || decide (x.b = 0)) && (decide (x.op = 2) || (decide (x.op = 3) || decide (x.a = 0))))
def encX (l : List Ins) : List UInt8 := o8 (l.length : Nat) :: encIs l
def encErr (l : List Ins) : Int := if chkX l = 0 then (if l.all plainI = true then 0 else 1) else chkX l
def encTX (l : List Ins) : List UInt8 := if encErr l = 0 then encX l else []
def getI : List UInt8 → Option (Ins × List UInt8)
  | [] => none
  | o :: r => if o.toNat = 1 then (match r with
      | [] => none
      | s :: r => if s.toNat ≤ 1 ∧ 16 ≤ r.length then some (⟨1, 0, 0, (decide (s.toNat = 1), ((le (r.take 8) + 18446744073709551616 * le ((r.drop 8).take 8) : Nat) : Int))⟩, r.drop 16) else none)
    else if o.toNat = 2 then (match r with
      | a :: b :: r => some (⟨2, (a.toNat : Nat), (b.toNat : Nat), (false, 0)⟩, r)
      | _ => none)
    else if o.toNat = 3 then (match r with
      | a :: r => some (⟨3, (a.toNat : Nat), 0, (false, 0)⟩, r)
      | _ => none)
    else some (⟨(o.toNat : Nat), 0, 0, (false, 0)⟩, r)
def getIs : Nat → List UInt8 → Option (List Ins × List UInt8)
  | 0, b => some ([], b)
  | n + 1, b => match getI b with
    | some (x, r) => match getIs n r with
      | some (l, r') => some (x :: l, r')
      | none => none
    | none => none
def decX : List UInt8 → Option (List Ins)
  | [] => none
  | n :: r => match getIs n.toNat r with
    | some (l, []) => if chkX l = 0 then some l else none
    | _ => none
def okB (x : Ins) : Prop := (0 ≤ x.op ∧ x.op < 256) ∧ (0 ≤ x.a ∧ x.a < 256) ∧ (0 ≤ x.b ∧ x.b < 256) ∧ In2 x.k.2 ∧ plainI x = true
theorem words {n : Int} (h : In2 n) : ((loW n + 18446744073709551616 * hiW n : Nat) : Int) = n ∧ loW n < 256 ^ 8 ∧ hiW n < 256 ^ 8 := by
  have hp : (256 : Nat) ^ 8 = 18446744073709551616 := by decide
  unfold In2 at h
  unfold loW hiW
  omega
theorem getI_back {b r : List UInt8} {x : Ins} (h : getI b = some (x, r)) : b = encI x ++ r ∧ okB x := by
  unfold getI at h
  split at h
  · cases h
  · rename_i o r0
    have ho := o.toNat_lt
    split at h
    · rename_i e1
      split at h
      · cases h
      · rename_i s r1
        split at h
        · rename_i hc
          simp only [Option.some.injEq, Prod.mk.injEq] at h
          obtain ⟨rfl, rfl⟩ := h
          have hp : (256 : Nat) ^ 8 = 18446744073709551616 := by decide
          have l1 : (r1.take 8).length = 8 := by rw [List.length_take]; omega
          have l2 : ((r1.drop 8).take 8).length = 8 := by rw [List.length_take, List.length_drop]; omega
          have b1 := le_lt (r1.take 8)
          have b2 := le_lt ((r1.drop 8).take 8)
          rw [l1, hp] at b1
          rw [l2, hp] at b2
          have w1 : loW ((le (r1.take 8) + 18446744073709551616 * le ((r1.drop 8).take 8) : Nat) : Int) = le (r1.take 8) := by unfold loW; omega
          have w2 : hiW ((le (r1.take 8) + 18446744073709551616 * le ((r1.drop 8).take 8) : Nat) : Int) = le ((r1.drop 8).take 8) := by unfold hiW; omega
          have v1 := leB_of (r1.take 8)
          have v2 := leB_of ((r1.drop 8).take 8)
          rw [l1] at v1
          rw [l2] at v2
          have ho1 : o = 1 := UInt8.toNat_inj.1 e1
          have hs : s = sgB (decide (s.toNat = 1)) := by
            by_cases hs1 : s.toNat = 1
            · rw [decide_eq_true hs1]; exact UInt8.toNat_inj.1 hs1
            · rw [decide_eq_false hs1]; exact UInt8.toNat_inj.1 (by show s.toNat = 0; omega)
          refine ⟨?_, ⟨by simp only; omega, by simp only; omega⟩, ⟨by simp only; omega, by simp only; omega⟩, ⟨by simp only; omega, by simp only; omega⟩, ?_, by simp [plainI]⟩
          · unfold encI
            simp only
            rw [if_pos trivial, w1, w2, v1, v2, ← hs, ho1]
            simp only [List.cons_append, List.append_assoc]
            have : r1.take 8 ++ ((r1.drop 8).take 8 ++ r1.drop 16) = r1 := by
              rw [show r1.drop 16 = (r1.drop 8).drop 8 by rw [List.drop_drop], List.take_append_drop, List.take_append_drop]
            rw [this]
            rfl
          · unfold In2; simp only; omega
        · cases h
    · rename_i e1
      split at h
      · rename_i e2
        split at h
        · rename_i a b r1
          simp only [Option.some.injEq, Prod.mk.injEq] at h
          obtain ⟨rfl, rfl⟩ := h
          have ha := a.toNat_lt
          have hb := b.toNat_lt
          have ho1 : o = 2 := UInt8.toNat_inj.1 e2
          refine ⟨?_, ⟨by simp only; omega, by simp only; omega⟩, ⟨by simp only; omega, by simp only; omega⟩, ⟨by simp only; omega, by simp only; omega⟩, ⟨by simp only; omega, by simp only; omega⟩, by simp [plainI]⟩
          unfold encI
          simp only
          rw [if_neg (by decide), if_pos trivial, o8_of, o8_of, ho1]
          rfl
        · cases h
      · rename_i e2
        split at h
        · rename_i e3
          split at h
          · rename_i a r1
            simp only [Option.some.injEq, Prod.mk.injEq] at h
            obtain ⟨rfl, rfl⟩ := h
            have ha := a.toNat_lt
            have ho1 : o = 3 := UInt8.toNat_inj.1 e3
            refine ⟨?_, ⟨by simp only; omega, by simp only; omega⟩, ⟨by simp only; omega, by simp only; omega⟩, ⟨by simp only; omega, by simp only; omega⟩, ⟨by simp only; omega, by simp only; omega⟩, by simp [plainI]⟩
            unfold encI
            simp only
            rw [if_neg (by decide), if_neg (by decide), if_pos trivial, o8_of, ho1]
            rfl
          · cases h
        · rename_i e3
          simp only [Option.some.injEq, Prod.mk.injEq] at h
          obtain ⟨rfl, rfl⟩ := h
          refine ⟨?_, ⟨by simp only; omega, by simp only; omega⟩, ⟨by simp only; omega, by simp only; omega⟩, ⟨by simp only; omega, by simp only; omega⟩, ⟨by show (0 : Int) ≤ 0; decide, by show (0 : Int) < 340282366920938463463374607431768211456; decide⟩, by simp [plainI]⟩
          unfold encI
          simp only
          rw [if_neg (by omega), if_neg (by omega), if_neg (by omega), o8_of]
          rfl
theorem getIs_back : ∀ {n : Nat} {b r : List UInt8} {l : List Ins}, getIs n b = some (l, r) → b = encIs l ++ r ∧ l.length = n ∧ ∀ x ∈ l, okB x
  | 0, b, r, fs, h => by
    simp only [getIs, Option.some.injEq, Prod.mk.injEq] at h
    obtain ⟨rfl, rfl⟩ := h
    exact ⟨rfl, rfl, fun f hf => by cases hf⟩
  | n + 1, b, r, fs, h => by
    unfold getIs at h
    split at h
    · rename_i f r1 hf
      split at h
      · rename_i gs r2 hg
        simp only [Option.some.injEq, Prod.mk.injEq] at h
        obtain ⟨rfl, rfl⟩ := h
        obtain ⟨h1, h2⟩ := getI_back hf
        obtain ⟨h3, h4, h5⟩ := getIs_back hg
        refine ⟨by rw [h1, h3, encIs, List.append_assoc], by rw [List.length_cons, h4], fun g hg => ?_⟩
        rcases List.mem_cons.1 hg with rfl | hg
        · exact h2
        · exact h5 g hg
      · cases h
    · cases h
theorem encX_dec {b : List UInt8} {l : List Ins} (h : decX b = some l) : encX l = b ∧ encErr l = 0 ∧ chkX l = 0 ∧ ∀ x ∈ l, okB x := by
  unfold decX at h
  split at h
  · cases h
  · rename_i n r
    split at h
    · rename_i l' hg
      split at h
      · rename_i hz
        simp only [Option.some.injEq] at h
        subst h
        obtain ⟨h1, h2, h3⟩ := getIs_back hg
        refine ⟨?_, ?_, hz, h3⟩
        · unfold encX
          rw [h2, o8_of, h1, List.append_nil]
        · unfold encErr
          rw [if_pos hz, if_pos (List.all_eq_true.2 fun x hx => (h3 x hx).2.2.2.2)]
      · cases h
    · cases h
theorem encI_len (x : Ins) : 1 ≤ (encI x).length ∧ (encI x).length ≤ 18 := by
  unfold encI
  split
  · simp only [List.length_cons, List.length_append, leB_length]; omega
  · split
    · simp
    · split <;> simp
theorem encIs_len : ∀ l : List Ins, (encIs l).length ≤ l.length * 18
  | [] => by simp [encIs]
  | x :: t => by have := (encI_len x).2; have := encIs_len t; simp only [encIs, List.length_append, List.length_cons]; omega
end Go.Proofs.YtimpjdbhalnofaaGreatDoor
end
section
namespace Go.Lg.Fml
def Tr.args : Tr → List Tr
  | .n0 _ => []
  | .n1 _ a => [a]
  | .n2 _ a b => [a, b]
  | .n3 _ a b c => [a, b, c]
section
variable {V : Type} (one : Ins → List V → Except Int V)
variable {one}
end
def At (l : List Ins) (p : Nat) (t : Tr) : Prop := ∃ pre suf, l = pre ++ (t.flat ++ suf) ∧ pre.length = p
theorem At.len {l : List Ins} {p : Nat} {t : Tr} (h : At l p t) : p + t.flat.length ≤ l.length := by
  obtain ⟨pre, suf, rfl, rfl⟩ := h
  simp only [List.length_append]; omega
theorem At.get {l : List Ins} {p : Nat} {t : Tr} (h : At l p t) {k : Nat} (hk : k < t.flat.length) : l[p + k]? = t.flat[k]? := by
  obtain ⟨pre, suf, rfl, rfl⟩ := h
  rw [List.getElem?_append_right (by omega), Nat.add_sub_cancel_left, List.getElem?_append_left hk]
theorem At.top {l : List Ins} {p : Nat} {t : Tr} (h : At l p t) : l[p + t.flat.length - 1]? = some t.top := by
  obtain ⟨r, hr⟩ := flat_top t
  have hl : t.flat.length = r.length + 1 := by rw [hr]; simp
  have := h.get (k := r.length) (by omega)
  rw [show p + t.flat.length - 1 = p + r.length by omega, this, hr, List.getElem?_append_right (Nat.le_refl _), Nat.sub_self]
  rfl
end Go.Lg.Fml
end
section
namespace Go.Proofs.YtimpjdbhalnofaaGreatDoor
open Go Go.Lg Go.Lg.Fml Go.Lg.Fld
def insV (x : Ins) : List Value := [.int .i64 x.op, .int .i64 x.a, .int .i64 x.b, .bool x.k.1, .int .u64 (x.k.2 / 18446744073709551616), .int .u64 (x.k.2 % 18446744073709551616)]
def smallI (x : Ins) : Prop := (-9223372036854775808 ≤ x.op ∧ x.op < 9223372036854775808) ∧ (-9223372036854775808 ≤ x.a ∧ x.a < 9223372036854775808) ∧ (-9223372036854775808 ≤ x.b ∧ x.b < 9223372036854775808) ∧ In2 x.k.2
structure InsIn (X : Nat → Option Obj) (ad : Option Addr) (l : List Ins) : Prop where
  rows : Go.Lg.RowsIn X ad 6 (l.map insV)
  small : ∀ x ∈ l, smallI x
theorem InsIn.mono {X Y : Nat → Option Obj} (hXY : ∀ b o, X b = some o → Y b = some o) {ad : Option Addr} {l : List Ins} (h : InsIn X ad l) : InsIn Y ad l := ⟨h.rows.mono hXY, h.small⟩
theorem InsIn.at {X : Nat → Option Obj} {ad : Option Addr} {l : List Ins} (h : InsIn X ad l) {i : Nat} {x : Ins} (hx : l[i]? = some x) :
    ∃ (blk off : Nat) (arr : Array Value) (el : TypeId) (fr : Nat × Nat), ad = some ⟨blk, off, none⟩ ∧ X blk = some (.cells arr el fr) ∧ off + i * 6 + 6 ≤ arr.size ∧ ((arr.toList.drop (off + i * 6)).take 6).map CV.val = (insV x).map CV.val ∧ arr[off + i * 6]? = some (.int .i64 x.op) := by
  obtain ⟨blk, off, arr, el, fr, h1, h2, h3, h4⟩ := h.rows i (insV x) (by rw [List.getElem?_map, hx]; rfl)
  refine ⟨blk, off, arr, el, fr, h1, h2, h3, by rw [h4], ?_⟩
  have h5 : ((arr.toList.drop (off + i * 6)).take 6)[0]? = some (.int .i64 x.op) := by rw [h4]; rfl
  rw [List.getElem?_take, if_pos (by decide), List.getElem?_drop, Nat.add_zero, Array.getElem?_toList] at h5
  exact h5
structure FssIn (X : Nat → Option Obj) (ad : Option Addr) (fss : List (List Nm)) : Prop where
  at_ : ∀ (i : Nat) (r : List Nm), fss[i]? = some r → ∃ (blk off : Nat) (arr : Array Value) (el : TypeId) (fr : Nat × Nat) (vad : Option Addr) (vcap : Nat), ad = some ⟨blk, off, none⟩ ∧ X blk = some (.cells arr el fr) ∧ off + i * 1 + 1 ≤ arr.size ∧ arr[off + i]? = some (.slice vad r.length vcap) ∧ NumsIn X vad r
theorem FssIn.mono {X Y : Nat → Option Obj} (hXY : ∀ b o, X b = some o → Y b = some o) {ad : Option Addr} {fss : List (List Nm)} (h : FssIn X ad fss) : FssIn Y ad fss := ⟨fun i r hr => by
  obtain ⟨blk, off, arr, el, fr, vad, vcap, h1, h2, h3, h4, h5⟩ := h.at_ i r hr
  exact ⟨blk, off, arr, el, fr, vad, vcap, h1, hXY _ _ h2, h3, h4, h5.rows.mono hXY, h5.in2⟩⟩
abbrev LIn (x : Ins) : LV := .sv (.agg ((insV x).map .val))
abbrev LEnv (fad : Option Addr) (n cap : Nat) (at_ : Int) : LV := .sv (.agg [.val (.slice fad n cap), .val (.int .i64 at_)])
end Go.Proofs.YtimpjdbhalnofaaGreatDoor
end
section
namespace Go.Proofs.YtimpjdbhalnofaaGreatDoor
open Go Go.Lg Go.Lg.Fml Go.Lg.Fld Go.RowKit Go.ChangeShapes Go.WideShapes Go.Joins
set_option maxRecDepth 100000
section
variable {H : Type} {enc : TypeId × Value → H} {w : World}
theorem open_inss {r : Reach} {b0 : Nat} {v : Value} {d : DataW H} {p : List MemPlace} (hv : Value.okWide Tryz.prog w r b0 22 v) (h : DataW.Trod enc Tryz.prog w 0 (fun _ => true) true 22 v d p) :
    ∃ (ad : Option Addr) (cap : Nat) (l : List Ins), v = .slice ad l.length cap ∧ l.length < 9223372036854775808 ∧ InsIn (fun b => w.heap[b]?) ad l := by
  obtain ⟨ad, cap, rows, rfl, h1, h2, h3, h4, _⟩ := open_rows (e := 44) (sz := 6) (by kernel_rfl) (by kernel_rfl) (by decide) hv h
  obtain ⟨l, rfl, h5⟩ := map_of (f := insV) (q := smallI) (vs := rows) (fun u hu => by
    obtain ⟨hlen, n, x, hx⟩ := h4 u hu
    obtain ⟨y0, y1, y2, y3, n', _, _, g0, g1, g2, g3⟩ := trod_struct4 (t := 44) Tryz.underlying44 hx
    obtain ⟨c0, c1, c2, c3, c4, c5, rfl⟩ : ∃ c0 c1 c2 c3 c4 c5, u = [c0, c1, c2, c3, c4, c5] := by
      match u, hlen with
      | [c0, c1, c2, c3, c4, c5], _ => exact ⟨c0, c1, c2, c3, c4, c5, rfl⟩
    obtain ⟨k0, e0, _, wa0⟩ := DataW.trod_int (k := .i64) (by kernel_rfl) g0
    obtain ⟨k1, e1, _, wa1⟩ := DataW.trod_int (k := .i64) (by kernel_rfl) g1
    obtain ⟨k2, e2, _, wa2⟩ := DataW.trod_int (k := .i64) (by kernel_rfl) g2
    obtain ⟨z0, z1, z2, m', _, _, j0, j1, j2⟩ := Deep.trod_struct3 (t := 30) Tryz.underlying30 g3
    obtain ⟨b, e3, _⟩ := DataW.trod_bool (by kernel_rfl) j0
    obtain ⟨x, e4, _, wa4⟩ := DataW.trod_int (k := .u64) (by kernel_rfl) j1
    obtain ⟨y, e5, _, wa5⟩ := DataW.trod_int (k := .u64) (by kernel_rfl) j2
    have q0 : c0 = .int .i64 k0 := by simpa using (show ([c0, c1, c2, c3, c4, c5].drop 0).take 1 = [.int .i64 k0] from e0)
    have q1 : c1 = .int .i64 k1 := by simpa using (show ([c0, c1, c2, c3, c4, c5].drop 1).take 1 = [.int .i64 k1] from e1)
    have q2 : c2 = .int .i64 k2 := by simpa using (show ([c0, c1, c2, c3, c4, c5].drop 2).take 1 = [.int .i64 k2] from e2)
    have q3 : c3 = .bool b := by simpa using (show ((([c0, c1, c2, c3, c4, c5].drop 3).take 3).drop 0).take 1 = [.bool b] from e3)
    have q4 : c4 = .int .u64 x := by simpa using (show ((([c0, c1, c2, c3, c4, c5].drop 3).take 3).drop 1).take 1 = [.int .u64 x] from e4)
    have q5 : c5 = .int .u64 y := by simpa using (show ((([c0, c1, c2, c3, c4, c5].drop 3).take 3).drop 2).take 1 = [.int .u64 y] from e5)
    subst q0 q1 q2 q3 q4 q5
    have b0 := bounds_i64 wa0
    have b1 := bounds_i64 wa1
    have b2 := bounds_i64 wa2
    have b4 := bounds_u64 wa4
    have b5 := bounds_u64 wa5
    refine ⟨⟨k0, k1, k2, (b, x * 18446744073709551616 + y)⟩, ?_, by show -9223372036854775808 ≤ k0 ∧ k0 < 9223372036854775808; omega, by show -9223372036854775808 ≤ k1 ∧ k1 < 9223372036854775808; omega, by show -9223372036854775808 ≤ k2 ∧ k2 < 9223372036854775808; omega, by show 0 ≤ x * 18446744073709551616 + y; omega, by show x * 18446744073709551616 + y < _; omega⟩
    unfold insV
    show _ = [Value.int .i64 k0, .int .i64 k1, .int .i64 k2, .bool b, .int .u64 ((x * 18446744073709551616 + y) / 18446744073709551616), .int .u64 ((x * 18446744073709551616 + y) % 18446744073709551616)]
    rw [show (x * 18446744073709551616 + y) / 18446744073709551616 = x by omega, show (x * 18446744073709551616 + y) % 18446744073709551616 = y by omega])
  exact ⟨ad, cap, l, by rw [List.length_map], by rw [List.length_map] at h1; unfold maxLen at h2; omega, ⟨h3, h5⟩⟩
end
end Go.Proofs.YtimpjdbhalnofaaGreatDoor
end
section
namespace Go.Lg.Fml
theorem dep_snoc {okJ : Ins → Bool} {l : List Ins} {i n : Nat} {x : Ins} (hd : dep okJ 0 (l.take i) = some n) (hx : l[i]? = some x) : dep okJ 0 (l.take (i + 1)) = if okJ x = true ∧ takes x.op ≤ n ∧ n - takes x.op + 1 ≤ 16 then some (n - takes x.op + 1) else none := by
  rw [Go.Lg.Fld.take_snoc hx, dep_app, hd]
  show dep okJ n [x] = _
  simp only [dep]
theorem dep_none {okJ : Ins → Bool} {l : List Ins} {i : Nat} (hd : dep okJ 0 (l.take i) = none) : dep okJ 0 l = none := by
  rw [← List.take_append_drop i l, dep_app, hd]
  rfl
theorem dep_le {okJ : Ins → Bool} : ∀ {l : List Ins} {n m : Nat}, n ≤ 16 → dep okJ n l = some m → m ≤ 16
  | [], n, m, hn, h => by simp only [dep, Option.some.injEq] at h; omega
  | x :: l, n, m, hn, h => by
    simp only [dep] at h
    split at h
    · rename_i h1; exact dep_le h1.2.2 h
    · cases h
end Go.Lg.Fml
namespace Go.Proofs.YtimpjdbhalnofaaGreatDoor
open Go Go.Lg Go.Lg.Fml Go.Lg.Fld
set_option maxRecDepth 100000
variable (X : Nat → Option Obj)
instance : ArrB Tryz.prog 117 (List.replicate 18 (.int .i64 0)) 1 := ⟨by kernel_rfl⟩
def tkC : List CV := [.val (.int .i64 0), .val (.int .i64 0), .val (.int .i64 0), .val (.int .i64 0), .val (.int .i64 0), .val (.int .i64 2), .val (.int .i64 2), .val (.int .i64 2), .val (.int .i64 2), .val (.int .i64 2), .val (.int .i64 1), .val (.int .i64 2), .val (.int .i64 2), .val (.int .i64 2), .val (.int .i64 2), .val (.int .i64 1), .val (.int .i64 3), .val (.int .i64 2)]
theorem takes_at {op : Int} (h : 5 ≤ op ∧ op ≤ 17) : tkC[op.toNat]? = some (CV.val (.int .i64 (takes op : Nat))) := by
  rcases (show op = 5 ∨ op = 6 ∨ op = 7 ∨ op = 8 ∨ op = 9 ∨ op = 10 ∨ op = 11 ∨ op = 12 ∨ op = 13 ∨ op = 14 ∨ op = 15 ∨ op = 16 ∨ op = 17 by omega) with rfl | rfl | rfl | rfl | rfl | rfl | rfl | rfl | rfl | rfl | rfl | rfl | rfl <;> rfl
theorem takes_out {op : Int} (h : op < 5 ∨ 17 < op) : takes op = 0 := by
  unfold takes
  rw [if_neg (by omega), if_neg (by omega), if_neg (by omega)]
set_option maxHeartbeats 1600000 in
theorem rTakes_spec (op : Int) : PSpec Tryz.prog X 34 [Ln .i64 op] (Ln .i64 (takes op : Nat)) := by
  refine PSpec.intro Tryz.func34 rfl (by kernel_rfl) rfl rfl ?_
  intro C
  by_cases h1 : op < 5
  · rw [takes_out (.inl h1)]
    (refine LWP.seq <| LWP.region (by kernel_rfl) <| kas rfl <| RunK.nil <| LWP.seq <| LWP.seq <| LWP.region (by kernel_rfl) <| kmv rfl <| klt rfl rfl (decide_eq_true h1) <| kmv rfl <| RunK.passed rfl rfl rfl <| RunK.passed rfl rfl rfl <| kpt rfl rfl <| RunK.nil ?_; refine LWP.condT rfl ?_; refine LWP.seq <| LWP.region (by kernel_rfl) <| kas rfl <| RunK.nil <| LWP.ret ?_)
    exact ⟨[_], ⟨rfl, trivial⟩, rfl⟩
  by_cases h2 : 17 < op
  · rw [takes_out (.inr h2)]
    (refine LWP.seq <| LWP.region (by kernel_rfl) <| kas rfl <| RunK.nil <| LWP.seq <| LWP.seq <| LWP.region (by kernel_rfl) <| kmv rfl <| klt rfl rfl (decide_eq_false h1) <| kmv rfl <| gmv rfl rfl rfl <| K.gtr rfl rfl (decide_eq_true h2) (.taken rfl rfl) ?_; refine kpf rfl rfl <| RunK.nil <| LWP.condT rfl ?_; refine LWP.seq <| LWP.region (by kernel_rfl) <| kas rfl <| RunK.nil <| LWP.ret ?_)
    exact ⟨[_], ⟨rfl, trivial⟩, rfl⟩
  have hat := takes_at (op := op) ⟨by omega, by omega⟩
  have hix : 0 + Int.toNat op * 1 = op.toNat := by omega
  (refine LWP.seq <| LWP.region (by kernel_rfl) <| kas rfl <| RunK.nil <| LWP.seq <| LWP.seq <| LWP.region (by kernel_rfl) <| kmv rfl <| klt rfl rfl (decide_eq_false h1) <| kmv rfl <| gmv rfl rfl rfl <| K.gtr rfl rfl (decide_eq_false h2) (.taken rfl rfl) ?_; refine kpf rfl rfl <| RunK.nil <| LWP.condF rfl ?_; refine LWP.skip ?_; refine LWP.seq <| LWP.region (by kernel_rfl) <| K.buildArr rfl rfl (by exact rfl) rfl .plain ?_; refine K.alloc rfl .plain ?_; refine K.storeAll rfl rfl rfl rfl rfl rfl .plain ?_; refine RunK.nil <| LWP.seq <| LWP.region (by kernel_rfl) <| kmv rfl <| K.indexArr rfl rfl (by omega) hix .plain ?_; refine kl1 rfl rfl hat <| kas rfl <| RunK.nil <| LWP.ret ?_)
  exact ⟨[_], ⟨rfl, trivial⟩, rfl⟩
theorem chkX_bad {l : List Ins} {i n : Nat} {x : Ins} (h64 : ¬ 64 < l.length) (hd : dep okI 0 (l.take i) = some n) (hx : l[i]? = some x) (hb : ¬ (okI x = true ∧ takes x.op ≤ n ∧ n - takes x.op + 1 ≤ 16)) : chkX l = 4 := by
  unfold chkX
  rw [if_neg h64, if_neg]
  rw [dep_none (i := i + 1) ((dep_snoc hd hx).trans (if_neg hb))]
  exact fun h => by cases h
set_option maxHeartbeats 6400000 in
theorem rCheck11 (l : List Ins) (ad : Option Addr) (cap : Nat) (hin : InsIn X ad l) (hbig : l.length < 4611686018427387904) : PSpec Tryz.prog X 14 [Lx ad l.length cap] (Ln .i64 (chkX l)) := by
  refine PSpec.intro Tryz.func14 rfl (by kernel_rfl) rfl rfl ?_
  intro C
  by_cases hlong : 64 < l.length
  · have e : chkX l = 5 := if_pos hlong
    rw [e]
    (refine LWP.seq <| LWP.region (by kernel_rfl) <| kas rfl <| RunK.nil <| LWP.seq <| LWP.seq <| LWP.region (by kernel_rfl) <| kmv rfl <| K.lenX rfl SliceT.h rfl .plain ?_; refine K.gtr rfl rfl (decide_eq_true (by omega)) .plain <| RunK.nil <| LWP.condT rfl ?_; refine LWP.seq <| LWP.region (by kernel_rfl) <| kas rfl <| RunK.nil <| LWP.ret ?_)
    exact ⟨[_], ⟨rfl, trivial⟩, rfl⟩
  (refine LWP.seq <| LWP.region (by kernel_rfl) <| kas rfl <| RunK.nil <| LWP.seq <| LWP.seq <| LWP.region (by kernel_rfl) <| kmv rfl <| K.lenX rfl SliceT.h rfl .plain ?_; refine K.gtr rfl rfl (decide_eq_false (by omega)) .plain <| RunK.nil <| LWP.condF rfl ?_; refine LWP.skip ?_; refine LWP.seq <| LWP.region (by kernel_rfl) <| kas rfl <| RunK.nil <| LWP.seq <| LWP.seq <| LWP.region (by kernel_rfl) <| kas rfl <| RunK.nil <| LWP.block ?_)
  refine LWP.loop (fun m σ => ∃ i n : Nat, i ≤ l.length ∧ m = l.length - i ∧ dep okI 0 (l.take i) = some n ∧ σ = ⟨[(0, Lx ad l.length cap), (3, Ln .i64 (n : Nat)), (4, Ln .i64 (i : Nat))], [], X⟩) l.length
    ⟨⟨[(0, Lx ad l.length cap), (3, Ln .i64 (0 : Nat)), (4, Ln .i64 (0 : Nat))], [], X⟩, Le.of (by exact ⟨rfl, rfl, rfl, trivial⟩) (by exact trivial) (by exact rfl) (by exact rfl) (by exact rfl), 0, 0, by omega, rfl, rfl, rfl⟩ ?_
  rintro m σ ⟨i, n, hi, rfl, hd, rfl⟩
  have hn16 := dep_le (by omega) hd
  by_cases hlt : i < l.length
  · obtain ⟨x, hx⟩ : ∃ x, l[i]? = some x := ⟨_, List.getElem?_eq_getElem hlt⟩
    obtain ⟨blk, off, arr, el, fr, rfl, hX, hsz, hcs, _⟩ := hin.at hx
    have hio : off + Int.toNat (i : Int) * 6 = off + i * 6 := by simp
    obtain ⟨_, _, _, hk2⟩ := hin.small x (List.mem_of_getElem? hx)
    have hG := Good_spec X x.k.1 x.k.2 hk2 (gd x.k) rfl
    have hT := rTakes_spec X x.op
    have hbad := fun h => chkX_bad (x := x) hlong hd hx h
    have htk := takes_le x.op
    by_cases c0 : x.op < 1
    · rw [hbad (fun h => by have := (okI_facts h.1).1; omega)]
      (refine LWP.seq <| LWP.seq <| LWP.region (by kernel_rfl) <| kmv rfl <| kmv rfl <| K.lenX rfl SliceT.h rfl .plain ?_; refine klt rfl rfl (decide_eq_true (by omega)) <| RunK.nil <| LWP.condT rfl ?_; refine LWP.skip ?_; refine LWP.seq <| LWP.block <| LWP.seq <| LWP.region (by kernel_rfl) <| kmv rfl <| kmv rfl <| K.indexX rfl rfl SliceT.h (by omega) hio .plain <| K.loadXagg rfl hX (by kernel_rfl) hsz hcs .plain <| K.alloc rfl .plain ?_; refine K.storeAll rfl rfl rfl rfl rfl rfl .plain ?_; refine RunK.nil <| LWP.seq <| LWP.seq <| LWP.region (by kernel_rfl) <| kfa rfl rfl ?_; refine kl1 rfl rfl rfl <| klt rfl rfl (decide_eq_true (by omega)) <| kmv rfl <| RunK.passed rfl rfl rfl <| RunK.passed rfl rfl rfl <| RunK.passed rfl rfl rfl <| kpt rfl rfl <| kmv rfl <| RunK.passed rfl rfl rfl <| RunK.passed rfl rfl rfl <| RunK.passed rfl rfl rfl <| RunK.passed rfl rfl rfl <| kpt rfl rfl <| kmv rfl ?_; refine RunK.passed rfl rfl rfl <| RunK.passed rfl rfl rfl <| RunK.passed rfl rfl rfl <| kpt rfl rfl <| kmv rfl <| RunK.passed rfl rfl rfl <| RunK.passed rfl rfl rfl <| RunK.passed rfl rfl rfl <| kpt rfl rfl <| kmv rfl <| RunK.passed rfl rfl rfl <| RunK.passed rfl rfl rfl <| RunK.passed rfl rfl rfl <| kpt rfl rfl ?_; refine kmv rfl <| RunK.passed rfl rfl rfl <| RunK.passed rfl rfl rfl <| RunK.passed rfl rfl rfl <| kpt rfl rfl <| kmv rfl <| RunK.passed rfl rfl rfl <| RunK.passed rfl rfl rfl <| RunK.passed rfl rfl rfl <| RunK.passed rfl rfl rfl <| RunK.passed rfl rfl rfl <| kpt rfl rfl <| RunK.nil <| LWP.condT rfl ?_; refine LWP.seq <| LWP.region (by kernel_rfl) <| kas rfl <| RunK.nil <| LWP.ret ?_)
      exact ⟨[_], ⟨rfl, trivial⟩, rfl⟩
    by_cases c1 : 17 < x.op
    · rw [hbad (fun h => by have := (okI_facts h.1).1; omega)]
      (refine LWP.seq <| LWP.seq <| LWP.region (by kernel_rfl) <| kmv rfl <| kmv rfl <| K.lenX rfl SliceT.h rfl .plain ?_; refine klt rfl rfl (decide_eq_true (by omega)) <| RunK.nil <| LWP.condT rfl ?_; refine LWP.skip ?_; refine LWP.seq <| LWP.block <| LWP.seq <| LWP.region (by kernel_rfl) <| kmv rfl <| kmv rfl <| K.indexX rfl rfl SliceT.h (by omega) hio .plain <| K.loadXagg rfl hX (by kernel_rfl) hsz hcs .plain <| K.alloc rfl .plain ?_; refine K.storeAll rfl rfl rfl rfl rfl rfl .plain ?_; refine RunK.nil <| LWP.seq <| LWP.seq <| LWP.region (by kernel_rfl) <| kfa rfl rfl ?_; refine kl1 rfl rfl rfl <| klt rfl rfl (decide_eq_false (by omega)) <| kmv rfl <| K.fieldAddr rfl rfl (.taken rfl rfl) ?_; refine K.loadOne rfl rfl rfl (.taken rfl rfl) ?_; refine K.gtr rfl rfl (decide_eq_true (by omega)) (.taken rfl rfl) ?_; refine kpf rfl rfl <| kmv rfl <| RunK.passed rfl rfl rfl <| RunK.passed rfl rfl rfl <| RunK.passed rfl rfl rfl <| RunK.passed rfl rfl rfl <| kpt rfl rfl <| kmv rfl <| RunK.passed rfl rfl rfl <| RunK.passed rfl rfl rfl <| RunK.passed rfl rfl rfl <| kpt rfl rfl <| kmv rfl <| RunK.passed rfl rfl rfl ?_; refine RunK.passed rfl rfl rfl <| RunK.passed rfl rfl rfl <| kpt rfl rfl <| kmv rfl <| RunK.passed rfl rfl rfl <| RunK.passed rfl rfl rfl <| RunK.passed rfl rfl rfl <| kpt rfl rfl <| kmv rfl <| RunK.passed rfl rfl rfl <| RunK.passed rfl rfl rfl <| RunK.passed rfl rfl rfl <| kpt rfl rfl <| kmv rfl ?_; refine RunK.passed rfl rfl rfl <| RunK.passed rfl rfl rfl <| RunK.passed rfl rfl rfl <| RunK.passed rfl rfl rfl <| RunK.passed rfl rfl rfl <| kpt rfl rfl <| RunK.nil <| LWP.condT rfl ?_; refine LWP.seq <| LWP.region (by kernel_rfl) <| kas rfl <| RunK.nil <| LWP.ret ?_)
      exact ⟨[_], ⟨rfl, trivial⟩, rfl⟩
    cases hg : gd x.k with
    | false =>
      rw [hbad (fun h => by rw [(okI_facts h.1).2.1] at hg; cases hg)]
      rw [hg] at hG
      (refine LWP.seq <| LWP.seq <| LWP.region (by kernel_rfl) <| kmv rfl <| kmv rfl <| K.lenX rfl SliceT.h rfl .plain ?_; refine klt rfl rfl (decide_eq_true (by omega)) <| RunK.nil <| LWP.condT rfl ?_; refine LWP.skip ?_; refine LWP.seq <| LWP.block <| LWP.seq <| LWP.region (by kernel_rfl) <| kmv rfl <| kmv rfl <| K.indexX rfl rfl SliceT.h (by omega) hio .plain <| K.loadXagg rfl hX (by kernel_rfl) hsz hcs .plain <| K.alloc rfl .plain ?_; refine K.storeAll rfl rfl rfl rfl rfl rfl .plain ?_; refine RunK.nil <| LWP.seq <| LWP.seq <| LWP.region (by kernel_rfl) <| kfa rfl rfl ?_; refine kl1 rfl rfl rfl <| klt rfl rfl (decide_eq_false (by omega)) <| kmv rfl <| K.fieldAddr rfl rfl (.taken rfl rfl) ?_; refine K.loadOne rfl rfl rfl (.taken rfl rfl) ?_; refine K.gtr rfl rfl (decide_eq_false (by omega)) (.taken rfl rfl) ?_; refine kpf rfl rfl <| kmv rfl <| K.fieldAddr rfl rfl (.taken rfl rfl) ?_; refine K.loadPart rfl rfl rfl (by exact nl3 rfl rfl rfl rfl) (.taken rfl rfl) ?_; refine gca rfl rfl (hG) rfl rfl <| K.not rfl rfl (.taken rfl rfl) ?_; refine kpf rfl rfl <| kmv rfl <| RunK.passed rfl rfl rfl <| RunK.passed rfl rfl rfl <| RunK.passed rfl rfl rfl <| kpt rfl rfl <| kmv rfl <| RunK.passed rfl rfl rfl <| RunK.passed rfl rfl rfl <| RunK.passed rfl rfl rfl <| kpt rfl rfl <| kmv rfl <| RunK.passed rfl rfl rfl <| RunK.passed rfl rfl rfl ?_; refine RunK.passed rfl rfl rfl <| kpt rfl rfl <| kmv rfl <| RunK.passed rfl rfl rfl <| RunK.passed rfl rfl rfl <| RunK.passed rfl rfl rfl <| kpt rfl rfl <| kmv rfl <| RunK.passed rfl rfl rfl <| RunK.passed rfl rfl rfl <| RunK.passed rfl rfl rfl <| RunK.passed rfl rfl rfl <| RunK.passed rfl rfl rfl <| kpt rfl rfl ?_; refine RunK.nil <| LWP.condT rfl ?_; refine LWP.seq <| LWP.region (by kernel_rfl) <| kas rfl <| RunK.nil <| LWP.ret ?_)
      exact ⟨[_], ⟨rfl, trivial⟩, rfl⟩
    | true =>
    rw [hg] at hG
    by_cases c3 : x.a < 0
    · rw [hbad (fun h => by have := (okI_facts h.1).2.2.1; omega)]
      (refine LWP.seq <| LWP.seq <| LWP.region (by kernel_rfl) <| kmv rfl <| kmv rfl <| K.lenX rfl SliceT.h rfl .plain ?_; refine klt rfl rfl (decide_eq_true (by omega)) <| RunK.nil <| LWP.condT rfl ?_; refine LWP.skip ?_; refine LWP.seq <| LWP.block <| LWP.seq <| LWP.region (by kernel_rfl) <| kmv rfl <| kmv rfl <| K.indexX rfl rfl SliceT.h (by omega) hio .plain <| K.loadXagg rfl hX (by kernel_rfl) hsz hcs .plain <| K.alloc rfl .plain ?_; refine K.storeAll rfl rfl rfl rfl rfl rfl .plain ?_; refine RunK.nil <| LWP.seq <| LWP.seq <| LWP.region (by kernel_rfl) <| kfa rfl rfl ?_; refine kl1 rfl rfl rfl <| klt rfl rfl (decide_eq_false (by omega)) <| kmv rfl <| K.fieldAddr rfl rfl (.taken rfl rfl) ?_; refine K.loadOne rfl rfl rfl (.taken rfl rfl) ?_; refine K.gtr rfl rfl (decide_eq_false (by omega)) (.taken rfl rfl) ?_; refine kpf rfl rfl <| kmv rfl <| K.fieldAddr rfl rfl (.taken rfl rfl) ?_; refine K.loadPart rfl rfl rfl (by exact nl3 rfl rfl rfl rfl) (.taken rfl rfl) ?_; refine gca rfl rfl (hG) rfl rfl <| K.not rfl rfl (.taken rfl rfl) ?_; refine kpf rfl rfl <| kmv rfl <| K.fieldAddr rfl rfl (.taken rfl rfl) ?_; refine K.loadOne rfl rfl rfl (.taken rfl rfl) ?_; refine K.lss rfl rfl (decide_eq_true (by omega)) (.taken rfl rfl) ?_; refine kpf rfl rfl <| kmv rfl <| RunK.passed rfl rfl rfl <| RunK.passed rfl rfl rfl <| RunK.passed rfl rfl rfl <| kpt rfl rfl <| kmv rfl <| RunK.passed rfl rfl rfl <| RunK.passed rfl rfl rfl <| RunK.passed rfl rfl rfl <| kpt rfl rfl <| kmv rfl <| RunK.passed rfl rfl rfl <| RunK.passed rfl rfl rfl ?_; refine RunK.passed rfl rfl rfl <| kpt rfl rfl <| kmv rfl <| RunK.passed rfl rfl rfl <| RunK.passed rfl rfl rfl <| RunK.passed rfl rfl rfl <| RunK.passed rfl rfl rfl <| RunK.passed rfl rfl rfl <| kpt rfl rfl <| RunK.nil <| LWP.condT rfl ?_; refine LWP.seq <| LWP.region (by kernel_rfl) <| kas rfl <| RunK.nil <| LWP.ret ?_)
      exact ⟨[_], ⟨rfl, trivial⟩, rfl⟩
    by_cases c4 : 7 < x.a
    · rw [hbad (fun h => by have := (okI_facts h.1).2.2.1; omega)]
      ((refine LWP.seq <| LWP.seq <| LWP.region (by kernel_rfl) <| kmv rfl <| kmv rfl <| K.lenX rfl SliceT.h rfl .plain ?_; refine klt rfl rfl (decide_eq_true (by omega)) <| RunK.nil <| LWP.condT rfl ?_; refine LWP.skip ?_; refine LWP.seq <| LWP.block <| LWP.seq <| LWP.region (by kernel_rfl) <| kmv rfl <| kmv rfl <| K.indexX rfl rfl SliceT.h (by omega) hio .plain <| K.loadXagg rfl hX (by kernel_rfl) hsz hcs .plain <| K.alloc rfl .plain ?_; refine K.storeAll rfl rfl rfl rfl rfl rfl .plain ?_; refine RunK.nil <| LWP.seq <| LWP.seq <| LWP.region (by kernel_rfl) <| kfa rfl rfl ?_; refine kl1 rfl rfl rfl <| klt rfl rfl (decide_eq_false (by omega)) <| kmv rfl <| K.fieldAddr rfl rfl (.taken rfl rfl) ?_; refine K.loadOne rfl rfl rfl (.taken rfl rfl) ?_; refine K.gtr rfl rfl (decide_eq_false (by omega)) (.taken rfl rfl) ?_; refine kpf rfl rfl <| kmv rfl <| K.fieldAddr rfl rfl (.taken rfl rfl) ?_; refine K.loadPart rfl rfl rfl (by exact nl3 rfl rfl rfl rfl) (.taken rfl rfl) ?_; refine gca rfl rfl (hG) rfl rfl <| K.not rfl rfl (.taken rfl rfl) ?_); (refine kpf rfl rfl <| kmv rfl <| K.fieldAddr rfl rfl (.taken rfl rfl) ?_; refine K.loadOne rfl rfl rfl (.taken rfl rfl) ?_; refine K.lss rfl rfl (decide_eq_false (by omega)) (.taken rfl rfl) ?_; refine kpf rfl rfl <| kmv rfl <| K.fieldAddr rfl rfl (.taken rfl rfl) ?_; refine K.loadOne rfl rfl rfl (.taken rfl rfl) ?_; refine K.gtr rfl rfl (decide_eq_true (by omega)) (.taken rfl rfl) ?_; refine kpf rfl rfl <| kmv rfl <| RunK.passed rfl rfl rfl <| RunK.passed rfl rfl rfl <| RunK.passed rfl rfl rfl <| kpt rfl rfl <| kmv rfl <| RunK.passed rfl rfl rfl <| RunK.passed rfl rfl rfl <| RunK.passed rfl rfl rfl <| kpt rfl rfl <| kmv rfl <| RunK.passed rfl rfl rfl <| RunK.passed rfl rfl rfl ?_; refine RunK.passed rfl rfl rfl <| RunK.passed rfl rfl rfl <| RunK.passed rfl rfl rfl <| kpt rfl rfl <| RunK.nil <| LWP.condT rfl ?_; refine LWP.seq <| LWP.region (by kernel_rfl) <| kas rfl <| RunK.nil <| LWP.ret ?_))
      exact ⟨[_], ⟨rfl, trivial⟩, rfl⟩
    by_cases c5 : x.b < 0
    · rw [hbad (fun h => by have := (okI_facts h.1).2.2.2; omega)]
      ((refine LWP.seq <| LWP.seq <| LWP.region (by kernel_rfl) <| kmv rfl <| kmv rfl <| K.lenX rfl SliceT.h rfl .plain ?_; refine klt rfl rfl (decide_eq_true (by omega)) <| RunK.nil <| LWP.condT rfl ?_; refine LWP.skip ?_; refine LWP.seq <| LWP.block <| LWP.seq <| LWP.region (by kernel_rfl) <| kmv rfl <| kmv rfl <| K.indexX rfl rfl SliceT.h (by omega) hio .plain <| K.loadXagg rfl hX (by kernel_rfl) hsz hcs .plain <| K.alloc rfl .plain ?_; refine K.storeAll rfl rfl rfl rfl rfl rfl .plain ?_; refine RunK.nil <| LWP.seq <| LWP.seq <| LWP.region (by kernel_rfl) <| kfa rfl rfl ?_; refine kl1 rfl rfl rfl <| klt rfl rfl (decide_eq_false (by omega)) <| kmv rfl <| K.fieldAddr rfl rfl (.taken rfl rfl) ?_; refine K.loadOne rfl rfl rfl (.taken rfl rfl) ?_; refine K.gtr rfl rfl (decide_eq_false (by omega)) (.taken rfl rfl) ?_; refine kpf rfl rfl <| kmv rfl <| K.fieldAddr rfl rfl (.taken rfl rfl) ?_; refine K.loadPart rfl rfl rfl (by exact nl3 rfl rfl rfl rfl) (.taken rfl rfl) ?_; refine gca rfl rfl (hG) rfl rfl <| K.not rfl rfl (.taken rfl rfl) ?_); (refine kpf rfl rfl <| kmv rfl <| K.fieldAddr rfl rfl (.taken rfl rfl) ?_; refine K.loadOne rfl rfl rfl (.taken rfl rfl) ?_; refine K.lss rfl rfl (decide_eq_false (by omega)) (.taken rfl rfl) ?_; refine kpf rfl rfl <| kmv rfl <| K.fieldAddr rfl rfl (.taken rfl rfl) ?_; refine K.loadOne rfl rfl rfl (.taken rfl rfl) ?_; refine K.gtr rfl rfl (decide_eq_false (by omega)) (.taken rfl rfl) ?_; refine kpf rfl rfl <| kmv rfl <| K.fieldAddr rfl rfl (.taken rfl rfl) ?_; refine K.loadOne rfl rfl rfl (.taken rfl rfl) ?_; refine K.lss rfl rfl (decide_eq_true (by omega)) (.taken rfl rfl) ?_; refine kpf rfl rfl <| kmv rfl <| RunK.passed rfl rfl rfl <| RunK.passed rfl rfl rfl <| RunK.passed rfl rfl rfl <| kpt rfl rfl <| kmv rfl <| RunK.passed rfl rfl rfl <| RunK.passed rfl rfl rfl <| RunK.passed rfl rfl rfl <| RunK.passed rfl rfl rfl <| RunK.passed rfl rfl rfl <| kpt rfl rfl <| RunK.nil ?_; refine LWP.condT rfl ?_; refine LWP.seq <| LWP.region (by kernel_rfl) <| kas rfl <| RunK.nil <| LWP.ret ?_))
      exact ⟨[_], ⟨rfl, trivial⟩, rfl⟩
    by_cases c6 : 7 < x.b
    · rw [hbad (fun h => by have := (okI_facts h.1).2.2.2; omega)]
      ((refine LWP.seq <| LWP.seq <| LWP.region (by kernel_rfl) <| kmv rfl <| kmv rfl <| K.lenX rfl SliceT.h rfl .plain ?_; refine klt rfl rfl (decide_eq_true (by omega)) <| RunK.nil <| LWP.condT rfl ?_; refine LWP.skip ?_; refine LWP.seq <| LWP.block <| LWP.seq <| LWP.region (by kernel_rfl) <| kmv rfl <| kmv rfl <| K.indexX rfl rfl SliceT.h (by omega) hio .plain <| K.loadXagg rfl hX (by kernel_rfl) hsz hcs .plain <| K.alloc rfl .plain ?_; refine K.storeAll rfl rfl rfl rfl rfl rfl .plain ?_; refine RunK.nil <| LWP.seq <| LWP.seq <| LWP.region (by kernel_rfl) <| kfa rfl rfl ?_; refine kl1 rfl rfl rfl <| klt rfl rfl (decide_eq_false (by omega)) <| kmv rfl <| K.fieldAddr rfl rfl (.taken rfl rfl) ?_; refine K.loadOne rfl rfl rfl (.taken rfl rfl) ?_; refine K.gtr rfl rfl (decide_eq_false (by omega)) (.taken rfl rfl) ?_; refine kpf rfl rfl <| kmv rfl <| K.fieldAddr rfl rfl (.taken rfl rfl) ?_; refine K.loadPart rfl rfl rfl (by exact nl3 rfl rfl rfl rfl) (.taken rfl rfl) ?_; refine gca rfl rfl (hG) rfl rfl <| K.not rfl rfl (.taken rfl rfl) ?_); (refine kpf rfl rfl <| kmv rfl <| K.fieldAddr rfl rfl (.taken rfl rfl) ?_; refine K.loadOne rfl rfl rfl (.taken rfl rfl) ?_; refine K.lss rfl rfl (decide_eq_false (by omega)) (.taken rfl rfl) ?_; refine kpf rfl rfl <| kmv rfl <| K.fieldAddr rfl rfl (.taken rfl rfl) ?_; refine K.loadOne rfl rfl rfl (.taken rfl rfl) ?_; refine K.gtr rfl rfl (decide_eq_false (by omega)) (.taken rfl rfl) ?_; refine kpf rfl rfl <| kmv rfl <| K.fieldAddr rfl rfl (.taken rfl rfl) ?_; refine K.loadOne rfl rfl rfl (.taken rfl rfl) ?_; refine K.lss rfl rfl (decide_eq_false (by omega)) (.taken rfl rfl) ?_; refine kpf rfl rfl <| kmv rfl <| K.fieldAddr rfl rfl (.taken rfl rfl) ?_; refine K.loadOne rfl rfl rfl (.taken rfl rfl) ?_; refine K.gtr rfl rfl (decide_eq_true (by omega)) (.taken rfl rfl) ?_); (refine kpf rfl rfl <| kmv rfl <| RunK.passed rfl rfl rfl <| RunK.passed rfl rfl rfl <| RunK.passed rfl rfl rfl <| RunK.passed rfl rfl rfl <| RunK.passed rfl rfl rfl <| kpt rfl rfl <| RunK.nil <| LWP.condT rfl ?_; refine LWP.seq <| LWP.region (by kernel_rfl) <| kas rfl <| RunK.nil <| LWP.ret ?_))
      exact ⟨[_], ⟨rfl, trivial⟩, rfl⟩
    by_cases c7 : n < takes x.op
    · rw [hbad (fun h => by have := h.2.1; omega)]
      ((refine LWP.seq <| LWP.seq <| LWP.region (by kernel_rfl) <| kmv rfl <| kmv rfl <| K.lenX rfl SliceT.h rfl .plain ?_; refine klt rfl rfl (decide_eq_true (by omega)) <| RunK.nil <| LWP.condT rfl ?_; refine LWP.skip ?_; refine LWP.seq <| LWP.block <| LWP.seq <| LWP.region (by kernel_rfl) <| kmv rfl <| kmv rfl <| K.indexX rfl rfl SliceT.h (by omega) hio .plain <| K.loadXagg rfl hX (by kernel_rfl) hsz hcs .plain <| K.alloc rfl .plain ?_; refine K.storeAll rfl rfl rfl rfl rfl rfl .plain ?_; refine RunK.nil <| LWP.seq <| LWP.seq <| LWP.region (by kernel_rfl) <| kfa rfl rfl ?_; refine kl1 rfl rfl rfl <| klt rfl rfl (decide_eq_false (by omega)) <| kmv rfl <| K.fieldAddr rfl rfl (.taken rfl rfl) ?_; refine K.loadOne rfl rfl rfl (.taken rfl rfl) ?_; refine K.gtr rfl rfl (decide_eq_false (by omega)) (.taken rfl rfl) ?_; refine kpf rfl rfl <| kmv rfl <| K.fieldAddr rfl rfl (.taken rfl rfl) ?_; refine K.loadPart rfl rfl rfl (by exact nl3 rfl rfl rfl rfl) (.taken rfl rfl) ?_; refine gca rfl rfl (hG) rfl rfl <| K.not rfl rfl (.taken rfl rfl) ?_); (refine kpf rfl rfl <| kmv rfl <| K.fieldAddr rfl rfl (.taken rfl rfl) ?_; refine K.loadOne rfl rfl rfl (.taken rfl rfl) ?_; refine K.lss rfl rfl (decide_eq_false (by omega)) (.taken rfl rfl) ?_; refine kpf rfl rfl <| kmv rfl <| K.fieldAddr rfl rfl (.taken rfl rfl) ?_; refine K.loadOne rfl rfl rfl (.taken rfl rfl) ?_; refine K.gtr rfl rfl (decide_eq_false (by omega)) (.taken rfl rfl) ?_; refine kpf rfl rfl <| kmv rfl <| K.fieldAddr rfl rfl (.taken rfl rfl) ?_; refine K.loadOne rfl rfl rfl (.taken rfl rfl) ?_; refine K.lss rfl rfl (decide_eq_false (by omega)) (.taken rfl rfl) ?_; refine kpf rfl rfl <| kmv rfl <| K.fieldAddr rfl rfl (.taken rfl rfl) ?_; refine K.loadOne rfl rfl rfl (.taken rfl rfl) ?_; refine K.gtr rfl rfl (decide_eq_false (by omega)) (.taken rfl rfl) ?_); (refine kpf rfl rfl <| kmv rfl <| gmv rfl rfl rfl <| K.fieldAddr rfl rfl (.taken rfl rfl) ?_; refine K.loadOne rfl rfl rfl (.taken rfl rfl) ?_; refine gca rfl rfl (hT) rfl rfl <| K.lss rfl rfl (decide_eq_true (by omega)) (.taken rfl rfl) ?_; refine kpf rfl rfl <| RunK.nil <| LWP.condT rfl ?_; refine LWP.seq <| LWP.region (by kernel_rfl) <| kas rfl <| RunK.nil <| LWP.ret ?_))
      exact ⟨[_], ⟨rfl, trivial⟩, rfl⟩
    have hok : okI x = true := by
      unfold okI
      rw [hg, decide_eq_true (show 1 ≤ x.op by omega), decide_eq_true (show x.op ≤ 17 by omega), decide_eq_true (show 0 ≤ x.a by omega), decide_eq_true (show x.a ≤ 7 by omega), decide_eq_true (show 0 ≤ x.b by omega), decide_eq_true (show x.b ≤ 7 by omega)]
      rfl
    have hsub : IntKind.i64.wrap ((n : Int) - (takes x.op : Nat)) = ((n - takes x.op : Nat) : Int) := by rw [wrap_i64 (by omega)]; omega
    have hadd : IntKind.i64.wrap (((n - takes x.op : Nat) : Int) + 1) = ((n - takes x.op + 1 : Nat) : Int) := by rw [wrap_i64 (by omega)]; omega
    by_cases c8 : 16 < n - takes x.op + 1
    · rw [hbad (fun h => by have := h.2.2; omega)]
      ((refine LWP.seq <| LWP.seq <| LWP.region (by kernel_rfl) <| kmv rfl <| kmv rfl <| K.lenX rfl SliceT.h rfl .plain ?_; refine klt rfl rfl (decide_eq_true (by omega)) <| RunK.nil <| LWP.condT rfl ?_; refine LWP.skip ?_; refine LWP.seq <| LWP.block <| LWP.seq <| LWP.region (by kernel_rfl) <| kmv rfl <| kmv rfl <| K.indexX rfl rfl SliceT.h (by omega) hio .plain <| K.loadXagg rfl hX (by kernel_rfl) hsz hcs .plain <| K.alloc rfl .plain ?_; refine K.storeAll rfl rfl rfl rfl rfl rfl .plain ?_; refine RunK.nil <| LWP.seq <| LWP.seq <| LWP.region (by kernel_rfl) <| kfa rfl rfl ?_; refine kl1 rfl rfl rfl <| klt rfl rfl (decide_eq_false (by omega)) <| kmv rfl <| K.fieldAddr rfl rfl (.taken rfl rfl) ?_; refine K.loadOne rfl rfl rfl (.taken rfl rfl) ?_; refine K.gtr rfl rfl (decide_eq_false (by omega)) (.taken rfl rfl) ?_; refine kpf rfl rfl <| kmv rfl <| K.fieldAddr rfl rfl (.taken rfl rfl) ?_; refine K.loadPart rfl rfl rfl (by exact nl3 rfl rfl rfl rfl) (.taken rfl rfl) ?_; refine gca rfl rfl (hG) rfl rfl <| K.not rfl rfl (.taken rfl rfl) ?_); (refine kpf rfl rfl <| kmv rfl <| K.fieldAddr rfl rfl (.taken rfl rfl) ?_; refine K.loadOne rfl rfl rfl (.taken rfl rfl) ?_; refine K.lss rfl rfl (decide_eq_false (by omega)) (.taken rfl rfl) ?_; refine kpf rfl rfl <| kmv rfl <| K.fieldAddr rfl rfl (.taken rfl rfl) ?_; refine K.loadOne rfl rfl rfl (.taken rfl rfl) ?_; refine K.gtr rfl rfl (decide_eq_false (by omega)) (.taken rfl rfl) ?_; refine kpf rfl rfl <| kmv rfl <| K.fieldAddr rfl rfl (.taken rfl rfl) ?_; refine K.loadOne rfl rfl rfl (.taken rfl rfl) ?_; refine K.lss rfl rfl (decide_eq_false (by omega)) (.taken rfl rfl) ?_; refine kpf rfl rfl <| kmv rfl <| K.fieldAddr rfl rfl (.taken rfl rfl) ?_; refine K.loadOne rfl rfl rfl (.taken rfl rfl) ?_; refine K.gtr rfl rfl (decide_eq_false (by omega)) (.taken rfl rfl) ?_); (refine kpf rfl rfl <| kmv rfl <| gmv rfl rfl rfl <| K.fieldAddr rfl rfl (.taken rfl rfl) ?_; refine K.loadOne rfl rfl rfl (.taken rfl rfl) ?_; refine gca rfl rfl (hT) rfl rfl <| K.lss rfl rfl (decide_eq_false (by omega)) (.taken rfl rfl) ?_; refine kpf rfl rfl <| RunK.nil <| LWP.condF rfl ?_; refine LWP.skip ?_; refine LWP.seq <| LWP.region (by kernel_rfl) <| kmv rfl <| kfa rfl rfl ?_; refine kl1 rfl rfl rfl <| kca rfl rfl (hT) <| K.sub rfl rfl hsub .plain <| kad rfl rfl hadd <| kas rfl <| RunK.nil <| LWP.seq <| LWP.region (by kernel_rfl) <| kmv rfl <| K.gtr rfl rfl (decide_eq_true (by omega)) .plain <| RunK.nil <| LWP.condT rfl ?_; refine LWP.seq <| LWP.region (by kernel_rfl) <| kas rfl <| RunK.nil <| LWP.ret ?_))
      exact ⟨[_], ⟨rfl, trivial⟩, rfl⟩
    have hadi : IntKind.i64.wrap ((i : Int) + 1) = ((i + 1 : Nat) : Int) := by rw [wrap_i64 (by omega)]; omega
    have hnext := (dep_snoc hd hx).trans (if_pos ⟨hok, by omega, by omega⟩)
    ((refine LWP.seq <| LWP.seq <| LWP.region (by kernel_rfl) <| kmv rfl <| kmv rfl <| K.lenX rfl SliceT.h rfl .plain ?_; refine klt rfl rfl (decide_eq_true (by omega)) <| RunK.nil <| LWP.condT rfl ?_; refine LWP.skip ?_; refine LWP.seq <| LWP.block <| LWP.seq <| LWP.region (by kernel_rfl) <| kmv rfl <| kmv rfl <| K.indexX rfl rfl SliceT.h (by omega) hio .plain <| K.loadXagg rfl hX (by kernel_rfl) hsz hcs .plain <| K.alloc rfl .plain ?_; refine K.storeAll rfl rfl rfl rfl rfl rfl .plain ?_; refine RunK.nil <| LWP.seq <| LWP.seq <| LWP.region (by kernel_rfl) <| kfa rfl rfl ?_; refine kl1 rfl rfl rfl <| klt rfl rfl (decide_eq_false (by omega)) <| kmv rfl <| K.fieldAddr rfl rfl (.taken rfl rfl) ?_; refine K.loadOne rfl rfl rfl (.taken rfl rfl) ?_; refine K.gtr rfl rfl (decide_eq_false (by omega)) (.taken rfl rfl) ?_; refine kpf rfl rfl <| kmv rfl <| K.fieldAddr rfl rfl (.taken rfl rfl) ?_; refine K.loadPart rfl rfl rfl (by exact nl3 rfl rfl rfl rfl) (.taken rfl rfl) ?_; refine gca rfl rfl (hG) rfl rfl <| K.not rfl rfl (.taken rfl rfl) ?_); (refine kpf rfl rfl <| kmv rfl <| K.fieldAddr rfl rfl (.taken rfl rfl) ?_; refine K.loadOne rfl rfl rfl (.taken rfl rfl) ?_; refine K.lss rfl rfl (decide_eq_false (by omega)) (.taken rfl rfl) ?_; refine kpf rfl rfl <| kmv rfl <| K.fieldAddr rfl rfl (.taken rfl rfl) ?_; refine K.loadOne rfl rfl rfl (.taken rfl rfl) ?_; refine K.gtr rfl rfl (decide_eq_false (by omega)) (.taken rfl rfl) ?_; refine kpf rfl rfl <| kmv rfl <| K.fieldAddr rfl rfl (.taken rfl rfl) ?_; refine K.loadOne rfl rfl rfl (.taken rfl rfl) ?_; refine K.lss rfl rfl (decide_eq_false (by omega)) (.taken rfl rfl) ?_; refine kpf rfl rfl <| kmv rfl <| K.fieldAddr rfl rfl (.taken rfl rfl) ?_; refine K.loadOne rfl rfl rfl (.taken rfl rfl) ?_; refine K.gtr rfl rfl (decide_eq_false (by omega)) (.taken rfl rfl) ?_); (refine kpf rfl rfl <| kmv rfl <| gmv rfl rfl rfl <| K.fieldAddr rfl rfl (.taken rfl rfl) ?_; refine K.loadOne rfl rfl rfl (.taken rfl rfl) ?_; refine gca rfl rfl (hT) rfl rfl <| K.lss rfl rfl (decide_eq_false (by omega)) (.taken rfl rfl) ?_; refine kpf rfl rfl <| RunK.nil <| LWP.condF rfl ?_; refine LWP.skip ?_; refine LWP.seq <| LWP.region (by kernel_rfl) <| kmv rfl <| kfa rfl rfl ?_; refine kl1 rfl rfl rfl <| kca rfl rfl (hT) <| K.sub rfl rfl hsub .plain <| kad rfl rfl hadd <| kas rfl <| RunK.nil <| LWP.seq <| LWP.region (by kernel_rfl) <| kmv rfl <| K.gtr rfl rfl (decide_eq_false (by omega)) .plain <| RunK.nil <| LWP.condF rfl ?_; refine LWP.skip ?_; refine LWP.region (by kernel_rfl) <| kmv rfl <| kad rfl rfl hadi <| kas rfl <| RunK.nil ?_))
    exact ⟨_, ⟨[(0, Lx (some ⟨blk, off, none⟩) l.length cap), (3, Ln .i64 (n - takes x.op + 1 : Nat)), (4, Ln .i64 (i + 1 : Nat))], [], X⟩, by omega, Le.of (by exact ⟨rfl, rfl, rfl, trivial⟩) (by exact trivial) (by exact rfl) (by exact rfl) (by exact rfl), i + 1, _, by omega, rfl, hnext, rfl⟩
  have e : i = l.length := by omega
  subst e
  rw [List.take_length] at hd
  by_cases h1 : n = 1
  · have e : chkX l = 0 := by unfold chkX; rw [if_neg hlong, if_pos (by rw [hd, h1])]
    rw [e]
    (refine LWP.seq <| LWP.seq <| LWP.region (by kernel_rfl) <| kmv rfl <| kmv rfl <| K.lenX rfl SliceT.h rfl .plain ?_; refine klt rfl rfl (decide_eq_false (by omega)) <| RunK.nil <| LWP.condF rfl ?_; refine LWP.exit <| LWP.seq <| LWP.seq <| LWP.region (by kernel_rfl) <| kmv rfl <| kne rfl rfl (bne_eq_false_iff_eq.2 (by omega)) <| RunK.nil <| LWP.condF rfl ?_; refine LWP.skip ?_; refine LWP.seq <| LWP.region (by kernel_rfl) <| kas rfl <| RunK.nil <| LWP.ret ?_)
    exact ⟨[_], ⟨rfl, trivial⟩, rfl⟩
  · have e : chkX l = 4 := by unfold chkX; rw [if_neg hlong, if_neg (by rw [hd]; exact fun h => h1 (by simpa using h))]
    rw [e]
    (refine LWP.seq <| LWP.seq <| LWP.region (by kernel_rfl) <| kmv rfl <| kmv rfl <| K.lenX rfl SliceT.h rfl .plain ?_; refine klt rfl rfl (decide_eq_false (by omega)) <| RunK.nil <| LWP.condF rfl ?_; refine LWP.exit <| LWP.seq <| LWP.seq <| LWP.region (by kernel_rfl) <| kmv rfl <| kne rfl rfl (bne_iff_ne.2 (by omega)) <| RunK.nil <| LWP.condT rfl ?_; refine LWP.seq <| LWP.region (by kernel_rfl) <| kas rfl <| RunK.nil <| LWP.ret ?_)
    exact ⟨[_], ⟨rfl, trivial⟩, rfl⟩
end Go.Proofs.YtimpjdbhalnofaaGreatDoor
end
section
namespace Go.Proofs.YtimpjdbhalnofaaGreatDoor
open Go Go.Lg Go.Lg.Fml Go.Lg.Fld Go.Lg.Arith
set_option maxRecDepth 100000
variable (X : Nat → Option Obj)
theorem wrap_o8 (n : Int) : IntKind.u8.wrap n = ((o8 n).toNat : Nat) := by
  unfold o8
  rw [UInt8.toNat_ofNat', IntKind.wrap_u8]
  omega
set_option maxHeartbeats 1600000 in
theorem rWord_spec (n : Nat) (hn : n < 18446744073709551616) : PSpec Tryz.prog X 43 [Ln .u64 (n : Nat)] (Ls (leB 8 n)) := by
  refine PSpec.intro Tryz.func43 rfl (by kernel_rfl) rfl rfl ?_
  intro C
  (refine LWP.seq <| LWP.region (by kernel_rfl) <| kas rfl <| RunK.nil <| LWP.seq <| LWP.region (by kernel_rfl) <| K.buildSlc (zs := []) (sz := 1) (e := 5) (by kernel_rfl) rfl rfl rfl rfl rfl rfl .plain <| kas rfl <| RunK.nil <| LWP.seq <| LWP.seq <| LWP.region (by kernel_rfl) <| kas rfl <| RunK.nil ?_; refine LWP.block ?_)
  refine LWP.loop (fun m σ => ∃ (i : Nat) (row : Bool), i ≤ 8 ∧ m = 8 - i ∧ σ = ⟨[(0, Ln .u64 (n / 256 ^ i : Nat)), (3, .sv (.one (.slc 500 0 i))), (4, Ln .i64 (i : Nat))], [(500, some ⟨5, ((leB 8 n).take i).map bc, row⟩)], X⟩) 8
    ⟨_, Le.ofR [(500, 5)] (by exact ⟨by rw [Nat.pow_zero, Nat.div_one]; rfl, rfl, rfl, trivial⟩) (by repeat' (first | exact trivial | refine And.intro ⟨_, rfl, ?_⟩ ?_ | refine And.intro ⟨_, rfl⟩ ?_ | rfl | exact Box.ren_bytes _ _ _ _ | exact Box.ren_vals _ _ _ _ | exact Box.ren_mid rfl)) (by exact rfl) (by exact rfl) (by repeat' (first | refine all_cons_true ?_ ?_ | rfl | exact bytes_inUse | exact vals_inUse | exact mid_inUse rfl)) (by exact rfl) (by exact rfl), 0, false, Nat.zero_le _, rfl, rfl⟩ ?_
  rintro m σ ⟨i, row, hi, rfl, rfl⟩
  by_cases hlt : i < 8
  · have hle : n / 256 ^ i ≤ n := Nat.div_le_self _ _
    have hd : n / 256 ^ i / 256 = n / 256 ^ (i + 1) := by rw [Nat.pow_succ, Nat.div_div_eq_div_mul]
    have hnc := take_next (n := n) hlt
    have hcl : (((leB 8 n).take i).map bc).length = i * 1 := by rw [List.length_map, List.length_take, leB_length]; omega
    have hv : IntKind.u8.wrap (((n / 256 ^ i : Nat) : Int) % 256) = ((UInt8.ofNat (n / 256 ^ i % 256)).toNat : Nat) := by
      rw [UInt8.toNat_ofNat', Nat.mod_eq_of_lt (Nat.mod_lt _ (by decide)), IntKind.wrap_u8]
      omega
    have hq : IntKind.u64.wrap (((n / 256 ^ i : Nat) : Int).tdiv 256) = ((n / 256 ^ (i + 1) : Nat) : Int) := by
      rw [← hd]
      clear hv hnc hd
      generalize n / 256 ^ i = q at *
      rw [quo_u64 (by omega) (by omega)]; omega
    have hadd : IntKind.i64.wrap ((i : Int) + 1) = ((i + 1 : Nat) : Int) := by rw [wrap_i64 (by omega)]; omega
    (refine LWP.seq <| LWP.seq <| LWP.region (by kernel_rfl) <| kmv rfl <| klt rfl rfl (decide_eq_true (by omega)) <| RunK.nil <| LWP.condT rfl ?_; refine LWP.skip ?_; refine LWP.seq <| LWP.block <| LWP.seq <| LWP.region (by kernel_rfl) <| kmv rfl <| kmv rfl <| K.rem rfl rfl (by omega) rfl .plain <| kcv rfl hv ?_; refine K.buildSlc (zs := [.int .u8 0]) (sz := 1) (e := 5) (by kernel_rfl) rfl rfl rfl rfl rfl rfl .plain <| K.appendSlc (by_ := 1) (e2 := 5) (l2 := [bc (UInt8.ofNat (n / 256 ^ i % 256))]) rfl rfl hcl rfl rfl (Nat.le_refl _) rfl rfl (by kernel_rfl) (by kernel_rfl) (by omega) (by omega) rfl rfl hnc .plain <| kas rfl <| RunK.nil <| LWP.region (by kernel_rfl) <| kmv rfl <| K.quo rfl rfl (by omega) hq .plain <| kas rfl <| RunK.nil <| LWP.region (by kernel_rfl) <| kmv rfl <| kad rfl rfl hadd <| kas rfl <| RunK.nil ?_)
    exact ⟨_, ⟨[(0, Ln .u64 (n / 256 ^ (i + 1) : Nat)), (3, .sv (.one (.slc 500 0 (i + 1)))), (4, Ln .i64 (i + 1 : Nat))], [(500, some ⟨5, ((leB 8 n).take (i + 1)).map bc, true⟩)], X⟩, by omega, Le.ofR [(500, 15)] (by exact ⟨rfl, rfl, rfl, trivial⟩) (by repeat' (first | exact trivial | refine And.intro ⟨_, rfl, ?_⟩ ?_ | refine And.intro ⟨_, rfl⟩ ?_ | rfl | exact Box.ren_bytes _ _ _ _ | exact Box.ren_vals _ _ _ _ | exact Box.ren_mid rfl)) (by exact rfl) (by exact rfl) (by repeat' (first | refine all_cons_true ?_ ?_ | rfl | exact bytes_inUse | exact vals_inUse | exact mid_inUse rfl)) (by exact rfl) (by exact rfl), i + 1, true, by omega, rfl, rfl⟩
  · have e : i = 8 := by omega
    subst e
    have hta : (leB 8 n).take 8 = leB 8 n := List.take_of_length_le (by rw [leB_length]; exact Nat.le_refl _)
    rw [hta]
    have hlen : 0 + 8 ≤ ((leB 8 n).map bc).length := by rw [List.length_map, leB_length]; omega
    have hend : (((leB 8 n).map bc).drop 0).take 8 = (leB 8 n).map bc := by rw [List.drop_zero, List.take_of_length_le (by rw [List.length_map, leB_length]; exact Nat.le_refl _)]
    generalize leB 8 n = s at *
    (refine LWP.seq <| LWP.seq <| LWP.region (by kernel_rfl) <| kmv rfl <| klt rfl rfl (r := false) rfl <| RunK.nil <| LWP.condF rfl ?_; refine LWP.exit <| LWP.seq <| LWP.region (by kernel_rfl) <| kmv rfl <| K.convStr rfl rfl (by kernel_rfl) StrT.u hlen hend .plain <| kas rfl <| RunK.nil <| LWP.ret ?_)
    exact ⟨[_], ⟨rfl, trivial⟩, rfl⟩
theorem le_drop {s : List UInt8} {k : Nat} {c : UInt8} (h : s[k]? = some c) : le (s.drop k) = c.toNat + 256 * le (s.drop (k + 1)) := by
  obtain ⟨hk, e⟩ := List.getElem?_eq_some_iff.1 h
  rw [List.drop_eq_getElem_cons hk, e]
  rfl
set_option maxHeartbeats 1600000 in
theorem rNumber_spec (s : List UInt8) (hs : s.length = 8) : PSpec Tryz.prog X 48 [Ls s] (Ln .u64 (le s : Nat)) := by
  refine PSpec.intro Tryz.func48 rfl (by kernel_rfl) rfl rfl ?_
  intro C
  have h0 : le (s.drop 8) = 0 := by rw [← hs, List.drop_length]; rfl
  (refine LWP.seq <| LWP.region (by kernel_rfl) <| kas rfl <| RunK.nil <| LWP.seq <| LWP.region (by kernel_rfl) <| kas rfl <| RunK.nil <| LWP.seq <| LWP.seq <| LWP.region (by kernel_rfl) <| kas rfl <| RunK.nil <| LWP.block ?_)
  refine LWP.loop (fun m σ => ∃ k : Nat, k ≤ 8 ∧ m = k ∧ σ = ⟨[(0, Ls s), (3, Ln .u64 (le (s.drop k) : Nat)), (4, Ln .i64 ((k : Int) - 1))], [], X⟩) 8
    ⟨⟨[(0, Ls s), (3, Ln .u64 (0 : Nat)), (4, Ln .i64 7)], [], X⟩, Le.of (by exact ⟨rfl, rfl, rfl, trivial⟩) (by exact trivial) (by exact rfl) (by exact rfl) (by exact rfl), 8, Nat.le_refl _, rfl, by rw [h0]; rfl⟩ ?_
  rintro m σ ⟨k, hk, rfl, rfl⟩
  by_cases hk0 : m = 0
  · subst hk0
    (refine LWP.seq <| LWP.seq <| LWP.region (by kernel_rfl) <| kmv rfl <| K.geq rfl rfl (r := false) rfl .plain <| RunK.nil <| LWP.condF rfl ?_; refine LWP.exit <| LWP.seq <| LWP.region (by kernel_rfl) <| kmv rfl <| kas rfl <| RunK.nil <| LWP.ret ?_)
    exact ⟨[_], ⟨rfl, trivial⟩, rfl⟩
  · obtain ⟨k, rfl⟩ : ∃ k, m = k + 1 := ⟨m - 1, by omega⟩
    obtain ⟨c, hc⟩ : ∃ c, s[k]? = some c := ⟨_, List.getElem?_eq_getElem (by omega)⟩
    have hstep := le_drop hc
    have hb := le_lt (s.drop (k + 1))
    rw [List.length_drop, hs] at hb
    have hb2 : le (s.drop (k + 1)) < 256 ^ 7 := Nat.lt_of_lt_of_le hb (Nat.pow_le_pow_right (by decide) (by omega))
    rw [show (256 : Nat) ^ 7 = 72057594037927936 by decide] at hb2
    have hcl := c.toNat_lt
    have hci : (⟨s.toArray⟩ : ByteArray)[Int.toNat (((k + 1 : Nat) : Int) - 1)]? = some c := by
      rw [show Int.toNat (((k + 1 : Nat) : Int) - 1) = k by omega]
      exact str_at hc
    have hmul : IntKind.u64.wrap ((le (s.drop (k + 1)) : Nat) * 256) = ((256 * le (s.drop (k + 1)) : Nat) : Int) := by rw [IntKind.wrap_u64]; omega
    have hcv : IntKind.u64.wrap ((c.toNat : Nat) : Int) = ((c.toNat : Nat) : Int) := by rw [IntKind.wrap_u64]; omega
    have hadd : IntKind.u64.wrap (((256 * le (s.drop (k + 1)) : Nat) : Int) + (c.toNat : Nat)) = ((le (s.drop k) : Nat) : Int) := by rw [IntKind.wrap_u64, hstep]; omega
    have hsub : IntKind.i64.wrap ((((k + 1 : Nat) : Int) - 1) - 1) = (k : Int) - 1 := by rw [wrap_i64 (by omega)]; omega
    (refine LWP.seq <| LWP.seq <| LWP.region (by kernel_rfl) <| kmv rfl <| K.geq rfl rfl (decide_eq_true (by omega)) .plain <| RunK.nil <| LWP.condT rfl ?_; refine LWP.skip ?_; refine LWP.seq <| LWP.block <| LWP.region (by kernel_rfl) <| kmv rfl <| K.mul rfl rfl hmul .plain <| kmv rfl <| kmv rfl <| K.indexStr rfl rfl (by omega) hci .plain <| kcv rfl hcv ?_; refine kad rfl rfl hadd <| kas rfl <| RunK.nil <| LWP.region (by kernel_rfl) <| kmv rfl <| K.sub rfl rfl hsub .plain <| kas rfl <| RunK.nil ?_)
    exact ⟨_, ⟨[(0, Ls s), (3, Ln .u64 (le (s.drop k) : Nat)), (4, Ln .i64 ((k : Int) - 1))], [], X⟩, by omega, Le.of (by exact ⟨rfl, rfl, rfl, trivial⟩) (by exact trivial) (by exact rfl) (by exact rfl) (by exact rfl), k, by omega, rfl, rfl⟩
end Go.Proofs.YtimpjdbhalnofaaGreatDoor
end
section
namespace Go.Lg.Sg
open Go Go.Lg
def NuIn (X : Nat → Option Obj) (ad : Option Addr) (l : List Int) : Prop := RowsIn X ad 1 (l.map fun n => [.int .i64 n])
theorem NuIn.at {X : Nat → Option Obj} {ad : Option Addr} {l : List Int} (h : NuIn X ad l) {i : Nat} {x : Int} (hx : l[i]? = some x) : ∃ (blk off : Nat) (arr : Array Value) (el : TypeId) (fr : Nat × Nat), ad = some ⟨blk, off, none⟩ ∧ X blk = some (.cells arr el fr) ∧ arr[off + i * 1]? = some (.int .i64 x) := by
  obtain ⟨blk, off, arr, el, fr, h1, h2, h3, h4⟩ := h i [.int .i64 x] (by rw [List.getElem?_map, hx]; rfl)
  refine ⟨blk, off, arr, el, fr, h1, h2, ?_⟩
  have := congrArg (fun l : List Value => l[0]?) h4
  simpa [List.getElem?_take, List.getElem?_drop] using this
theorem NuIn.mono {X Y : Nat → Option Obj} {ad : Option Addr} {l : List Int} (h : NuIn X ad l) (hm : ∀ b o, X b = some o → Y b = some o) : NuIn Y ad l := RowsIn.mono h hm
end Go.Lg.Sg
end
section
namespace Go.Lg.Fml
end Go.Lg.Fml
namespace Go.Proofs.YtimpjdbhalnofaaGreatDoor
open Go Go.Lg Go.Lg.Fml Go.Lg.Fld Go.Lg.Sg
set_option maxRecDepth 100000
variable (X : Nat → Option Obj)
end Go.Proofs.YtimpjdbhalnofaaGreatDoor
end
section
namespace Go.Proofs.YtimpjdbhalnofaaGreatDoor
open Go Go.Lg Go.Lg.Arith
variable (X : Nat → Option Obj)
theorem mul64_spec (x y p : Int) (hx : 0 ≤ x ∧ x < 18446744073709551616) (hy : 0 ≤ y ∧ y < 18446744073709551616) (hp : x * y = p) :
    PSpec Tryz.prog X 81 [Ln .u64 x, Ln .u64 y] (.tup [Sn .u64 (p / 18446744073709551616), Sn .u64 (p % 18446744073709551616)]) := by
  subst hp
  obtain ⟨a, rfl⟩ := Int.eq_ofNat_of_zero_le hx.1
  obtain ⟨b, rfl⟩ := Int.eq_ofNat_of_zero_le hy.1
  refine PSpec.ofCalls (vals := [.int .u64 a, .int .u64 b]) (v := .tuple #[.int .u64 (a * b / 18446744073709551616), .int .u64 (a * b % 18446744073709551616)]) (by kernel_rfl) rfl rfl (fun w _ => ?_)
  have h := Tryz.bits_Mul64 a b (by omega) (by omega) w
  have e1 : ((a * b / 18446744073709551616 : Nat) : Int) = (a : Int) * b / 18446744073709551616 := by rw [Int.natCast_ediv, Int.natCast_mul]; rfl
  have e2 : ((a * b % 18446744073709551616 : Nat) : Int) = (a : Int) * b % 18446744073709551616 := by rw [Int.natCast_emod, Int.natCast_mul]; rfl
  rw [e1, e2] at h
  exact h
theorem times_spec (M N : Int) (hM : In2 M) (hN : In2 N) (hw : M < 18446744073709551616 ∨ N < 18446744073709551616) (r : Bool) (hr : decide (M * N < 340282366920938463463374607431768211456) = r) :
    PSpec Tryz.prog X 57 [LZ M, LZ N] (.tup [SZ (M * N % 340282366920938463463374607431768211456), Sb r]) := by
  have core : ∀ H L m p q P : Int, 0 ≤ H ∧ H < 18446744073709551616 → 0 ≤ L ∧ L < 18446744073709551616 → 0 ≤ m ∧ m < 18446744073709551616 → H * m = p → L * m = q → (H * 18446744073709551616 + L) * m = P →
      0 ≤ p ∧ 0 ≤ q ∧ P = p * 18446744073709551616 + q ∧ q / 18446744073709551616 < 18446744073709551616 ∧ p / 18446744073709551616 < 18446744073709551616 := by
    intro H L m p q P hH hL hm hp hq hP
    have b1 := mul_bound (A := 18446744073709551615) (B := 18446744073709551615) ⟨hH.1, by omega⟩ (show 0 ≤ m ∧ m ≤ 18446744073709551615 by omega)
    have b2 := mul_bound (A := 18446744073709551615) (B := 18446744073709551615) ⟨hL.1, by omega⟩ (show 0 ≤ m ∧ m ≤ 18446744073709551615 by omega)
    have := times_low hp hq hP
    rw [hp] at b1
    rw [hq] at b2
    omega
  unfold In2 at *
  refine PSpec.intro Tryz.func57 rfl (by kernel_rfl) rfl rfl ?_
  intro C
  by_cases h0 : M / 18446744073709551616 = 0
  · obtain ⟨p, hp⟩ : ∃ p, N / 18446744073709551616 * (M % 18446744073709551616) = p := ⟨_, rfl⟩
    obtain ⟨q, hq⟩ : ∃ q, N % 18446744073709551616 * (M % 18446744073709551616) = q := ⟨_, rfl⟩
    obtain ⟨S, hS⟩ : ∃ S, M * N = S := ⟨_, rfl⟩
    obtain ⟨c1, c2, c3, c4, c5⟩ := core _ _ _ p q S (by omega) (by omega) (by omega) hp hq (by
      rw [← hS, show N / 18446744073709551616 * 18446744073709551616 + N % 18446744073709551616 = N by omega, show M % 18446744073709551616 = M by omega]; exact Int.mul_comm _ _)
    rw [hS] at hr ⊢
    by_cases hP : S < 340282366920938463463374607431768211456
    · rw [decide_eq_true hP] at hr
      subst hr
      (refine LWP.seq <| LWP.region (by kernel_rfl) <| K.box rfl rfl rfl .plain <| K.box rfl rfl rfl .plain <| K.alloc rfl .plain ?_; refine kas rfl <| RunK.nil <| LWP.seq <| LWP.seq <| LWP.region (by kernel_rfl) <| kfa rfl rfl ?_; refine kl1 rfl rfl rfl <| keq rfl rfl (beq_iff_eq.2 (by omega)) <| RunK.nil <| LWP.condT rfl ?_; refine LWP.region (by kernel_rfl) <| K.loadAll rfl rfl rfl .plain ?_; refine K.loadAll rfl rfl rfl .plain ?_; refine K.storeAll rfl rfl rfl rfl rfl rfl .plain ?_; refine K.storeAll rfl rfl rfl rfl rfl rfl .plain ?_; refine RunK.nil <| LWP.seq <| LWP.seq <| LWP.region (by kernel_rfl) <| kfa rfl rfl ?_; refine kl1 rfl rfl rfl <| kne rfl rfl ((bne_eq_false_iff_eq.2 (by omega))) <| RunK.nil <| LWP.condF rfl ?_; refine LWP.skip ?_; refine LWP.seq <| LWP.region (by kernel_rfl) <| kfa rfl rfl ?_; refine kl1 rfl rfl rfl <| kfa rfl rfl ?_; refine kl1 rfl rfl rfl <| kca rfl rfl (mul64_spec _ _ _ p (by omega) (by omega) hp) <| kmv rfl <| kex rfl rfl <| kex rfl rfl <| kas rfl <| kas rfl <| RunK.nil <| LWP.seq <| LWP.region (by kernel_rfl) <| kfa rfl rfl ?_; refine kl1 rfl rfl rfl <| kfa rfl rfl ?_; refine kl1 rfl rfl rfl <| kca rfl rfl (mul64_spec _ _ _ q (by omega) (by omega) hq) <| kmv rfl <| kex rfl rfl <| kex rfl rfl <| kas rfl <| kas rfl <| RunK.nil <| LWP.seq <| LWP.region (by kernel_rfl) <| kmv rfl <| kmv rfl <| K.callN rfl rfl (add64 (s := S % 340282366920938463463374607431768211456 / 18446744073709551616) (t := 0) (by omega) (by omega) (by omega)) rfl .plain <| kmv rfl ?_; refine kex rfl rfl <| kex rfl rfl <| kas rfl <| kas rfl <| RunK.nil <| LWP.seq <| LWP.region (by kernel_rfl) <| kmv rfl <| kmv rfl <| K.build rfl rfl (by exact rfl) (by exact nl2 rfl rfl rfl) .plain ?_; refine kmv rfl <| keq rfl rfl (beq_iff_eq.2 (by omega)) <| kmv rfl <| gmv rfl rfl rfl <| K.eql rfl rfl (beq_iff_eq.2 (by omega)) (.taken rfl rfl) ?_; refine kpt rfl rfl <| K.storeAll rfl rfl rfl rfl rfl rfl .plain ?_; refine kas rfl <| RunK.nil <| LWP.ret ?_)
      unfold SZ; rw [show S % 340282366920938463463374607431768211456 % 18446744073709551616 = q % 18446744073709551616 by omega]
      exact ⟨[_, _], ⟨⟨_, _, rfl, rfl, rfl, .inl ⟨AggT.h, rfl⟩⟩, rfl, trivial⟩, rfl⟩
    · rw [decide_eq_false hP] at hr
      subst hr
      by_cases ho : p / 18446744073709551616 = 0
      · (refine LWP.seq <| LWP.region (by kernel_rfl) <| K.box rfl rfl rfl .plain <| K.box rfl rfl rfl .plain <| K.alloc rfl .plain ?_; refine kas rfl <| RunK.nil <| LWP.seq <| LWP.seq <| LWP.region (by kernel_rfl) <| kfa rfl rfl ?_; refine kl1 rfl rfl rfl <| keq rfl rfl (beq_iff_eq.2 (by omega)) <| RunK.nil <| LWP.condT rfl ?_; refine LWP.region (by kernel_rfl) <| K.loadAll rfl rfl rfl .plain ?_; refine K.loadAll rfl rfl rfl .plain ?_; refine K.storeAll rfl rfl rfl rfl rfl rfl .plain ?_; refine K.storeAll rfl rfl rfl rfl rfl rfl .plain ?_; refine RunK.nil <| LWP.seq <| LWP.seq <| LWP.region (by kernel_rfl) <| kfa rfl rfl ?_; refine kl1 rfl rfl rfl <| kne rfl rfl ((bne_eq_false_iff_eq.2 (by omega))) <| RunK.nil <| LWP.condF rfl ?_; refine LWP.skip ?_; refine LWP.seq <| LWP.region (by kernel_rfl) <| kfa rfl rfl ?_; refine kl1 rfl rfl rfl <| kfa rfl rfl ?_; refine kl1 rfl rfl rfl <| kca rfl rfl (mul64_spec _ _ _ p (by omega) (by omega) hp) <| kmv rfl <| kex rfl rfl <| kex rfl rfl <| kas rfl <| kas rfl <| RunK.nil <| LWP.seq <| LWP.region (by kernel_rfl) <| kfa rfl rfl ?_; refine kl1 rfl rfl rfl <| kfa rfl rfl ?_; refine kl1 rfl rfl rfl <| kca rfl rfl (mul64_spec _ _ _ q (by omega) (by omega) hq) <| kmv rfl <| kex rfl rfl <| kex rfl rfl <| kas rfl <| kas rfl <| RunK.nil <| LWP.seq <| LWP.region (by kernel_rfl) <| kmv rfl <| kmv rfl <| K.callN rfl rfl (add64 (s := S % 340282366920938463463374607431768211456 / 18446744073709551616) (t := 1) (by omega) (by omega) (by omega)) rfl .plain <| kmv rfl ?_; refine kex rfl rfl <| kex rfl rfl <| kas rfl <| kas rfl <| RunK.nil <| LWP.seq <| LWP.region (by kernel_rfl) <| kmv rfl <| kmv rfl <| K.build rfl rfl (by exact rfl) (by exact nl2 rfl rfl rfl) .plain ?_; refine kmv rfl <| keq rfl rfl (beq_iff_eq.2 (by omega)) <| kmv rfl <| gmv rfl rfl rfl <| K.eql rfl rfl (beq_eq_false_iff_ne.2 (by omega)) (.taken rfl rfl) ?_; refine kpt rfl rfl <| K.storeAll rfl rfl rfl rfl rfl rfl .plain ?_; refine kas rfl <| RunK.nil <| LWP.ret ?_)
        unfold SZ; rw [show S % 340282366920938463463374607431768211456 % 18446744073709551616 = q % 18446744073709551616 by omega]
        exact ⟨[_, _], ⟨⟨_, _, rfl, rfl, rfl, .inl ⟨AggT.h, rfl⟩⟩, rfl, trivial⟩, rfl⟩
      · (refine LWP.seq <| LWP.region (by kernel_rfl) <| K.box rfl rfl rfl .plain <| K.box rfl rfl rfl .plain <| K.alloc rfl .plain ?_; refine kas rfl <| RunK.nil <| LWP.seq <| LWP.seq <| LWP.region (by kernel_rfl) <| kfa rfl rfl ?_; refine kl1 rfl rfl rfl <| keq rfl rfl (beq_iff_eq.2 (by omega)) <| RunK.nil <| LWP.condT rfl ?_; refine LWP.region (by kernel_rfl) <| K.loadAll rfl rfl rfl .plain ?_; refine K.loadAll rfl rfl rfl .plain ?_; refine K.storeAll rfl rfl rfl rfl rfl rfl .plain ?_; refine K.storeAll rfl rfl rfl rfl rfl rfl .plain ?_; refine RunK.nil <| LWP.seq <| LWP.seq <| LWP.region (by kernel_rfl) <| kfa rfl rfl ?_; refine kl1 rfl rfl rfl <| kne rfl rfl ((bne_eq_false_iff_eq.2 (by omega))) <| RunK.nil <| LWP.condF rfl ?_; refine LWP.skip ?_; refine LWP.seq <| LWP.region (by kernel_rfl) <| kfa rfl rfl ?_; refine kl1 rfl rfl rfl <| kfa rfl rfl ?_; refine kl1 rfl rfl rfl <| kca rfl rfl (mul64_spec _ _ _ p (by omega) (by omega) hp) <| kmv rfl <| kex rfl rfl <| kex rfl rfl <| kas rfl <| kas rfl <| RunK.nil <| LWP.seq <| LWP.region (by kernel_rfl) <| kfa rfl rfl ?_; refine kl1 rfl rfl rfl <| kfa rfl rfl ?_; refine kl1 rfl rfl rfl <| kca rfl rfl (mul64_spec _ _ _ q (by omega) (by omega) hq) <| kmv rfl <| kex rfl rfl <| kex rfl rfl <| kas rfl <| kas rfl <| RunK.nil <| LWP.seq <| LWP.region (by kernel_rfl) <| kmv rfl <| kmv rfl <| K.callN rfl rfl (add64 (s := S % 340282366920938463463374607431768211456 / 18446744073709551616) (t := (q / 18446744073709551616 + p % 18446744073709551616) / 18446744073709551616) (by omega) (by omega) (by omega)) rfl .plain <| kmv rfl ?_; refine kex rfl rfl <| kex rfl rfl <| kas rfl <| kas rfl <| RunK.nil <| LWP.seq <| LWP.region (by kernel_rfl) <| kmv rfl <| kmv rfl <| K.build rfl rfl (by exact rfl) (by exact nl2 rfl rfl rfl) .plain ?_; refine kmv rfl <| keq rfl rfl (beq_eq_false_iff_ne.2 (by omega)) <| kmv rfl <| RunK.passed rfl rfl rfl <| RunK.passed rfl rfl rfl <| kpf rfl rfl <| K.storeAll rfl rfl rfl rfl rfl rfl .plain ?_; refine kas rfl <| RunK.nil <| LWP.ret ?_)
        unfold SZ; rw [show S % 340282366920938463463374607431768211456 % 18446744073709551616 = q % 18446744073709551616 by omega]
        exact ⟨[_, _], ⟨⟨_, _, rfl, rfl, rfl, .inl ⟨AggT.h, rfl⟩⟩, rfl, trivial⟩, rfl⟩
  · have hN0 : N / 18446744073709551616 = 0 := by omega
    obtain ⟨p, hp⟩ : ∃ p, M / 18446744073709551616 * (N % 18446744073709551616) = p := ⟨_, rfl⟩
    obtain ⟨q, hq⟩ : ∃ q, M % 18446744073709551616 * (N % 18446744073709551616) = q := ⟨_, rfl⟩
    obtain ⟨S, hS⟩ : ∃ S, M * N = S := ⟨_, rfl⟩
    obtain ⟨c1, c2, c3, c4, c5⟩ := core _ _ _ p q S (by omega) (by omega) (by omega) hp hq (by
      rw [← hS, show M / 18446744073709551616 * 18446744073709551616 + M % 18446744073709551616 = M by omega, show N % 18446744073709551616 = N by omega])
    rw [hS] at hr ⊢
    by_cases hP : S < 340282366920938463463374607431768211456
    · rw [decide_eq_true hP] at hr
      subst hr
      (refine LWP.seq <| LWP.region (by kernel_rfl) <| K.box rfl rfl rfl .plain <| K.box rfl rfl rfl .plain <| K.alloc rfl .plain ?_; refine kas rfl <| RunK.nil <| LWP.seq <| LWP.seq <| LWP.region (by kernel_rfl) <| kfa rfl rfl ?_; refine kl1 rfl rfl rfl <| keq rfl rfl (beq_eq_false_iff_ne.2 (by omega)) <| RunK.nil <| LWP.condF rfl ?_; refine LWP.skip ?_; refine LWP.seq <| LWP.seq <| LWP.region (by kernel_rfl) <| kfa rfl rfl ?_; refine kl1 rfl rfl rfl <| kne rfl rfl ((bne_eq_false_iff_eq.2 (by omega))) <| RunK.nil <| LWP.condF rfl ?_; refine LWP.skip ?_; refine LWP.seq <| LWP.region (by kernel_rfl) <| kfa rfl rfl ?_; refine kl1 rfl rfl rfl <| kfa rfl rfl ?_; refine kl1 rfl rfl rfl <| kca rfl rfl (mul64_spec _ _ _ p (by omega) (by omega) hp) <| kmv rfl <| kex rfl rfl <| kex rfl rfl <| kas rfl <| kas rfl <| RunK.nil <| LWP.seq <| LWP.region (by kernel_rfl) <| kfa rfl rfl ?_; refine kl1 rfl rfl rfl <| kfa rfl rfl ?_; refine kl1 rfl rfl rfl <| kca rfl rfl (mul64_spec _ _ _ q (by omega) (by omega) hq) <| kmv rfl <| kex rfl rfl <| kex rfl rfl <| kas rfl <| kas rfl <| RunK.nil <| LWP.seq <| LWP.region (by kernel_rfl) <| kmv rfl <| kmv rfl <| K.callN rfl rfl (add64 (s := S % 340282366920938463463374607431768211456 / 18446744073709551616) (t := 0) (by omega) (by omega) (by omega)) rfl .plain <| kmv rfl ?_; refine kex rfl rfl <| kex rfl rfl <| kas rfl <| kas rfl <| RunK.nil <| LWP.seq <| LWP.region (by kernel_rfl) <| kmv rfl <| kmv rfl <| K.build rfl rfl (by exact rfl) (by exact nl2 rfl rfl rfl) .plain ?_; refine kmv rfl <| keq rfl rfl (beq_iff_eq.2 (by omega)) <| kmv rfl <| gmv rfl rfl rfl <| K.eql rfl rfl (beq_iff_eq.2 (by omega)) (.taken rfl rfl) ?_; refine kpt rfl rfl <| K.storeAll rfl rfl rfl rfl rfl rfl .plain ?_; refine kas rfl <| RunK.nil <| LWP.ret ?_)
      unfold SZ; rw [show S % 340282366920938463463374607431768211456 % 18446744073709551616 = q % 18446744073709551616 by omega]
      exact ⟨[_, _], ⟨⟨_, _, rfl, rfl, rfl, .inl ⟨AggT.h, rfl⟩⟩, rfl, trivial⟩, rfl⟩
    · rw [decide_eq_false hP] at hr
      subst hr
      by_cases ho : p / 18446744073709551616 = 0
      · (refine LWP.seq <| LWP.region (by kernel_rfl) <| K.box rfl rfl rfl .plain <| K.box rfl rfl rfl .plain <| K.alloc rfl .plain ?_; refine kas rfl <| RunK.nil <| LWP.seq <| LWP.seq <| LWP.region (by kernel_rfl) <| kfa rfl rfl ?_; refine kl1 rfl rfl rfl <| keq rfl rfl (beq_eq_false_iff_ne.2 (by omega)) <| RunK.nil <| LWP.condF rfl ?_; refine LWP.skip ?_; refine LWP.seq <| LWP.seq <| LWP.region (by kernel_rfl) <| kfa rfl rfl ?_; refine kl1 rfl rfl rfl <| kne rfl rfl ((bne_eq_false_iff_eq.2 (by omega))) <| RunK.nil <| LWP.condF rfl ?_; refine LWP.skip ?_; refine LWP.seq <| LWP.region (by kernel_rfl) <| kfa rfl rfl ?_; refine kl1 rfl rfl rfl <| kfa rfl rfl ?_; refine kl1 rfl rfl rfl <| kca rfl rfl (mul64_spec _ _ _ p (by omega) (by omega) hp) <| kmv rfl <| kex rfl rfl <| kex rfl rfl <| kas rfl <| kas rfl <| RunK.nil <| LWP.seq <| LWP.region (by kernel_rfl) <| kfa rfl rfl ?_; refine kl1 rfl rfl rfl <| kfa rfl rfl ?_; refine kl1 rfl rfl rfl <| kca rfl rfl (mul64_spec _ _ _ q (by omega) (by omega) hq) <| kmv rfl <| kex rfl rfl <| kex rfl rfl <| kas rfl <| kas rfl <| RunK.nil <| LWP.seq <| LWP.region (by kernel_rfl) <| kmv rfl <| kmv rfl <| K.callN rfl rfl (add64 (s := S % 340282366920938463463374607431768211456 / 18446744073709551616) (t := 1) (by omega) (by omega) (by omega)) rfl .plain <| kmv rfl ?_; refine kex rfl rfl <| kex rfl rfl <| kas rfl <| kas rfl <| RunK.nil <| LWP.seq <| LWP.region (by kernel_rfl) <| kmv rfl <| kmv rfl <| K.build rfl rfl (by exact rfl) (by exact nl2 rfl rfl rfl) .plain ?_; refine kmv rfl <| keq rfl rfl (beq_iff_eq.2 (by omega)) <| kmv rfl <| gmv rfl rfl rfl <| K.eql rfl rfl (beq_eq_false_iff_ne.2 (by omega)) (.taken rfl rfl) ?_; refine kpt rfl rfl <| K.storeAll rfl rfl rfl rfl rfl rfl .plain ?_; refine kas rfl <| RunK.nil <| LWP.ret ?_)
        unfold SZ; rw [show S % 340282366920938463463374607431768211456 % 18446744073709551616 = q % 18446744073709551616 by omega]
        exact ⟨[_, _], ⟨⟨_, _, rfl, rfl, rfl, .inl ⟨AggT.h, rfl⟩⟩, rfl, trivial⟩, rfl⟩
      · (refine LWP.seq <| LWP.region (by kernel_rfl) <| K.box rfl rfl rfl .plain <| K.box rfl rfl rfl .plain <| K.alloc rfl .plain ?_; refine kas rfl <| RunK.nil <| LWP.seq <| LWP.seq <| LWP.region (by kernel_rfl) <| kfa rfl rfl ?_; refine kl1 rfl rfl rfl <| keq rfl rfl (beq_eq_false_iff_ne.2 (by omega)) <| RunK.nil <| LWP.condF rfl ?_; refine LWP.skip ?_; refine LWP.seq <| LWP.seq <| LWP.region (by kernel_rfl) <| kfa rfl rfl ?_; refine kl1 rfl rfl rfl <| kne rfl rfl ((bne_eq_false_iff_eq.2 (by omega))) <| RunK.nil <| LWP.condF rfl ?_; refine LWP.skip ?_; refine LWP.seq <| LWP.region (by kernel_rfl) <| kfa rfl rfl ?_; refine kl1 rfl rfl rfl <| kfa rfl rfl ?_; refine kl1 rfl rfl rfl <| kca rfl rfl (mul64_spec _ _ _ p (by omega) (by omega) hp) <| kmv rfl <| kex rfl rfl <| kex rfl rfl <| kas rfl <| kas rfl <| RunK.nil <| LWP.seq <| LWP.region (by kernel_rfl) <| kfa rfl rfl ?_; refine kl1 rfl rfl rfl <| kfa rfl rfl ?_; refine kl1 rfl rfl rfl <| kca rfl rfl (mul64_spec _ _ _ q (by omega) (by omega) hq) <| kmv rfl <| kex rfl rfl <| kex rfl rfl <| kas rfl <| kas rfl <| RunK.nil <| LWP.seq <| LWP.region (by kernel_rfl) <| kmv rfl <| kmv rfl <| K.callN rfl rfl (add64 (s := S % 340282366920938463463374607431768211456 / 18446744073709551616) (t := (q / 18446744073709551616 + p % 18446744073709551616) / 18446744073709551616) (by omega) (by omega) (by omega)) rfl .plain <| kmv rfl ?_; refine kex rfl rfl <| kex rfl rfl <| kas rfl <| kas rfl <| RunK.nil <| LWP.seq <| LWP.region (by kernel_rfl) <| kmv rfl <| kmv rfl <| K.build rfl rfl (by exact rfl) (by exact nl2 rfl rfl rfl) .plain ?_; refine kmv rfl <| keq rfl rfl (beq_eq_false_iff_ne.2 (by omega)) <| kmv rfl <| RunK.passed rfl rfl rfl <| RunK.passed rfl rfl rfl <| kpf rfl rfl <| K.storeAll rfl rfl rfl rfl rfl rfl .plain ?_; refine kas rfl <| RunK.nil <| LWP.ret ?_)
        unfold SZ; rw [show S % 340282366920938463463374607431768211456 % 18446744073709551616 = q % 18446744073709551616 by omega]
        exact ⟨[_, _], ⟨⟨_, _, rfl, rfl, rfl, .inl ⟨AggT.h, rfl⟩⟩, rfl, trivial⟩, rfl⟩
theorem times_far (M N : Int) (hM : In2 M) (hN : In2 N) (h1 : 18446744073709551616 ≤ M) (h2 : 18446744073709551616 ≤ N) :
    PSpec Tryz.prog X 57 [LZ M, LZ N] (.tup [.agg [.val (.int .u64 0), .val (.int .u64 0)], Sb false]) := by
  unfold In2 at *
  refine PSpec.intro Tryz.func57 rfl (by kernel_rfl) rfl rfl ?_
  intro C
  (refine LWP.seq <| LWP.region (by kernel_rfl) <| K.box rfl rfl rfl .plain <| K.box rfl rfl rfl .plain <| K.alloc rfl .plain ?_; refine kas rfl <| RunK.nil <| LWP.seq <| LWP.seq <| LWP.region (by kernel_rfl) <| kfa rfl rfl ?_; refine kl1 rfl rfl rfl <| keq rfl rfl (beq_eq_false_iff_ne.2 (by omega)) <| RunK.nil <| LWP.condF rfl ?_; refine LWP.skip ?_; refine LWP.seq <| LWP.seq <| LWP.region (by kernel_rfl) <| kfa rfl rfl ?_; refine kl1 rfl rfl rfl <| kne rfl rfl (bne_iff_ne.2 (by omega)) <| RunK.nil <| LWP.condT rfl ?_; refine LWP.seq <| LWP.region (by kernel_rfl) <| K.build rfl rfl (by exact rfl) (by exact nl2 rfl rfl rfl) .plain ?_; refine K.storeAll rfl rfl rfl rfl rfl rfl .plain ?_; refine kas rfl <| RunK.nil <| LWP.ret ?_)
  exact ⟨[_, _], ⟨⟨_, _, rfl, rfl, rfl, .inl ⟨AggT.h, rfl⟩⟩, rfl, trivial⟩, rfl⟩
end Go.Proofs.YtimpjdbhalnofaaGreatDoor
end
section
namespace Go.Proofs.YtimpjdbhalnofaaGreatDoor
open Go Go.Lg Go.Lg.Arith
variable (X : Nat → Option Obj)
theorem Mul_arg (b c : Bool) (M N : Int) (hM : In2 M) (hN : In2 N) (hf : (formB b M && formB c N) = false) : PSpec Tryz.prog X 24 [LI b M, LI c N] (.tup [S0, Sn .i64 1]) := by
  refine PSpec.intro Tryz.func24 rfl (by kernel_rfl) rfl rfl ?_
  intro C
  (refine LWP.seq <| LWP.region (by kernel_rfl) <| K.box rfl rfl rfl .plain <| K.box rfl rfl rfl .plain <| K.alloc rfl .plain ?_; refine kas rfl <| RunK.nil <| LWP.seq <| LWP.seq <| LWP.region (by kernel_rfl) <| K.loadAll rfl rfl rfl .plain ?_; refine K.loadAll rfl rfl rfl .plain ?_; refine kca rfl rfl (bothForm_spec _ _ _ _ _ hM hN _ hf) <| K.not rfl rfl .plain <| RunK.nil <| LWP.condT rfl ?_; refine LWP.seq <| LWP.region (by kernel_rfl) <| K.build rfl rfl (by exact rfl) (by exact nl3 rfl rfl rfl rfl) .plain ?_; refine K.storeAll rfl rfl rfl rfl rfl rfl .plain ?_; refine kas rfl <| RunK.nil <| LWP.ret ?_)
  exact ⟨[_, _], ⟨⟨_, _, rfl, rfl, rfl, .inl ⟨AggT.h, rfl⟩⟩, rfl, trivial⟩, rfl⟩
theorem zv_mul (x y : Int) : zv (decide (x < 0) != decide (y < 0)) (mg x * mg y) = x * y := by
  unfold zv mg
  by_cases cx : x < 0 <;> by_cases cy : y < 0 <;> simp [cx, cy, Int.neg_mul, Int.mul_neg]
theorem range_zv {b : Bool} {N : Int} (hN : 0 ≤ N) : R127 (zv b N) ↔ N < 170141183460469231731687303715884105728 := by
  unfold R127 zv
  cases b <;> simp <;> omega
theorem Mul_q (x y : Int) (hx : R127 x) (hy : R127 y) : PSpec Tryz.prog X 24 [LQ x, LQ y] (addR (x * y)) := by
  have hf := both_q hx hy
  have hB := bothForm_spec X _ _ _ _ (mg_in2 hx) (mg_in2 hy) true hf
  have hz := zv_mul x y
  have hp0 : 0 ≤ mg x * mg y := Int.mul_nonneg (mg_nonneg x) (mg_nonneg y)
  have hrange := range_zv (b := decide (x < 0) != decide (y < 0)) hp0
  rw [hz] at hrange
  by_cases hfar : 18446744073709551616 ≤ mg x ∧ 18446744073709551616 ≤ mg y
  · have hm := Int.mul_le_mul hfar.1 hfar.2 (by decide) (by omega : (0 : Int) ≤ mg x)
    rw [addR_out (by rw [hrange]; omega)]
    refine PSpec.intro Tryz.func24 rfl (by kernel_rfl) rfl rfl ?_
    intro C
    (refine LWP.seq <| LWP.region (by kernel_rfl) <| K.box rfl rfl rfl .plain <| K.box rfl rfl rfl .plain <| K.alloc rfl .plain ?_; refine kas rfl <| RunK.nil <| LWP.seq <| LWP.seq <| LWP.region (by kernel_rfl) <| K.loadAll rfl rfl rfl .plain ?_; refine K.loadAll rfl rfl rfl .plain ?_; refine kca rfl rfl (hB) <| K.not rfl rfl .plain <| RunK.nil <| LWP.condF rfl ?_; refine LWP.skip ?_; refine LWP.seq <| LWP.draws mixed (by kernel_rfl) <| K.loadAll rfl rfl rfl .plain ?_; refine kca rfl rfl (sizeOf_spec _ _ _ _) <| K.loadAll rfl rfl rfl .plain ?_; refine kca rfl rfl (sizeOf_spec _ _ _ _) <| kca rfl rfl (times_far _ _ _ (mg_in2 hx) (mg_in2 hy) hfar.1 hfar.2) <| kmv rfl <| kex rfl rfl <| kex rfl rfl <| K.alloc rfl .plain ?_; refine K.storeAll rfl rfl rfl rfl rfl rfl .plain ?_; refine kas rfl <| RunK.nil <| And.intro (by kernel_rfl) ?_; refine LWP.seq <| LWP.seq <| LWP.region (by kernel_rfl) <| kmv rfl <| K.not rfl rfl .plain <| RunK.nil <| LWP.condT rfl ?_; refine LWP.seq <| LWP.region (by kernel_rfl) <| K.build rfl rfl (by exact rfl) (by exact nl3 rfl rfl rfl rfl) .plain ?_; refine K.storeAll rfl rfl rfl rfl rfl rfl .plain ?_; refine kas rfl <| RunK.nil <| LWP.ret ?_)
    exact ⟨[_, _], ⟨⟨_, _, rfl, rfl, rfl, .inl ⟨AggT.h, rfl⟩⟩, rfl, trivial⟩, rfl⟩
  · have ht := times_spec X (mg x) (mg y) (mg_in2 hx) (mg_in2 hy) (by omega)
    by_cases hbig : mg x * mg y < 340282366920938463463374607431768211456
    · have ht' := ht true (decide_eq_true hbig)
      have e : mg x * mg y % 340282366920938463463374607431768211456 = mg x * mg y := by omega
      rw [e] at ht'
      by_cases hfit : mg x * mg y < 170141183460469231731687303715884105728
      · rw [addR_in (hrange.2 hfit), ← tup_q hp0 hz]
        have hb := bounded_ok X (decide (x < 0) != decide (y < 0)) (mg x * mg y) ⟨hp0, hfit⟩ _ rfl
        refine PSpec.intro Tryz.func24 rfl (by kernel_rfl) rfl rfl ?_
        intro C
        (refine LWP.seq <| LWP.region (by kernel_rfl) <| K.box rfl rfl rfl .plain <| K.box rfl rfl rfl .plain <| K.alloc rfl .plain ?_; refine kas rfl <| RunK.nil <| LWP.seq <| LWP.seq <| LWP.region (by kernel_rfl) <| K.loadAll rfl rfl rfl .plain ?_; refine K.loadAll rfl rfl rfl .plain ?_; refine kca rfl rfl (hB) <| K.not rfl rfl .plain <| RunK.nil <| LWP.condF rfl ?_; refine LWP.skip ?_; refine LWP.seq <| LWP.draws mixed (by kernel_rfl) <| K.loadAll rfl rfl rfl .plain ?_; refine kca rfl rfl (sizeOf_spec _ _ _ _) <| K.loadAll rfl rfl rfl .plain ?_; refine kca rfl rfl (sizeOf_spec _ _ _ _) <| kca rfl rfl (ht') <| kmv rfl <| kex rfl rfl <| kex rfl rfl <| K.alloc rfl .plain ?_; refine K.storeAll rfl rfl rfl rfl rfl rfl .plain ?_; refine kas rfl <| RunK.nil <| And.intro (by kernel_rfl) ?_; refine LWP.seq <| LWP.seq <| LWP.region (by kernel_rfl) <| kmv rfl <| K.not rfl rfl .plain <| RunK.nil <| LWP.condF rfl ?_; refine LWP.skip ?_; refine LWP.seq <| LWP.region (by kernel_rfl) <| kfa rfl rfl ?_; refine kl1 rfl rfl rfl <| kfa rfl rfl ?_; refine kl1 rfl rfl rfl <| K.neqB rfl rfl rfl .plain <| K.loadAll rfl rfl rfl .plain ?_; refine kca rfl rfl (hb) <| kex rfl rfl <| kex rfl rfl <| K.storeAll rfl rfl rfl rfl rfl rfl .plain ?_; refine kas rfl <| RunK.nil <| LWP.ret ?_)
        exact ⟨[_, _], ⟨⟨_, _, rfl, rfl, rfl, .inl ⟨AggT.h, rfl⟩⟩, rfl, trivial⟩, rfl⟩
      · rw [addR_out (by rw [hrange]; omega)]
        have hb := bounded_no X (decide (x < 0) != decide (y < 0)) (mg x * mg y) (by omega) ⟨hp0, hbig⟩
        refine PSpec.intro Tryz.func24 rfl (by kernel_rfl) rfl rfl ?_
        intro C
        (refine LWP.seq <| LWP.region (by kernel_rfl) <| K.box rfl rfl rfl .plain <| K.box rfl rfl rfl .plain <| K.alloc rfl .plain ?_; refine kas rfl <| RunK.nil <| LWP.seq <| LWP.seq <| LWP.region (by kernel_rfl) <| K.loadAll rfl rfl rfl .plain ?_; refine K.loadAll rfl rfl rfl .plain ?_; refine kca rfl rfl (hB) <| K.not rfl rfl .plain <| RunK.nil <| LWP.condF rfl ?_; refine LWP.skip ?_; refine LWP.seq <| LWP.draws mixed (by kernel_rfl) <| K.loadAll rfl rfl rfl .plain ?_; refine kca rfl rfl (sizeOf_spec _ _ _ _) <| K.loadAll rfl rfl rfl .plain ?_; refine kca rfl rfl (sizeOf_spec _ _ _ _) <| kca rfl rfl (ht') <| kmv rfl <| kex rfl rfl <| kex rfl rfl <| K.alloc rfl .plain ?_; refine K.storeAll rfl rfl rfl rfl rfl rfl .plain ?_; refine kas rfl <| RunK.nil <| And.intro (by kernel_rfl) ?_; refine LWP.seq <| LWP.seq <| LWP.region (by kernel_rfl) <| kmv rfl <| K.not rfl rfl .plain <| RunK.nil <| LWP.condF rfl ?_; refine LWP.skip ?_; refine LWP.seq <| LWP.region (by kernel_rfl) <| kfa rfl rfl ?_; refine kl1 rfl rfl rfl <| kfa rfl rfl ?_; refine kl1 rfl rfl rfl <| K.neqB rfl rfl rfl .plain <| K.loadAll rfl rfl rfl .plain ?_; refine kca rfl rfl (hb) <| kex rfl rfl <| kex rfl rfl <| K.storeAll rfl rfl rfl rfl rfl rfl .plain ?_; refine kas rfl <| RunK.nil <| LWP.ret ?_)
        exact ⟨[_, _], ⟨⟨_, _, rfl, rfl, rfl, .inl ⟨AggT.h, rfl⟩⟩, rfl, trivial⟩, rfl⟩
    · have ht' := ht false (decide_eq_false hbig)
      rw [addR_out (by rw [hrange]; omega)]
      refine PSpec.intro Tryz.func24 rfl (by kernel_rfl) rfl rfl ?_
      intro C
      (refine LWP.seq <| LWP.region (by kernel_rfl) <| K.box rfl rfl rfl .plain <| K.box rfl rfl rfl .plain <| K.alloc rfl .plain ?_; refine kas rfl <| RunK.nil <| LWP.seq <| LWP.seq <| LWP.region (by kernel_rfl) <| K.loadAll rfl rfl rfl .plain ?_; refine K.loadAll rfl rfl rfl .plain ?_; refine kca rfl rfl (hB) <| K.not rfl rfl .plain <| RunK.nil <| LWP.condF rfl ?_; refine LWP.skip ?_; refine LWP.seq <| LWP.draws mixed (by kernel_rfl) <| K.loadAll rfl rfl rfl .plain ?_; refine kca rfl rfl (sizeOf_spec _ _ _ _) <| K.loadAll rfl rfl rfl .plain ?_; refine kca rfl rfl (sizeOf_spec _ _ _ _) <| kca rfl rfl (ht') <| kmv rfl <| kex rfl rfl <| kex rfl rfl <| K.alloc rfl .plain ?_; refine K.storeAll rfl rfl rfl rfl rfl rfl .plain ?_; refine kas rfl <| RunK.nil <| And.intro (by kernel_rfl) ?_; refine LWP.seq <| LWP.seq <| LWP.region (by kernel_rfl) <| kmv rfl <| K.not rfl rfl .plain <| RunK.nil <| LWP.condT rfl ?_; refine LWP.seq <| LWP.region (by kernel_rfl) <| K.build rfl rfl (by exact rfl) (by exact nl3 rfl rfl rfl rfl) .plain ?_; refine K.storeAll rfl rfl rfl rfl rfl rfl .plain ?_; refine kas rfl <| RunK.nil <| LWP.ret ?_)
      exact ⟨[_, _], ⟨⟨_, _, rfl, rfl, rfl, .inl ⟨AggT.h, rfl⟩⟩, rfl, trivial⟩, rfl⟩
end Go.Proofs.YtimpjdbhalnofaaGreatDoor
end
