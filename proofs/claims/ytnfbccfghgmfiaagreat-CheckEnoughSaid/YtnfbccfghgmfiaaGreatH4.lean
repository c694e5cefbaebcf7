/- A piece of a proof over this program: contracts of its functions, and a logic to prove them by. -/
import Derived.Test.YtnfbccfghgmfiaaGreatH2
import Derived.Test.YtnfbccfghgmfiaaGreatH3
import Derived.StringKeys
import Derived.WideMake
import Derived.Lib.ItoaNum
import Derived.Lib.ItoaLen
section
namespace Go.Lg.Fml
structure Ins where
  op : Int
  a : Int
  b : Int
  k : Bool × Int
  deriving DecidableEq
def takes (op : Int) : Nat := if op = 16 then 3 else if op = 10 ∨ op = 15 then 1 else if 5 ≤ op ∧ op ≤ 17 then 2 else 0
theorem takes_le (op : Int) : takes op ≤ 3 := by unfold takes; split <;> (try split) <;> (try split) <;> omega
inductive Tr where
  | n0 (x : Ins)
  | n1 (x : Ins) (a : Tr)
  | n2 (x : Ins) (a b : Tr)
  | n3 (x : Ins) (a b c : Tr)
def Tr.flat : Tr → List Ins
  | .n0 x => [x]
  | .n1 x a => a.flat ++ [x]
  | .n2 x a b => a.flat ++ (b.flat ++ [x])
  | .n3 x a b c => a.flat ++ (b.flat ++ (c.flat ++ [x]))
def Tr.ok : Tr → Prop
  | .n0 x => takes x.op = 0
  | .n1 x a => takes x.op = 1 ∧ a.ok
  | .n2 x a b => takes x.op = 2 ∧ a.ok ∧ b.ok
  | .n3 x a b c => takes x.op = 3 ∧ a.ok ∧ b.ok ∧ c.ok
section
variable {V : Type} (one : Ins → List V → Except Int V)
def Tr.ev : Tr → Except Int V
  | .n0 x => one x []
  | .n1 x a => match a.ev with
    | .error e => .error e
    | .ok u => one x [u]
  | .n2 x a b => match a.ev with
    | .error e => .error e
    | .ok u => match b.ev with
      | .error e => .error e
      | .ok v => one x [u, v]
  | .n3 x a b c => match a.ev with
    | .error e => .error e
    | .ok u => match b.ev with
      | .error e => .error e
      | .ok v => match c.ev with
        | .error e => .error e
        | .ok w => one x [u, v, w]
def run : List Ins → List V → Except Int (List V)
  | [], st => .ok st
  | x :: t, st => match one x (st.take (takes x.op)).reverse with
    | .error e => .error e
    | .ok v => run t (v :: st.drop (takes x.op))
variable {one}
theorem run_flat : ∀ {t : Tr} {rest : List Ins} {st : List V}, t.ok → run one (t.flat ++ rest) st = match t.ev one with | .error e => .error e | .ok v => run one rest (v :: st)
  | .n0 x, rest, st, h => by
    have h : takes x.op = 0 := h
    simp only [Tr.flat, List.cons_append, List.nil_append, run, Tr.ev, h, List.take_zero, List.drop_zero, List.reverse_nil]
  | .n1 x a, rest, st, h => by
    obtain ⟨h1, h2⟩ := h
    simp only [Tr.flat, List.append_assoc, Tr.ev]
    rw [run_flat h2]
    cases a.ev one with
    | error e => rfl
    | ok u =>
      simp only [List.cons_append, List.nil_append, run, h1]
      simp only [List.take_succ_cons, List.take_zero, List.drop_succ_cons, List.drop_zero, List.reverse_cons, List.reverse_nil, List.nil_append]
  | .n2 x a b, rest, st, h => by
    obtain ⟨h1, h2, h3⟩ := h
    simp only [Tr.flat, List.append_assoc, Tr.ev]
    rw [run_flat h2]
    cases a.ev one with
    | error e => rfl
    | ok u =>
      simp only
      rw [run_flat h3]
      cases b.ev one with
      | error e => rfl
      | ok v =>
        simp only [List.cons_append, List.nil_append, run, h1]
        simp only [List.take_succ_cons, List.take_zero, List.drop_succ_cons, List.drop_zero, List.reverse_cons, List.reverse_nil, List.nil_append, List.cons_append]
  | .n3 x a b c, rest, st, h => by
    obtain ⟨h1, h2, h3, h4⟩ := h
    simp only [Tr.flat, List.append_assoc, Tr.ev]
    rw [run_flat h2]
    cases a.ev one with
    | error e => rfl
    | ok u =>
      simp only
      rw [run_flat h3]
      cases b.ev one with
      | error e => rfl
      | ok v =>
        simp only
        rw [run_flat h4]
        cases c.ev one with
        | error e => rfl
        | ok w =>
          simp only [List.cons_append, List.nil_append, run, h1]
          simp only [List.take_succ_cons, List.take_zero, List.drop_succ_cons, List.drop_zero, List.reverse_cons, List.reverse_nil, List.nil_append, List.cons_append]
theorem run_app : ∀ {l r : List Ins} {st : List V}, run one (l ++ r) st = match run one l st with | .error e => .error e | .ok st' => run one r st'
  | [], r, st => rfl
  | x :: l, r, st => by
    simp only [List.cons_append, run]
    cases one x (st.take (takes x.op)).reverse with
    | error e => rfl
    | ok v => exact run_app
end
def dep (okI : Ins → Bool) : Nat → List Ins → Option Nat
  | n, [] => some n
  | n, x :: t => if okI x = true ∧ takes x.op ≤ n ∧ n - takes x.op + 1 ≤ 16 then dep okI (n - takes x.op + 1) t else none
theorem dep_app {okI : Ins → Bool} : ∀ {l r : List Ins} {n : Nat}, dep okI n (l ++ r) = (dep okI n l).bind fun m => dep okI m r
  | [], r, n => rfl
  | x :: l, r, n => by
    simp only [List.cons_append, dep]
    split
    · exact dep_app
    · rfl
def flats : List Tr → List Ins
  | [] => []
  | t :: ts => flats ts ++ t.flat
theorem dep_trees {okI : Ins → Bool} : ∀ {l : List Ins} {ts : List Tr} {m : Nat}, dep okI ts.length l = some m → (∀ t ∈ ts, t.ok) → ∃ ts', ts'.length = m ∧ (∀ t ∈ ts', t.ok) ∧ flats ts' = flats ts ++ l
  | [], ts, m, h, ho => by
    simp only [dep, Option.some.injEq] at h
    exact ⟨ts, h, ho, by rw [List.append_nil]⟩
  | x :: l, ts, m, h, ho => by
    simp only [dep] at h
    split at h
    · rename_i hx
      obtain ⟨_, h1, _⟩ := hx
      have h3 := takes_le x.op
      have key : ∃ us : List Tr, us.length = ts.length - takes x.op + 1 ∧ (∀ t ∈ us, t.ok) ∧ flats us = flats ts ++ [x] := by
        rcases (show takes x.op = 0 ∨ takes x.op = 1 ∨ takes x.op = 2 ∨ takes x.op = 3 by omega) with e | e | e | e
        · exact ⟨.n0 x :: ts, by rw [e]; rfl, fun t ht => by
            rcases List.mem_cons.1 ht with rfl | ht
            · exact e
            · exact ho t ht, rfl⟩
        · match ts, ho, h1 with
          | a :: ts, ho, _ => exact ⟨.n1 x a :: ts, by rw [e]; rfl, fun t ht => by
              rcases List.mem_cons.1 ht with rfl | ht
              · exact ⟨e, ho a List.mem_cons_self⟩
              · exact ho t (List.mem_cons_of_mem _ ht), by simp only [flats, Tr.flat, List.append_assoc]⟩
          | [], _, h1 => rw [e] at h1; cases h1
        · match ts, ho, h1 with
          | b :: a :: ts, ho, _ => exact ⟨.n2 x a b :: ts, by rw [e]; rfl, fun t ht => by
              rcases List.mem_cons.1 ht with rfl | ht
              · exact ⟨e, ho a (by simp), ho b (by simp)⟩
              · exact ho t (by simp [ht]), by simp only [flats, Tr.flat, List.append_assoc]⟩
          | [_], _, h1 => rw [e] at h1; simp at h1
          | [], _, h1 => rw [e] at h1; cases h1
        · match ts, ho, h1 with
          | c :: b :: a :: ts, ho, _ => exact ⟨.n3 x a b c :: ts, by rw [e]; rfl, fun t ht => by
              rcases List.mem_cons.1 ht with rfl | ht
              · exact ⟨e, ho a (by simp), ho b (by simp), ho c (by simp)⟩
              · exact ho t (by simp [ht]), by simp only [flats, Tr.flat, List.append_assoc]⟩
          | [_, _], _, h1 => rw [e] at h1; simp at h1
          | [_], _, h1 => rw [e] at h1; simp at h1
          | [], _, h1 => rw [e] at h1; cases h1
      obtain ⟨us, u1, u2, u3⟩ := key
      rw [← u1] at h
      obtain ⟨ts', t1, t2, t3⟩ := dep_trees h u2
      exact ⟨ts', t1, t2, by rw [t3, u3, List.append_assoc]; rfl⟩
    · cases h
theorem parse {okI : Ins → Bool} {l : List Ins} (h : dep okI 0 l = some 1) : ∃ t : Tr, t.ok ∧ t.flat = l := by
  obtain ⟨ts, h1, h2, h3⟩ := dep_trees (ts := []) h (fun t ht => by cases ht)
  match ts, h1 with
  | [t], _ => exact ⟨t, h2 t List.mem_cons_self, h3⟩
def surplus : List Ins → Int
  | [] => 0
  | x :: t => (takes x.op : Int) - 1 + surplus t
def Back (l : List Ins) : Prop := ∀ p s : List Ins, l = p ++ s → p ≠ [] → 0 ≤ surplus s
def Tr.ends (p : Nat) : Tr → List Nat
  | .n0 _ => []
  | .n1 _ a => [p + a.flat.length - 1]
  | .n2 _ a b => [p + a.flat.length - 1, p + a.flat.length + b.flat.length - 1]
  | .n3 _ a b c => [p + a.flat.length - 1, p + a.flat.length + b.flat.length - 1, p + a.flat.length + b.flat.length + c.flat.length - 1]
def Tr.top : Tr → Ins
  | .n0 x => x
  | .n1 x _ => x
  | .n2 x _ _ => x
  | .n3 x _ _ _ => x
end Go.Lg.Fml
end
section
namespace Go.Lg.Fld
open Go Go.Lg
section
variable {cs : List Cp} {i : Nat} {c : Cp}
theorem cmpE_at (h : cs[i]? = some c) : cmpE cs i = if c.id < 1 ∨ 24 < c.id ∨ (0 < i ∧ c.id ≤ prevId cs i) then 1
    else if nmB c.nm = true then (if (cs.take i).any (fun g => g.nm == c.nm) = true then 4 else if firstE (fldE c.fs) 0 c.fs.length = 0 then layErr c.fs else 4) else 4 := by unfold cmpE; rw [h]
theorem fldE_at {fs : List Fl} {k : Nat} {f : Fl} (h : fs[k]? = some f) : fldE fs k = if nmB f.nm = true then (if (fs.take k).any (fun g => g.nm == f.nm) = true then 4 else 0) else 4 := by unfold fldE; rw [h]
theorem prev_at {p : Cp} (h : cs[i - 1]? = some p) : prevId cs i = p.id := by unfold prevId; rw [h]; rfl
end
theorem FieldsIn.nm {X : Nat → Option Obj} {ad : Option Addr} {fs : List Fl} (h : FieldsIn X ad fs) {k : Nat} {f : Fl} (hf : fs[k]? = some f) :
    ∃ (blk off : Nat) (arr : Array Value) (el : TypeId) (fr : Nat × Nat), ad = some ⟨blk, off, none⟩ ∧ X blk = some (.cells arr el fr) ∧ arr[off + k * 3]? = some (.string ⟨f.nm.toArray⟩) := by
  obtain ⟨blk, off, arr, el, fr, h1, h2, h3, h4⟩ := h.rows k f.vals (by rw [List.getElem?_map, hf]; rfl)
  exact ⟨blk, off, arr, el, fr, h1, h2, (three_at h4).1⟩
end Go.Lg.Fld
namespace Go.Proofs.YtnfbccfghgmfiaaGreat
open Go Go.Lg Go.Lg.Fld
set_option maxRecDepth 100000
variable (X : Nat → Option Obj)
abbrev cpB (k : Nat) (c : Cp) (fad : Option Addr) (fcap : Nat) : Nat × Option Box := (k, some ⟨24, [.val (.int .i64 c.id), .val (.string ⟨c.nm.toArray⟩), .val (.slice fad c.fs.length fcap)], false⟩)
end Go.Proofs.YtnfbccfghgmfiaaGreat
end
section
namespace Go.Lg
open Go Go.RowKit
def joinM (X H : Nat → Option Obj) : Nat → Option Obj := fun b => (H b).or (X b)
def cutM (H : Nat → Option Obj) (blk : Nat) : Nat → Option Obj := fun b => if b = blk then none else H b
theorem joinM_in {X H : Nat → Option Obj} {b : Nat} {o : Obj} (h : H b = some o) : joinM X H b = some o := by unfold joinM; rw [h]; rfl
theorem joinM_out {X H : Nat → Option Obj} {b : Nat} (h : H b = none) : joinM X H b = X b := by unfold joinM; rw [h]; rfl
theorem joinM_none {X H : Nat → Option Obj} {b : Nat} (h : joinM X H b = none) : H b = none ∧ X b = none := by
  unfold joinM at h
  cases hh : H b with
  | none => rw [hh] at h; exact ⟨rfl, h⟩
  | some o => rw [hh] at h; cases h
structure OwnedM (C : Ctx) (X H : Nat → Option Obj) : Prop where
  own : ∀ b o, H b = some o → (C.own b ∨ C.w0.heap.size ≤ b) ∧ Loose o ∧ X b = none
theorem joinM_with {X H : Nat → Option Obj} {blk : Nat} {o : Obj} : withBlock (joinM X H) blk o = joinM X (withBlock H blk o) := by
  funext b
  unfold withBlock joinM
  by_cases e : b = blk
  · simp [e]
  · simp [e]
theorem joinM_nil (X : Nat → Option Obj) : joinM X (fun _ => none) = X := by funext b; rfl
theorem OwnedM.more {C : Ctx} {X H : Nat → Option Obj} (h : OwnedM C X H) {blk : Nat} {arr : Array Value} {el : TypeId} {fr : Nat × Nat} (hF : Frozen C blk arr fr) (hX : joinM X H blk = none) : OwnedM C X (withBlock H blk (.cells arr el fr)) := ⟨fun b o hb => by
  unfold withBlock at hb
  split at hb
  · rename_i e; subst e; cases hb; exact ⟨hF.own, hF.thaw, (joinM_none hX).2⟩
  · exact h.own b o hb⟩
theorem OwnedM.nil (C : Ctx) (X : Nat → Option Obj) : OwnedM C X (fun _ => none) := ⟨fun _ _ h => by cases h⟩
section
variable {P : Program} {n : Nat} {C : Ctx} {c : Code} {Q : Exit → St → Prop} {X : Nat → Option Obj} {s : List (Nat × LV)} {bx : List (Nat × Option Box)} {k : Nat}
theorem stat_hd (b : Option Box) (j : Nat) : (⟨s, (k, b) :: bx, X⟩ : St).stat j = if j = k then some b else look j bx := stat_cons s bx X k j b
theorem later_same {S S' : Nat → Option (Option Box)} (ι : Nat → Nat × Nat) (h : ∀ j, S j ≠ none → S' j ≠ none ∧ ∀ b', S' j = some (some b') → ∃ b, S j = some (some b)) : Later S S' ι ι :=
  fun j hj => ⟨(h j hj).1, fun b' hb' => ⟨rfl, (h j hj).2 b' hb'⟩⟩
theorem later_hd (ι : Nat → Nat × Nat) (b b' : Box) (X X' : Nat → Option Obj) : Later (⟨s, (k, some b) :: bx, X⟩ : St).stat (⟨s, (k, some b') :: bx, X'⟩ : St).stat ι ι := later_same ι fun j hj => by
  rw [stat_hd] at hj ⊢
  rw [stat_hd]
  by_cases e : j = k
  · rw [if_pos e, if_pos e]; exact ⟨by simp, fun _ _ => ⟨b, rfl⟩⟩
  · rw [if_neg e] at hj ⊢
    rw [if_neg e]; exact ⟨hj, fun b1 hb1 => ⟨b1, hb1⟩⟩
theorem Rel.closeRes {ι : Nat → Nat × Nat} {a : Act} {w : World} {el : TypeId} {vals : List Value} {H : Nat → Option Obj} {R : Rsc} (hO : OwnedM C X H)
    (hR : ∀ (ρ : Nat × Nat) (fr : Nat × Nat), H ρ.1 = none → X ρ.1 = none → ρ.2 = vals.length → R.holds ρ (withBlock H ρ.1 (.cells vals.toArray el fr)))
    (hr : Rel n C ι ⟨s, (k, some ⟨el, vals.map .val, false⟩) :: bx, joinM X H⟩ a w) :
    Rel n C ι ⟨s, (k, some ⟨0, [], .res R⟩) :: bx, X⟩ a w := by
  obtain ⟨F, hF⟩ := hr.res
  have hk : (⟨s, (k, some ⟨el, vals.map .val, false⟩) :: bx, joinM X H⟩ : St).stat k = some (some ⟨el, vals.map .val, false⟩) := by rw [stat_hd, if_pos rfl]
  obtain ⟨arr, fr, harr, hth, hsz, hbr⟩ := hr.boxes k _ hk rfl
  have hav : arr.toList = vals := rel_vals hbr
  have hav2 : arr = vals.toArray := by rw [← hav]
  obtain ⟨hkown, hkX⟩ := hr.own k _ hk
  obtain ⟨hkH, hkX⟩ := joinM_none hkX
  have hlater := later_hd (s := s) (bx := bx) (k := k) ι ⟨el, vals.map .val, false⟩ ⟨0, [], .res R⟩ (joinM X H) X
  have live : ∀ j b, (⟨s, (k, some ⟨0, [], .res R⟩) :: bx, X⟩ : St).stat j = some (some b) → ∃ b0, (⟨s, (k, some ⟨el, vals.map .val, false⟩) :: bx, joinM X H⟩ : St).stat j = some (some b0) ∧ (j ≠ k → b = b0) := fun j b hj => by
    rw [stat_hd] at hj ⊢
    by_cases e : j = k
    · rw [if_pos e]; exact ⟨_, rfl, fun h => absurd e h⟩
    · rw [if_neg e] at hj ⊢; exact ⟨b, hj, fun _ => rfl⟩
  have hroots : ∀ j b, (⟨s, (k, some ⟨el, vals.map .val, false⟩) :: bx, joinM X H⟩ : St).stat j = some (some b) → H (ι j).1 = none ∧ X (ι j).1 = none := fun j b hj => joinM_none (hr.own j b hj).2
  exact {
    defers := hr.defers, size := hr.size
    slots := fun d lv hd => by
      obtain ⟨v, hv, hvr⟩ := hr.slots d lv hd
      exact ⟨v, hv, LV.rel_later hlater hvr⟩
    boxes := fun j b hj hbk => by
      by_cases ej : j = k
      · subst ej
        rw [stat_hd, if_pos rfl] at hj
        simp only [Option.some.injEq] at hj
        subst hj
        cases hbk
      · obtain ⟨b0, h0, h1⟩ := live j b hj
        have := h1 ej
        subst this
        obtain ⟨arr', fr', g1, g2, g3, g4⟩ := hr.boxes j b h0 hbk
        exact ⟨arr', fr', g1, g2, g3, Box.rel_later hlater g4⟩
    own := fun j b hj => by
      obtain ⟨b0, h0, _⟩ := live j b hj
      exact ⟨(hr.own j b0 h0).1, (hroots j b0 h0).2⟩
    inj := fun i j bi bj hi hj he => by
      obtain ⟨b1, h1, _⟩ := live i bi hi
      obtain ⟨b2, h2, _⟩ := live j bj hj
      exact hr.inj i j b1 b2 h1 h2 he
    keep := fun j b hj hge => by obtain ⟨b0, h0, _⟩ := live j b hj; exact hr.keep j b0 h0 hge
    ext := fun b o hb => by
      have hb : X b = some o := hb
      have hH : H b = none := by
        cases hc : H b with
        | none => rfl
        | some o' => have := (hO.own b o' hc).2.2; rw [hb] at this; cases this
      exact hr.ext b o ((joinM_out hH).trans hb)
    res := by
      have hG : ∀ b o, withBlock H (ι k).1 (.cells vals.toArray el fr) b = some o → w.heap[b]? = some o ∧ Loose o ∧ (C.own b ∨ C.w0.heap.size ≤ b) ∧ X b = none ∧ (b = (ι k).1 ∨ H b = some o) := fun b o hb => by
        unfold withBlock at hb
        split at hb
        · rename_i e
          cases hb
          subst e
          refine ⟨by rw [← hav2]; exact harr, by rw [← hav2]; exact hth, hkown, hkX, .inl rfl⟩
        · obtain ⟨h1, h2, h3⟩ := hO.own b o hb
          exact ⟨hr.ext b o (joinM_in hb), h2, h1, h3, .inr hb⟩
      have hFX : ∀ j b, F j b ≠ none → H b = none ∧ X b = none ∧ b ≠ (ι k).1 := fun j b hb => by
        cases ho : F j b with
        | none => exact absurd ho hb
        | some o =>
          obtain ⟨h1, _, _, _, h5, h6⟩ := hF.mem j b o ho
          obtain ⟨h7, h8⟩ := joinM_none h5
          refine ⟨h7, h8, fun e => ?_⟩
          have := h6 k _ hk e.symm
          subst this
          obtain ⟨_, _, _, h9⟩ := h1
          rw [hk] at h9
          cases h9
      refine ⟨fun j => open Classical in if j = k then withBlock H (ι k).1 (.cells vals.toArray el fr) else F j, fun j e' cs' R' hj => ?_, fun j b o ho => ?_, fun i j b h1 h2 => ?_⟩
      · rw [stat_hd] at hj
        by_cases ej : j = k
        · rw [if_pos ej] at hj
          cases hj
          rw [if_pos ej, ej]
          exact ⟨hR (ι k) fr hkH hkX (by rw [← hsz, ← Array.length_toList, hav]), by rw [withBlock_at]; simp⟩
        · rw [if_neg ej] at hj
          rw [if_neg ej]
          exact hF.holds j e' cs' R' (by rw [stat_hd, if_neg ej]; exact hj)
      · by_cases ej : j = k
        · rw [if_pos ej] at ho
          obtain ⟨h1, h2, h3, h4, h5⟩ := hG b o ho
          refine ⟨⟨0, [], R, by rw [stat_hd, if_pos ej]⟩, h1, h2, h3, h4, fun i bi hi ei => ?_⟩
          obtain ⟨b0, h0, _⟩ := live i bi hi
          rw [ej]
          rcases h5 with h5 | h5
          · exact hr.inj i k b0 _ h0 hk (by rw [ei, h5])
          · have := (hroots i b0 h0).1; rw [ei, h5] at this; cases this
        · rw [if_neg ej] at ho
          obtain ⟨⟨e1, cs1, R1, h1⟩, h2, h3, h4, h5, h6⟩ := hF.mem j b o ho
          refine ⟨⟨e1, cs1, R1, by rw [stat_hd, if_neg ej]; rw [stat_hd, if_neg ej] at h1; exact h1⟩, h2, h3, h4, (joinM_none h5).2, fun i bi hi ei => ?_⟩
          obtain ⟨b0, h0, _⟩ := live i bi hi
          exact h6 i b0 h0 ei
      · by_cases ei : i = k
        · by_cases ej : j = k
          · rw [ei, ej]
          · rw [if_pos ei] at h1
            rw [if_neg ej] at h2
            obtain ⟨h3, _, h5⟩ := hFX j b h2
            cases ho : withBlock H (ι k).1 (.cells vals.toArray el fr) b with
            | none => exact absurd ho h1
            | some o =>
              rcases (hG b o ho).2.2.2.2 with h6 | h6
              · exact absurd h6 h5
              · rw [h3] at h6; cases h6
        · by_cases ej : j = k
          · rw [if_neg ei] at h1
            rw [if_pos ej] at h2
            obtain ⟨h3, _, h5⟩ := hFX i b h1
            cases ho : withBlock H (ι k).1 (.cells vals.toArray el fr) b with
            | none => exact absurd ho h2
            | some o =>
              rcases (hG b o ho).2.2.2.2 with h6 | h6
              · exact absurd h6 h5
              · rw [h3] at h6; cases h6
          · rw [if_neg ei] at h1
            rw [if_neg ej] at h2
            exact hF.apart i j b h1 h2
    frame := hr.frame, big := hr.big, os := hr.os, tape := hr.tape, output := hr.output }
theorem Leads.closeRes {Mid : St → Prop} {el : TypeId} {vals : List Value} {H : Nat → Option Obj} {R : Rsc} (hO : OwnedM C X H)
    (hR : ∀ (ρ : Nat × Nat) (fr : Nat × Nat), H ρ.1 = none → X ρ.1 = none → ρ.2 = vals.length → R.holds ρ (withBlock H ρ.1 (.cells vals.toArray el fr)))
    (h : Leads n C Mid ⟨s, (k, some ⟨0, [], .res R⟩) :: bx, X⟩) : Leads n C Mid ⟨s, (k, some ⟨el, vals.map .val, false⟩) :: bx, joinM X H⟩ :=
  ⟨fun ι a w hr => h.out ι a w (hr.closeRes hO hR)⟩
theorem LWP.ends (h : LWP P n C c (fun e σ => Leads n C (fun σ' => Q e σ') σ) ⟨s, bx, X⟩) : LWP P n C c Q ⟨s, bx, X⟩ :=
  ⟨fun ι a w hr => wp_mono (h.out ι a w hr) fun _ a' w' ⟨ι', σ', hl, hr'⟩ => by
    obtain ⟨ι2, σ2, hq, hr2⟩ := hl.out ι' a' w' hr'
    exact ⟨ι2, σ2, hq, hr2⟩⟩
end
end Go.Lg
end
section
namespace Go.Lg
open Go Go.RowKit
section
variable {P : Program} {n : Nat} {C : Ctx} {c : Code} {Q : Exit → St → Prop} {X : Nat → Option Obj} {s : List (Nat × LV)} {bx : List (Nat × Option Box)}
theorem LWP.freezeCell {j k off len sz : Nat} {el el2 : TypeId} {A B : List CV} {row2 : Bool} {vals : List Value} {row : Bool}
    (hs : s.all (fun p => p.2.inUse ((j, none) :: bx)) = true) (hA : A.all (CV.inUse ((j, none) :: bx)) = true) (hB : B.all (CV.inUse ((j, none) :: bx)) = true) (hb : bx.all (fun p => match p.2 with | some b => b.cells.all (CV.inUse ((j, none) :: bx)) | none => true) = true) (hk : look k bx = none) (hjk : Nat.beq j k = false)
    (h : ∀ (blk cap : Nat) (arr : Array Value) (fr : Nat × Nat), X blk = none → Frozen C blk arr fr → len ≤ cap → off + cap * sz ≤ arr.size → (∃ sp, arr.toList = vals ++ sp) →
      LWP P n C c Q ⟨s, (j, some ⟨el2, A ++ .val (.slice (some ⟨blk, off, none⟩) len cap) :: B, row2⟩) :: bx, withBlock X blk (.cells arr el fr)⟩) :
    LWP P n C c Q ⟨s, (j, some ⟨el2, A ++ .slc k off len sz :: B, row2⟩) :: (k, some ⟨el, vals.map .val, row⟩) :: bx, X⟩ := ⟨fun ι a w hr => by
  obtain ⟨blk, cap, arr, fr, h1, h2, h3, h4, h5, h6⟩ := hr.freezeCell hs hA hB hb hk hjk
  exact (h blk cap arr fr h1 h2 h3 h4 h5).out ι a w h6⟩
end
end Go.Lg
end
section
namespace Go.Lg
open Go Go.RowKit
def LeadsTo (H : Nat → Option Obj) (b : Nat) (v : Value) (el : TypeId) (sz : Nat) (vals : List Value) : Prop :=
  ∃ (len cap : Nat) (arr : Array Value) (fr : Nat × Nat), v = .slice (some ⟨b, 0, none⟩) len cap ∧ vals.length = len * sz ∧ len ≤ cap ∧ cap * sz ≤ arr.size ∧ H b = some (.cells arr el fr) ∧ ∃ sp, arr.toList = vals ++ sp
theorem mid_inUse {bx : List (Nat × Option Box)} {l l' : List Value} {c : CV} (h : c.inUse bx = true) : (l.map CV.val ++ c :: l'.map CV.val).all (CV.inUse bx) = true := by
  rw [List.all_append, List.all_cons, vals_inUse, vals_inUse, h]; rfl
theorem Box.ren_mid {f : Nat → Nat} {e : TypeId} {l l' : List Value} {c c' : CV} {r : Bool} (h : c.ren f = c') : Box.ren f ⟨e, l.map CV.val ++ c :: l'.map CV.val, r⟩ = ⟨e, l.map CV.val ++ c' :: l'.map CV.val, r⟩ := by
  unfold Box.ren
  rw [List.map_append, List.map_cons, Go.Lg.ren_vals, Go.Lg.ren_vals, h]
theorem look_swap {α : Type} {k k' j : Nat} {x y : α} {l : List (Nat × α)} (h : Nat.beq k k' = false) : look j ((k, x) :: (k', y) :: l) = look j ((k', y) :: (k, x) :: l) := by
  simp only [look]
  cases h1 : Nat.beq k j with
  | false => rfl
  | true =>
    cases h2 : Nat.beq k' j with
    | false => rfl
    | true =>
      have := (Nat.eq_of_beq_eq_true h1).trans (Nat.eq_of_beq_eq_true h2).symm
      rw [this, Nat.beq_refl] at h; cases h
section
variable {P : Program} {n : Nat} {C : Ctx} {c : Code} {Q : Exit → St → Prop} {X H : Nat → Option Obj} {s : List (Nat × LV)} {bx : List (Nat × Option Box)}
theorem closed {blk len cap sz : Nat} {arr : Array Value} {fr : Nat × Nat} {el : TypeId} {vals : List Value} (hlen : vals.length = len * sz) (hX : joinM X H blk = none) (hO : OwnedM C X H) (hF : Frozen C blk arr fr) (hc : len ≤ cap) (hfit : 0 + cap * sz ≤ arr.size) (hsp : ∃ sp, arr.toList = vals ++ sp) :
    H blk = none ∧ OwnedM C X (withBlock H blk (.cells arr el fr)) ∧ LeadsTo (withBlock H blk (.cells arr el fr)) blk (.slice (some ⟨blk, 0, none⟩) len cap) el sz vals :=
  ⟨(joinM_none hX).1, hO.more hF hX, ⟨len, cap, arr, fr, rfl, hlen, hc, by omega, withBlock_at _ _ _, hsp⟩⟩
theorem LWP.loopL {c : Code} {σ : St} (I : Nat → St → Prop) (m : Nat) (h0 : Leads n C (I m) σ)
    (round : ∀ m σ, I m σ → LWP P n C c (thenQ (Leads n C (fun σ' => ∃ m', m' < m ∧ I m' σ')) Q) σ) : LWP P n C (.loop c) Q σ := by
  refine ⟨fun ι a w hr => ?_⟩
  have key : ∀ (m : Nat) (σ : St) (ι : Nat → Nat × Nat) (a : Act) (w : World), I m σ → Rel n C ι σ a w → Code.rounds P c (fun e a' w' => ∃ ι' σ', Q e σ' ∧ Rel n C ι' σ' a' w') (m + 1) a w := by
    intro m
    induction m using Nat.strongRecOn with
    | _ m ih =>
      intro σ ι a w hI hr
      rw [rounds_succ]
      refine wp_mono ((round m σ hI).out ι a w hr) ?_
      rintro e a' w' ⟨ι', σ', hq, hr'⟩
      cases e <;> try exact ⟨ι', σ', hq, hr'⟩
      obtain ⟨ι2, σ2, ⟨m', hlt, hI'⟩, hr2⟩ := hq.out ι' a' w' hr'
      exact rounds_le (by omega) (ih m' hlt σ2 ι2 a' w' hI' hr2)
  obtain ⟨ι2, σ2, hI, hr2⟩ := h0.out ι a w hr
  exact wp_loop_rounds (m + 1) (key m σ2 ι2 a w hI hr2)
theorem rel_front {S : Nat → Option (Option Box)} {ι : Nat → Nat × Nat} : ∀ {A B : List CV} {vs : List Value}, CVs.rel S ι (A ++ B) vs → ∃ va vb, vs = va ++ vb ∧ CVs.rel S ι A va
  | [], _, vs, _ => ⟨[], vs, rfl, trivial⟩
  | _ :: _, _, [], h => h.elim
  | _ :: A, B, v :: vs, h => by
    obtain ⟨va, vb, e, h1⟩ := rel_front (A := A) (B := B) h.2
    exact ⟨v :: va, vb, by rw [e]; rfl, h.1, h1⟩
theorem Rel.rebox {ι : Nat → Nat × Nat} {a : Act} {w : World} {j : Nat} {e : TypeId} {cs cs' : List CV} {r r' : Bool}
    (himp : ∀ vs, Box.rel (⟨s, (j, some ⟨e, cs', r'⟩) :: bx, X⟩ : St).stat ι ⟨e, cs, r⟩ vs → Box.rel (⟨s, (j, some ⟨e, cs', r'⟩) :: bx, X⟩ : St).stat ι ⟨e, cs', r'⟩ vs)
    (hr : Rel n C ι ⟨s, (j, some ⟨e, cs, r⟩) :: bx, X⟩ a w) : Rel n C ι ⟨s, (j, some ⟨e, cs', r'⟩) :: bx, X⟩ a w := by
  have hlater := later_hd (s := s) (bx := bx) (k := j) ι ⟨e, cs, r⟩ ⟨e, cs', r'⟩ X X
  have live : ∀ i b, (⟨s, (j, some ⟨e, cs', r'⟩) :: bx, X⟩ : St).stat i = some (some b) → ∃ b0, (⟨s, (j, some ⟨e, cs, r⟩) :: bx, X⟩ : St).stat i = some (some b0) ∧ (i ≠ j → b = b0) := fun i b hi => by
    rw [stat_hd] at hi ⊢
    by_cases e : i = j
    · rw [if_pos e]; exact ⟨_, rfl, fun h => absurd e h⟩
    · rw [if_neg e] at hi ⊢; exact ⟨b, hi, fun _ => rfl⟩
  exact {
    defers := hr.defers, size := hr.size
    slots := fun d lv hd => by
      obtain ⟨v, hv, hvr⟩ := hr.slots d lv hd
      exact ⟨v, hv, LV.rel_later hlater hvr⟩
    boxes := fun i b hi hbk => by
      by_cases ei : i = j
      · subst ei
        rw [stat_hd, if_pos rfl] at hi
        simp only [Option.some.injEq] at hi
        subst hi
        obtain ⟨arr, fr, g1, g2, g3, g4⟩ := hr.boxes i ⟨e, cs, r⟩ (by rw [stat_hd, if_pos rfl]) rfl
        exact ⟨arr, fr, g1, g2, g3, himp _ (Box.rel_later hlater g4)⟩
      · obtain ⟨b0, h0, h1⟩ := live i b hi
        have := h1 ei
        subst this
        obtain ⟨arr, fr, g1, g2, g3, g4⟩ := hr.boxes i b h0 hbk
        exact ⟨arr, fr, g1, g2, g3, Box.rel_later hlater g4⟩
    own := fun i b hi => by obtain ⟨b0, h0, _⟩ := live i b hi; exact hr.own i b0 h0
    inj := fun i i' bi bj hi hj he => by
      obtain ⟨b1, h1, _⟩ := live i bi hi
      obtain ⟨b2, h2, _⟩ := live i' bj hj
      exact hr.inj i i' b1 b2 h1 h2 he
    keep := fun i b hi hge => by obtain ⟨b0, h0, _⟩ := live i b hi; exact hr.keep i b0 h0 hge
    ext := hr.ext
    res := by
      obtain ⟨F, hG⟩ := hr.res
      refine hG.keep (fun i e cs R hi => ?_) (fun _ _ _ _ _ hi => hi) (fun _ _ ho => ho) (fun b _ hx _ _ => hx) (fun i bi hi => ?_)
      · rw [stat_hd] at hi ⊢
        by_cases e : i = j
        · rw [if_pos e] at hi; cases hi
        · rw [if_neg e] at hi ⊢; exact ⟨hi, rfl⟩
      · obtain ⟨b0, h0, _⟩ := live i bi hi
        exact .inl ⟨b0, h0, rfl⟩
    frame := hr.frame, big := hr.big, os := hr.os, tape := hr.tape, output := hr.output }
theorem Le.trim {j : Nat} {e : TypeId} {A B : List CV} {r : Bool} : Le n C ⟨s, (j, some ⟨e, A ++ B, r⟩) :: bx, X⟩ ⟨s, (j, some ⟨e, A, true⟩) :: bx, X⟩ := ⟨fun ι a w hr => ⟨ι, hr.rebox fun vs h => by
  unfold Box.rel at h ⊢
  cases r with
  | false =>
    obtain ⟨va, vb, e, h1⟩ := rel_front h
    exact ⟨va, vb, e, h1⟩
  | true =>
    obtain ⟨us, sp, e, hl⟩ := h
    obtain ⟨va, vb, e2, h1⟩ := rel_front hl
    exact ⟨va, vb ++ sp, by rw [e, e2, List.append_assoc], h1⟩⟩⟩
theorem Leads.done {Mid : St → Prop} {σ : St} (h : Mid σ) : Leads n C Mid σ := ⟨fun ι a w hr => ⟨ι, σ, h, hr⟩⟩
theorem Leads.closeCell {Mid : St → Prop} {j k len sz : Nat} {el el2 : TypeId} {A B : List CV} {row2 : Bool} {vals : List Value} {row : Bool} (hO : OwnedM C X H) (hlen : vals.length = len * sz)
    (hs : s.all (fun p => p.2.inUse ((j, none) :: bx)) = true) (hA : A.all (CV.inUse ((j, none) :: bx)) = true) (hB : B.all (CV.inUse ((j, none) :: bx)) = true) (hb : bx.all (fun p => match p.2 with | some b => b.cells.all (CV.inUse ((j, none) :: bx)) | none => true) = true) (hk : look k bx = none) (hjk : Nat.beq j k = false)
    (h : ∀ (b : Nat) (o : Obj) (v : Value), H b = none → X b = none → OwnedM C X (withBlock H b o) → LeadsTo (withBlock H b o) b v el sz vals →
      Leads n C Mid ⟨s, (j, some ⟨el2, A ++ .val v :: B, row2⟩) :: bx, joinM X (withBlock H b o)⟩) :
    Leads n C Mid ⟨s, (j, some ⟨el2, A ++ .slc k 0 len sz :: B, row2⟩) :: (k, some ⟨el, vals.map .val, row⟩) :: bx, joinM X H⟩ := by
  refine Leads.freezeCell hs hA hB hb hk hjk fun blk cap arr fr h1 h2 h3 h4 h5 => ?_
  rw [joinM_with]
  obtain ⟨g1, g2, g3⟩ := closed (el := el) hlen h1 hO h2 h3 h4 h5
  exact h blk _ _ g1 (joinM_none h1).2 g2 g3
end
end Go.Lg
end
section
namespace Go.Lg
open Go Go.RowKit
def nilSlc : Value := .slice none 0 0
def blkOf : Value → Option Nat
  | .slice (some a) _ _ => some a.block
  | _ => none
def SliceTo (H : Nat → Option Obj) (v : Value) (el : TypeId) (vals : List Value) : Prop := ∃ b, LeadsTo H b v el 1 vals
structure Cells (H : Nat → Option Obj) (el : TypeId) (op : List Nat) (cells : List Value) (chs : List (List Value)) : Prop where
  len : cells.length = chs.length
  at_ : ∀ (i : Nat) (c : Value) (x : List Value), i ∉ op → cells[i]? = some c → chs[i]? = some x → SliceTo H c el x
  apart : ∀ (i j : Nat) (c c' : Value) (b : Nat), i ∉ op → j ∉ op → cells[i]? = some c → cells[j]? = some c' → blkOf c = some b → blkOf c' = some b → i = j
section
variable {H : Nat → Option Obj} {el : TypeId} {op : List Nat} {cells : List Value} {chs : List (List Value)}
end
def Grid (H : Nat → Option Obj) (st el : TypeId) (v : Value) (cells : List Value) (chs : List (List Value)) : Prop :=
  (∃ db, LeadsTo H db v st 1 cells ∧ Cells (cutM H db) el [] cells chs) ∨ (v = nilSlc ∧ cells = [] ∧ chs = [])
end Go.Lg
end
section
namespace Go.Lg
open Go Go.RowKit
section
variable {P : Program} {n : Nat} {ops os : List Oper} {acc : List Eff} {K : List Eff → St → Prop} {s : List (Nat × LV)} {bx : List (Nat × Option Box)} {X : Nat → Option Obj} {σ : St}
theorem run_equal_slcNil {P : Program} (w : World) (t : TypeId) (a : Option Addr) (l c sz : Nat) (h : sliceOf P t = some sz) : (Op.equal t (.slice a l c) (.slice none 0 0)).run P w = .ok a.isNone w := by
  obtain ⟨e, hu, _⟩ := sliceOf_spec h
  have key : ∀ d, (Op.equalIn (d + 1) t (.slice a l c) (.slice none 0 0)).run P w = .ok a.isNone w := fun d => by
    cases a <;> simp [Op.equalIn, run_underlying hu]
  exact key 9999
theorem LOK.slcNil {d : Nat} {op : BinOp} {t t' : TypeId} {x : Operand} {ty : TypeId} {pos : String} {after_ : Array Edge} {g : Option (Nat × Bool)} {r : Bool} {ad : Option Addr} {len cap sz : Nat} (hx : σ.ev x = some (.sv (.one (.val (.slice ad len cap))))) (ht : sliceOf P t = some sz)
    (hop : (op = .eql ∧ r = ad.isNone) ∨ (op = .neq ∧ r = !ad.isNone)) :
    LOK P n ops ⟨some d, .binOp op t x (.const (.slice none 0 0)) t', ty, pos, after_, g⟩ σ ⟨[(d, .sv (.one (.val (.bool r))))], [], []⟩ :=
  LOK.value fun σ' ha C ι a w hr => by
    have hv : a.eval x = .slice ad len cap := hr.ev ((ha.ev (x := x) (by simp [Op.operands])).trans hx)
    have hc : a.eval (.const (.slice none 0 0)) = .slice none 0 0 := rfl
    have h1 := run_equal_slcNil w t ad len cap sz ht
    rcases hop with ⟨rfl, rfl⟩ | ⟨rfl, rfl⟩
    · exact ⟨_, by simp only [execOp, hv, hc, eqGuard, Sem.run_bind]; simp [binOp, h1], rfl⟩
    · exact ⟨_, by simp only [execOp, hv, hc, eqGuard, Sem.run_bind]; simp [binOp, h1], rfl⟩
theorem K.slcNil {d : Nat} {op : BinOp} {t t' : TypeId} {x : Operand} {ty : TypeId} {pos : String} {after_ : Array Edge} {g : Option (Nat × Bool)} {r : Bool} {ad : Option Addr} {len cap sz : Nat} (hx : (⟨s, bx, X⟩ : St).ev x = some (.sv (.one (.val (.slice ad len cap))))) (ht : sliceOf P t = some sz)
    (hop : (op = .eql ∧ r = ad.isNone) ∨ (op = .neq ∧ r = !ad.isNone)) (hw : Want ops s g) (kont : RunK P n ops os ⟨(d, .sv (.one (.val (.bool r)))) :: s, bx, X⟩ (⟨[(d, .sv (.one (.val (.bool r))))], [], []⟩ :: acc) K) :
    RunK P n ops (⟨some d, .binOp op t x (.const (.slice none 0 0)) t', ty, pos, after_, g⟩ :: os) ⟨s, bx, X⟩ acc K := RunK.g1 (LOK.slcNil hx ht hop) hw kont
end
end Go.Lg
end
section
namespace Go.Lg
open Go Go.RowKit
def LentBox (Y : Nat → Option Obj) (b : Box) (blk m : Nat) : Prop :=
  match b.row with
  | .bool _ => ∃ (arr : Array Value) (fr : Nat × Nat) (us sp : List Value), Y blk = some (.cells arr b.elem fr) ∧ arr.size = m ∧ arr.toList = us ++ sp ∧ ∀ vals : List Value, b.cells = vals.map .val → us = vals
  | .res R => ∃ H : Nat → Option Obj, R.holds (blk, m) H ∧ ∀ i o, H i = some o → Y i = some o
def LentC (S : Nat → Option (Option Box)) (Y : Nat → Option Obj) : CV → Value → Prop
  | .val v, u => u = v
  | .slc k off len sz, u => ∃ (b : Box) (blk cap m : Nat), S k = some (some b) ∧ u = .slice (some ⟨blk, off, none⟩) len cap ∧ len ≤ cap ∧ off + cap * sz ≤ m ∧ LentBox Y b blk m
  | _, _ => False
def LentCs (S : Nat → Option (Option Box)) (Y : Nat → Option Obj) : List CV → List Value → Prop
  | [], us => us = []
  | c :: l, us => ∃ u us', us = u :: us' ∧ LentC S Y c u ∧ LentCs S Y l us'
def LentL (S : Nat → Option (Option Box)) (Y : Nat → Option Obj) (lv : LV) (u : Value) : Prop :=
  match lv with
  | .sv (.one c) => LentC S Y c u
  | .sv (.agg cs) => ∃ us : List Value, u = .agg us.toArray ∧ LentCs S Y cs us
  | _ => False
def LentLs (S : Nat → Option (Option Box)) (Y : Nat → Option Obj) : List LV → List Value → Prop
  | [], us => us = []
  | lv :: l, us => ∃ u us', us = u :: us' ∧ LentL S Y lv u ∧ LentLs S Y l us'
def lendC (S : Nat → Option (Option Box)) (ks : List Nat) : CV → Bool
  | .val _ => true
  | .slc k _ _ _ => ks.contains k && (match S k with | some (some _) => true | _ => false)
  | _ => false
def lendL (S : Nat → Option (Option Box)) (ks : List Nat) : LV → Bool
  | .sv (.one c) => lendC S ks c
  | .sv (.agg cs) => cs.all (lendC S ks)
  | _ => false
section
variable {P : Program} {n : Nat} {ops os : List Oper} {acc : List Eff} {K : List Eff → St → Prop} {s : List (Nat × LV)} {bx : List (Nat × Option Box)} {X : Nat → Option Obj} {σ : St}
theorem lentBox_of {C : Ctx} {ι : Nat → Nat × Nat} {a : Act} {w : World} {σ' : St} (hr : Rel n C ι σ' a w) {k : Nat} {b : Box} (hst : σ'.stat k = some (some b)) : LentBox (fun i => w.heap[i]?) b (ι k).1 (ι k).2 := by
  obtain ⟨e, cs, row⟩ := b
  cases row with
  | bool r =>
    obtain ⟨arr, fr, harr, _, hsz, hbr⟩ := hr.boxes k _ hst rfl
    unfold Box.rel at hbr
    cases r with
    | false => exact ⟨arr, fr, arr.toList, [], harr, hsz, by simp, fun vals e => by simp only at e hbr; rw [e] at hbr; exact rel_vals hbr⟩
    | true =>
      obtain ⟨us, sp, e, hl⟩ := hbr
      exact ⟨arr, fr, us, sp, harr, hsz, e, fun vals e => by simp only at e hl; rw [e] at hl; exact rel_vals hl⟩
  | res R =>
    obtain ⟨F, hF⟩ := hr.res
    exact ⟨F k, (hF.holds k _ _ _ hst).1, fun i o h => (hF.mem k i o h).2.1⟩
theorem lentC_of {C : Ctx} {ι : Nat → Nat × Nat} {a : Act} {w : World} {σ' : St} (hr : Rel n C ι σ' a w) (ks : List Nat) (S : Nat → Option (Option Box)) (hS : ∀ k, k ∈ ks → σ'.stat k = S k) {c : CV} {u : Value} (hl : lendC S ks c = true) (h : c.rel σ'.stat ι u) : LentC S (fun i => w.heap[i]?) c u := by
  cases c with
  | val v => exact h
  | slc k off len sz =>
    simp only [lendC, Bool.and_eq_true] at hl
    have hk : k ∈ ks := by simpa using hl.1
    cases hs : S k with
    | none => rw [hs] at hl; exact absurd hl.2 (by simp)
    | some x =>
      cases x with
      | none => rw [hs] at hl; exact absurd hl.2 (by simp)
      | some b =>
        have hst : σ'.stat k = some (some b) := by rw [hS k hk, hs]
        simp only [CV.rel, hst] at h
        obtain ⟨cap, rfl, h3, h4⟩ := h
        exact ⟨b, _, cap, _, hs, rfl, h3, h4, lentBox_of hr hst⟩
  | ptr _ _ => cases hl
  | mp _ => cases hl
  | fn _ _ _ => cases hl
  | junk => cases hl
theorem lentCs_of {C : Ctx} {ι : Nat → Nat × Nat} {a : Act} {w : World} {σ' : St} (hr : Rel n C ι σ' a w) (ks : List Nat) (S : Nat → Option (Option Box)) (hS : ∀ k, k ∈ ks → σ'.stat k = S k) : ∀ {cs : List CV} {us : List Value}, cs.all (lendC S ks) = true → CVs.rel σ'.stat ι cs us → LentCs S (fun i => w.heap[i]?) cs us
  | [], [], _, _ => rfl
  | [], _ :: _, _, h => h.elim
  | _ :: _, [], _, h => h.elim
  | c :: l, u :: us, hl, h => by
    simp only [List.all_cons, Bool.and_eq_true] at hl
    exact ⟨u, us, rfl, lentC_of hr ks S hS hl.1 h.1, lentCs_of hr ks S hS hl.2 h.2⟩
theorem lentLs_of {C : Ctx} {ι : Nat → Nat × Nat} {a : Act} {w : World} {σ' : St} (hr : Rel n C ι σ' a w) (ks : List Nat) (S : Nat → Option (Option Box)) (hS : ∀ k, k ∈ ks → σ'.stat k = S k) : ∀ {lvs : List LV} {us : List Value}, lvs.all (lendL S ks) = true → LVs.rel σ'.stat ι lvs us → LentLs S (fun i => w.heap[i]?) lvs us
  | [], [], _, _ => rfl
  | [], _ :: _, _, h => h.elim
  | _ :: _, [], _, h => h.elim
  | lv :: l, u :: us, hl, h => by
    simp only [List.all_cons, Bool.and_eq_true] at hl
    refine ⟨u, us, rfl, ?_, lentLs_of hr ks S hS hl.2 h.2⟩
    have h1 := h.1
    have h2 := hl.1
    match lv with
    | .sv (.one c) => exact lentC_of hr ks S hS h2 h1
    | .sv (.agg cs) =>
      obtain ⟨arr, rfl, hl'⟩ := h1
      exact ⟨arr.toList, by simp, lentCs_of hr ks S hS h2 hl'⟩
    | .tup _ => cases h2
theorem LOK.callL {d : Nat} {f : FuncId} {args : List Operand} {tys : Array TypeId} {ty : TypeId} {pos : String} {after_ : Array Edge} {g : Option (Nat × Bool)} {lvs : List LV} {r : LV} (ks : List Nat) (hargs : evs σ args = some lvs) (hl : lvs.all (lendL σ.stat ks) = true) (hent : Program.enters P f = true)
    (hs : ∀ (Y : Nat → Option Obj) (us : List Value), (∀ b o, σ.X b = some o → Y b = some o) → LentLs σ.stat Y lvs us → PSpec P Y f (us.map toLV) r) :
    LOK P n ops ⟨some d, .call ⟨.value (.func f), args.toArray, tys⟩, ty, pos, after_, g⟩ σ ⟨[(d, r)], ks, []⟩ := by
  refine ⟨fun σ' ha C ι a w hr hd next Q hn => ?_⟩
  have hargs' : evs σ' args = some lvs := by
    rw [evs_agree fun x hx => ha.ev (by simp [Op.operands, Call.operands, hx])]
    exact hargs
  have hrel := evs_rel hr hargs'
  have hlent := lentLs_of hr ks σ.stat (fun k hk => ha.stat k (.inl hk)) hl hrel
  have hc := (hs (fun b => w.heap[b]?) _ (fun b o hb => hr.ext b o (by rw [ha.X]; exact hb)) hlent).out w (args.toArray.map a.eval) (fun b o hb => hb) (by rw [Array.toList_map, List.toList_toArray]; exact args_rel _)
  unfold Oper.wp
  have hrun : (execOp a.eval ⟨some d, .call ⟨.value (.func f), args.toArray, tys⟩, ty, pos, after_, g⟩).run P w = .ok (.enter f (args.toArray.map a.eval)) w := by
    simp only [execOp, resolve, Act.eval, Deferred.ofValue, invoke, Sem.run_bind, Sem.run_pure, Result.andThen_ok]
    simp [run_enter hent]
  rw [hrun]
  refine hc.mono ?_
  rintro e w' ⟨v, rfl, hv, hb⟩
  exact hn ι _ w' ((hr.below hb).put (hd d rfl) (LV.rel_later (later_noS _ _ _) hv))
theorem K.callL {d : Nat} {f : FuncId} {args : List Operand} {tys : Array TypeId} {ty : TypeId} {pos : String} {after_ : Array Edge} {g : Option (Nat × Bool)} {lvs : List LV} {r : LV} (ks : List Nat) (hargs : evs ⟨s, bx, X⟩ args = some lvs) (hl : lvs.all (lendL (fun k => look k bx) ks) = true) (hent : Program.enters P f = true)
    (hs : ∀ (Y : Nat → Option Obj) (us : List Value), (∀ b o, X b = some o → Y b = some o) → LentLs (fun k => look k bx) Y lvs us → PSpec P Y f (us.map toLV) r) (hw : Want ops s g)
    (kont : RunK P n ops os ⟨(d, r) :: s, bx, X⟩ (⟨[(d, r)], ks, []⟩ :: acc) K) :
    RunK P n ops (⟨some d, .call ⟨.value (.func f), args.toArray, tys⟩, ty, pos, after_, g⟩ :: os) ⟨s, bx, X⟩ acc K := RunK.gen hw (LOK.callL ks hargs hl hent hs) kont
end
end Go.Lg
end
section
namespace Go.Lg
open Go Go.RowKit
def blkZ : Value → Option Nat
  | .slice (some a) (_ + 1) _ => some a.block
  | _ => none
def SliceZ (H : Nat → Option Obj) (v : Value) (el : TypeId) (sz : Nat) (vals : List Value) : Prop := (vals = [] ∧ ∃ ad cap, v = .slice ad 0 cap) ∨ ∃ b, LeadsTo H b v el sz vals ∧ vals ≠ []
structure Twigs (H : Nat → Option Obj) (el : TypeId) (sz : Nat) (op : List Nat) (cells : List Value) (chs : List (List Value)) : Prop where
  len : cells.length = chs.length
  at_ : ∀ (i : Nat) (c : Value) (x : List Value), i ∉ op → cells[i]? = some c → chs[i]? = some x → SliceZ H c el sz x
  apart : ∀ (i j : Nat) (c c' : Value) (b : Nat), i ∉ op → j ∉ op → cells[i]? = some c → cells[j]? = some c' → blkZ c = some b → blkZ c' = some b → i = j
section
variable {H : Nat → Option Obj} {el : TypeId} {sz : Nat} {op : List Nat} {cells : List Value} {chs : List (List Value)}
end
end Go.Lg
end
section
namespace Go.Lg.Fld
open Go Go.Lg
def rowsZ : List Cp → List Value → List Value
  | c :: cs, v :: vs => .int .i64 c.id :: .string ⟨c.nm.toArray⟩ :: v :: rowsZ cs vs
  | _, _ => []
theorem rowsZ_len : ∀ {cs : List Cp} {cells : List Value}, cells.length = cs.length → (rowsZ cs cells).length = cs.length * 3
  | [], [], _ => rfl
  | c :: cs, v :: vs, h => by
    simp only [rowsZ, List.length_cons] at h ⊢
    rw [rowsZ_len (cs := cs) (cells := vs) (by omega)]; omega
  | [], _ :: _, h => by simp at h
  | _ :: _, [], h => by simp at h
theorem rowsZ_split : ∀ {cs : List Cp} {cells : List Value} {i : Nat} {c : Cp} {v : Value}, cs[i]? = some c → cells[i]? = some v →
    rowsZ cs cells = rowsZ (cs.take i) (cells.take i) ++ .int .i64 c.id :: .string ⟨c.nm.toArray⟩ :: v :: rowsZ (cs.drop (i + 1)) (cells.drop (i + 1))
  | [], _, i, c, v, h, _ => by simp at h
  | _ :: _, [], i, c, v, _, h => by simp at h
  | a :: cs, u :: vs, 0, c, v, h1, h2 => by
    simp only [List.getElem?_cons_zero, Option.some.injEq] at h1 h2
    subst h1 h2
    rfl
  | a :: cs, u :: vs, i + 1, c, v, h1, h2 => by
    simp only [List.getElem?_cons_succ] at h1 h2
    simp only [rowsZ, List.take_succ_cons, List.drop_succ_cons, List.cons_append]
    rw [rowsZ_split h1 h2]
def flV (fs : List Fl) : List Value := (fs.map Fl.vals).flatten
theorem flV_len (fs : List Fl) : (flV fs).length = fs.length * 3 := by
  unfold flV
  induction fs with
  | nil => rfl
  | cons f t ih => rw [List.map_cons, List.flatten_cons, List.length_append, ih, List.length_cons]; simp [Fl.vals]; omega
theorem flV_at : ∀ {fs : List Fl} {k : Nat} {f : Fl}, fs[k]? = some f → k * 3 + 3 ≤ (flV fs).length ∧ ((flV fs).drop (k * 3)).take 3 = f.vals
  | [], k, f, h => by simp at h
  | a :: t, 0, f, h => by
    simp only [List.getElem?_cons_zero, Option.some.injEq] at h
    subst h
    refine ⟨by rw [flV_len, List.length_cons]; omega, ?_⟩
    unfold flV
    rw [Nat.zero_mul, List.drop_zero, List.map_cons, List.flatten_cons, List.take_append_of_le_length (by simp [Fl.vals])]
    rfl
  | a :: t, k + 1, f, h => by
    obtain ⟨h1, h2⟩ := flV_at (fs := t) (k := k) (f := f) (by simpa using h)
    refine ⟨by rw [flV_len] at h1 ⊢; simp; omega, ?_⟩
    rw [← h2]
    unfold flV
    rw [List.map_cons, List.flatten_cons, show (k + 1) * 3 = a.vals.length + k * 3 by simp [Fl.vals]; omega, List.drop_length_add_append]
theorem fields_block {Y : Nat → Option Obj} {blk : Nat} {arr : Array Value} {el : TypeId} {fr : Nat × Nat} {fs : List Fl} {sp : List Value} (hY : Y blk = some (.cells arr el fr)) (ha : arr.toList = flV fs ++ sp)
    (hs : ∀ f ∈ fs, (-9223372036854775808 ≤ f.kind ∧ f.kind < 9223372036854775808) ∧ (-9223372036854775808 ≤ f.count ∧ f.count < 9223372036854775808)) : FieldsIn Y (some ⟨blk, 0, none⟩) fs := by
  refine ⟨fun k r hr => ?_, hs⟩
  rw [List.getElem?_map] at hr
  cases hf : fs[k]? with
  | none => rw [hf] at hr; cases hr
  | some f =>
    rw [hf] at hr
    simp only [Option.map_some, Option.some.injEq] at hr
    subst hr
    obtain ⟨h1, h2⟩ := flV_at hf
    refine ⟨blk, 0, arr, el, fr, rfl, hY, ?_, ?_⟩
    · rw [← Array.length_toList, ha, List.length_append]; omega
    · rw [ha, Nat.zero_add, List.drop_append_of_le_length (by omega), List.take_append_of_le_length (by rw [List.length_drop]; omega)]; exact h2
end Go.Lg.Fld
namespace Go.Proofs.YtnfbccfghgmfiaaGreat
open Go Go.Lg Go.Lg.Fld
set_option maxRecDepth 100000
end Go.Proofs.YtnfbccfghgmfiaaGreat
end
section
namespace Go.Lg
open Go Go.RowKit
section
variable {P : Program} {n : Nat} {ops os : List Oper} {acc : List Eff} {K : List Eff → St → Prop} {s : List (Nat × LV)} {bx : List (Nat × Option Box)} {X : Nat → Option Obj} {σ : St}
theorem LOK.cutLoX {d b off len cap sz l : Nat} {t : TypeId} {x y : Operand} {ty : TypeId} {pos : String} {after_ : Array Edge} {g : Option (Nat × Bool)} {kh : IntKind} (hx : σ.ev x = some (.sv (.one (.val (.slice (some ⟨b, off, none⟩) len cap))))) (hy : σ.ev y = some (.sv (.one (.val (.int kh (l : Nat))))))
    (ht : sliceOf P t = some sz) (hl : l ≤ len) : LOK P n ops ⟨some d, .slice t x (some y) none none, ty, pos, after_, g⟩ σ ⟨[(d, .sv (.one (.val (.slice (some ⟨b, if cap = l then off else off + l * sz, none⟩) (len - l) (cap - l)))))], [], []⟩ :=
  LOK.value fun σ' ha C ι a w hr => by
    have h1 : a.eval x = _ := hr.ev ((ha.ev (x := x) (by simp [Op.operands])).trans hx)
    have h2 : a.eval y = .int kh (l : Nat) := hr.ev ((ha.ev (x := y) (by simp [Op.operands])).trans hy)
    obtain ⟨e, hu, hsz⟩ := sliceOf_spec ht
    have hrun : (Instr.sliceAt t (.slice (some ⟨b, off, none⟩) len cap) (some (.int kh (l : Nat))) none none).run P w = .ok (.slice (some ⟨b, if cap = l then off else off + l * sz, none⟩) (len - l) (cap - l)) w := by
      have ha0 : (⟨b, off, none⟩ : Addr).add (l * sz) = ⟨b, off + l * sz, none⟩ := addr_add _ _ _
      simp [Instr.sliceAt, Instr.slice, run_underlying hu, Instr.sliceBounds, Instr.sliceBound, asIntOf, hsz, ha0]
      rw [if_pos hl]
      by_cases e : cap = l
      · simp [e]
      · simp [e]
    exact ⟨_, by simp only [execOp, h1, h2, Option.map_none, Option.map_some, Sem.run_bind, hrun, Result.andThen_ok, Sem.run_pure], rfl⟩
theorem K.cutLoX {d b off len cap sz l off' len' cap' : Nat} {t : TypeId} {x y : Operand} {ty : TypeId} {pos : String} {after_ : Array Edge} {g : Option (Nat × Bool)} {kh : IntKind} (hx : (⟨s, bx, X⟩ : St).ev x = some (.sv (.one (.val (.slice (some ⟨b, off, none⟩) len cap))))) (hy : (⟨s, bx, X⟩ : St).ev y = some (.sv (.one (.val (.int kh (l : Nat))))))
    (ht : sliceOf P t = some sz) (hl : l ≤ len) (ho : (if cap = l then off else off + l * sz) = off') (hn : len - l = len') (hc : cap - l = cap') (hw : Want ops s g) (kont : RunK P n ops os ⟨(d, .sv (.one (.val (.slice (some ⟨b, off', none⟩) len' cap')))) :: s, bx, X⟩ (⟨[(d, .sv (.one (.val (.slice (some ⟨b, off', none⟩) len' cap'))))], [], []⟩ :: acc) K) :
    RunK P n ops (⟨some d, .slice t x (some y) none none, ty, pos, after_, g⟩ :: os) ⟨s, bx, X⟩ acc K := by
  subst ho hn hc
  exact RunK.g1 (LOK.cutLoX hx hy ht hl) hw kont
end
end Go.Lg
end
section
namespace Go.Lg
open Go Go.RowKit
section
variable {n : Nat} {C : Ctx} {X Y : Nat → Option Obj} {s : List (Nat × LV)} {bx : List (Nat × Option Box)}
theorem Le.drop (hXY : ∀ b o, X b = some o → Y b = some o) : Le n C ⟨s, bx, Y⟩ ⟨s, bx, X⟩ := ⟨fun ι a w hr => ⟨ι, by
  have hn : ∀ b, Y b = none → X b = none := fun b hb => by
    cases hx : X b with
    | none => rfl
    | some o => rw [hXY b o hx] at hb; cases hb
  exact {
    defers := hr.defers, size := hr.size, slots := hr.slots, boxes := hr.boxes
    own := fun k b hk => ⟨(hr.own k b hk).1, hn _ (hr.own k b hk).2⟩
    inj := hr.inj, keep := hr.keep
    ext := fun b o hb => hr.ext b o (hXY b o hb)
    res := by
      obtain ⟨F, hF⟩ := hr.res
      exact ⟨F, hF.holds, fun k b o h => by
        obtain ⟨h1, h2, h3, h4, h5, h6⟩ := hF.mem k b o h
        exact ⟨h1, h2, h3, h4, hn _ h5, h6⟩, hF.apart⟩
    frame := hr.frame, big := hr.big, os := hr.os, tape := hr.tape, output := hr.output }⟩⟩
end
end Go.Lg
end
section
namespace Go.Lg
open Go Go.RowKit
section
variable {n : Nat} {C : Ctx} {σ : St} {ι : Nat → Nat × Nat} {a : Act} {w : World}
theorem Rel.resStep (hr : Rel n C ι σ a w) {k : Nat} {e : TypeId} {cs : List CV} {R : Rsc} (hk : σ.stat k = some (some ⟨e, cs, .res R⟩)) :
    ∃ H, R.holds (ι k) H ∧ (∀ b o, H b = some o → w.heap[b]? = some o) ∧ H (ι k).1 ≠ none ∧
      ∀ (w' : World) (H' : Nat → Option Obj) (R' : Rsc), (∀ b, H b = none → b < w.heap.size → w'.heap[b]? = w.heap[b]?) → (∀ b o, H' b = some o → w'.heap[b]? = some o ∧ Loose o) → (∀ b, H' b ≠ none → H b ≠ none) → H' (ι k).1 ≠ none → R'.holds (ι k) H' →
        w.heap.size ≤ w'.heap.size → w'.os = w.os → w'.tape = w.tape → w'.output = w.output → Rel n C ι ⟨σ.slots, (k, some ⟨0, [], .res R'⟩) :: σ.boxes, σ.X⟩ a w' := by
  obtain ⟨F, hF⟩ := hr.res
  refine ⟨F k, (hF.holds k _ _ _ hk).1, fun b o ho => (hF.mem k b o ho).2.1, (hF.holds k _ _ _ hk).2, fun w' H' R' hw hH' hsub hroot hR' hsz hos htp hou => ?_⟩
  have hst : ∀ j, (⟨σ.slots, (k, some ⟨0, [], .res R'⟩) :: σ.boxes, σ.X⟩ : St).stat j = if j = k then some (some ⟨0, [], .res R'⟩) else σ.stat j := fun j => stat_cons _ _ _ _ j _
  have live : ∀ j b, (⟨σ.slots, (k, some ⟨0, [], .res R'⟩) :: σ.boxes, σ.X⟩ : St).stat j = some (some b) → ∃ b0, σ.stat j = some (some b0) ∧ (j ≠ k → b = b0) := fun j b hj => by
    rw [hst] at hj
    by_cases e : j = k
    · exact ⟨_, by rw [e]; exact hk, fun h => absurd e h⟩
    · rw [if_neg e] at hj; exact ⟨b, hj, fun _ => rfl⟩
  have hlater : Later σ.stat (⟨σ.slots, (k, some ⟨0, [], .res R'⟩) :: σ.boxes, σ.X⟩ : St).stat ι ι := later_same ι fun j hj => by
    rw [hst]
    by_cases e : j = k
    · rw [if_pos e, e]; exact ⟨by simp, fun _ _ => ⟨_, hk⟩⟩
    · rw [if_neg e]; exact ⟨hj, fun b1 hb1 => ⟨b1, hb1⟩⟩
  have hout : ∀ b o, F k b = none → w.heap[b]? = some o → w'.heap[b]? = some o := fun b o h1 h2 => by rw [hw b h1 (Array.getElem?_eq_some_iff.1 h2).1]; exact h2
  have hnot : ∀ b, (∀ o, F k b = some o → False) → F k b = none := fun b h => by
    cases ho : F k b with
    | none => rfl
    | some o => exact (h o ho).elim
  exact {
    defers := hr.defers, size := hr.size
    slots := fun d lv hd => by
      obtain ⟨v, hv, hvr⟩ := hr.slots d lv hd
      exact ⟨v, hv, LV.rel_later hlater hvr⟩
    boxes := fun j b hj hbk => by
      by_cases ej : j = k
      · rw [hst, if_pos ej] at hj
        simp only [Option.some.injEq] at hj
        subst hj
        cases hbk
      · obtain ⟨b0, h0, h1⟩ := live j b hj
        have := h1 ej
        subst this
        obtain ⟨arr, fr, g1, g2, g3, g4⟩ := hr.boxes j b h0 hbk
        exact ⟨arr, fr, hout _ _ (hnot _ fun o ho => ej ((hF.mem k _ o ho).2.2.2.2.2 j b h0 rfl)) g1, g2, g3, Box.rel_later hlater g4⟩
    own := fun j b hj => by obtain ⟨b0, h0, _⟩ := live j b hj; exact hr.own j b0 h0
    inj := fun i j bi bj hi hj he => by
      obtain ⟨b1, h1, _⟩ := live i bi hi
      obtain ⟨b2, h2, _⟩ := live j bj hj
      exact hr.inj i j b1 b2 h1 h2 he
    keep := fun j b hj hge => by obtain ⟨b0, h0, _⟩ := live j b hj; exact hr.keep j b0 h0 hge
    ext := fun b o hb => hout b o (hnot _ fun o' ho => by
      have := (hF.mem k b o' ho).2.2.2.2.1
      have hb : σ.X b = some o := hb
      rw [hb] at this; cases this) (hr.ext b o hb)
    res := by
      refine ⟨fun j => open Classical in if j = k then H' else F j, fun j e' cs' R1 hj => ?_, fun j b o ho => ?_, fun i j b h1 h2 => ?_⟩
      · rw [hst] at hj
        by_cases ej : j = k
        · rw [if_pos ej] at hj
          cases hj
          rw [if_pos ej, ej]
          exact ⟨hR', hroot⟩
        · rw [if_neg ej] at hj
          rw [if_neg ej]
          exact hF.holds j e' cs' R1 hj
      · by_cases ej : j = k
        · rw [if_pos ej] at ho
          cases ho2 : F k b with
          | none => exact absurd ho2 (hsub b (by rw [ho]; simp))
          | some o2 =>
            obtain ⟨_, h2, _, h4, h5, h6⟩ := hF.mem k b o2 ho2
            refine ⟨⟨0, [], R', by rw [hst, if_pos ej]⟩, (hH' b o ho).1, (hH' b o ho).2, h4, h5, fun i bi hi ei => ?_⟩
            obtain ⟨b0, h0, _⟩ := live i bi hi
            rw [ej]; exact h6 i b0 h0 ei
        · rw [if_neg ej] at ho
          obtain ⟨⟨e1, cs1, R1, h1⟩, h2, h3, h4, h5, h6⟩ := hF.mem j b o ho
          refine ⟨⟨e1, cs1, R1, by rw [hst, if_neg ej]; exact h1⟩, hout b o (hnot _ fun o' ho' => ej (hF.apart j k b (by rw [ho]; simp) (by rw [ho']; simp))) h2, h3, h4, h5, fun i bi hi ei => ?_⟩
          obtain ⟨b0, h0, _⟩ := live i bi hi
          exact h6 i b0 h0 ei
      · by_cases ei : i = k
        · by_cases ej : j = k
          · rw [ei, ej]
          · rw [if_pos ei] at h1
            rw [if_neg ej] at h2
            rw [ei]; exact hF.apart k j b (hsub b h1) h2
        · by_cases ej : j = k
          · rw [if_neg ei] at h1
            rw [if_pos ej] at h2
            rw [ej]; exact hF.apart i k b h1 (hsub b h2)
          · rw [if_neg ei] at h1
            rw [if_neg ej] at h2
            exact hF.apart i j b h1 h2
    frame := fun b hb hn => by
      rw [← hr.frame b hb hn]
      refine hw b (hnot _ fun o ho => ?_) (Nat.lt_of_lt_of_le hb hr.big)
      rcases (hF.mem k b o ho).2.2.2.1 with h1 | h1
      · exact hn h1
      · omega
    big := Nat.le_trans hr.big hsz
    os := hos.trans hr.os, tape := htp.trans hr.tape, output := hou.trans hr.output }
theorem Rel.resNew (hr : Rel n C ι σ a w) {k m : Nat} {o : Obj} {R : Rsc} (hlt : k < 1000000) (hk : σ.stat k = none) (ho : Loose o) (hR : ∀ b, R.holds (b, m) (withBlock (fun _ => none) b o)) :
    Rel n C (put1 ι k (w.heap.size, m)) ⟨σ.slots, (k, some ⟨0, [], .res R⟩) :: σ.boxes, σ.X⟩ a (w.alloc o) := by
  obtain ⟨F, hF⟩ := hr.res
  have hst : ∀ j, (⟨σ.slots, (k, some ⟨0, [], .res R⟩) :: σ.boxes, σ.X⟩ : St).stat j = if j = k then some (some ⟨0, [], .res R⟩) else σ.stat j := fun j => stat_cons _ _ _ _ j _
  have hlater : Later σ.stat (⟨σ.slots, (k, some ⟨0, [], .res R⟩) :: σ.boxes, σ.X⟩ : St).stat ι (put1 ι k (w.heap.size, m)) := by
    intro j hj
    have hne : j ≠ k := by rintro rfl; exact hj hk
    rw [hst, if_neg hne]
    exact ⟨hj, fun b' hb' => ⟨by simp [put1, hne], b', hb'⟩⟩
  have hXlt : ∀ j o, σ.X j = some o → j < w.heap.size := fun j o hj => (Array.getElem?_eq_some_iff.1 (hr.ext j o hj)).1
  have hFlt : ∀ j b, F j b ≠ none → b < w.heap.size := fun j b hb => by
    cases h : F j b with
    | none => exact absurd h hb
    | some o => exact (Array.getElem?_eq_some_iff.1 (hF.mem j b o h).2.1).1
  have hnew : (w.alloc o).heap[w.heap.size]? = some o := heap_alloc_new w _
  exact {
    defers := hr.defers, size := hr.size
    slots := fun d lv hd => by
      obtain ⟨v, hv, hvr⟩ := hr.slots d lv hd
      exact ⟨v, hv, LV.rel_later hlater hvr⟩
    boxes := fun j b hj hbk => by
      rw [hst] at hj
      by_cases e : j = k
      · rw [if_pos e] at hj
        simp only [Option.some.injEq] at hj
        subst hj
        cases hbk
      · rw [if_neg e] at hj
        obtain ⟨arr, fr, g1, g2, g3, g4⟩ := hr.boxes j b hj hbk
        refine ⟨arr, fr, ?_, g2, by simp only [put1, e, if_false]; exact g3, Box.rel_later hlater g4⟩
        simp only [put1, e, if_false]
        rw [heap_alloc_lt (hr.blocklt hj)]
        exact g1
    own := fun j b hj => by
      rw [hst] at hj
      by_cases e : j = k
      · subst e
        simp only [put1, if_true]
        refine ⟨.inr hr.big, ?_⟩
        show σ.X w.heap.size = none
        cases hx : σ.X w.heap.size with
        | none => rfl
        | some o => exact absurd (hXlt _ o hx) (by omega)
      · rw [if_neg e] at hj
        simp only [put1, e, if_false]
        exact hr.own j b hj
    inj := fun i j bi bj hi hj heq => by
      rw [hst] at hi hj
      by_cases ei : i = k
      · by_cases ej : j = k
        · rw [ei, ej]
        · rw [if_neg ej] at hj
          have := hr.blocklt hj
          simp only [put1, ei, if_true, ej, if_false] at heq
          omega
      · rw [if_neg ei] at hi
        by_cases ej : j = k
        · have := hr.blocklt hi
          simp only [put1, ej, if_true, ei, if_false] at heq
          omega
        · rw [if_neg ej] at hj
          simp only [put1, ei, ej, if_false] at heq
          exact hr.inj i j bi bj hi hj heq
    keep := fun j b hj hge => by
      rw [hst] at hj
      have e : j ≠ k := by omega
      rw [if_neg e] at hj
      simp only [put1, e, if_false]
      exact hr.keep j b hj hge
    ext := fun j o hj => by rw [heap_alloc_lt (hXlt j o hj)]; exact hr.ext j o hj
    res := by
      refine ⟨fun j => open Classical in if j = k then withBlock (fun _ => none) w.heap.size o else F j, fun j e' cs' R1 hj => ?_, fun j b ob hob => ?_, fun i j b h1 h2 => ?_⟩
      · rw [hst] at hj
        by_cases ej : j = k
        · rw [if_pos ej] at hj
          cases hj
          rw [if_pos ej]
          simp only [put1, ej, if_true]
          exact ⟨hR _, by rw [withBlock_at]; simp⟩
        · rw [if_neg ej] at hj
          rw [if_neg ej]
          simp only [put1, ej, if_false]
          exact hF.holds j e' cs' R1 hj
      · by_cases ej : j = k
        · rw [if_pos ej] at hob
          unfold withBlock at hob
          split at hob
          · rename_i eb
            cases hob
            subst eb
            refine ⟨⟨0, [], R, by rw [hst, if_pos ej]⟩, hnew, ho, .inr hr.big, ?_, fun i bi hi ei => ?_⟩
            · cases hx : σ.X w.heap.size with
              | none => rfl
              | some o' => exact absurd (hXlt _ o' hx) (by omega)
            · rw [hst] at hi
              by_cases e : i = k
              · rw [e, ej]
              · rw [if_neg e] at hi
                simp only [put1, e, if_false] at ei
                have := hr.blocklt hi
                omega
          · cases hob
        · rw [if_neg ej] at hob
          obtain ⟨⟨e1, cs1, R1, h1⟩, h2, h3, h4, h5, h6⟩ := hF.mem j b ob hob
          have hlt := (Array.getElem?_eq_some_iff.1 h2).1
          refine ⟨⟨e1, cs1, R1, by rw [hst, if_neg ej]; exact h1⟩, by rw [heap_alloc_lt hlt]; exact h2, h3, h4, h5, fun i bi hi ei => ?_⟩
          rw [hst] at hi
          by_cases e : i = k
          · simp only [put1, e, if_true] at ei
            omega
          · rw [if_neg e] at hi
            simp only [put1, e, if_false] at ei
            exact h6 i bi hi ei
      · have hb : ∀ i, i ≠ k → F i b ≠ none → withBlock (fun _ => none) w.heap.size o b = none := fun i _ h => by
          have := hFlt i b h
          unfold withBlock
          rw [if_neg (by omega)]
        by_cases ei : i = k
        · by_cases ej : j = k
          · rw [ei, ej]
          · rw [if_pos ei] at h1
            rw [if_neg ej] at h2
            exact absurd (hb j ej h2) h1
        · by_cases ej : j = k
          · rw [if_neg ei] at h1
            rw [if_pos ej] at h2
            exact absurd (hb i ei h1) h2
          · rw [if_neg ei] at h1
            rw [if_neg ej] at h2
            exact hF.apart i j b h1 h2
    frame := fun j hj hn => by rw [heap_alloc_lt (Nat.lt_of_lt_of_le hj hr.big)]; exact hr.frame j hj hn
    big := by simp; exact Nat.le_succ_of_le hr.big
    os := hr.os, tape := hr.tape, output := hr.output }
end
structure KL (P : Program) (k : TypeId) : Prop where
  check : ∀ (w : World) (em : Bool) {v : Value} {l : Lit}, Go.keyOf P k v = some l → (Instr.checkKey em 10000 k v).run P w = .ok () w
  find : ∀ (w : World) {x : Value} {lx : Lit}, Go.keyOf P k x = some lx → ∀ es : List MapEntry, (∀ e ∈ es, ∃ l, Go.keyOf P k e.key = some l) →
    ((Instr.findKey k x es).run P w = .ok none w ∧ ∀ e ∈ es, e.key ≠ x) ∨ ∃ j e, (Instr.findKey k x es).run P w = .ok (some (j, e.val)) w ∧ es[j]? = some e ∧ e.key = x
  stays : ∀ (w : World) {v : Value} {l : Lit}, Go.keyOf P k v = some l → (Instr.keyThatStays v v).run P w = .ok v w
theorem KL.of {P : Program} {k : TypeId} (L : WideMaps.KeyLaw P k) : KL P k := ⟨L.check, L.find, L.stays⟩
theorem KL.str {P : Program} {k : TypeId} (h : P.underlying k = some .string) : KL P k := .of (WideMaps.string_law h)
theorem int_of_keyOf {P : Program} {k : TypeId} {q : IntKind} (hk : P.underlying k = some (.int q)) {v : Value} {l : Lit} (h : Go.keyOf P k v = some l) : ∃ n, v = .int q n := by
  rw [keyOf_int hk] at h
  unfold mapKey at h
  cases v <;> simp [hk] at h
  rename_i q' n
  exact ⟨n, by rw [h.1.1]⟩
open Go.MapKept Go.WideShapes Go.WideMaps in
theorem KL.int {P : Program} {k : TypeId} {q : IntKind} (hk : P.underlying k = some (.int q)) : KL P k where
  check w em _ _ h := by
    obtain ⟨n, rfl⟩ := int_of_keyOf hk h
    exact run_checkKey hk (d := .int q) (k := .int q n) rfl em 9999
  find w _ _ hx es hes := by
    obtain ⟨n, rfl⟩ := int_of_keyOf hk hx
    have hks : ∀ x ∈ es, IsKey (.int q) x.key := fun x hxm => by
      obtain ⟨l, hl⟩ := hes x hxm
      obtain ⟨n', e⟩ := int_of_keyOf hk hl
      rw [e]
      exact rfl
    rcases findNow_spec (d := .int q) (k := .int q n) rfl es 0 hks with ⟨h1, h2⟩ | ⟨j, e0, h1, h2, h3⟩
    · exact Or.inl ⟨run_findKey hk h1, h2⟩
    · exact Or.inr ⟨j, e0, by simpa using run_findKey hk h1, h2, h3⟩
  stays w _ _ h := by
    obtain ⟨n, rfl⟩ := int_of_keyOf hk h
    exact run_keyThatStays (d := .int q) (k := .int q n) rfl
def mapR (P : Program) (kt : TypeId) (m : List (Value × Value)) : Rsc := ⟨fun ρ H => ∃ es clock, H = withBlock (fun _ => none) ρ.1 (.map es clock) ∧ es.toList.map (fun x : MapEntry => (x.key, x.val)) = m ∧ (m.map (·.1)).Nodup ∧ ∀ p ∈ m, ∃ l, Go.keyOf P kt p.1 = some l⟩
def At (m : List (Value × Value)) (key v z : Value) : Prop := (key, v) ∈ m ∨ ((∀ p ∈ m, p.1 ≠ key) ∧ v = z)
def Put (m : List (Value × Value)) (key v : Value) (m' : List (Value × Value)) : Prop := (∃ i old, m[i]? = some (key, old) ∧ m' = m.set i (key, v)) ∨ ((∀ p ∈ m, p.1 ≠ key) ∧ m' = m ++ [(key, v)])
theorem same_ix {m : List (Value × Value)} (hnd : (m.map (·.1)).Nodup) {i j : Nat} {key v u : Value} (hi : m[i]? = some (key, v)) (hj : m[j]? = some (key, u)) : i = j := by
  have hpi : (m.map (·.1))[i]? = some key := by rw [List.getElem?_map, hi]; rfl
  have hpj : (m.map (·.1))[j]? = some key := by rw [List.getElem?_map, hj]; rfl
  obtain ⟨hi, hie⟩ := List.getElem?_eq_some_iff.1 hpi
  obtain ⟨hjj, hje⟩ := List.getElem?_eq_some_iff.1 hpj
  have hp := List.pairwise_iff_getElem.1 hnd
  rcases Nat.lt_trichotomy i j with h | h | h
  · exact absurd (hie.trans hje.symm) (hp i j hi hjj h)
  · exact h
  · exact absurd (hje.trans hie.symm) (hp j i hjj hi h)
theorem same_at {m : List (Value × Value)} (hnd : (m.map (·.1)).Nodup) {i j : Nat} {key v u : Value} (hi : m[i]? = some (key, v)) (hj : m[j]? = some (key, u)) : v = u := by
  have e := same_ix hnd hi hj
  subst e
  rw [hi] at hj
  simp only [Option.some.injEq, Prod.mk.injEq] at hj
  exact hj.2
def mapOf (P : Program) (t : TypeId) : Option (TypeId × TypeId) := match P.underlying t with | some (.map k e) => some (k, e) | _ => none
theorem mapOf_spec {P : Program} {t k e : TypeId} (h : mapOf P t = some (k, e)) : P.underlying t = some (.map k e) := by
  unfold mapOf at h
  split at h
  · rename_i h1; cases h; exact h1
  · cases h
section
variable {P : Program} {n : Nat} {ops os : List Oper} {acc : List Eff} {K : List Eff → St → Prop} {s : List (Nat × LV)} {bx : List (Nat × Option Box)} {X : Nat → Option Obj} {σ : St}
theorem LOK.makeMap {d k : Nat} {t kt : TypeId} {ty : TypeId} {pos : String} {after_ : Array Edge} {g : Option (Nat × Bool)} (hk : σ.fresh k = true) :
    LOK P n ops ⟨some d, .makeMap t none, ty, pos, after_, g⟩ σ ⟨[(d, .sv (.one (.mp k)))], [], [(k, some ⟨0, [], .res (mapR P kt [])⟩)]⟩ :=
  LOK.make fun σ' ha C ι a w hr => by
    have hk' : σ'.stat k = none := (ha.stat k (.inr (by simp))).trans (St.fresh_none hk)
    have hlt := St.fresh_lt hk
    have hrun := run_makeMap_plain (P := P) (w := w) t
    refine ⟨.map (some w.heap.size), w.alloc (.map #[] 0), put1 ι k (w.heap.size, 0), ?_, ?_, ?_⟩
    · simp only [execOp, Option.map_none, Sem.run_bind, hrun, Result.andThen_ok, Sem.run_pure]
    · exact hr.resNew hlt hk' trivial fun b => ⟨#[], 0, rfl, rfl, List.nodup_nil, fun _ h => by cases h⟩
    · simp [LV.rel, SV.rel, CV.rel, stat_cons, put1]
theorem K.makeMap {d : Nat} {t : TypeId} (kt : TypeId) {ty : TypeId} {pos : String} {after_ : Array Edge} {g : Option (Nat × Bool)} (hk : (⟨s, bx, X⟩ : St).fresh d = true) (hw : Want ops s g)
    (kont : RunK P n ops os ⟨(d, .sv (.one (.mp d))) :: s, (d, some ⟨0, [], .res (mapR P kt [])⟩) :: bx, X⟩ (⟨[(d, .sv (.one (.mp d)))], [], [(d, some ⟨0, [], .res (mapR P kt [])⟩)]⟩ :: acc) K) :
    RunK P n ops (⟨some d, .makeMap t none, ty, pos, after_, g⟩ :: os) ⟨s, bx, X⟩ acc K := RunK.g2 (LOK.makeMap hk) hw kont
theorem LOK.mapUpdate {k : Nat} {t kt et : TypeId} {x y u : Operand} {ty : TypeId} {pos : String} {after_ : Array Edge} {g : Option (Nat × Bool)} {m m' : List (Value × Value)} {e : TypeId} {cs : List CV} {key v : Value} {l : Lit} {lv : LV}
    (hx : σ.ev x = some (.sv (.one (.mp k)))) (hy : σ.ev y = some (.sv (.one (.val key)))) (hu : σ.ev u = some lv) (hlv : ∀ (S : Nat → Option (Option Box)) (ι : Nat → Nat × Nat) (w : Value), lv.rel S ι w → w = v) (hk : σ.stat k = some (some ⟨e, cs, .res (mapR P kt m)⟩)) (hm : mapOf P t = some (kt, et)) (L : KL P kt) (hkey : Go.keyOf P kt key = some l) (hput : Put m key v m') :
    LOK P n ops ⟨none, .mapUpdate t x y u, ty, pos, after_, g⟩ σ ⟨[], [], [(k, some ⟨0, [], .res (mapR P kt m')⟩)]⟩ :=
  LOK.act fun σ' ha C ι a w hr => by
    have hk' := (ha.stat k (.inr (by simp))).trans hk
    have hv := hr.ev ((ha.ev (x := x) (by simp [Op.operands])).trans hx)
    have hkv : a.eval y = key := hr.ev ((ha.ev (x := y) (by simp [Op.operands])).trans hy)
    have huv : a.eval u = v := hlv _ _ _ (hr.ev ((ha.ev (x := u) (by simp [Op.operands])).trans hu))
    simp only [LV.rel, SV.rel, CV.rel, hk'] at hv
    obtain ⟨H, ⟨es, clock, hHe, he, hnd, hkeys⟩, hH, _, hstep⟩ := hr.resStep hk'
    have hb := hH (ι k).1 (.map es clock) (by rw [hHe]; exact withBlock_at _ _ _)
    have ht := mapOf_spec hm
    have hall : ∀ x ∈ es.toList, ∃ l, Go.keyOf P kt x.key = some l := fun x hx => by
      refine hkeys (x.key, x.val) ?_
      rw [← he]
      exact List.mem_map.2 ⟨x, hx, rfl⟩
    have hset := fun (o' : Obj) => MapKept.heap_set (o' := o') hb
    have hmain : ∃ es' clock', (Instr.mapUpdate t (.map (some (ι k).1)) key v).run P w = .ok () { w with heap := w.heap.setIfInBounds (ι k).1 (.map es' clock') } ∧ es'.toList.map (fun x : MapEntry => (x.key, x.val)) = m' ∧ (m'.map (·.1)).Nodup ∧ ∀ p ∈ m', ∃ l, Go.keyOf P kt p.1 = some l := by
      rcases L.find w hkey es.toList hall with ⟨h1, h2⟩ | ⟨j, e0, h1, h2, h3⟩
      · have hno : ∀ p ∈ m, p.1 ≠ key := fun p hp => by
          rw [← he] at hp
          obtain ⟨x, hx, rfl⟩ := List.mem_map.1 hp
          exact h2 x hx
        have hm' : m' = m ++ [(key, v)] := by
          rcases hput with ⟨i, old, h4, _⟩ | ⟨_, h4⟩
          · exact absurd rfl (hno _ (List.mem_of_getElem? h4))
          · exact h4
        refine ⟨es.push { key := key, val := v, born := clock }, clock + 1, ?_, by rw [hm', Array.toList_push, List.map_append, he]; rfl, ?_, ?_⟩
        · simp [Instr.mapUpdate, run_underlying ht, MapKept.run_getObj_map hb, L.check w _ hkey, h1, MapKept.run_setObj_map _ hb, Result.andThen]
        · rw [hm', List.map_append]
          refine List.nodup_append.2 ⟨hnd, by simp, fun x hx y hy e => ?_⟩
          obtain ⟨p, hp, rfl⟩ := List.mem_map.1 hx
          simp at hy
          rw [hy] at e
          exact hno p hp e
        · intro p hp
          rw [hm'] at hp
          rcases List.mem_append.1 hp with hp | hp
          · exact hkeys p hp
          · simp at hp; subst hp; exact ⟨l, hkey⟩
      · have hj : es[j]? = some e0 := by simpa using h2
        have hmj : m[j]? = some (key, e0.val) := by rw [← he, List.getElem?_map, h2, ← h3]; rfl
        have hm' : m' = m.set j (key, v) := by
          rcases hput with ⟨i, old, h4, h5⟩ | ⟨h4, _⟩
          · have hij : i = j := same_ix hnd h4 hmj
            rw [h5, hij]
          · exact absurd rfl (h4 _ (List.mem_of_getElem? hmj))
        refine ⟨es.modify j fun x => { x with key := key, val := v }, clock, ?_, ?_, ?_, ?_⟩
        · have hst := L.stays w hkey
          have hks : ((es[j]?).map (·.key)).getD key = key := by rw [hj]; exact h3
          simp [Instr.mapUpdate, run_underlying ht, MapKept.run_getObj_map hb, L.check w _ hkey, h1, hj, h3, hst, MapKept.run_setObj_map _ hb, Result.andThen]
        · rw [hm', ← he]
          apply List.ext_getElem?
          intro i
          rw [List.getElem?_map, Array.getElem?_toList, Array.getElem?_modify, List.getElem?_set, List.getElem?_map, Array.getElem?_toList]
          by_cases hij : j = i
          · subst hij
            simp [hj]
            have := (Array.getElem?_eq_some_iff.1 hj).1
            omega
          · simp [hij]
        · rw [hm', List.map_set]
          have : (m.map (·.1)).set j key = m.map (·.1) := by
            apply List.ext_getElem?
            intro i
            rw [List.getElem?_set]
            by_cases hij : j = i
            · subst hij
              rw [if_pos rfl, List.getElem?_map, hmj]
              have := (List.getElem?_eq_some_iff.1 hmj).1
              simp [this]
            · rw [if_neg hij]
          rw [this]; exact hnd
        · intro p hp
          rw [hm'] at hp
          rcases List.mem_or_eq_of_mem_set hp with hp | rfl
          · exact hkeys p hp
          · exact ⟨l, hkey⟩
    obtain ⟨es', clock', hrun, he', hnd', hkeys'⟩ := hmain
    refine ⟨{ w with heap := w.heap.setIfInBounds (ι k).1 (.map es' clock') }, ι, by simp only [execOp, hv, hkv, huv, Sem.run_bind, hrun, Result.andThen_ok, Sem.run_pure], ?_⟩
    refine hstep _ (withBlock (fun _ => none) (ι k).1 (.map es' clock')) _ (fun b hb2 _ => ?_) (fun b o ho => ?_) (fun b h => ?_) (by rw [withBlock_at]; simp) ⟨es', clock', rfl, he', hnd', hkeys'⟩ (by simp) rfl rfl rfl
    · refine (hset _).2 b fun e => ?_
      rw [hHe, e, withBlock_at] at hb2
      cases hb2
    · unfold withBlock at ho
      split at ho
      · rename_i e; cases ho; subst e
        exact ⟨(hset _).1, trivial⟩
      · cases ho
    · rw [hHe]
      unfold withBlock at h ⊢
      split
      · simp
      · rename_i hne; rw [if_neg hne] at h; exact h
end
end Go.Lg
end
section
namespace Go.Lg
open Go Go.RowKit
section
variable {P : Program} {n : Nat} {C : Ctx} {c : Code} {Q : Exit → St → Prop} {X : Nat → Option Obj}
theorem Rel.freezePtr {ι : Nat → Nat × Nat} {a : Act} {w : World} {s : List (Nat × LV)} {bx : List (Nat × Option Box)} {d k off : Nat} {el : TypeId} {vals : List Value} {row : Bool}
    (hs : s.all (fun p => p.2.inUse bx) = true) (hb : bx.all (fun p => match p.2 with | some b => b.cells.all (CV.inUse bx) | none => true) = true) (hk : look k bx = none)
    (hr : Rel n C ι ⟨(d, .sv (.one (.ptr k off))) :: s, (k, some ⟨el, vals.map .val, row⟩) :: bx, X⟩ a w) :
    ∃ (blk : Nat) (arr : Array Value) (fr : Nat × Nat), X blk = none ∧ Frozen C blk arr fr ∧ (∃ sp, arr.toList = vals ++ sp) ∧
      Rel n C ι ⟨(d, .sv (.one (.val (.pointer (some ⟨blk, off, none⟩))))) :: s, bx, withBlock X blk (.cells arr el fr)⟩ a w := by
  have hst : (⟨(d, .sv (.one (.ptr k off))) :: s, (k, some ⟨el, vals.map .val, row⟩) :: bx, X⟩ : St).stat k = some (some ⟨el, vals.map .val, row⟩) := by
    simp [St.stat, look]
  have hlk : ∀ k' x, look k' bx = some x → k' ≠ k := fun k' x h' e => by rw [e, hk] at h'; cases h'
  have hstb : ∀ k' x, look k' bx = some x → (⟨(d, .sv (.one (.ptr k off))) :: s, (k, some ⟨el, vals.map .val, row⟩) :: bx, X⟩ : St).stat k' = some x := fun k' x h' => by
    simp only [St.stat, look]
    cases e : Nat.beq k k' with
    | true => exact absurd (Nat.eq_of_beq_eq_true e).symm (hlk k' x h')
    | false => exact h'
  obtain ⟨arr, fr, harr, hth, hsz, hbr⟩ := hr.boxes k _ hst rfl
  obtain ⟨v, hv, hvr⟩ := hr.slots d (.sv (.one (.ptr k off))) (by simp [St.slot, look])
  simp only [LV.rel, SV.rel, CV.rel] at hvr
  rw [hst] at hvr
  subst hvr
  have hXn : X (ι k).1 = none := (hr.own k _ hst).2
  have hsp : ∃ sp, arr.toList = vals ++ sp := by
    unfold Box.rel at hbr
    cases hrow : row with
    | false =>
      rw [hrow] at hbr
      exact ⟨[], by rw [List.append_nil]; exact rel_vals hbr⟩
    | true =>
      rw [hrow] at hbr
      obtain ⟨us, sp, e, hl⟩ := hbr
      exact ⟨sp, by rw [e, rel_vals hl]⟩
  refine ⟨(ι k).1, arr, fr, hXn, ⟨(hr.own k _ hst).1, hth⟩, hsp, ?_⟩
  have hon : SameOn bx (⟨(d, .sv (.one (.ptr k off))) :: s, (k, some ⟨el, vals.map .val, row⟩) :: bx, X⟩ : St).stat (fun k => look k bx) := fun k' x h' => (hstb k' x h').trans h'.symm
  exact {
    defers := hr.defers, size := hr.size
    slots := fun d' lv hd => by
      simp only [St.slot, look] at hd
      cases e : Nat.beq d d' with
      | true =>
        rw [e] at hd
        simp at hd
        subst hd
        have := Nat.eq_of_beq_eq_true e
        subst this
        exact ⟨_, hv, rfl⟩
      | false =>
        rw [e] at hd
        have hd : look d' s = some lv := by simpa using hd
        obtain ⟨v', hv', hr'⟩ := hr.slots d' lv (by simp only [St.slot, look, e]; exact hd)
        exact ⟨v', hv', LV.rel_on hon (List.all_eq_true.1 hs _ (look_mem hd)) hr'⟩
    res := by
      obtain ⟨F, hF⟩ := hr.res
      refine hF.keep (fun j e cs R hj => ⟨hstb j _ hj, rfl⟩) (fun _ _ _ _ _ hj => hj) (fun _ _ ho => ho) (fun b _ hx hne _ => ?_) (fun j bj hj => .inl ⟨bj, hstb j _ hj, rfl⟩)
      show withBlock X (ι k).1 _ b = none
      unfold withBlock
      rw [if_neg (fun e => hne k _ hst rfl e.symm)]
      exact hx
    boxes := fun k' b hb' hbk => by
      have hb' : look k' bx = some (some b) := hb'
      obtain ⟨arr', fr', h1, h2, h3, h4⟩ := hr.boxes k' b (hstb k' _ hb') hbk
      exact ⟨arr', fr', h1, h2, h3, Box.rel_on hon (by simpa using List.all_eq_true.1 hb _ (look_mem hb')) h4⟩
    own := fun k' b hb' => by
      have hb' : look k' bx = some (some b) := hb'
      obtain ⟨h1, h2⟩ := hr.own k' b (hstb k' _ hb')
      refine ⟨h1, ?_⟩
      show withBlock X (ι k).1 _ (ι k').1 = none
      unfold withBlock
      rw [if_neg (fun e => hlk k' _ hb' (hr.inj k' k b _ (hstb k' _ hb') hst e))]
      exact h2
    inj := fun k1 k2 b1 b2 h1 h2 he => hr.inj k1 k2 b1 b2 (hstb k1 _ h1) (hstb k2 _ h2) he
    keep := fun k' b hb' hge => hr.keep k' b (hstb k' _ hb') hge
    ext := fun b o hbo => by
      have hbo : withBlock X (ι k).1 (.cells arr el fr) b = some o := hbo
      unfold withBlock at hbo
      by_cases e : b = (ι k).1
      · rw [if_pos e] at hbo
        rw [e, harr]; exact hbo
      · rw [if_neg e] at hbo
        exact hr.ext b o hbo
    frame := hr.frame, big := hr.big, os := hr.os, tape := hr.tape, output := hr.output }
theorem LWP.freezePtr {s : List (Nat × LV)} {bx : List (Nat × Option Box)} {d k off : Nat} {el : TypeId} {vals : List Value} {row : Bool}
    (hs : s.all (fun p => p.2.inUse bx) = true) (hb : bx.all (fun p => match p.2 with | some b => b.cells.all (CV.inUse bx) | none => true) = true) (hk : look k bx = none)
    (h : ∀ (blk : Nat) (arr : Array Value) (fr : Nat × Nat), X blk = none → Frozen C blk arr fr → (∃ sp, arr.toList = vals ++ sp) →
      LWP P n C c Q ⟨(d, .sv (.one (.val (.pointer (some ⟨blk, off, none⟩))))) :: s, bx, withBlock X blk (.cells arr el fr)⟩) :
    LWP P n C c Q ⟨(d, .sv (.one (.ptr k off))) :: s, (k, some ⟨el, vals.map .val, row⟩) :: bx, X⟩ := by
  refine ⟨fun ι a w hr => ?_⟩
  obtain ⟨blk, arr, fr, h1, h2, h5, h6⟩ := hr.freezePtr hs hb hk
  exact (h blk arr fr h1 h2 h5).out ι a w h6
end
section
variable {P : Program} {n : Nat} {ops os : List Oper} {acc : List Eff} {K : List Eff → St → Prop} {s : List (Nat × LV)} {bx : List (Nat × Option Box)} {X : Nat → Option Obj} {σ : St}
theorem LOK.makeFunc {d : Nat} {fn : Fn} {caps : List Operand} {us : List Value} {lvs : List LV} {ty : TypeId} {pos : String} {after_ : Array Edge} {g : Option (Nat × Bool)} (hc : evs σ caps = some lvs) (hu : plainLVs lvs = some us) :
    LOK P n ops ⟨some d, .makeFunc fn #[] caps.toArray, ty, pos, after_, g⟩ σ ⟨[(d, .sv (.one (.val (.func fn #[] us.toArray))))], [], []⟩ :=
  LOK.value fun σ' ha C ι a w hr => by
    have hc' : evs σ' caps = some lvs := by
      rw [evs_agree fun x hx => ha.ev (by simp [Op.operands, hx])]
      exact hc
    have e : caps.map a.eval = us := plainLVs_rel hu (evs_rel hr hc')
    exact ⟨.func fn #[] us.toArray, by rw [← e]; simp [execOp, Instr.makeFunc], rfl⟩
theorem K.makeFunc {d : Nat} {fn : Fn} {caps : List Operand} {us : List Value} {lvs : List LV} {ty : TypeId} {pos : String} {after_ : Array Edge} {g : Option (Nat × Bool)} (hc : evs ⟨s, bx, X⟩ caps = some lvs) (hu : plainLVs lvs = some us) (hw : Want ops s g)
    (kont : RunK P n ops os ⟨(d, .sv (.one (.val (.func fn #[] us.toArray)))) :: s, bx, X⟩ (⟨[(d, .sv (.one (.val (.func fn #[] us.toArray))))], [], []⟩ :: acc) K) :
    RunK P n ops (⟨some d, .makeFunc fn #[] caps.toArray, ty, pos, after_, g⟩ :: os) ⟨s, bx, X⟩ acc K := RunK.g1 (LOK.makeFunc hc hu) hw kont
theorem LOK.callF {d : Nat} {x : Operand} {f : FuncId} {caps : List Value} {args : List Operand} {tys : Array TypeId} {ty : TypeId} {pos : String} {after_ : Array Edge} {g : Option (Nat × Bool)} {lvs : List LV} {r : LV} (hx : σ.ev x = some (.sv (.one (.val (.func (.func f) #[] caps.toArray))))) (hargs : evs σ args = some lvs) (hcl : lvs.all LV.closed = true) (hs : PSpec P σ.X f (lvs ++ caps.map fun v => .sv (.one (.val v))) r) :
    LOK P n ops ⟨some d, .call ⟨.value x, args.toArray, tys⟩, ty, pos, after_, g⟩ σ ⟨[(d, r)], [], []⟩ := by
  refine ⟨fun σ' ha C ι a w hr hd next Q hn => ?_⟩
  have hargs' : evs σ' args = some lvs := by
    rw [evs_agree fun y hy => ha.ev (by simp [Op.operands, Call.operands, hy])]
    exact hargs
  have hv : a.eval x = .func (.func f) #[] caps.toArray := hr.ev ((ha.ev (x := x) (by simp [Op.operands, Call.operands])).trans hx)
  have hrel := LVs.rel_closed (S' := noS) (ι' := fun _ => (0, 0)) hcl (evs_rel hr hargs')
  have happ : ∀ {l : List LV} {us : List Value}, LVs.rel noS (fun _ => (0, 0)) l us → LVs.rel noS (fun _ => (0, 0)) (l ++ caps.map fun v => .sv (.one (.val v))) (us ++ caps) := fun {l} => by
    induction l with
    | nil =>
      intro us h
      cases us with
      | cons => exact h.elim
      | nil =>
        simp only [List.nil_append]
        have key : ∀ cs : List Value, LVs.rel noS (fun _ => (0, 0)) (cs.map fun v => LV.sv (.one (.val v))) cs := fun cs => by
          induction cs with
          | nil => trivial
          | cons c cs ih => exact ⟨rfl, ih⟩
        exact key caps
    | cons a l ih =>
      intro us h
      cases us with
      | nil => exact h.elim
      | cons u us => exact ⟨h.1, ih h.2⟩
  have hc := hs.out w (args.toArray.map a.eval ++ caps.toArray) (fun b o hb => hr.ext b o (by rw [ha.X]; exact hb)) (by simpa using happ hrel)
  unfold Oper.wp
  have hrun : (execOp a.eval ⟨some d, .call ⟨.value x, args.toArray, tys⟩, ty, pos, after_, g⟩).run P w = .ok (.enter f (args.toArray.map a.eval ++ caps.toArray)) w := by
    simp only [execOp, resolve, hv, Deferred.ofValue, invoke, Sem.run_bind, Sem.run_pure, Result.andThen_ok]
    simp [run_enter hs.enters]
  rw [hrun]
  refine hc.mono ?_
  rintro e w' ⟨v, rfl, hv, hb⟩
  exact hn ι _ w' ((hr.below hb).put (hd d rfl) (LV.rel_later (later_noS _ _ _) hv))
theorem K.callF {d : Nat} {x : Operand} {f : FuncId} {caps : List Value} {args : List Operand} {tys : Array TypeId} {ty : TypeId} {pos : String} {after_ : Array Edge} {g : Option (Nat × Bool)} {lvs : List LV} {r : LV} (hx : (⟨s, bx, X⟩ : St).ev x = some (.sv (.one (.val (.func (.func f) #[] caps.toArray))))) (hargs : evs ⟨s, bx, X⟩ args = some lvs) (hcl : lvs.all LV.closed = true) (hs : PSpec P X f (lvs ++ caps.map fun v => .sv (.one (.val v))) r) (hw : Want ops s g)
    (kont : RunK P n ops os ⟨(d, r) :: s, bx, X⟩ (⟨[(d, r)], [], []⟩ :: acc) K) :
    RunK P n ops (⟨some d, .call ⟨.value x, args.toArray, tys⟩, ty, pos, after_, g⟩ :: os) ⟨s, bx, X⟩ acc K := RunK.g1 (LOK.callF hx hargs hcl hs) hw kont
theorem LOK.lookupOk {d k : Nat} {t kt et : TypeId} {x y : Operand} {ty : TypeId} {pos : String} {after_ : Array Edge} {g : Option (Nat × Bool)} {m : List (Value × Value)} {e : TypeId} {cs : List CV} {key v z : Value} {l : Lit} {r : Bool} (sv : SV)
    (hx : σ.ev x = some (.sv (.one (.mp k)))) (hy : σ.ev y = some (.sv (.one (.val key)))) (hk : σ.stat k = some (some ⟨e, cs, .res (mapR P kt m)⟩)) (hm : mapOf P t = some (kt, et)) (L : KL P kt) (hkey : Go.keyOf P kt key = some l) (hz : (P.info? et).bind (·.zero) = some z) (hat : At m key v z) (hsv : ∀ (S : Nat → Option (Option Box)) (ι : Nat → Nat × Nat), sv.rel S ι v) (hr : r = true ↔ ∃ p ∈ m, p.1 = key) :
    LOK P n ops ⟨some d, .lookup t x y true, ty, pos, after_, g⟩ σ ⟨[(d, .tup [sv, .one (.val (.bool r))])], [k], []⟩ :=
  LOK.value fun σ' ha C ι a w hrl => by
    have hk' := (ha.stat k (.inl (by simp))).trans hk
    have hv := hrl.ev ((ha.ev (x := x) (by simp [Op.operands])).trans hx)
    have hkv : a.eval y = key := hrl.ev ((ha.ev (x := y) (by simp [Op.operands])).trans hy)
    simp only [LV.rel, SV.rel, CV.rel, hk'] at hv
    obtain ⟨H, ⟨es, clock, rfl, he, hnd, hkeys⟩, hH, _⟩ := hrl.resStep hk'
    have hb := hH (ι k).1 _ (withBlock_at _ _ _)
    have ht := mapOf_spec hm
    have hzr : (zeroValue et).run P w = .ok z w := by
      cases hi : P.info? et with
      | none => rw [hi] at hz; cases hz
      | some i => rw [hi] at hz; have hz : i.zero = some z := hz; simp [zeroValue, typeInfo, hi, hz]
    have hall : ∀ x ∈ es.toList, ∃ l, Go.keyOf P kt x.key = some l := fun x hx => by
      refine hkeys (x.key, x.val) ?_
      rw [← he]
      exact List.mem_map.2 ⟨x, hx, rfl⟩
    have hrun : (Instr.lookup t (.map (some (ι k).1)) key true).run P w = .ok (.tuple #[v, .bool r]) w := by
      rcases L.find w hkey es.toList hall with ⟨h1, h2⟩ | ⟨j, e0, h1, h2, h3⟩
      · have hvz : v = z := by
          rcases hat with h4 | ⟨_, h4⟩
          · rw [← he] at h4
            obtain ⟨x, hx, hxe⟩ := List.mem_map.1 h4
            cases hxe
            exact absurd rfl (h2 x hx)
          · exact h4
        have hr0 : r = false := by
          cases r with
          | false => rfl
          | true =>
            obtain ⟨p, hp, h5⟩ := hr.1 rfl
            rw [← he] at hp
            obtain ⟨x, hx, rfl⟩ := List.mem_map.1 hp
            exact absurd h5 (h2 x hx)
        simp [Instr.lookup, run_underlying ht, MapKept.run_getObj_map hb, L.check w _ hkey, h1, hzr, Result.andThen, hvz, hr0]
      · have hmem : e0 ∈ es.toList := List.mem_of_getElem? h2
        have hv0 : e0.val = v := by
          rcases hat with h4 | ⟨h4, _⟩
          · obtain ⟨i, hi⟩ := List.getElem?_of_mem h4
            have hmj : m[j]? = some (key, e0.val) := by rw [← he, List.getElem?_map, h2, ← h3]; rfl
            exact (same_at hnd hmj hi)
          · refine absurd h3 (h4 (e0.key, e0.val) ?_)
            rw [← he]
            exact List.mem_map.2 ⟨e0, hmem, rfl⟩
        have hr1 : r = true := by
          refine hr.2 ⟨(e0.key, e0.val), ?_, h3⟩
          rw [← he]
          exact List.mem_map.2 ⟨e0, hmem, rfl⟩
        simp [Instr.lookup, run_underlying ht, MapKept.run_getObj_map hb, L.check w _ hkey, h1, Result.andThen, hv0, hr1]
    exact ⟨.tuple #[v, .bool r], by simp only [execOp, hv, hkv, Sem.run_bind, hrun, Result.andThen_ok, Sem.run_pure], ⟨_, rfl, hsv _ _, rfl, trivial⟩⟩
theorem K.lookupOk {d k : Nat} {t kt et : TypeId} {x y : Operand} {ty : TypeId} {pos : String} {after_ : Array Edge} {g : Option (Nat × Bool)} {m : List (Value × Value)} {e : TypeId} {cs : List CV} {key v z : Value} {l : Lit} {r : Bool} (sv : SV)
    (hx : (⟨s, bx, X⟩ : St).ev x = some (.sv (.one (.mp k)))) (hy : (⟨s, bx, X⟩ : St).ev y = some (.sv (.one (.val key)))) (hk : (⟨s, bx, X⟩ : St).stat k = some (some ⟨e, cs, .res (mapR P kt m)⟩)) (hm : mapOf P t = some (kt, et)) (L : KL P kt) (hkey : Go.keyOf P kt key = some l) (hz : (P.info? et).bind (·.zero) = some z) (hat : At m key v z) (hsv : ∀ (S : Nat → Option (Option Box)) (ι : Nat → Nat × Nat), sv.rel S ι v) (hr : r = true ↔ ∃ p ∈ m, p.1 = key) (hw : Want ops s g)
    (kont : RunK P n ops os ⟨(d, .tup [sv, .one (.val (.bool r))]) :: s, bx, X⟩ (⟨[(d, .tup [sv, .one (.val (.bool r))])], [k], []⟩ :: acc) K) :
    RunK P n ops (⟨some d, .lookup t x y true, ty, pos, after_, g⟩ :: os) ⟨s, bx, X⟩ acc K := RunK.g1 (LOK.lookupOk sv hx hy hk hm L hkey hz hat hsv hr) hw kont
theorem agg0_of (S : Nat → Option (Option Box)) (ι : Nat → Nat × Nat) (w : Value) (h : LV.rel S ι (.sv (.agg [])) w) : w = .agg #[] := by
  obtain ⟨arr, rfl, h⟩ := h
  cases hl : arr.toList with
  | nil => rw [show arr = #[] by simpa using hl]
  | cons a l => rw [hl] at h; exact h.elim
theorem agg0_rel (S : Nat → Option (Option Box)) (ι : Nat → Nat × Nat) : SV.rel S ι (.agg []) (.agg #[]) := ⟨#[], rfl, trivial⟩
theorem K.mapPut {k : Nat} {t kt et : TypeId} {x y u : Operand} {ty : TypeId} {pos : String} {after_ : Array Edge} {g : Option (Nat × Bool)} {m : List (Value × Value)} (m' : List (Value × Value)) {e : TypeId} {cs : List CV} {key : Value} {l : Lit}
    (hx : (⟨s, bx, X⟩ : St).ev x = some (.sv (.one (.mp k)))) (hy : (⟨s, bx, X⟩ : St).ev y = some (.sv (.one (.val key)))) (hu : (⟨s, bx, X⟩ : St).ev u = some (.sv (.agg []))) (hk : (⟨s, bx, X⟩ : St).stat k = some (some ⟨e, cs, .res (mapR P kt m)⟩)) (hm : mapOf P t = some (kt, et)) (L : KL P kt) (hkey : Go.keyOf P kt key = some l) (hput : Put m key (.agg #[]) m') (hw : Want ops s g)
    (kont : RunK P n ops os ⟨s, (k, some ⟨0, [], .res (mapR P kt m')⟩) :: bx, X⟩ (⟨[], [], [(k, some ⟨0, [], .res (mapR P kt m')⟩)]⟩ :: acc) K) :
    RunK P n ops (⟨none, .mapUpdate t x y u, ty, pos, after_, g⟩ :: os) ⟨s, bx, X⟩ acc K := RunK.g3 (LOK.mapUpdate hx hy hu agg0_of hk hm L hkey hput) hw kont
end
theorem Le.trans {n : Nat} {C : Ctx} {σ1 σ2 σ3 : St} (h : Le n C σ1 σ2) (h' : Le n C σ2 σ3) : Le n C σ1 σ3 := ⟨fun ι a w hr => by
  obtain ⟨ι1, h1⟩ := h.out ι a w hr
  exact h'.out ι1 a w h1⟩
end Go.Lg
end
section
namespace Go.Lg.Fld
open Go Go.Lg
def nmM (ns : List (List UInt8)) : List (Value × Value) := ns.map fun l => (.string ⟨l.toArray⟩, .agg #[])
theorem nmM_at (ns : List (List UInt8)) (l : List UInt8) : At (nmM ns) (.string ⟨l.toArray⟩) (.agg #[]) (.agg #[]) := by
  by_cases h : l ∈ ns
  · exact .inl (List.mem_map.2 ⟨l, h, rfl⟩)
  · refine .inr ⟨fun p hp e => ?_, rfl⟩
    obtain ⟨l', hl', rfl⟩ := List.mem_map.1 hp
    simp only [Value.string.injEq, ByteArray.mk.injEq] at e
    exact h (by rw [show l = l' from (List.toArray_inj e.symm)]; exact hl')
theorem nmM_any (ns : List (List UInt8)) (l : List UInt8) (r : Bool) (hr : ns.any (fun m => m == l) = r) : r = true ↔ ∃ p ∈ nmM ns, p.1 = .string ⟨l.toArray⟩ := by
  subst hr
  rw [List.any_eq_true]
  constructor
  · rintro ⟨m, hm, he⟩
    rw [beq_iff_eq] at he
    subst he
    exact ⟨_, List.mem_map.2 ⟨m, hm, rfl⟩, rfl⟩
  · rintro ⟨p, hp, e⟩
    obtain ⟨l', hl', rfl⟩ := List.mem_map.1 hp
    simp only [Value.string.injEq, ByteArray.mk.injEq] at e
    exact ⟨l', hl', by rw [beq_iff_eq]; exact List.toArray_inj e⟩
theorem nmM_put {ns : List (List UInt8)} {l : List UInt8} (h : ns.any (fun m => m == l) = false) : Put (nmM ns) (.string ⟨l.toArray⟩) (.agg #[]) (nmM (ns ++ [l])) := by
  refine .inr ⟨fun p hp e => ?_, by unfold nmM; rw [List.map_append]; rfl⟩
  obtain ⟨l', hl', rfl⟩ := List.mem_map.1 hp
  simp only [Value.string.injEq, ByteArray.mk.injEq] at e
  rw [List.any_eq_false] at h
  exact h l' hl' (by rw [beq_iff_eq]; exact List.toArray_inj e)
end Go.Lg.Fld
namespace Go.Proofs.YtnfbccfghgmfiaaGreat
open Go Go.Lg Go.Lg.Fld
set_option maxRecDepth 100000
variable (X : Nat → Option Obj)
theorem isLetter_spec (c : UInt8) : PSpec Tryz.prog X 56 [Ln .u8 (c.toNat : Nat)] (Lb (letB c)) := by
  refine PSpec.intro Tryz.func56 rfl (by kernel_rfl) rfl rfl ?_
  intro C
  unfold letB
  by_cases h : 97 ≤ c.toNat
  · rw [decide_eq_true h, Bool.true_and]
    (refine LWP.seq <| rgN <| kas rfl <| RunK.nil <| LWP.seq <| rgN <| kmv rfl <| K.leq rfl rfl (decide_eq_true (by omega)) .plain <| kmv rfl <| gmv rfl rfl rfl <| K.leq rfl rfl (r := decide (c.toNat ≤ 122)) (by rw [decide_eq_decide]; omega) (.taken rfl rfl) ?_; refine kpt rfl rfl <| kas rfl <| RunK.nil <| LWP.ret ?_)
    exact ⟨[_], ⟨rfl, trivial⟩, rfl⟩
  · rw [decide_eq_false h, Bool.false_and]
    (refine LWP.seq <| rgN <| kas rfl <| RunK.nil <| LWP.seq <| rgN <| kmv rfl <| K.leq rfl rfl (decide_eq_false (by omega)) .plain <| kmv rfl <| RunK.passed rfl rfl rfl <| RunK.passed rfl rfl rfl <| kpf rfl rfl <| kas rfl <| RunK.nil ?_; refine LWP.ret ?_)
    exact ⟨[_], ⟨rfl, trivial⟩, rfl⟩
theorem isDigit_spec (c : UInt8) : PSpec Tryz.prog X 57 [Ln .u8 (c.toNat : Nat)] (Lb (digB c)) := by
  refine PSpec.intro Tryz.func57 rfl (by kernel_rfl) rfl rfl ?_
  intro C
  unfold digB
  by_cases h : 48 ≤ c.toNat
  · rw [decide_eq_true h, Bool.true_and]
    (refine LWP.seq <| rgN <| kas rfl <| RunK.nil <| LWP.seq <| rgN <| kmv rfl <| K.leq rfl rfl (decide_eq_true (by omega)) .plain <| kmv rfl <| gmv rfl rfl rfl <| K.leq rfl rfl (r := decide (c.toNat ≤ 57)) (by rw [decide_eq_decide]; omega) (.taken rfl rfl) ?_; refine kpt rfl rfl <| kas rfl <| RunK.nil <| LWP.ret ?_)
    exact ⟨[_], ⟨rfl, trivial⟩, rfl⟩
  · rw [decide_eq_false h, Bool.false_and]
    (refine LWP.seq <| rgN <| kas rfl <| RunK.nil <| LWP.seq <| rgN <| kmv rfl <| K.leq rfl rfl (decide_eq_false (by omega)) .plain <| kmv rfl <| RunK.passed rfl rfl rfl <| RunK.passed rfl rfl rfl <| kpf rfl rfl <| kas rfl <| RunK.nil ?_; refine LWP.ret ?_)
    exact ⟨[_], ⟨rfl, trivial⟩, rfl⟩
theorem nmC_zero (l : List UInt8) : nmC l 0 = letB (l.getD 0 0) := by unfold nmC; simp
theorem nmC_more {l : List UInt8} {i : Nat} (h : nmC l 0 = true) : nmC l i = (letB (l.getD i 0) || digB (l.getD i 0)) := by
  unfold nmC
  by_cases e : i = 0
  · subst e
    rw [nmC_zero] at h
    rw [h]; simp
  · simp [e]
theorem pIsName (l : List UInt8) (r : Bool) (hr : nmB l = r) : PSpec Tryz.prog X 42 [Ls l] (Lb r) := by
  subst hr
  refine PSpec.intro Tryz.func42 rfl (by kernel_rfl) rfl rfl ?_
  intro C
  have hlen : (⟨l.toArray⟩ : ByteArray).size = l.length := rfl
  by_cases h1 : l.length < 1
  · rw [show nmB l = false by unfold nmB; rw [decide_eq_false (by omega)]; rfl]
    (refine LWP.seq <| rgN <| kas rfl <| RunK.nil <| LWP.seq <| LWP.seq <| rgN <| kmv rfl <| kln rfl <| klt rfl rfl (decide_eq_true (by rw [hlen]; omega)) <| kmv rfl <| RunK.passed rfl rfl rfl <| RunK.passed rfl rfl rfl <| RunK.passed rfl rfl rfl ?_; refine kpt rfl rfl <| kmv rfl <| RunK.passed rfl rfl rfl <| RunK.passed rfl rfl rfl <| RunK.passed rfl rfl rfl <| RunK.passed rfl rfl rfl <| kpt rfl rfl <| RunK.nil <| LWP.condT rfl ?_; refine LWP.seq <| rgN <| kas rfl <| RunK.nil <| LWP.ret ?_)
    exact ⟨[_], ⟨rfl, trivial⟩, rfl⟩
  by_cases h2 : 12 < l.length
  · rw [show nmB l = false by unfold nmB; rw [decide_eq_false (show ¬l.length ≤ 12 by omega)]; simp]
    (refine LWP.seq <| rgN <| kas rfl <| RunK.nil <| LWP.seq <| LWP.seq <| rgN <| kmv rfl <| kln rfl <| klt rfl rfl (decide_eq_false (by rw [hlen]; omega)) <| kmv rfl <| gmv rfl rfl rfl <| K.lenStr rfl (.taken rfl rfl) ?_; refine K.gtr rfl rfl (decide_eq_true (by rw [hlen]; omega)) (.taken rfl rfl) ?_; refine kpf rfl rfl <| kmv rfl <| RunK.passed rfl rfl rfl <| RunK.passed rfl rfl rfl <| RunK.passed rfl rfl rfl <| RunK.passed rfl rfl rfl <| kpt rfl rfl <| RunK.nil <| LWP.condT rfl ?_; refine LWP.seq <| rgN <| kas rfl <| RunK.nil <| LWP.ret ?_)
    exact ⟨[_], ⟨rfl, trivial⟩, rfl⟩
  obtain ⟨c0, hc0⟩ : ∃ c, l[0]? = some c := ⟨_, List.getElem?_eq_getElem (by omega)⟩
  have hget0 : (⟨l.toArray⟩ : ByteArray)[(0 : Int).toNat]? = some c0 := str_at hc0
  have hz : nmC l 0 = letB c0 := by rw [nmC_zero, getD_of hc0]
  have hL := isLetter_spec X c0
  cases h0 : letB c0 with
  | false =>
    rw [nmB_false (i := 0) (by omega) (hz.trans h0)]
    rw [h0] at hL
    (refine LWP.seq <| rgN <| kas rfl <| RunK.nil <| LWP.seq <| LWP.seq <| rgN <| kmv rfl <| kln rfl <| klt rfl rfl (decide_eq_false (by rw [hlen]; omega)) <| kmv rfl <| gmv rfl rfl rfl <| K.lenStr rfl (.taken rfl rfl) ?_; refine K.gtr rfl rfl (decide_eq_false (by rw [hlen]; omega)) (.taken rfl rfl) ?_; refine kpf rfl rfl <| kmv rfl <| gmv rfl rfl rfl <| K.indexStr rfl rfl (by omega) hget0 (.taken rfl rfl) ?_; refine gca rfl rfl (hL) rfl rfl <| K.not rfl rfl (.taken rfl rfl) ?_; refine kpf rfl rfl <| RunK.nil <| LWP.condT rfl ?_; refine LWP.seq <| rgN <| kas rfl <| RunK.nil <| LWP.ret ?_)
    exact ⟨[_], ⟨rfl, trivial⟩, rfl⟩
  | true =>
    have hz1 := hz.trans h0
    rw [h0] at hL
    (refine LWP.seq <| rgN <| kas rfl <| RunK.nil <| LWP.seq <| LWP.seq <| rgN <| kmv rfl <| kln rfl <| klt rfl rfl (decide_eq_false (by rw [hlen]; omega)) <| kmv rfl <| gmv rfl rfl rfl <| K.lenStr rfl (.taken rfl rfl) ?_; refine K.gtr rfl rfl (decide_eq_false (by rw [hlen]; omega)) (.taken rfl rfl) ?_; refine kpf rfl rfl <| kmv rfl <| gmv rfl rfl rfl <| K.indexStr rfl rfl (by omega) hget0 (.taken rfl rfl) ?_; refine gca rfl rfl (hL) rfl rfl <| K.not rfl rfl (.taken rfl rfl) ?_; refine kpf rfl rfl <| RunK.nil <| LWP.condF rfl ?_; refine LWP.skip ?_; refine LWP.seq <| LWP.seq <| rgN <| kmv rfl <| kln rfl <| kmv rfl <| RunK.nil <| LWP.block ?_)
    refine LWP.loop (fun m σ => ∃ i : Nat, i ≤ l.length ∧ m = l.length - i ∧ (∀ j, j < i → nmC l j = true) ∧ σ = ⟨[(0, Ls l), (19, Ln .i64 (l.length : Nat)), (20, Ln .i64 (i : Nat))], [], X⟩) l.length
      ⟨_, Le.of (by exact ⟨rfl, rfl, rfl, trivial⟩) (by exact trivial) (by exact rfl) (by exact rfl) (by exact rfl), 0, by omega, by omega, fun j hj => absurd hj (by omega), rfl⟩ ?_
    rintro m σ ⟨i, hi, rfl, hpre, rfl⟩
    by_cases hlt : i < l.length
    · obtain ⟨c, hc⟩ : ∃ c, l[i]? = some c := ⟨_, List.getElem?_eq_getElem hlt⟩
      have hN : nmC l i = (letB c || digB c) := by rw [nmC_more hz1, getD_of hc]
      have hget : (⟨l.toArray⟩ : ByteArray)[(i : Int).toNat]? = some c := str_at (by rw [Int.toNat_natCast]; exact hc)
      have hA := isLetter_spec X c
      have hB := isDigit_spec X c
      have key : nmC l i = true → ∀ j, j < i + 1 → nmC l j = true := fun hok j hj => by
        by_cases e : j = i
        · rw [e]; exact hok
        · exact hpre j (by omega)
      cases ha : letB c with
      | true =>
        rw [ha] at hA
        (refine LWP.seq <| rgN <| klt rfl rfl (decide_eq_true (by omega)) <| RunK.nil <| LWP.seq <| LWP.condT rfl ?_; refine LWP.skip ?_; refine LWP.seq <| LWP.block <| LWP.seq <| rgN <| kmv rfl <| kas rfl <| RunK.nil <| LWP.seq <| rgN <| kmv rfl <| kmv rfl <| K.indexStr rfl rfl (by omega) hget .plain <| kca rfl rfl (hA) <| K.not rfl rfl .plain ?_; refine kmv rfl <| RunK.passed rfl rfl rfl <| RunK.passed rfl rfl rfl <| RunK.passed rfl rfl rfl <| RunK.passed rfl rfl rfl <| RunK.passed rfl rfl rfl <| kpf rfl rfl <| RunK.nil <| LWP.condF rfl ?_; refine LWP.skip ?_; refine rgN <| kad rfl rfl (wrap_i64 (by omega)) <| kmv rfl <| RunK.nil ?_)
        exact ⟨_, _, by omega, Le.of (by exact ⟨rfl, rfl, rfl, trivial⟩) (by exact trivial) (by exact rfl) (by exact rfl) (by exact rfl), i + 1, by omega, rfl, key (by rw [hN, ha]; rfl), rfl⟩
      | false =>
        rw [ha] at hA
        cases hb : digB c with
        | true =>
          rw [hb] at hB
          (refine LWP.seq <| rgN <| klt rfl rfl (decide_eq_true (by omega)) <| RunK.nil <| LWP.seq <| LWP.condT rfl ?_; refine LWP.skip ?_; refine LWP.seq <| LWP.block <| LWP.seq <| rgN <| kmv rfl <| kas rfl <| RunK.nil <| LWP.seq <| rgN <| kmv rfl <| kmv rfl <| K.indexStr rfl rfl (by omega) hget .plain <| kca rfl rfl (hA) <| K.not rfl rfl .plain ?_; refine kmv rfl <| gmv rfl rfl rfl <| gmv rfl rfl rfl <| K.indexStr rfl rfl (by omega) hget (.taken rfl rfl) ?_; refine gca rfl rfl (hB) rfl rfl <| K.not rfl rfl (.taken rfl rfl) ?_; refine kpt rfl rfl <| RunK.nil <| LWP.condF rfl ?_; refine LWP.skip ?_; refine rgN <| kad rfl rfl (wrap_i64 (by omega)) <| kmv rfl <| RunK.nil ?_)
          exact ⟨_, _, by omega, Le.of (by exact ⟨rfl, rfl, rfl, trivial⟩) (by exact trivial) (by exact rfl) (by exact rfl) (by exact rfl), i + 1, by omega, rfl, key (by rw [hN, ha, hb]; rfl), rfl⟩
        | false =>
          rw [hb] at hB
          rw [nmB_false hlt (by rw [hN, ha, hb]; rfl)]
          (refine LWP.seq <| rgN <| klt rfl rfl (decide_eq_true (by omega)) <| RunK.nil <| LWP.seq <| LWP.condT rfl ?_; refine LWP.skip ?_; refine LWP.seq <| LWP.block <| LWP.seq <| rgN <| kmv rfl <| kas rfl <| RunK.nil <| LWP.seq <| rgN <| kmv rfl <| kmv rfl <| K.indexStr rfl rfl (by omega) hget .plain <| kca rfl rfl (hA) <| K.not rfl rfl .plain ?_; refine kmv rfl <| gmv rfl rfl rfl <| gmv rfl rfl rfl <| K.indexStr rfl rfl (by omega) hget (.taken rfl rfl) ?_; refine gca rfl rfl (hB) rfl rfl <| K.not rfl rfl (.taken rfl rfl) ?_; refine kpt rfl rfl <| RunK.nil <| LWP.condT rfl ?_; refine LWP.seq <| rgN <| kas rfl <| RunK.nil <| LWP.ret ?_)
          exact ⟨[_], ⟨rfl, trivial⟩, rfl⟩
    · rw [nmB_true (by omega) (by omega) (fun j hj => hpre j (by omega))]
      (refine LWP.seq <| rgN <| klt rfl rfl (decide_eq_false (by omega)) <| RunK.nil <| LWP.seq <| LWP.condF rfl ?_; refine LWP.exit <| LWP.seq <| rgN <| kas rfl <| RunK.nil <| LWP.ret ?_)
      exact ⟨[_], ⟨rfl, trivial⟩, rfl⟩
abbrev nmBx (k : Nat) (ns : List (List UInt8)) : Nat × Option Box := (k, some ⟨0, [], .res (mapR Tryz.prog 9 (nmM ns))⟩)
abbrev Lmp (k : Nat) : LV := .sv (.one (.mp k))
theorem take_ok (ns : List (List UInt8)) (l : List UInt8) (hl : l.length ≤ 9223372036854775807) (h1 : ns.any (fun m => m == l) = false) (h2 : nmB l = true) :
    MSpec Tryz.prog X 26 [Lmp 1000000, Ls l] [nmBx 1000000 ns] (Lb true) [nmBx 1000000 (ns ++ [l])] := by
  refine MSpec.intro Tryz.func26 rfl (by kernel_rfl) rfl rfl (by exact (by repeat' (first | refine all_cons_true ?_ ?_ | rfl | exact bytes_inUse | exact vals_inUse | exact mid_inUse rfl))) rfl rfl ?_
  intro C
  have hN := pIsName X l true h2
  have hkey : Go.keyOf Tryz.prog 9 (.string ⟨l.toArray⟩) = some (.string l) := by
    rw [WideMaps.keyOf_string_mk (by kernel_rfl) (by show l.length ≤ maxLen; unfold maxLen; omega)]
  (refine LWP.seq <| rgN <| kas rfl <| RunK.nil <| LWP.seq <| LWP.seq <| rgN <| kmv rfl <| kmv rfl <| K.lookupOk (et := 107) (.agg []) (v := .agg #[]) (z := .agg #[]) rfl rfl rfl (by kernel_rfl) (KL.str (by kernel_rfl)) hkey (by kernel_rfl) (nmM_at ns l) agg0_rel (nmM_any ns l false h1) .plain ?_; refine kmv rfl <| kex rfl rfl <| kex rfl rfl <| K.alloc rfl .plain ?_; refine K.storeAll rfl rfl rfl rfl rfl rfl .plain ?_; refine kas rfl <| RunK.nil <| LWP.seq <| rgN <| kmv rfl <| kmv rfl <| gmv rfl rfl rfl <| gca rfl rfl (hN) rfl rfl <| K.not rfl rfl (.taken rfl rfl) ?_; refine kpf rfl rfl <| RunK.nil <| LWP.condF rfl ?_; refine LWP.skip ?_; refine LWP.seq <| rgN <| kmv rfl <| kmv rfl <| K.build rfl rfl (by exact rfl) (by exact nl0 rfl) .plain ?_; refine K.mapPut (et := 107) (nmM (ns ++ [l])) rfl rfl rfl rfl (by kernel_rfl) (KL.str (by kernel_rfl)) hkey (nmM_put h1) .plain ?_; refine RunK.nil <| LWP.seq <| rgN <| kas rfl <| RunK.nil <| LWP.ret ?_)
  exact ⟨[], ⟨[_], ⟨rfl, trivial⟩, rfl⟩, (by repeat' (first | exact trivial | refine And.intro ⟨_, rfl, ?_⟩ ?_ | refine And.intro ⟨_, rfl⟩ ?_ | rfl | exact Box.ren_bytes _ _ _ _ | exact Box.ren_vals _ _ _ _ | exact Box.ren_mid rfl)), rfl, rfl⟩
theorem take_no (ns : List (List UInt8)) (l : List UInt8) (hl : l.length ≤ 9223372036854775807) (h : ns.any (fun m => m == l) = true ∨ nmB l = false) :
    MSpec Tryz.prog X 26 [Lmp 1000000, Ls l] [nmBx 1000000 ns] (Lb false) [nmBx 1000000 ns] := by
  refine MSpec.intro Tryz.func26 rfl (by kernel_rfl) rfl rfl (by exact (by repeat' (first | refine all_cons_true ?_ ?_ | rfl | exact bytes_inUse | exact vals_inUse | exact mid_inUse rfl))) rfl rfl ?_
  intro C
  have hkey : Go.keyOf Tryz.prog 9 (.string ⟨l.toArray⟩) = some (.string l) := by
    rw [WideMaps.keyOf_string_mk (by kernel_rfl) (by show l.length ≤ maxLen; unfold maxLen; omega)]
  cases h1 : ns.any (fun m => m == l) with
  | true =>
    (refine LWP.seq <| rgN <| kas rfl <| RunK.nil <| LWP.seq <| LWP.seq <| rgN <| kmv rfl <| kmv rfl <| K.lookupOk (et := 107) (.agg []) (v := .agg #[]) (z := .agg #[]) rfl rfl rfl (by kernel_rfl) (KL.str (by kernel_rfl)) hkey (by kernel_rfl) (nmM_at ns l) agg0_rel (nmM_any ns l true h1) .plain ?_; refine kmv rfl <| kex rfl rfl <| kex rfl rfl <| K.alloc rfl .plain ?_; refine K.storeAll rfl rfl rfl rfl rfl rfl .plain ?_; refine kas rfl <| RunK.nil <| LWP.seq <| rgN <| kmv rfl <| kmv rfl <| RunK.passed rfl rfl rfl <| RunK.passed rfl rfl rfl <| RunK.passed rfl rfl rfl <| kpt rfl rfl <| RunK.nil <| LWP.condT rfl ?_; refine LWP.seq <| rgN <| kas rfl <| RunK.nil <| LWP.ret ?_)
    exact ⟨[], ⟨[_], ⟨rfl, trivial⟩, rfl⟩, (by repeat' (first | exact trivial | refine And.intro ⟨_, rfl, ?_⟩ ?_ | refine And.intro ⟨_, rfl⟩ ?_ | rfl | exact Box.ren_bytes _ _ _ _ | exact Box.ren_vals _ _ _ _ | exact Box.ren_mid rfl)), rfl, rfl⟩
  | false =>
    have hN := pIsName X l false (h.resolve_left (by rw [h1]; decide))
    (refine LWP.seq <| rgN <| kas rfl <| RunK.nil <| LWP.seq <| LWP.seq <| rgN <| kmv rfl <| kmv rfl <| K.lookupOk (et := 107) (.agg []) (v := .agg #[]) (z := .agg #[]) rfl rfl rfl (by kernel_rfl) (KL.str (by kernel_rfl)) hkey (by kernel_rfl) (nmM_at ns l) agg0_rel (nmM_any ns l false h1) .plain ?_; refine kmv rfl <| kex rfl rfl <| kex rfl rfl <| K.alloc rfl .plain ?_; refine K.storeAll rfl rfl rfl rfl rfl rfl .plain ?_; refine kas rfl <| RunK.nil <| LWP.seq <| rgN <| kmv rfl <| kmv rfl <| gmv rfl rfl rfl <| gca rfl rfl (hN) rfl rfl <| K.not rfl rfl (.taken rfl rfl) ?_; refine kpf rfl rfl <| RunK.nil <| LWP.condT rfl ?_; refine LWP.seq <| rgN <| kas rfl <| RunK.nil <| LWP.ret ?_)
    exact ⟨[], ⟨[_], ⟨rfl, trivial⟩, rfl⟩, (by repeat' (first | exact trivial | refine And.intro ⟨_, rfl, ?_⟩ ?_ | refine And.intro ⟨_, rfl⟩ ?_ | rfl | exact Box.ren_bytes _ _ _ _ | exact Box.ren_vals _ _ _ _ | exact Box.ren_mid rfl)), rfl, rfl⟩
end Go.Proofs.YtnfbccfghgmfiaaGreat
end
section
namespace Go.Lg.Fld
open Go Go.Lg
def NamesC (cs : List Cp) : Prop := ∀ c ∈ cs, c.fs.length < 4611686018427387904 ∧ c.nm.length ≤ 9223372036854775807 ∧ ∀ f ∈ c.fs, f.nm.length ≤ 9223372036854775807
theorem any_names {α : Type} (g : α → List UInt8) (l : List α) (i : Nat) (nm : List UInt8) : ((l.take i).map g).any (fun m => m == nm) = (l.take i).any (fun x => g x == nm) := by rw [List.any_map]; rfl
def fldsE (fs : List Fl) : Int := if firstE (fldE fs) 0 fs.length = 0 then layErr fs else 4
end Go.Lg.Fld
namespace Go.Proofs.YtnfbccfghgmfiaaGreat
open Go Go.Lg Go.Lg.Fld
set_option maxRecDepth 100000
variable (X : Nat → Option Obj)
theorem checkFields_spec (fad : Option Addr) (fcap : Nat) (fs : List Fl) (hF : FieldsIn X fad fs) (hbig : fs.length < 4611686018427387904) (hnm : ∀ f ∈ fs, f.nm.length ≤ 9223372036854775807) (e : Int) (he : fldsE fs = e) :
    PSpec Tryz.prog X 27 [Lx fad fs.length fcap] (Ln .i64 e) := by
  subst he
  refine PSpec.intro Tryz.func27 rfl (by kernel_rfl) rfl rfl ?_
  intro C
  (refine LWP.seq <| rgN <| kas rfl <| RunK.nil <| LWP.seq <| rgN <| K.makeMap 9 rfl .plain ?_; refine kas rfl <| RunK.nil <| LWP.seq <| LWP.seq <| rgN <| kmv rfl <| K.lenX rfl SliceT.h rfl .plain ?_; refine kmv rfl <| RunK.nil <| LWP.block ?_)
  refine LWP.loop (fun m σ => ∃ i : Nat, i ≤ fs.length ∧ m = fs.length - i ∧ (∀ j, 0 ≤ j → j < i → fldE fs j = 0) ∧ σ = ⟨[(0, Lx fad fs.length fcap), (3, Lmp 6), (7, Lx fad fs.length fcap), (8, Ln .i64 (fs.length : Nat)), (9, Ln .i64 (i : Nat))], [nmBx 6 ((fs.take i).map Fl.nm)], X⟩) fs.length
    ⟨_, Le.of (by exact ⟨rfl, rfl, rfl, rfl, rfl, trivial⟩) (by exact ⟨rfl, trivial⟩) (by exact rfl) (by exact rfl) (by repeat' (first | refine all_cons_true ?_ ?_ | rfl | exact bytes_inUse | exact vals_inUse | exact mid_inUse rfl)), 0, by omega, by omega, fun j _ hj => absurd hj (by omega), rfl⟩ ?_
  rintro m σ ⟨i, hi, rfl, hpre, rfl⟩
  by_cases hlt : i < fs.length
  · obtain ⟨f, hf⟩ : ∃ f, fs[i]? = some f := ⟨_, List.getElem?_eq_getElem hlt⟩
    obtain ⟨blk, off, arr, el, fr, rfl, hX, hsz, hcells⟩ := hF.at hf
    have hio : off + Int.toNat (i : Int) * 3 = off + i * 3 := by simp
    have hE := fldE_at hf
    have hnl := hnm f (List.mem_of_getElem? hf)
    have hany := any_names Fl.nm fs i f.nm
    have hts : (fs.take (i + 1)).map Fl.nm = (fs.take i).map Fl.nm ++ [f.nm] := by rw [take_snoc hf, List.map_append]; rfl
    by_cases hbad : fldE fs i = 0
    · rw [hbad] at hE
      have h2 : nmB f.nm = true := by
        cases h : nmB f.nm with
        | true => rfl
        | false => rw [h, if_neg (by decide)] at hE; cases hE
      rw [if_pos h2] at hE
      have h1 : ((fs.take i).map Fl.nm).any (fun m => m == f.nm) = false := by
        rw [hany]
        cases h : (fs.take i).any (fun g => g.nm == f.nm) with
        | false => rfl
        | true => rw [h, if_pos rfl] at hE; cases hE
      have hT := take_ok X ((fs.take i).map Fl.nm) f.nm hnl h1 h2
      rw [← hts] at hT
      generalize (fs.take i).map Fl.nm = ns at *
      generalize hns : (fs.take (i + 1)).map Fl.nm = ns' at *
      (refine LWP.seq <| rgN <| klt rfl rfl (decide_eq_true (by omega)) <| RunK.nil <| LWP.seq <| LWP.condT rfl ?_; refine LWP.skip ?_; refine LWP.seq <| LWP.block <| LWP.seq <| rgN <| K.indexX rfl rfl SliceT.h (by omega) hio .plain <| K.loadXagg rfl hX (by kernel_rfl) hsz hcells .plain <| K.alloc rfl .plain ?_; refine K.storeAll rfl rfl rfl rfl rfl rfl .plain ?_; refine RunK.nil <| LWP.seq <| rgN <| kmv rfl <| kfa rfl rfl ?_; refine kl1 rfl rfl rfl <| K.callM [(1000000, 6)] [nmBx 6 ns'] (hT) rfl rfl (by exact (And.intro ⟨_, rfl, rfl⟩ trivial)) (by exact (all_cons_true rfl rfl)) rfl rfl rfl rfl (by exact (.box rfl rfl .nil)) .plain <| K.not rfl rfl .plain <| RunK.nil <| LWP.condF rfl ?_; refine LWP.skip ?_; refine rgN <| kad rfl rfl (wrap_i64 (by omega)) <| kmv rfl <| RunK.nil ?_)
      subst hns
      exact ⟨_, _, by omega, Le.of (by exact ⟨rfl, rfl, rfl, rfl, rfl, trivial⟩) (by exact ⟨rfl, trivial⟩) (by exact rfl) (by exact rfl) (by repeat' (first | refine all_cons_true ?_ ?_ | rfl | exact bytes_inUse | exact vals_inUse | exact mid_inUse rfl)), i + 1, by omega, rfl, (fun j h0 hj => by
        by_cases e : j = i
        · rw [e]; exact hbad
        · exact hpre j h0 (by omega)), rfl⟩
    · have h4 : fldE fs i = 4 := by
        rw [hE] at hbad ⊢
        cases h0 : nmB f.nm with
        | false => rfl
        | true =>
          rw [h0] at hbad
          cases h' : (fs.take i).any (fun g => g.nm == f.nm) with
          | true => rfl
          | false => rw [h'] at hbad; exact absurd rfl hbad
      have hno : ((fs.take i).map Fl.nm).any (fun m => m == f.nm) = true ∨ nmB f.nm = false := by
        rw [hany]
        rw [hE] at hbad
        cases h : nmB f.nm with
        | false => exact .inr rfl
        | true =>
          left
          rw [h, if_pos rfl] at hbad
          cases h' : (fs.take i).any (fun g => g.nm == f.nm) with
          | true => rfl
          | false => rw [h', if_neg (by decide)] at hbad; exact absurd rfl hbad
      have hfin : fldsE fs = 4 := by unfold fldsE; rw [firstE_some hpre (Nat.zero_le _) (by omega) h4 (by decide), if_neg (by decide)]
      rw [hfin]
      have hT := take_no X ((fs.take i).map Fl.nm) f.nm hnl hno
      generalize (fs.take i).map Fl.nm = ns at *
      (refine LWP.seq <| rgN <| klt rfl rfl (decide_eq_true (by omega)) <| RunK.nil <| LWP.seq <| LWP.condT rfl ?_; refine LWP.skip ?_; refine LWP.seq <| LWP.block <| LWP.seq <| rgN <| K.indexX rfl rfl SliceT.h (by omega) hio .plain <| K.loadXagg rfl hX (by kernel_rfl) hsz hcells .plain <| K.alloc rfl .plain ?_; refine K.storeAll rfl rfl rfl rfl rfl rfl .plain ?_; refine RunK.nil <| LWP.seq <| rgN <| kmv rfl <| kfa rfl rfl ?_; refine kl1 rfl rfl rfl <| K.callM [(1000000, 6)] [nmBx 6 ns] (hT) rfl rfl (by exact (And.intro ⟨_, rfl, rfl⟩ trivial)) (by exact (all_cons_true rfl rfl)) rfl rfl rfl rfl (by exact (.box rfl rfl .nil)) .plain <| K.not rfl rfl .plain <| RunK.nil <| LWP.condT rfl ?_; refine LWP.seq <| rgN <| kas rfl <| RunK.nil <| LWP.ret ?_)
      exact ⟨[_], ⟨rfl, trivial⟩, rfl⟩
  · have hfin : fldsE fs = layErr fs := by unfold fldsE; rw [if_pos (firstE_none fun j h0 hj => hpre j h0 (by omega))]
    rw [hfin]
    have hL := Check_spec X fad fcap fs hF hbig
    generalize layErr fs = e at *
    (refine LWP.seq <| rgN <| klt rfl rfl (decide_eq_false (by omega)) <| RunK.nil <| LWP.seq <| LWP.condF rfl ?_; refine LWP.exit <| LWP.seq <| rgN <| kmv rfl <| kca rfl rfl (hL) <| kas rfl <| RunK.nil <| LWP.ret ?_)
    exact ⟨[_], ⟨rfl, trivial⟩, rfl⟩
theorem cmpE_flds {cs : List Cp} {i : Nat} {c : Cp} (h : cs[i]? = some c) : cmpE cs i = if c.id < 1 ∨ 24 < c.id ∨ (0 < i ∧ c.id ≤ prevId cs i) then 1
    else if nmB c.nm = true then (if (cs.take i).any (fun g => g.nm == c.nm) = true then 4 else fldsE c.fs) else 4 := cmpE_at h
set_option maxHeartbeats 3200000 in
theorem pCheckBig (s : Sc) (ad : Option Addr) (cap : Nat) (hin : CompsIn X ad s.cs) (hbig : s.cs.length < 4611686018427387904) (hN : NamesC s.cs) (e : Int) (he : chkE s = e) : PSpec Tryz.prog X 14 [Sx s.ver ad s.cs.length cap] (Ln .i64 e) := by
  subst he
  obtain ⟨ver, cs⟩ := s
  simp only at hin hbig hN ⊢
  refine PSpec.intro Tryz.func14 rfl (by kernel_rfl) rfl rfl ?_
  intro C
  unfold chkE
  by_cases hv1 : ver < 1
  · rw [if_pos (.inl hv1)]
    (refine LWP.seq <| rgN <| K.box rfl rfl rfl .plain <| kas rfl <| RunK.nil <| LWP.seq <| LWP.seq <| rgN <| kfa rfl rfl ?_; refine kl1 rfl rfl rfl <| klt rfl rfl (decide_eq_true hv1) <| kmv rfl <| RunK.passed rfl rfl rfl <| RunK.passed rfl rfl rfl <| RunK.passed rfl rfl rfl <| kpt rfl rfl <| RunK.nil <| LWP.condT rfl ?_; refine LWP.seq <| rgN <| kas rfl <| RunK.nil <| LWP.ret ?_)
    exact ⟨[_], ⟨rfl, trivial⟩, rfl⟩
  by_cases hv2 : 1073741824 < ver
  · rw [if_pos (.inr hv2)]
    (refine LWP.seq <| rgN <| K.box rfl rfl rfl .plain <| kas rfl <| RunK.nil <| LWP.seq <| LWP.seq <| rgN <| kfa rfl rfl ?_; refine kl1 rfl rfl rfl <| klt rfl rfl (decide_eq_false hv1) <| kmv rfl <| K.fieldAddr rfl rfl (.taken rfl rfl) ?_; refine K.loadOne rfl rfl rfl (.taken rfl rfl) ?_; refine K.gtr rfl rfl (decide_eq_true hv2) (.taken rfl rfl) ?_; refine kpf rfl rfl <| RunK.nil <| LWP.condT rfl ?_; refine LWP.seq <| rgN <| kas rfl <| RunK.nil <| LWP.ret ?_)
    exact ⟨[_], ⟨rfl, trivial⟩, rfl⟩
  rw [if_neg (show ¬(ver < 1 ∨ 1073741824 < ver) by omega)]
  (refine LWP.seq <| rgN <| K.box rfl rfl rfl .plain <| kas rfl <| RunK.nil <| LWP.seq <| LWP.seq <| rgN <| kfa rfl rfl ?_; refine kl1 rfl rfl rfl <| klt rfl rfl (decide_eq_false hv1) <| kmv rfl <| K.fieldAddr rfl rfl (.taken rfl rfl) ?_; refine K.loadOne rfl rfl rfl (.taken rfl rfl) ?_; refine K.gtr rfl rfl (decide_eq_false hv2) (.taken rfl rfl) ?_; refine kpf rfl rfl <| RunK.nil <| LWP.condF rfl ?_; refine LWP.skip ?_; refine LWP.seq <| rgN <| K.makeMap 9 rfl .plain ?_; refine kas rfl <| kas rfl <| RunK.nil <| LWP.seq <| LWP.seq <| rgN <| kfa rfl rfl ?_; refine kl1 rfl rfl rfl <| K.lenX rfl SliceT.h rfl .plain ?_; refine kmv rfl <| RunK.nil <| LWP.block ?_)
  refine LWP.loop (fun m σ => ∃ (i : Nat) (last : Int), i ≤ cs.length ∧ m = cs.length - i ∧ (∀ j, 0 ≤ j → j < i → cmpE cs j = 0) ∧ (∀ x : Int, x ≤ last ↔ (x < 1 ∨ (0 < i ∧ x ≤ prevId cs i))) ∧ σ = ⟨[(3, Ln .i64 last), (4, Lmp 16), (18, Lx ad cs.length cap), (19, Ln .i64 (cs.length : Nat)), (20, Ln .i64 (i : Nat))], [nmBx 16 ((cs.take i).map Cp.nm)], X⟩) cs.length
    ⟨_, Le.of (by exact ⟨rfl, rfl, rfl, rfl, rfl, trivial⟩) (by exact ⟨rfl, trivial⟩) (by exact rfl) (by exact rfl) (by repeat' (first | refine all_cons_true ?_ ?_ | rfl | exact bytes_inUse | exact vals_inUse | exact mid_inUse rfl)), 0, 0, by omega, by omega, fun j _ hj => absurd hj (by omega), fun x => by omega, rfl⟩ ?_
  rintro m σ ⟨i, last, hi, rfl, hpre, hlast, rfl⟩
  by_cases hlt : i < cs.length
  · obtain ⟨c, hc⟩ : ∃ c, cs[i]? = some c := ⟨_, List.getElem?_eq_getElem hlt⟩
    obtain ⟨blk, off, arr, el, fr, fad, fcap, rfl, hX, hsz, hcs, _, _, _, hF⟩ := hin.get hc
    have hio : off + Int.toNat (i : Int) * 3 = off + i * 3 := by simp
    have hE := cmpE_flds hc
    obtain ⟨hfb, hnl, hfn⟩ := hN c (List.mem_of_getElem? hc)
    have fin : ∀ e, cmpE cs i = e → e ≠ 0 → firstE (cmpE cs) 0 cs.length = e := fun e he h0 => firstE_some hpre (Nat.zero_le _) (by omega) he h0
    have hany := any_names Cp.nm cs i c.nm
    have hts : (cs.take (i + 1)).map Cp.nm = (cs.take i).map Cp.nm ++ [c.nm] := by rw [take_snoc hc, List.map_append]; rfl
    (refine LWP.seq <| rgN <| klt rfl rfl (decide_eq_true (by omega)) <| RunK.nil <| LWP.seq <| LWP.condT rfl ?_; refine LWP.skip ?_; refine LWP.seq <| LWP.block <| LWP.seq <| rgN <| K.indexX rfl rfl SliceT.h (by omega) hio .plain <| K.loadXagg rfl hX (by kernel_rfl) hsz hcs .plain <| K.alloc rfl .plain ?_; refine K.storeAll rfl rfl rfl rfl rfl rfl .plain ?_; refine RunK.nil <| LWP.seq <| LWP.seq ?_)
    refine LWP.le (σ' := ⟨[(3, Ln .i64 last), (4, Lmp 16), (6, Lp 6), (18, Lx (some ⟨blk, off, none⟩) cs.length cap), (19, Ln .i64 (cs.length : Nat)), (20, Ln .i64 (i : Nat))], [nmBx 16 ((cs.take i).map Cp.nm), cpB 6 c fad fcap], X⟩) (Le.of (by exact ⟨rfl, rfl, rfl, rfl, rfl, rfl, trivial⟩) (by exact ⟨rfl, rfl, trivial⟩) (by exact rfl) (by exact rfl) (by repeat' (first | refine all_cons_true ?_ ?_ | rfl | exact bytes_inUse | exact vals_inUse | exact mid_inUse rfl))) ?_
    by_cases hq1 : c.id ≤ last
    · rw [if_pos (by rcases (hlast c.id).1 hq1 with h | h; exact .inl h; exact .inr (.inr h))] at hE
      rw [fin 1 hE (by decide)]
      (refine rgN <| kfa rfl rfl ?_; refine kl1 rfl rfl rfl <| kmv rfl <| K.leq rfl rfl (decide_eq_true hq1) .plain <| kmv rfl <| RunK.passed rfl rfl rfl <| RunK.passed rfl rfl rfl <| RunK.passed rfl rfl rfl <| kpt rfl rfl <| RunK.nil <| LWP.condT rfl ?_; refine LWP.seq <| rgN <| kas rfl <| RunK.nil <| LWP.ret ?_)
      exact ⟨[_], ⟨rfl, trivial⟩, rfl⟩
    by_cases hq2 : 24 < c.id
    · rw [if_pos (.inr (.inl hq2))] at hE
      rw [fin 1 hE (by decide)]
      (refine rgN <| kfa rfl rfl ?_; refine kl1 rfl rfl rfl <| kmv rfl <| K.leq rfl rfl (decide_eq_false hq1) .plain <| kmv rfl <| K.fieldAddr rfl rfl (.taken rfl rfl) ?_; refine K.loadOne rfl rfl rfl (.taken rfl rfl) ?_; refine K.gtr rfl rfl (decide_eq_true hq2) (.taken rfl rfl) ?_; refine kpf rfl rfl <| RunK.nil <| LWP.condT rfl ?_; refine LWP.seq <| rgN <| kas rfl <| RunK.nil <| LWP.ret ?_)
      exact ⟨[_], ⟨rfl, trivial⟩, rfl⟩
    have hq3 : ¬(c.id < 1 ∨ (0 < i ∧ c.id ≤ prevId cs i)) := fun h => hq1 ((hlast c.id).2 h)
    rw [if_neg (show ¬(c.id < 1 ∨ 24 < c.id ∨ (0 < i ∧ c.id ≤ prevId cs i)) from fun h => by rcases h with h | h | h; exact hq3 (.inl h); exact hq2 h; exact hq3 (.inr h))] at hE
    by_cases hno : ((cs.take i).map Cp.nm).any (fun m => m == c.nm) = true ∨ nmB c.nm = false
    · have h4 : cmpE cs i = 4 := by
        rw [hE]
        rw [hany] at hno
        rcases hno with h | h
        · rw [h]; simp
        · rw [h]; simp
      rw [fin 4 h4 (by decide)]
      have hT := take_no X ((cs.take i).map Cp.nm) c.nm hnl hno
      generalize (cs.take i).map Cp.nm = ns at *
      (refine rgN <| kfa rfl rfl ?_; refine kl1 rfl rfl rfl <| kmv rfl <| K.leq rfl rfl (decide_eq_false hq1) .plain <| kmv rfl <| K.fieldAddr rfl rfl (.taken rfl rfl) ?_; refine K.loadOne rfl rfl rfl (.taken rfl rfl) ?_; refine K.gtr rfl rfl (decide_eq_false hq2) (.taken rfl rfl) ?_; refine kpf rfl rfl <| RunK.nil <| LWP.condF rfl ?_; refine LWP.skip ?_; refine LWP.seq <| rgN <| kfa rfl rfl ?_; refine kl1 rfl rfl rfl <| kas rfl <| RunK.nil <| LWP.seq <| LWP.seq <| rgN <| kmv rfl <| kfa rfl rfl ?_; refine kl1 rfl rfl rfl <| K.callM [(1000000, 16)] [nmBx 16 ns] (hT) rfl rfl (by exact (And.intro ⟨_, rfl, rfl⟩ trivial)) (by exact (all_cons_true rfl rfl)) rfl rfl rfl rfl (by exact (.box rfl rfl .nil)) .plain <| K.not rfl rfl .plain <| RunK.nil <| LWP.condT rfl ?_; refine LWP.seq <| rgN <| kas rfl <| RunK.nil <| LWP.ret ?_)
      exact ⟨[_], ⟨rfl, trivial⟩, rfl⟩
    have h1 : ((cs.take i).map Cp.nm).any (fun m => m == c.nm) = false := by
      cases h : ((cs.take i).map Cp.nm).any (fun m => m == c.nm) with
      | false => rfl
      | true => exact absurd (.inl h) hno
    have h2 : nmB c.nm = true := by
      cases h : nmB c.nm with
      | true => rfl
      | false => exact absurd (.inr h) hno
    rw [if_pos h2, ← hany, h1, if_neg (by decide)] at hE
    have hT := take_ok X ((cs.take i).map Cp.nm) c.nm hnl h1 h2
    rw [← hts] at hT
    have hCF := checkFields_spec X fad fcap c.fs hF hfb hfn (fldsE c.fs) rfl
    generalize (cs.take i).map Cp.nm = ns at *
    generalize hns : (cs.take (i + 1)).map Cp.nm = ns' at *
    by_cases hz : fldsE c.fs = 0
    · rw [hz] at hCF hE
      (refine rgN <| kfa rfl rfl ?_; refine kl1 rfl rfl rfl <| kmv rfl <| K.leq rfl rfl (decide_eq_false hq1) .plain <| kmv rfl <| K.fieldAddr rfl rfl (.taken rfl rfl) ?_; refine K.loadOne rfl rfl rfl (.taken rfl rfl) ?_; refine K.gtr rfl rfl (decide_eq_false hq2) (.taken rfl rfl) ?_; refine kpf rfl rfl <| RunK.nil <| LWP.condF rfl ?_; refine LWP.skip ?_; refine LWP.seq <| rgN <| kfa rfl rfl ?_; refine kl1 rfl rfl rfl <| kas rfl <| RunK.nil <| LWP.seq <| LWP.seq <| rgN <| kmv rfl <| kfa rfl rfl ?_; refine kl1 rfl rfl rfl <| K.callM [(1000000, 16)] [nmBx 16 ns'] (hT) rfl rfl (by exact (And.intro ⟨_, rfl, rfl⟩ trivial)) (by exact (all_cons_true rfl rfl)) rfl rfl rfl rfl (by exact (.box rfl rfl .nil)) .plain <| K.not rfl rfl .plain <| RunK.nil <| LWP.condF rfl ?_; refine LWP.skip ?_; refine LWP.seq <| rgN <| kfa rfl rfl ?_; refine kl1 rfl rfl rfl <| kca rfl rfl (hCF) <| kas rfl <| RunK.nil <| LWP.seq <| rgN <| kmv rfl <| kne rfl rfl ((bne_eq_false_iff_eq.2 (by omega))) <| RunK.nil <| LWP.condF rfl ?_; refine LWP.skip ?_; refine rgN <| kad rfl rfl (wrap_i64 (by omega)) <| kmv rfl <| RunK.nil ?_)
      subst hns
      exact ⟨_, _, by omega, Le.of (by exact ⟨rfl, rfl, rfl, rfl, rfl, trivial⟩) (by exact ⟨rfl, trivial⟩) (by exact rfl) (by exact rfl) (by repeat' (first | refine all_cons_true ?_ ?_ | rfl | exact bytes_inUse | exact vals_inUse | exact mid_inUse rfl)), i + 1, c.id, by omega, rfl, (fun j h0 hj => by
        by_cases e : j = i
        · rw [e]; exact hE
        · exact hpre j h0 (by omega)), (fun x => by
        have hp : prevId cs (i + 1) = c.id := by unfold prevId; rw [Nat.add_sub_cancel, hc]; rfl
        rw [hp]; omega), rfl⟩
    · rw [fin _ hE hz]
      have hne : (fldsE c.fs != 0) = true := by rw [bne_iff_ne]; exact hz
      generalize fldsE c.fs = e at *
      (refine rgN <| kfa rfl rfl ?_; refine kl1 rfl rfl rfl <| kmv rfl <| K.leq rfl rfl (decide_eq_false hq1) .plain <| kmv rfl <| K.fieldAddr rfl rfl (.taken rfl rfl) ?_; refine K.loadOne rfl rfl rfl (.taken rfl rfl) ?_; refine K.gtr rfl rfl (decide_eq_false hq2) (.taken rfl rfl) ?_; refine kpf rfl rfl <| RunK.nil <| LWP.condF rfl ?_; refine LWP.skip ?_; refine LWP.seq <| rgN <| kfa rfl rfl ?_; refine kl1 rfl rfl rfl <| kas rfl <| RunK.nil <| LWP.seq <| LWP.seq <| rgN <| kmv rfl <| kfa rfl rfl ?_; refine kl1 rfl rfl rfl <| K.callM [(1000000, 16)] [nmBx 16 ns'] (hT) rfl rfl (by exact (And.intro ⟨_, rfl, rfl⟩ trivial)) (by exact (all_cons_true rfl rfl)) rfl rfl rfl rfl (by exact (.box rfl rfl .nil)) .plain <| K.not rfl rfl .plain <| RunK.nil <| LWP.condF rfl ?_; refine LWP.skip ?_; refine LWP.seq <| rgN <| kfa rfl rfl ?_; refine kl1 rfl rfl rfl <| kca rfl rfl (hCF) <| kas rfl <| RunK.nil <| LWP.seq <| rgN <| kmv rfl <| kne rfl rfl hne <| RunK.nil <| LWP.condT rfl ?_; refine LWP.seq <| rgN <| kmv rfl <| kas rfl <| RunK.nil <| LWP.ret ?_)
      exact ⟨[_], ⟨rfl, trivial⟩, rfl⟩
  · rw [show firstE (cmpE cs) 0 cs.length = 0 from firstE_none fun j h0 hj => hpre j h0 (by omega)]
    (refine LWP.seq <| rgN <| klt rfl rfl (decide_eq_false (by omega)) <| RunK.nil <| LWP.seq <| LWP.condF rfl ?_; refine LWP.exit <| LWP.seq <| rgN <| kas rfl <| RunK.nil <| LWP.ret ?_)
    exact ⟨[_], ⟨rfl, trivial⟩, rfl⟩
end Go.Proofs.YtnfbccfghgmfiaaGreat
end
section
namespace Go.Lg.Fld
open Go Go.Lg
theorem fields_reads {X : Nat → Option Obj} {ad : Option Addr} {fs : List Fl} (h : FieldsIn X ad fs) : ReadsX X ad (flV fs) := ⟨fun j u hj => by
  have hjl := (List.getElem?_eq_some_iff.1 hj).1
  rw [flV_len] at hjl
  obtain ⟨f, hf⟩ : ∃ f, fs[j / 3]? = some f := ⟨_, List.getElem?_eq_getElem (by omega)⟩
  obtain ⟨blk, off, arr, el, fr, rfl, hX, hsz, hcs⟩ := h.rows (j / 3) f.vals (by rw [List.getElem?_map, hf]; rfl)
  refine ⟨blk, off, arr, el, fr, rfl, hX, ?_⟩
  obtain ⟨h1, h2⟩ := flV_at hf
  have h3 : ((flV fs).drop (j / 3 * 3)).take 3 = (arr.toList.drop (off + j / 3 * 3)).take 3 := by rw [h2, hcs]
  have h4 : (((flV fs).drop (j / 3 * 3)).take 3)[j % 3]? = ((arr.toList.drop (off + j / 3 * 3)).take 3)[j % 3]? := by rw [h3]
  rw [List.getElem?_take, List.getElem?_take, if_pos (Nat.mod_lt _ (by omega)), if_pos (Nat.mod_lt _ (by omega)), List.getElem?_drop, List.getElem?_drop, show j / 3 * 3 + j % 3 = j by omega, show off + j / 3 * 3 + j % 3 = off + j by omega, hj, Array.getElem?_toList] at h4
  exact h4.symm⟩
theorem flV_one (fs : List Fl) : ∀ u ∈ flV fs, u.oneCell' = true := fun u hu => by
  unfold flV at hu
  rw [List.mem_flatten] at hu
  obtain ⟨l, hl, hu⟩ := hu
  obtain ⟨f, _, rfl⟩ := List.mem_map.1 hl
  simp only [Fl.vals, List.mem_cons, List.not_mem_nil, or_false] at hu
  rcases hu with rfl | rfl | rfl <;> rfl
theorem FieldsIn.none {X : Nat → Option Obj} {fs : List Fl} (h : FieldsIn X none fs) : fs = [] := by
  cases hfs : fs with
  | nil => rfl
  | cons f t =>
    obtain ⟨_, _, _, _, _, e, _⟩ := h.nm (k := 0) (f := f) (by rw [hfs]; rfl)
    cases e
end Go.Lg.Fld
namespace Go.Proofs.YtnfbccfghgmfiaaGreat
open Go Go.Lg Go.Lg.Fld
set_option maxRecDepth 100000
abbrev SCx (c : Cp) (fad : Option Addr) (fcap : Nat) : SV := .agg [.val (.int .i64 c.id), .val (.string ⟨c.nm.toArray⟩), .val (.slice fad c.fs.length fcap)]
abbrev SC0 : SV := .agg [.val (.int .i64 0), .val (.string ⟨#[]⟩), .val (.slice none 0 0)]
abbrev SCs (c : Cp) (k : Nat) : SV := .agg [.val (.int .i64 c.id), .val (.string ⟨c.nm.toArray⟩), .slc k 0 c.fs.length 3]
abbrev fdB (k : Nat) (fs : List Fl) : Nat × Option Box := (k, some ⟨49, (flV fs).map .val, true⟩)
abbrev Lf (f : FuncId) (caps : List Value) : LV := .sv (.one (.val (.func (.func f) #[] caps.toArray)))
abbrev Fx (f : Fl) : LV := .sv (.agg (f.vals.map CV.val))
variable (X : Nat → Option Obj)
theorem idxC_spec (ad : Option Addr) (cap : Nat) (cs : List Cp) (hin : CompsIn X ad cs) (hbig : cs.length < 4611686018427387904) (f : FuncId) (caps : List Value) (p : Cp → Bool)
    (hp : ∀ c ∈ cs, ∀ fad fcap, PSpec Tryz.prog X f ([Cx c fad fcap] ++ caps.map fun v => .sv (.one (.val v))) (Lb (p c))) :
    PSpec Tryz.prog X 63 [Lx ad cs.length cap, Lf f caps] (Ln .i64 (findI p cs)) := by
  refine PSpec.intro Tryz.func63 rfl (by kernel_rfl) rfl rfl ?_
  intro C
  (refine LWP.seq <| rgN <| kas rfl <| RunK.nil <| LWP.seq <| LWP.seq <| rgN <| kmv rfl <| K.lenX rfl SliceT.h rfl .plain ?_; refine kmv rfl <| RunK.nil <| LWP.block ?_)
  refine LWP.loop (fun m σ => ∃ i : Nat, i ≤ cs.length ∧ m = cs.length - i ∧ (∀ (j : Nat) (y : Cp), j < i → cs[j]? = some y → p y = false) ∧ σ = ⟨[(0, Lx ad cs.length cap), (1, Lf f caps), (7, Ln .i64 (cs.length : Nat)), (8, Ln .i64 (i : Nat))], [], X⟩) cs.length
    ⟨_, Le.of (by exact ⟨rfl, rfl, rfl, rfl, trivial⟩) (by exact trivial) (by exact rfl) (by exact rfl) (by exact rfl), 0, by omega, by omega, fun j y hj => absurd hj (by omega), rfl⟩ ?_
  rintro m σ ⟨i, hi, rfl, hpre, rfl⟩
  by_cases hlt : i < cs.length
  · obtain ⟨c, hc⟩ : ∃ c, cs[i]? = some c := ⟨_, List.getElem?_eq_getElem hlt⟩
    obtain ⟨blk, off, arr, el, fr, fad, fcap, rfl, hX, hsz, hcs, _, _, _, hF⟩ := hin.get hc
    have hio : off + Int.toNat (i : Int) * 3 = off + i * 3 := by simp
    have hP := hp c (List.mem_of_getElem? hc) fad fcap
    cases hpc : p c with
    | true =>
      rw [hpc] at hP
      rw [findI_some hpre hc hpc]
      (refine LWP.seq <| rgN <| klt rfl rfl (decide_eq_true (by omega)) <| RunK.nil <| LWP.seq <| LWP.condT rfl ?_; refine LWP.skip ?_; refine LWP.seq <| LWP.block <| LWP.seq <| rgN <| kmv rfl <| kas rfl <| RunK.nil <| LWP.seq <| rgN <| kmv rfl <| kmv rfl <| kmv rfl <| K.indexX rfl rfl SliceT.h (by omega) hio .plain <| K.loadXagg rfl hX (by kernel_rfl) hsz hcs .plain ?_; refine K.callF rfl rfl rfl hP .plain ?_; refine RunK.nil <| LWP.condT rfl ?_; refine LWP.seq <| rgN <| kmv rfl <| kas rfl <| RunK.nil <| LWP.ret ?_)
      exact ⟨[_], ⟨rfl, trivial⟩, rfl⟩
    | false =>
      rw [hpc] at hP
      (refine LWP.seq <| rgN <| klt rfl rfl (decide_eq_true (by omega)) <| RunK.nil <| LWP.seq <| LWP.condT rfl ?_; refine LWP.skip ?_; refine LWP.seq <| LWP.block <| LWP.seq <| rgN <| kmv rfl <| kas rfl <| RunK.nil <| LWP.seq <| rgN <| kmv rfl <| kmv rfl <| kmv rfl <| K.indexX rfl rfl SliceT.h (by omega) hio .plain <| K.loadXagg rfl hX (by kernel_rfl) hsz hcs .plain ?_; refine K.callF rfl rfl rfl hP .plain ?_; refine RunK.nil <| LWP.condF rfl ?_; refine LWP.skip ?_; refine rgN <| kad rfl rfl (wrap_i64 (by omega)) <| kmv rfl <| RunK.nil ?_)
      exact ⟨_, _, by omega, Le.of (by exact ⟨rfl, rfl, rfl, rfl, trivial⟩) (by exact trivial) (by exact rfl) (by exact rfl) (by exact rfl), i + 1, by omega, rfl, (fun j y hj hy => by
        by_cases e : j = i
        · subst e; rw [hc] at hy; cases hy; exact hpc
        · exact hpre j y (by omega) hy), rfl⟩
  · rw [findI_none fun j y hy => hpre j y (by have := (List.getElem?_eq_some_iff.1 hy).1; omega) hy]
    (refine LWP.seq <| rgN <| klt rfl rfl (decide_eq_false (by omega)) <| RunK.nil <| LWP.seq <| LWP.condF rfl ?_; refine LWP.exit <| LWP.seq <| rgN <| kas rfl <| RunK.nil <| LWP.ret ?_)
    exact ⟨[_], ⟨rfl, trivial⟩, rfl⟩
theorem idxF_spec (ad : Option Addr) (cap : Nat) (fs : List Fl) (hin : FieldsIn X ad fs) (hbig : fs.length < 4611686018427387904) (f : FuncId) (caps : List Value) (p : Fl → Bool)
    (hp : ∀ c ∈ fs, PSpec Tryz.prog X f ([Fx c] ++ caps.map fun v => .sv (.one (.val v))) (Lb (p c))) :
    PSpec Tryz.prog X 85 [Lx ad fs.length cap, Lf f caps] (Ln .i64 (findI p fs)) := by
  refine PSpec.intro Tryz.func85 rfl (by kernel_rfl) rfl rfl ?_
  intro C
  (refine LWP.seq <| rgN <| kas rfl <| RunK.nil <| LWP.seq <| LWP.seq <| rgN <| kmv rfl <| K.lenX rfl SliceT.h rfl .plain ?_; refine kmv rfl <| RunK.nil <| LWP.block ?_)
  refine LWP.loop (fun m σ => ∃ i : Nat, i ≤ fs.length ∧ m = fs.length - i ∧ (∀ (j : Nat) (y : Fl), j < i → fs[j]? = some y → p y = false) ∧ σ = ⟨[(0, Lx ad fs.length cap), (1, Lf f caps), (7, Ln .i64 (fs.length : Nat)), (8, Ln .i64 (i : Nat))], [], X⟩) fs.length
    ⟨_, Le.of (by exact ⟨rfl, rfl, rfl, rfl, trivial⟩) (by exact trivial) (by exact rfl) (by exact rfl) (by exact rfl), 0, by omega, by omega, fun j y hj => absurd hj (by omega), rfl⟩ ?_
  rintro m σ ⟨i, hi, rfl, hpre, rfl⟩
  by_cases hlt : i < fs.length
  · obtain ⟨c, hc⟩ : ∃ c, fs[i]? = some c := ⟨_, List.getElem?_eq_getElem hlt⟩
    obtain ⟨blk, off, arr, el, fr, rfl, hX, hsz, hcs⟩ := hin.at hc
    have hio : off + Int.toNat (i : Int) * 3 = off + i * 3 := by simp
    have hP := hp c (List.mem_of_getElem? hc)
    cases hpc : p c with
    | true =>
      rw [hpc] at hP
      rw [findI_some hpre hc hpc]
      (refine LWP.seq <| rgN <| klt rfl rfl (decide_eq_true (by omega)) <| RunK.nil <| LWP.seq <| LWP.condT rfl ?_; refine LWP.skip ?_; refine LWP.seq <| LWP.block <| LWP.seq <| rgN <| kmv rfl <| kas rfl <| RunK.nil <| LWP.seq <| rgN <| kmv rfl <| kmv rfl <| kmv rfl <| K.indexX rfl rfl SliceT.h (by omega) hio .plain <| K.loadXagg rfl hX (by kernel_rfl) hsz hcs .plain ?_; refine K.callF rfl rfl (by simp [LV.closed]; rfl) hP .plain ?_; refine RunK.nil <| LWP.condT rfl ?_; refine LWP.seq <| rgN <| kmv rfl <| kas rfl <| RunK.nil <| LWP.ret ?_)
      exact ⟨[_], ⟨rfl, trivial⟩, rfl⟩
    | false =>
      rw [hpc] at hP
      (refine LWP.seq <| rgN <| klt rfl rfl (decide_eq_true (by omega)) <| RunK.nil <| LWP.seq <| LWP.condT rfl ?_; refine LWP.skip ?_; refine LWP.seq <| LWP.block <| LWP.seq <| rgN <| kmv rfl <| kas rfl <| RunK.nil <| LWP.seq <| rgN <| kmv rfl <| kmv rfl <| kmv rfl <| K.indexX rfl rfl SliceT.h (by omega) hio .plain <| K.loadXagg rfl hX (by kernel_rfl) hsz hcs .plain ?_; refine K.callF rfl rfl rfl hP .plain ?_; refine RunK.nil <| LWP.condF rfl ?_; refine LWP.skip ?_; refine rgN <| kad rfl rfl (wrap_i64 (by omega)) <| kmv rfl <| RunK.nil ?_)
      exact ⟨_, _, by omega, Le.of (by exact ⟨rfl, rfl, rfl, rfl, trivial⟩) (by exact trivial) (by exact rfl) (by exact rfl) (by exact rfl), i + 1, by omega, rfl, (fun j y hj hy => by
        by_cases e : j = i
        · subst e; rw [hc] at hy; cases hy; exact hpc
        · exact hpre j y (by omega) hy), rfl⟩
  · rw [findI_none fun j y hy => hpre j y (by have := (List.getElem?_eq_some_iff.1 hy).1; omega) hy]
    (refine LWP.seq <| rgN <| klt rfl rfl (decide_eq_false (by omega)) <| RunK.nil <| LWP.seq <| LWP.condF rfl ?_; refine LWP.exit <| LWP.seq <| rgN <| kas rfl <| RunK.nil <| LWP.ret ?_)
    exact ⟨[_], ⟨rfl, trivial⟩, rfl⟩
abbrev Vp (b : Nat) : LV := .sv (.one (.val (.pointer (some ⟨b, 0, none⟩))))
theorem find1_spec (c : Cp) (fad : Option Addr) (fcap : Nat) (id : Int) {b : Nat} {arr : Array Value} {el : TypeId} {fr : Nat × Nat} (hX : X b = some (.cells arr el fr)) (h0 : arr[0]? = some (.int .i64 id)) :
    PSpec Tryz.prog X 49 [Cx c fad fcap, Vp b] (Lb (c.id == id)) := by
  refine PSpec.intro Tryz.func49 rfl (by kernel_rfl) rfl rfl ?_
  intro C
  (refine LWP.seq <| rgN <| K.box rfl rfl rfl .plain <| kas rfl <| RunK.nil <| LWP.seq <| rgN <| kfa rfl rfl ?_; refine kl1 rfl rfl rfl <| K.loadX rfl hX rfl h0 .plain <| keq rfl rfl rfl <| kas rfl <| RunK.nil <| LWP.ret ?_)
  exact ⟨[_], ⟨rfl, trivial⟩, rfl⟩
theorem fieldNamed1_spec (f : Fl) (nm : List UInt8) {b : Nat} {arr : Array Value} {el : TypeId} {fr : Nat × Nat} (hX : X b = some (.cells arr el fr)) (h0 : arr[0]? = some (.string ⟨nm.toArray⟩)) :
    PSpec Tryz.prog X 86 [Fx f, Vp b] (Lb (f.nm == nm)) := by
  refine PSpec.intro Tryz.func86 rfl (by kernel_rfl) rfl rfl ?_
  intro C
  (refine LWP.seq <| rgN <| K.box rfl rfl rfl .plain <| kas rfl <| RunK.nil <| LWP.seq <| rgN <| kfa rfl rfl ?_; refine kl1 rfl rfl rfl <| K.loadX rfl hX rfl h0 .plain <| kse rfl rfl (strs_eq rfl) <| kas rfl <| RunK.nil <| LWP.ret ?_)
  exact ⟨[_], ⟨rfl, trivial⟩, rfl⟩
theorem fclone_nil (cap : Nat) : PSpec Tryz.prog X 91 [Lx none 0 cap] (Lx none 0 0) := by
  refine PSpec.intro Tryz.func91 rfl (by kernel_rfl) rfl rfl ?_
  intro C
  (refine LWP.seq <| rgN <| kas rfl <| RunK.nil <| LWP.seq <| LWP.seq <| rgN <| kmv rfl <| K.slcNil (r := true) rfl SliceT.h (.inl ⟨rfl, rfl⟩) .plain ?_; refine RunK.nil <| LWP.condT rfl ?_; refine LWP.seq <| rgN <| kas rfl <| RunK.nil <| LWP.ret ?_)
  exact ⟨[_], ⟨rfl, trivial⟩, rfl⟩
theorem fclone_some (fa : Addr) (cap : Nat) (fs : List Fl) (hF : FieldsIn X (some fa) fs) (hb : fs.length ≤ 4398046511104) :
    MSpec Tryz.prog X 91 [Lx (some fa) fs.length cap] [] (.sv (.one (.slc 1000001 0 fs.length 3))) [fdB 1000001 fs] := by
  refine MSpec.intro Tryz.func91 rfl (by kernel_rfl) rfl rfl (by exact (by repeat' (first | refine all_cons_true ?_ ?_ | rfl | exact bytes_inUse | exact vals_inUse | exact mid_inUse rfl))) rfl rfl ?_
  intro C
  (refine LWP.seq <| rgN <| kas rfl <| RunK.nil <| LWP.seq <| LWP.seq <| rgN <| kmv rfl <| K.slcNil (r := false) rfl SliceT.h (.inl ⟨rfl, rfl⟩) .plain ?_; refine RunK.nil <| LWP.condF rfl ?_; refine LWP.skip ?_; refine LWP.seq <| rgN <| K.buildSlc (zs := []) (sz := 3) (e := 49) (by kernel_rfl) rfl rfl rfl rfl rfl rfl .plain <| kmv rfl <| K.appendX (by_ := 32) (e2 := 49) (news := flV fs) (nl := fs.length) (nc := (flV fs).map .val) rfl rfl rfl rfl (fields_reads hF) (flV_len fs) (flV_one fs) (by kernel_rfl) (by kernel_rfl) (by omega) (by omega) rfl (by omega) rfl .plain ?_; refine kas rfl <| RunK.nil <| LWP.ret ?_)
  exact ⟨[(1000001, 7)], ⟨[_], ⟨rfl, trivial⟩, rfl⟩, (by repeat' (first | exact trivial | refine And.intro ⟨_, rfl, ?_⟩ ?_ | refine And.intro ⟨_, rfl⟩ ?_ | rfl | exact Box.ren_bytes _ _ _ _ | exact Box.ren_vals _ _ _ _ | exact Box.ren_mid rfl)), rfl, rfl⟩
theorem cclone_nil (c : Cp) (cap : Nat) (h : c.fs = []) : PSpec Tryz.prog X 64 [Cx c none cap] (.sv (SCx c none 0)) := by
  refine PSpec.intro Tryz.func64 rfl (by kernel_rfl) rfl rfl ?_
  intro C
  have hq := fclone_nil X cap
  obtain ⟨id, nm, fs⟩ := c
  simp only at h
  subst h
  (refine LWP.seq <| rgN <| K.box rfl rfl rfl .plain <| K.alloc rfl .plain ?_; refine RunK.nil <| LWP.seq <| rgN <| kfa rfl rfl ?_; refine kl1 rfl rfl rfl <| kca rfl rfl hq <| kfa rfl rfl ?_; refine K.storeOne rfl rfl rfl rfl rfl (nl3 rfl rfl rfl rfl) .plain <| RunK.nil <| LWP.seq <| rgN <| K.loadAll rfl rfl rfl .plain ?_; refine K.storeAll rfl rfl rfl rfl rfl rfl .plain ?_; refine RunK.nil <| LWP.ret ?_)
  exact ⟨[_], ⟨⟨_, _, rfl, rfl, rfl, .inl ⟨AggT.h, rfl⟩⟩, trivial⟩, rfl⟩
theorem cclone_some (c : Cp) (fa : Addr) (cap : Nat) (hF : FieldsIn X (some fa) c.fs) (hb : c.fs.length ≤ 4398046511104) :
    MSpec Tryz.prog X 64 [Cx c (some fa) cap] [] (.sv (SCs c 1000001)) [fdB 1000001 c.fs] := by
  refine MSpec.intro Tryz.func64 rfl (by kernel_rfl) rfl rfl (by exact (by repeat' (first | refine all_cons_true ?_ ?_ | rfl | exact bytes_inUse | exact vals_inUse | exact mid_inUse rfl))) rfl rfl ?_
  intro C
  have hq := fclone_some X fa cap c.fs hF hb
  (refine LWP.seq <| rgN <| K.box rfl rfl rfl .plain <| K.alloc rfl .plain ?_; refine RunK.nil <| LWP.seq <| rgN <| kfa rfl rfl ?_; refine kl1 rfl rfl rfl <| K.callMp [(1000001, 20)] (.sv (.one (.slc 20 0 c.fs.length 3))) [fdB 20 c.fs] (hq) rfl rfl (by exact trivial) rfl rfl rfl rfl rfl (by exact (.box rfl (Box.ren_vals _ _ _ _) .nil)) .plain <| kfa rfl rfl ?_; refine K.storeOne rfl rfl rfl rfl rfl (nl3 rfl rfl rfl rfl) .plain <| RunK.nil <| LWP.seq <| rgN <| K.loadAll rfl rfl rfl .plain ?_; refine K.storeAll rfl rfl rfl rfl rfl rfl .plain ?_; refine RunK.nil <| LWP.ret ?_)
  exact ⟨[(1000001, 20)], ⟨[_], ⟨⟨_, _, rfl, rfl, rfl, .inl ⟨AggT.h, rfl⟩⟩, trivial⟩, rfl⟩, (by repeat' (first | exact trivial | refine And.intro ⟨_, rfl, ?_⟩ ?_ | refine And.intro ⟨_, rfl⟩ ?_ | rfl | exact Box.ren_bytes _ _ _ _ | exact Box.ren_vals _ _ _ _ | exact Box.ren_mid rfl)), rfl, rfl⟩
section
variable (ver : Int) (ad : Option Addr) (cap : Nat) (cs : List Cp) (f : FuncId) (caps : List Value) (p : Cp → Bool)
theorem first_no (hin : CompsIn X ad cs) (hbig : cs.length < 4611686018427387904) (hp : ∀ c ∈ cs, ∀ fad fcap, PSpec Tryz.prog X f ([Cx c fad fcap] ++ caps.map fun v => .sv (.one (.val v))) (Lb (p c))) (hno : findI p cs = -1) :
    PSpec Tryz.prog X 48 [Sx ver ad cs.length cap, Lf f caps] (.tup [SC0, Sb false]) := by
  refine PSpec.intro Tryz.func48 rfl (by kernel_rfl) rfl rfl ?_
  intro C
  have hI := idxC_spec X ad cap cs hin hbig f caps p hp
  rw [hno] at hI
  (refine LWP.seq <| rgN <| K.box rfl rfl rfl .plain <| K.alloc rfl .plain ?_; refine kas rfl <| RunK.nil <| LWP.seq <| rgN <| kfa rfl rfl ?_; refine kl1 rfl rfl rfl <| kmv rfl <| kca rfl rfl hI <| kas rfl <| RunK.nil <| LWP.seq <| LWP.seq <| rgN <| kmv rfl <| klt rfl rfl rfl <| RunK.nil <| LWP.condT rfl ?_; refine LWP.seq <| rgN <| K.build rfl rfl (by exact rfl) (by exact nl3 rfl rfl rfl rfl) .plain ?_; refine K.storeAll rfl rfl rfl rfl rfl rfl .plain ?_; refine kas rfl <| RunK.nil <| LWP.ret ?_)
  exact ⟨[_, _], ⟨⟨_, _, rfl, rfl, rfl, .inl ⟨AggT.h, rfl⟩⟩, rfl, trivial⟩, rfl⟩
theorem first_nil (hin : CompsIn X ad cs) (hbig : cs.length < 4611686018427387904) (hp : ∀ c ∈ cs, ∀ fad fcap, PSpec Tryz.prog X f ([Cx c fad fcap] ++ caps.map fun v => .sv (.one (.val v))) (Lb (p c)))
    {i : Nat} {c : Cp} (hpre : ∀ (j : Nat) (y : Cp), j < i → cs[j]? = some y → p y = false) (hc : cs[i]? = some c) (he : p c = true)
    {blk off : Nat} {arr : Array Value} {el : TypeId} {fr : Nat × Nat} {fcap : Nat} (had : ad = some ⟨blk, off, none⟩) (hX : X blk = some (.cells arr el fr)) (hsz : off + i * 3 + 3 ≤ arr.size) (hcs : ((arr.toList.drop (off + i * 3)).take 3).map CV.val = [.val (.int .i64 c.id), .val (.string ⟨c.nm.toArray⟩), .val (.slice none c.fs.length fcap)]) (h0 : c.fs = []) :
    PSpec Tryz.prog X 48 [Sx ver ad cs.length cap, Lf f caps] (.tup [SCx c none 0, Sb true]) := by
  subst had
  have hI := idxC_spec X _ cap cs hin hbig f caps p hp
  rw [findI_some hpre hc he] at hI
  have hi := (List.getElem?_eq_some_iff.1 hc).1
  have hio : off + Int.toNat (i : Int) * 3 = off + i * 3 := by simp
  refine PSpec.intro Tryz.func48 rfl (by kernel_rfl) rfl rfl ?_
  intro C
  have hq := cclone_nil X c fcap h0
  (refine LWP.seq <| rgN <| K.box rfl rfl rfl .plain <| K.alloc rfl .plain ?_; refine kas rfl <| RunK.nil <| LWP.seq <| rgN <| kfa rfl rfl ?_; refine kl1 rfl rfl rfl <| kmv rfl <| kca rfl rfl hI <| kas rfl <| RunK.nil <| LWP.seq <| LWP.seq <| rgN <| kmv rfl <| klt rfl rfl (decide_eq_false (by omega)) <| RunK.nil <| LWP.condF rfl ?_; refine LWP.skip ?_; refine LWP.seq <| rgN <| kfa rfl rfl ?_; refine kl1 rfl rfl rfl <| kmv rfl <| K.indexX rfl rfl SliceT.h (by omega) hio .plain <| K.loadXagg rfl hX (by kernel_rfl) hsz hcs .plain <| kca rfl rfl hq <| K.storeAll rfl rfl rfl rfl rfl rfl .plain ?_; refine kas rfl <| RunK.nil <| LWP.ret ?_)
  exact ⟨[_, _], ⟨⟨_, _, rfl, rfl, rfl, .inl ⟨AggT.h, rfl⟩⟩, rfl, trivial⟩, rfl⟩
theorem first_box (hin : CompsIn X ad cs) (hbig : cs.length < 4611686018427387904) (hp : ∀ c ∈ cs, ∀ fad fcap, PSpec Tryz.prog X f ([Cx c fad fcap] ++ caps.map fun v => .sv (.one (.val v))) (Lb (p c)))
    {i : Nat} {c : Cp} (hpre : ∀ (j : Nat) (y : Cp), j < i → cs[j]? = some y → p y = false) (hc : cs[i]? = some c) (he : p c = true)
    {blk off : Nat} {arr : Array Value} {el : TypeId} {fr : Nat × Nat} {fcap : Nat} {fa : Addr} (had : ad = some ⟨blk, off, none⟩) (hX : X blk = some (.cells arr el fr)) (hsz : off + i * 3 + 3 ≤ arr.size) (hcs : ((arr.toList.drop (off + i * 3)).take 3).map CV.val = [.val (.int .i64 c.id), .val (.string ⟨c.nm.toArray⟩), .val (.slice (some fa) c.fs.length fcap)]) (hF : FieldsIn X (some fa) c.fs) (hfb : c.fs.length ≤ 4398046511104) :
    MSpec Tryz.prog X 48 [Sx ver ad cs.length cap, Lf f caps] [] (.tup [SCs c 1000001, Sb true]) [fdB 1000001 c.fs] := by
  subst had
  have hI := idxC_spec X _ cap cs hin hbig f caps p hp
  rw [findI_some hpre hc he] at hI
  have hi := (List.getElem?_eq_some_iff.1 hc).1
  have hio : off + Int.toNat (i : Int) * 3 = off + i * 3 := by simp
  refine MSpec.intro Tryz.func48 rfl (by kernel_rfl) rfl rfl (by exact (by repeat' (first | refine all_cons_true ?_ ?_ | rfl | exact bytes_inUse | exact vals_inUse | exact mid_inUse rfl))) rfl rfl ?_
  intro C
  have hq := cclone_some X c fa fcap hF hfb
  (refine LWP.seq <| rgN <| K.box rfl rfl rfl .plain <| K.alloc rfl .plain ?_; refine kas rfl <| RunK.nil <| LWP.seq <| rgN <| kfa rfl rfl ?_; refine kl1 rfl rfl rfl <| kmv rfl <| kca rfl rfl hI <| kas rfl <| RunK.nil <| LWP.seq <| LWP.seq <| rgN <| kmv rfl <| klt rfl rfl (decide_eq_false (by omega)) <| RunK.nil <| LWP.condF rfl ?_; refine LWP.skip ?_; refine LWP.seq <| rgN <| kfa rfl rfl ?_; refine kl1 rfl rfl rfl <| kmv rfl <| K.indexX rfl rfl SliceT.h (by omega) hio .plain <| K.loadXagg rfl hX (by kernel_rfl) hsz hcs .plain <| K.callMp [(1000001, 20)] (.sv (SCs c 20)) [fdB 20 c.fs] (hq) rfl rfl (by exact trivial) rfl rfl rfl rfl rfl (by exact (.box rfl (Box.ren_vals _ _ _ _) .nil)) .plain <| K.storeAll rfl rfl rfl rfl rfl rfl .plain ?_; refine kas rfl <| RunK.nil <| LWP.ret ?_)
  exact ⟨[(1000001, 20)], ⟨[_, _], ⟨⟨_, _, rfl, rfl, rfl, .inl ⟨AggT.h, rfl⟩⟩, rfl, trivial⟩, rfl⟩, (by repeat' (first | exact trivial | refine And.intro ⟨_, rfl, ?_⟩ ?_ | refine And.intro ⟨_, rfl⟩ ?_ | rfl | exact Box.ren_bytes _ _ _ _ | exact Box.ren_vals _ _ _ _ | exact Box.ren_mid rfl)), rfl, rfl⟩
end
theorem at_zero {arr : Array Value} {v : Value} (h : ∃ sp, arr.toList = [v] ++ sp) : arr[0]? = some v := by
  obtain ⟨sp, h⟩ := h
  rw [← Array.getElem?_toList, h]; rfl
theorem pFind_no (ver : Int) (ad : Option Addr) (cap : Nat) (cs : List Cp) (id : Int) (hin : CompsIn X ad cs) (hbig : cs.length < 4611686018427387904) (hno : ∀ (j : Nat) (y : Cp), cs[j]? = some y → (y.id == id) = false) :
    PSpec Tryz.prog X 33 [Sx ver ad cs.length cap, Ln .i64 id] (.tup [SC0, Sb false]) := by
  refine PSpec.intro Tryz.func33 rfl (by kernel_rfl) rfl rfl ?_
  intro C
  (refine LWP.seq <| rgN <| K.box rfl rfl rfl .plain <| K.box1 rfl rfl rfl .plain <| K.alloc rfl .plain ?_; refine kas rfl <| RunK.nil <| LWP.seq ?_)
  refine LWP.le (σ' := ⟨[(3, Lp 3), (2, Lp 2), (4, Lp 4)], [(3, some ⟨3, [Value.int .i64 id].map .val, false⟩), sxB 2 ver ad cs.length cap, (4, some ⟨24, [.val (.int .i64 0), .val (.string ⟨#[]⟩), .val (.slice none 0 0)], false⟩)], X⟩) (Le.of (by exact ⟨rfl, rfl, rfl, trivial⟩) (by exact ⟨rfl, rfl, rfl, trivial⟩) (by exact rfl) (by exact rfl) (by repeat' (first | refine all_cons_true ?_ ?_ | rfl | exact bytes_inUse | exact vals_inUse | exact mid_inUse rfl))) ?_
  refine LWP.freezePtr (by rfl) (by rfl) (by rfl) fun b arr0 fr0 hn _ h0 => ?_
  have hin' := hin.mono (withBlock_old (o := .cells arr0 3 fr0) hn)
  have hp := fun (c : Cp) (_ : c ∈ cs) (fad : Option Addr) (fcap : Nat) => find1_spec _ c fad fcap id (withBlock_at X b (.cells arr0 3 fr0)) (at_zero h0)
  have hq := first_no _ ver ad cap cs 49 [.pointer (some ⟨b, 0, none⟩)] (fun c => c.id == id) hin' hbig hp (findI_none hno)
  (refine rgN <| K.loadAll rfl rfl rfl .plain ?_; refine K.makeFunc rfl rfl .plain ?_; refine kca rfl rfl hq <| kex rfl rfl <| kex rfl rfl <| K.storeAll rfl rfl rfl rfl rfl rfl .plain ?_; refine kas rfl <| RunK.nil <| LWP.ret ?_)
  exact ⟨[_, _], ⟨⟨_, _, rfl, rfl, rfl, .inl ⟨AggT.h, rfl⟩⟩, rfl, trivial⟩, rfl⟩
theorem pFind (ver : Int) (ad : Option Addr) (cap : Nat) (cs : List Cp) (id : Int) (hin : CompsIn X ad cs) (hbig : cs.length < 4611686018427387904) (hfs : ∀ c ∈ cs, c.fs.length ≤ 4398046511104) {i : Nat} {c : Cp} (hpre : ∀ (j : Nat) (y : Cp), j < i → cs[j]? = some y → (y.id == id) = false) (hc : cs[i]? = some c) (he : c.id = id) :
    (c.fs = [] ∧ PSpec Tryz.prog X 33 [Sx ver ad cs.length cap, Ln .i64 id] (.tup [SCx c none 0, Sb true])) ∨
      MSpec Tryz.prog X 33 [Sx ver ad cs.length cap, Ln .i64 id] [] (.tup [SCs c 1000001, Sb true]) [fdB 1000001 c.fs] := by
  have he' : (c.id == id) = true := by rw [beq_iff_eq]; exact he
  obtain ⟨blk, off, arr, el, fr, fad, fcap, rfl, hX, hsz, hcs, _, _, _, hF⟩ := hin.get hc
  cases fad with
  | none =>
    have hnil := hF.none
    refine .inl ⟨hnil, ?_⟩
    refine PSpec.intro Tryz.func33 rfl (by kernel_rfl) rfl rfl ?_
    intro C
    (refine LWP.seq <| rgN <| K.box rfl rfl rfl .plain <| K.box1 rfl rfl rfl .plain <| K.alloc rfl .plain ?_; refine kas rfl <| RunK.nil <| LWP.seq ?_)
    refine LWP.le (σ' := ⟨[(3, Lp 3), (2, Lp 2), (4, Lp 4)], [(3, some ⟨3, [Value.int .i64 id].map .val, false⟩), sxB 2 ver (some ⟨blk, off, none⟩) cs.length cap, (4, some ⟨24, [.val (.int .i64 0), .val (.string ⟨#[]⟩), .val (.slice none 0 0)], false⟩)], X⟩) (Le.of (by exact ⟨rfl, rfl, rfl, trivial⟩) (by exact ⟨rfl, rfl, rfl, trivial⟩) (by exact rfl) (by exact rfl) (by repeat' (first | refine all_cons_true ?_ ?_ | rfl | exact bytes_inUse | exact vals_inUse | exact mid_inUse rfl))) ?_
    refine LWP.freezePtr (by rfl) (by rfl) (by rfl) fun b arr0 fr0 hn _ h0 => ?_
    have hin' := hin.mono (withBlock_old (o := .cells arr0 3 fr0) hn)
    have hp := fun (c : Cp) (_ : c ∈ cs) (fad : Option Addr) (fcap : Nat) => find1_spec _ c fad fcap id (withBlock_at X b (.cells arr0 3 fr0)) (at_zero h0)
    have hq := first_nil _ ver _ cap cs 49 [.pointer (some ⟨b, 0, none⟩)] (fun c => c.id == id) hin' hbig hp hpre hc he' rfl (withBlock_old hn _ _ hX) hsz hcs hnil
    (refine rgN <| K.loadAll rfl rfl rfl .plain ?_; refine K.makeFunc rfl rfl .plain ?_; refine kca rfl rfl hq <| kex rfl rfl <| kex rfl rfl <| K.storeAll rfl rfl rfl rfl rfl rfl .plain ?_; refine kas rfl <| RunK.nil <| LWP.ret ?_)
    exact ⟨[_, _], ⟨⟨_, _, rfl, rfl, rfl, .inl ⟨AggT.h, rfl⟩⟩, rfl, trivial⟩, rfl⟩
  | some fa =>
    refine .inr ?_
    refine MSpec.intro Tryz.func33 rfl (by kernel_rfl) rfl rfl (by exact (by repeat' (first | refine all_cons_true ?_ ?_ | rfl | exact bytes_inUse | exact vals_inUse | exact mid_inUse rfl))) rfl rfl ?_
    intro C
    (refine LWP.seq <| rgN <| K.box rfl rfl rfl .plain <| K.box1 rfl rfl rfl .plain <| K.alloc rfl .plain ?_; refine kas rfl <| RunK.nil <| LWP.seq ?_)
    refine LWP.le (σ' := ⟨[(3, Lp 3), (2, Lp 2), (4, Lp 4)], [(3, some ⟨3, [Value.int .i64 id].map .val, false⟩), sxB 2 ver (some ⟨blk, off, none⟩) cs.length cap, (4, some ⟨24, [.val (.int .i64 0), .val (.string ⟨#[]⟩), .val (.slice none 0 0)], false⟩)], X⟩) (Le.of (by exact ⟨rfl, rfl, rfl, trivial⟩) (by exact ⟨rfl, rfl, rfl, trivial⟩) (by exact rfl) (by exact rfl) (by repeat' (first | refine all_cons_true ?_ ?_ | rfl | exact bytes_inUse | exact vals_inUse | exact mid_inUse rfl))) ?_
    refine LWP.freezePtr (by rfl) (by rfl) (by rfl) fun b arr0 fr0 hn _ h0 => ?_
    have hin' := hin.mono (withBlock_old (o := .cells arr0 3 fr0) hn)
    have hp := fun (c : Cp) (_ : c ∈ cs) (fad : Option Addr) (fcap : Nat) => find1_spec _ c fad fcap id (withBlock_at X b (.cells arr0 3 fr0)) (at_zero h0)
    have hq := first_box _ ver _ cap cs 49 [.pointer (some ⟨b, 0, none⟩)] (fun c => c.id == id) hin' hbig hp hpre hc he' rfl (withBlock_old hn _ _ hX) hsz hcs (hF.mono (withBlock_old hn)) (hfs c (List.mem_of_getElem? hc))
    (refine rgN <| K.loadAll rfl rfl rfl .plain ?_; refine K.makeFunc rfl rfl .plain ?_; refine K.callMp [(1000001, 20)] (.tup [SCs c 20, Sb true]) [fdB 20 c.fs] (hq) rfl rfl (by exact trivial) rfl rfl rfl rfl rfl (by exact (.box rfl (Box.ren_vals _ _ _ _) .nil)) .plain <| kex rfl rfl <| kex rfl rfl <| K.storeAll rfl rfl rfl rfl rfl rfl .plain ?_; refine kas rfl <| RunK.nil <| LWP.ret ?_)
    exact ⟨[(1000001, 20)], ⟨[_, _], ⟨⟨_, _, rfl, rfl, rfl, .inl ⟨AggT.h, rfl⟩⟩, rfl, trivial⟩, rfl⟩, (by repeat' (first | exact trivial | refine And.intro ⟨_, rfl, ?_⟩ ?_ | refine And.intro ⟨_, rfl⟩ ?_ | rfl | exact Box.ren_bytes _ _ _ _ | exact Box.ren_vals _ _ _ _ | exact Box.ren_mid rfl)), rfl, rfl⟩
theorem fieldNamed_spec (c : Cp) (fad : Option Addr) (fcap : Nat) (nm : List UInt8) (hF : FieldsIn X fad c.fs) (hbig : c.fs.length < 4611686018427387904) (v m : Int) (b : Bool) (hv : findI (fun f : Fl => f.nm == nm) c.fs = v) (hm : (if (0 : Int) > v then 0 else v) = m) (hb : decide (0 ≤ v) = b) :
    PSpec Tryz.prog X 55 [Cx c fad fcap, Ls nm] (.tup [Sn .i64 m, Sb b]) := by
  refine PSpec.intro Tryz.func55 rfl (by kernel_rfl) rfl rfl ?_
  intro C
  (refine LWP.seq <| rgN <| K.box rfl rfl rfl .plain <| K.box1 rfl rfl rfl .plain <| kas rfl <| kas rfl <| RunK.nil <| LWP.seq ?_)
  refine LWP.le (σ' := ⟨[(3, Lp 3), (2, Lp 2)], [(3, some ⟨9, [Value.string ⟨nm.toArray⟩].map .val, false⟩), cpB 2 c fad fcap], X⟩) (Le.of (by exact ⟨rfl, rfl, trivial⟩) (by exact ⟨rfl, rfl, trivial⟩) (by exact rfl) (by exact rfl) (by repeat' (first | refine all_cons_true ?_ ?_ | rfl | exact bytes_inUse | exact vals_inUse | exact mid_inUse rfl))) ?_
  refine LWP.freezePtr (by rfl) (by rfl) (by rfl) fun b0 arr0 fr0 hn _ h0 => ?_
  have hq := idxF_spec _ fad fcap c.fs (hF.mono (withBlock_old (o := .cells arr0 9 fr0) hn)) hbig 86 [.pointer (some ⟨b0, 0, none⟩)] (fun f => f.nm == nm) (fun f _ => fieldNamed1_spec _ f nm (withBlock_at X b0 (.cells arr0 9 fr0)) (at_zero h0))
  rw [hv] at hq
  (refine rgN <| kfa rfl rfl ?_; refine kl1 rfl rfl rfl <| K.makeFunc rfl rfl .plain ?_; refine kca rfl rfl hq <| kas rfl <| RunK.nil <| LWP.seq <| rgN <| kmv rfl <| K.max2 rfl rfl hm .plain ?_; refine kmv rfl <| K.geq rfl rfl hb .plain <| kas rfl <| kas rfl <| RunK.nil <| LWP.ret ?_)
  exact ⟨[_, _], ⟨rfl, rfl, trivial⟩, rfl⟩
theorem pField (c : Cp) (fad : Option Addr) (fcap : Nat) (nm : List UInt8) (hF : FieldsIn X fad c.fs) (hbig : c.fs.length < 4611686018427387904) {i : Nat} {f : Fl} (hpre : ∀ (j : Nat) (y : Fl), j < i → c.fs[j]? = some y → (y.nm == nm) = false) (hf : c.fs[i]? = some f) (he : f.nm = nm) :
    PSpec Tryz.prog X 55 [Cx c fad fcap, Ls nm] (.tup [Sn .i64 (i : Nat), Sb true]) :=
  fieldNamed_spec X c fad fcap nm hF hbig (i : Nat) (i : Nat) true (findI_some hpre hf (by rw [beq_iff_eq]; exact he)) (if_neg (by omega)) (decide_eq_true (by omega))
theorem pField_no (c : Cp) (fad : Option Addr) (fcap : Nat) (nm : List UInt8) (hF : FieldsIn X fad c.fs) (hbig : c.fs.length < 4611686018427387904) (hno : ∀ (j : Nat) (y : Fl), c.fs[j]? = some y → (y.nm == nm) = false) :
    PSpec Tryz.prog X 55 [Cx c fad fcap, Ls nm] (.tup [Sn .i64 0, Sb false]) :=
  fieldNamed_spec X c fad fcap nm hF hbig (-1) 0 false (findI_none hno) rfl (decide_eq_false (by decide))
end Go.Proofs.YtnfbccfghgmfiaaGreat
end
section
namespace Go.Lg.Fld
open Go Go.Lg
def idsV (cs : List Cp) : List Value := cs.map fun c => .int .i64 c.id
end Go.Lg.Fld
namespace Go.Proofs.YtnfbccfghgmfiaaGreat
open Go Go.Lg Go.Lg.Fld
set_option maxRecDepth 100000
variable (X : Nat → Option Obj)
theorem pIds (ver : Int) (ad : Option Addr) (cap : Nat) (cs : List Cp) (hin : CompsIn X ad cs) (hS : cs.length ≤ 65536) : MSpec Tryz.prog X 31 [Sx ver ad cs.length cap] [] (.sv (.one (.slc 1000001 0 cs.length))) [(1000001, some ⟨3, (idsV cs).map .val, false⟩)] := by
  refine MSpec.intro Tryz.func31 rfl (by kernel_rfl) rfl rfl (by exact (by repeat' (first | refine all_cons_true ?_ ?_ | rfl | exact bytes_inUse | exact vals_inUse | exact mid_inUse rfl))) rfl rfl ?_
  intro C
  have hmk : slcBuild Tryz.prog 86 cs.length = some (List.replicate cs.length (.int .i64 0), 1, 3) := slcBuild_one (by kernel_rfl) (by kernel_rfl) (by omega)
  (refine LWP.seq <| rgN <| K.box rfl rfl rfl .plain <| kas rfl <| RunK.nil <| LWP.seq <| rgN <| kfa rfl rfl ?_; refine kl1 rfl rfl rfl <| K.lenX rfl SliceT.h rfl .plain ?_; refine K.makeSlc (m := cs.length) (bytes := 8) rfl rfl hmk (by kernel_rfl) (by omega) rfl rfl .plain <| kas rfl <| RunK.nil <| LWP.seq <| LWP.seq <| rgN <| kfa rfl rfl ?_; refine kl1 rfl rfl rfl <| K.lenX rfl SliceT.h rfl .plain ?_; refine kmv rfl <| RunK.nil <| LWP.block ?_)
  refine LWP.loop (fun m σ => ∃ i : Nat, i ≤ cs.length ∧ m = cs.length - i ∧ σ = ⟨[(3, .sv (.one (.slc 9 0 cs.length))), (11, Lx ad cs.length cap), (12, Ln .i64 (cs.length : Nat)), (13, Ln .i64 (i : Nat))], [(9, some ⟨3, (idsV (cs.take i) ++ List.replicate (cs.length - i) (Value.int .i64 0)).map .val, false⟩)], X⟩) cs.length
    ⟨_, Le.of (by exact ⟨rfl, rfl, rfl, rfl, trivial⟩) (by exact ⟨rfl, trivial⟩) (by exact rfl) (by exact rfl) (by repeat' (first | refine all_cons_true ?_ ?_ | rfl | exact bytes_inUse | exact vals_inUse | exact mid_inUse rfl)), 0, by omega, by omega, rfl⟩ ?_
  rintro m σ ⟨i, hi, rfl, rfl⟩
  by_cases hlt : i < cs.length
  · obtain ⟨c, hc⟩ : ∃ c, cs[i]? = some c := ⟨_, List.getElem?_eq_getElem hlt⟩
    obtain ⟨blk, off, arr, el, fr, fad, fcap, rfl, hX, hsz, hcs, _, _, _, hF⟩ := hin.get hc
    have hio : off + Int.toNat (i : Int) * 3 = off + i * 3 := by simp
    have hix : 0 + Int.toNat (i : Int) * 1 = i := by rw [Int.toNat_natCast]; omega
    have hil : (idsV (cs.take i)).length = i := by unfold idsV; rw [List.length_map, List.length_take]; omega
    have hroom : i + 1 ≤ ((idsV (cs.take i) ++ List.replicate (cs.length - i) (Value.int .i64 0)).map CV.val).length := by rw [List.length_map, List.length_append, hil, List.length_replicate]; omega
    have hspl : splice ((idsV (cs.take i) ++ List.replicate (cs.length - i) (Value.int .i64 0)).map CV.val) i [.val (.int .i64 c.id)] = (idsV (cs.take (i + 1)) ++ List.replicate (cs.length - (i + 1)) (Value.int .i64 0)).map CV.val := by
      unfold splice
      rw [show cs.length - i = (cs.length - (i + 1)) + 1 by omega, List.replicate_succ, take_snoc hc]
      have e : idsV (cs.take i ++ [c]) = idsV (cs.take i) ++ [.int .i64 c.id] := by unfold idsV; rw [List.map_append]; rfl
      rw [e]
      simp only [List.map_append, List.append_assoc]
      have hml : ((idsV (cs.take i)).map CV.val).length = i := by rw [List.length_map, hil]
      generalize (idsV (cs.take i)).map CV.val = R at *
      rw [← hml, List.take_left, List.drop_length_add_append]
      simp
    (refine LWP.seq <| rgN <| klt rfl rfl (decide_eq_true (by omega)) <| RunK.nil <| LWP.seq <| LWP.condT rfl ?_; refine LWP.skip ?_; refine LWP.seq <| LWP.block <| LWP.seq <| rgN <| kmv rfl <| K.indexX rfl rfl SliceT.h (by omega) hio .plain <| K.loadXagg rfl hX (by kernel_rfl) hsz hcs .plain <| K.alloc rfl .plain ?_; refine kas rfl <| K.storeAll rfl rfl rfl rfl rfl rfl .plain ?_; refine RunK.nil <| rgN <| kmv rfl <| kmv rfl <| kfa rfl rfl ?_; refine kl1 rfl rfl rfl <| K.indexSlc rfl rfl (by omega) hix .plain ?_; refine K.store rfl rfl rfl rfl (by kernel_rfl) hroom hspl .plain <| RunK.nil <| rgN <| kad rfl rfl (wrap_i64 (by omega)) <| kmv rfl <| RunK.nil ?_)
    exact ⟨_, _, by omega, Le.of (by exact ⟨rfl, rfl, rfl, rfl, trivial⟩) (by exact ⟨rfl, trivial⟩) (by exact rfl) (by exact rfl) (by repeat' (first | refine all_cons_true ?_ ?_ | rfl | exact bytes_inUse | exact vals_inUse | exact mid_inUse rfl)), i + 1, by omega, rfl, rfl⟩
  · have e : i = cs.length := by omega
    subst e
    rw [List.take_length, Nat.sub_self, List.replicate_zero, List.append_nil]
    (refine LWP.seq <| rgN <| klt rfl rfl (decide_eq_false (by omega)) <| RunK.nil <| LWP.seq <| LWP.condF rfl ?_; refine LWP.exit <| LWP.seq <| rgN <| kmv rfl <| kas rfl <| RunK.nil <| LWP.ret ?_)
    exact ⟨[(1000001, 9)], ⟨[_], ⟨rfl, trivial⟩, rfl⟩, (by repeat' (first | exact trivial | refine And.intro ⟨_, rfl, ?_⟩ ?_ | refine And.intro ⟨_, rfl⟩ ?_ | rfl | exact Box.ren_bytes _ _ _ _ | exact Box.ren_vals _ _ _ _ | exact Box.ren_mid rfl)), rfl, rfl⟩
end Go.Proofs.YtnfbccfghgmfiaaGreat
end
section
namespace Go.Lg.Fld
open Go Go.Lg
theorem joinM_has {C : Ctx} {Y H : Nat → Option Obj} (hO : OwnedM C Y H) {b : Nat} {o : Obj} (h : Y b = some o) : joinM Y H b = some o := by
  cases hb : H b with
  | none => rw [joinM_out hb]; exact h
  | some o' => have := (hO.own b o' hb).2.2; rw [this] at h; cases h
theorem fields_none {X : Nat → Option Obj} {ad : Option Addr} {fs : List Fl} (h : fs = []) : FieldsIn X ad fs := by
  subst h
  exact ⟨fun k r hr => (by simp at hr), fun f hf => (by cases hf)⟩
end Go.Lg.Fld
namespace Go.Proofs.YtnfbccfghgmfiaaGreat
open Go Go.Lg Go.Lg.Fld
set_option maxRecDepth 100000
section
variable {n : Nat} {C : Ctx} {X : Nat → Option Obj} {s : List (Nat × LV)} {bx : List (Nat × Option Box)} {k : Nat}
end
variable (X : Nat → Option Obj)
end Go.Proofs.YtnfbccfghgmfiaaGreat
end
section
namespace Go.Proofs.YtnfbccfghgmfiaaGreat
open Go Go.Lg Go.Lg.Fld
set_option maxRecDepth 100000
theorem rows_in {Y : Nat → Option Obj} {blk : Nat} {arr : Array Value} {el : TypeId} {fr : Nat × Nat} {sz : Nat} {rows : List (List Value)} (hY : Y blk = some (.cells arr el fr)) (hl : ∀ r ∈ rows, r.length = sz) (hsp : ∃ sp, arr.toList = rows.flatten ++ sp) : Go.Lg.RowsIn Y (some ⟨blk, 0, none⟩) sz rows := fun i r hi => by
  obtain ⟨sp, e⟩ := hsp
  obtain ⟨h1, h2⟩ := flat_row hl (sp := sp) hi
  refine ⟨blk, 0, arr, el, fr, rfl, hY, ?_, ?_⟩
  · rw [← Array.length_toList, e]; omega
  · rw [e, Nat.zero_add]; exact h2
variable (X : Nat → Option Obj)
end Go.Proofs.YtnfbccfghgmfiaaGreat
end
section
namespace Go.Lg.Fld
open Go Go.Lg
end Go.Lg.Fld
namespace Go.Proofs.YtnfbccfghgmfiaaGreat
open Go Go.Lg Go.Lg.Fld
set_option maxRecDepth 100000
variable (X : Nat → Option Obj)
def cs0 : List Cp := [⟨1, [112, 111, 115], [⟨[120], 3, 1⟩, ⟨[121], 3, 1⟩]⟩, ⟨3, [116, 97, 103], []⟩]
end Go.Proofs.YtnfbccfghgmfiaaGreat
end
section
namespace Go.Lg.Fld
open Go Go.Lg
def Scan {α : Type} (p : α → Bool) (l : List α) (k : Nat) (v : Int) : Prop := (v = -1 ∧ ∀ (m : Nat) (y : α), k ≤ m → l[m]? = some y → p y = false) ∨ ∃ (i : Nat) (c : α), v = (i : Nat) ∧ l[i]? = some c ∧ p c = true ∧ ∀ (m : Nat) (y : α), k ≤ m → m < i → l[m]? = some y → p y = false
end Go.Lg.Fld
namespace Go.Proofs.YtnfbccfghgmfiaaGreat
open Go Go.Lg Go.Lg.Fld
set_option maxRecDepth 100000
variable (X : Nat → Option Obj)
end Go.Proofs.YtnfbccfghgmfiaaGreat
end
section
namespace Go.Lg.Fld
open Go Go.Lg
structure Good (cs : List Cp) : Prop where
  one : ∀ (i : Nat) (c : Cp), cs[i]? = some c → 1 ≤ c.id ∧ c.id ≤ 24 ∧ nmB c.nm = true ∧ firstE (fldE c.fs) 0 c.fs.length = 0 ∧ layErr c.fs = 0
  two : ∀ (i j : Nat) (c d : Cp), i < j → cs[i]? = some c → cs[j]? = some d → c.id < d.id ∧ c.nm ≠ d.nm
theorem good_of {cs : List Cp} (h : firstE (cmpE cs) 0 cs.length = 0) : Good cs := by
  have h0 : ∀ (i : Nat) (c : Cp), cs[i]? = some c → ¬(c.id < 1 ∨ 24 < c.id ∨ (0 < i ∧ c.id ≤ prevId cs i)) ∧ nmB c.nm = true ∧ (cs.take i).any (fun g => g.nm == c.nm) = false ∧ firstE (fldE c.fs) 0 c.fs.length = 0 ∧ layErr c.fs = 0 := fun i c hc => by
    have hi := (List.getElem?_eq_some_iff.1 hc).1
    have h1 := firstE_zero h i (Nat.zero_le _) (by omega)
    rw [cmpE_at hc] at h1
    by_cases b1 : c.id < 1 ∨ 24 < c.id ∨ (0 < i ∧ c.id ≤ prevId cs i)
    · rw [if_pos b1] at h1; cases h1
    · rw [if_neg b1] at h1
      by_cases b2 : nmB c.nm = true
      · rw [if_pos b2] at h1
        by_cases b3 : (cs.take i).any (fun g => g.nm == c.nm) = true
        · rw [if_pos b3] at h1; cases h1
        · rw [if_neg b3] at h1
          by_cases b4 : firstE (fldE c.fs) 0 c.fs.length = 0
          · rw [if_pos b4] at h1
            exact ⟨b1, b2, by simpa using b3, b4, h1⟩
          · rw [if_neg b4] at h1; cases h1
      · rw [if_neg b2] at h1; cases h1
  refine ⟨fun i c hc => ?_, fun i j c d hij hc hd => ⟨?_, fun e => ?_⟩⟩
  · obtain ⟨h1, h2, _, h4, h5⟩ := h0 i c hc
    exact ⟨by omega, by omega, h2, h4, h5⟩
  · obtain ⟨k, rfl⟩ : ∃ k, j = i + 1 + k := ⟨j - (i + 1), by omega⟩
    induction k generalizing d with
    | zero =>
      obtain ⟨h1, _⟩ := h0 _ d hd
      have hp : cs[i + 1 + 0 - 1]? = some c := hc
      have := prev_at hp
      omega
    | succ k ih =>
      obtain ⟨d', hd'⟩ : ∃ d', cs[i + 1 + k]? = some d' := ⟨_, List.getElem?_eq_getElem (by have := (List.getElem?_eq_some_iff.1 hd).1; omega)⟩
      have h2 := ih d' (by omega) hd'
      obtain ⟨h1, _⟩ := h0 _ d hd
      have hp : cs[i + 1 + (k + 1) - 1]? = some d' := hd'
      have := prev_at hp
      omega
  · obtain ⟨_, _, h3, _⟩ := h0 j d hd
    have := any_true (p := fun g : Cp => g.nm == d.nm) hij hc (by rw [beq_iff_eq]; exact e)
    rw [h3] at this; cases this
end Go.Lg.Fld
end
section
namespace Go.Lg.Fld
open Go Go.Lg
structure Ch where
  kind : Int
  comp : Int
  fld : List UInt8
instance : DecidableEq Ch := fun a b => decidable_of_iff (a.kind = b.kind ∧ a.comp = b.comp ∧ a.fld = b.fld) ⟨fun ⟨h1, h2, h3⟩ => by cases a; cases b; simp_all, fun h => by rw [h]; exact ⟨rfl, rfl, rfl⟩⟩
def fldAt (fs : List Fl) (nm : List UInt8) : Option Fl := fs.find? fun f => f.nm == nm
def fldIx (fs : List Fl) (nm : List UInt8) : Int := findI (fun f => f.nm == nm) fs
theorem fldIx_some {fs : List Fl} {nm : List UInt8} (h : 0 ≤ fldIx fs nm) : ∃ (k : Nat) (g : Fl), fs[k]? = some g ∧ g.nm = nm ∧ fldIx fs nm = (k : Nat) ∧ fldAt fs nm = some g ∧ ∀ (j : Nat) (y : Fl), j < k → fs[j]? = some y → y.nm ≠ nm := by
  unfold fldIx findI at h
  cases hf : fs.findIdx? (fun f => f.nm == nm) with
  | none => rw [hf] at h; simp only at h; omega
  | some k =>
    obtain ⟨hk, h1, h2⟩ := List.findIdx?_eq_some_iff_getElem.1 hf
    refine ⟨k, fs[k], List.getElem?_eq_getElem hk, by simpa using h1, by unfold fldIx findI; rw [hf], ?_, fun j y hj hy => ?_⟩
    · unfold fldAt
      rw [List.find?_eq_some_iff_getElem]
      exact ⟨h1, k, hk, rfl, fun j hj => by simpa using h2 j hj⟩
    · obtain ⟨hj', e⟩ := List.getElem?_eq_some_iff.1 hy
      have := h2 j hj
      rw [e] at this
      simpa using this
end Go.Lg.Fld
end
section
namespace Go.Lg.Fld
open Go Go.Lg
def Apart (fs : List Fl) : Prop := fs.Pairwise fun f g => f.nm ≠ g.nm
end Go.Lg.Fld
end
section
namespace Go.Lg
open Go Go.RowKit
section
variable {P : Program} {n : Nat} {ops os : List Oper} {acc : List Eff} {K : List Eff → St → Prop} {s : List (Nat × LV)} {bx : List (Nat × Option Box)} {X : Nat → Option Obj} {σ : St}
end
section
variable {P : Program} {n : Nat} {C : Ctx} {c : Code} {Q : Exit → St → Prop} {X : Nat → Option Obj}
theorem Rel.fixRes {ι : Nat → Nat × Nat} {a : Act} {w : World} {s : List (Nat × LV)} {bx : List (Nat × Option Box)} {d k off len sz : Nat} {e : TypeId} {cs : List CV} {R : Rsc}
    (hs : s.all (fun p => p.2.inUse bx) = true) (hb : bx.all (fun p => match p.2 with | some b => b.cells.all (CV.inUse bx) | none => true) = true) (hk : look k bx = none)
    (hr : Rel n C ι ⟨(d, .sv (.one (.slc k off len sz))) :: s, (k, some ⟨e, cs, .res R⟩) :: bx, X⟩ a w) :
    ∃ (ρ : Nat × Nat) (H : Nat → Option Obj) (cap : Nat), R.holds ρ H ∧ OwnedM C X H ∧ len ≤ cap ∧ off + cap * sz ≤ ρ.2 ∧
      Rel n C ι ⟨(d, .sv (.one (.val (.slice (some ⟨ρ.1, off, none⟩) len cap)))) :: s, bx, joinM X H⟩ a w := by
  have hst : (⟨(d, .sv (.one (.slc k off len sz))) :: s, (k, some ⟨e, cs, .res R⟩) :: bx, X⟩ : St).stat k = some (some ⟨e, cs, .res R⟩) := by simp [St.stat, look]
  have hlk : ∀ k' x, look k' bx = some x → k' ≠ k := fun k' x h' e => by rw [e, hk] at h'; cases h'
  have hstb : ∀ k' x, look k' bx = some x → (⟨(d, .sv (.one (.slc k off len sz))) :: s, (k, some ⟨e, cs, .res R⟩) :: bx, X⟩ : St).stat k' = some x := fun k' x h' => by
    simp only [St.stat, look]
    cases e : Nat.beq k k' with
    | true => exact absurd (Nat.eq_of_beq_eq_true e).symm (hlk k' x h')
    | false => exact h'
  have hback : ∀ j x, j ≠ k → (⟨(d, .sv (.one (.slc k off len sz))) :: s, (k, some ⟨e, cs, .res R⟩) :: bx, X⟩ : St).stat j = some x → look j bx = some x := fun j x hj h' => by
    simp only [St.stat, look] at h'
    cases e : Nat.beq k j with
    | true => exact absurd (Nat.eq_of_beq_eq_true e).symm hj
    | false => rw [e] at h'; exact h'
  obtain ⟨F, hF⟩ := hr.res
  obtain ⟨hR, _⟩ := hF.holds k _ _ _ hst
  obtain ⟨v, hv, hvr⟩ := hr.slots d (.sv (.one (.slc k off len sz))) (by simp [St.slot, look])
  simp only [LV.rel, SV.rel, CV.rel] at hvr
  rw [hst] at hvr
  obtain ⟨cap, rfl, hcap, hfit⟩ := hvr
  refine ⟨ι k, F k, cap, hR, ⟨fun b o hb => let h := hF.mem k b o hb; ⟨h.2.2.2.1, h.2.2.1, h.2.2.2.2.1⟩⟩, hcap, hfit, ?_⟩
  have hon : SameOn bx (⟨(d, .sv (.one (.slc k off len sz))) :: s, (k, some ⟨e, cs, .res R⟩) :: bx, X⟩ : St).stat (fun k => look k bx) := fun k' x h' => (hstb k' x h').trans h'.symm
  have hnot : ∀ j b, look j bx = some (some b) → F k (ι j).1 = none := fun j b hj => by
    cases hc : F k (ι j).1 with
    | none => rfl
    | some o => exact absurd ((hF.mem k _ o hc).2.2.2.2.2 j b (hstb j _ hj) rfl) (hlk j _ hj)
  exact {
    defers := hr.defers, size := hr.size
    slots := fun d' lv hd => by
      simp only [St.slot, look] at hd
      cases e : Nat.beq d d' with
      | true =>
        rw [e] at hd
        simp at hd
        subst hd
        have := Nat.eq_of_beq_eq_true e
        subst this
        exact ⟨_, hv, rfl⟩
      | false =>
        rw [e] at hd
        have hd : look d' s = some lv := by simpa using hd
        obtain ⟨v', hv', hr'⟩ := hr.slots d' lv (by simp only [St.slot, look, e]; exact hd)
        exact ⟨v', hv', LV.rel_on hon (List.all_eq_true.1 hs _ (look_mem hd)) hr'⟩
    boxes := fun k' b hb' hbk => by
      have hb' : look k' bx = some (some b) := hb'
      obtain ⟨arr', fr', h1, h2, h3, h4⟩ := hr.boxes k' b (hstb k' _ hb') hbk
      exact ⟨arr', fr', h1, h2, h3, Box.rel_on hon (by simpa using List.all_eq_true.1 hb _ (look_mem hb')) h4⟩
    own := fun k' b hb' => by
      have hb' : look k' bx = some (some b) := hb'
      obtain ⟨h1, h2⟩ := hr.own k' b (hstb k' _ hb')
      exact ⟨h1, (joinM_out (hnot k' b hb')).trans h2⟩
    inj := fun k1 k2 b1 b2 h1 h2 he => hr.inj k1 k2 b1 b2 (hstb k1 _ h1) (hstb k2 _ h2) he
    keep := fun k' b hb' hge => hr.keep k' b (hstb k' _ hb') hge
    ext := fun b o hbo => by
      have hbo : joinM X (F k) b = some o := hbo
      cases hc : F k b with
      | none => rw [joinM_out hc] at hbo; exact hr.ext b o hbo
      | some o' =>
        rw [joinM_in hc] at hbo
        cases hbo
        exact (hF.mem k b o hc).2.1
    res := by
      refine ⟨fun j => open Classical in if j = k then fun _ => none else F j, fun j e' cs' R' hj => ?_, fun j b o ho => ?_, fun i j b h1 h2 => ?_⟩
      · have hj : look j bx = some (some ⟨e', cs', .res R'⟩) := hj
        rw [if_neg (hlk j _ hj)]
        exact hF.holds j e' cs' R' (hstb j _ hj)
      · by_cases ej : j = k
        · rw [if_pos ej] at ho; cases ho
        · rw [if_neg ej] at ho
          obtain ⟨⟨e1, cs1, R1, h1⟩, h2, h3, h4, h5, h6⟩ := hF.mem j b o ho
          refine ⟨⟨e1, cs1, R1, hback j _ ej h1⟩, h2, h3, h4, ?_, fun i bi hi ei => h6 i bi (hstb i _ hi) ei⟩
          have hc : F k b = none := by
            cases hc : F k b with
            | none => rfl
            | some o' => exact absurd (hF.apart j k b (by rw [ho]; simp) (by rw [hc]; simp)) ej
          exact (joinM_out hc).trans h5
      · by_cases ei : i = k
        · rw [if_pos ei] at h1; exact absurd rfl h1
        · by_cases ej : j = k
          · rw [if_pos ej] at h2; exact absurd rfl h2
          · rw [if_neg ei] at h1
            rw [if_neg ej] at h2
            exact hF.apart i j b h1 h2
    frame := hr.frame, big := hr.big, os := hr.os, tape := hr.tape, output := hr.output }
theorem LWP.fixRes {s : List (Nat × LV)} {bx : List (Nat × Option Box)} {d k off len sz : Nat} {e : TypeId} {cs : List CV} {R : Rsc}
    (hs : s.all (fun p => p.2.inUse bx) = true) (hb : bx.all (fun p => match p.2 with | some b => b.cells.all (CV.inUse bx) | none => true) = true) (hk : look k bx = none)
    (h : ∀ (ρ : Nat × Nat) (H : Nat → Option Obj) (cap : Nat), R.holds ρ H → OwnedM C X H → len ≤ cap → off + cap * sz ≤ ρ.2 → LWP P n C c Q ⟨(d, .sv (.one (.val (.slice (some ⟨ρ.1, off, none⟩) len cap)))) :: s, bx, joinM X H⟩) :
    LWP P n C c Q ⟨(d, .sv (.one (.slc k off len sz))) :: s, (k, some ⟨e, cs, .res R⟩) :: bx, X⟩ := by
  refine ⟨fun ι a w hr => ?_⟩
  obtain ⟨ρ, H, cap, h1, h2, h3, h4, h5⟩ := hr.fixRes hs hb hk
  exact (h ρ H cap h1 h2 h3 h4).out ι a w h5
end
theorem Le.loose {n : Nat} {C : Ctx} {s : List (Nat × LV)} {bx : List (Nat × Option Box)} {X : Nat → Option Obj} {j : Nat} {e : TypeId} {A : List CV} {r : Bool} : Le n C ⟨s, (j, some ⟨e, A, r⟩) :: bx, X⟩ ⟨s, (j, some ⟨e, A, true⟩) :: bx, X⟩ := by
  have h := Le.trim (n := n) (C := C) (s := s) (bx := bx) (X := X) (j := j) (e := e) (A := A) (B := []) (r := r)
  rw [List.append_nil] at h
  exact h
end Go.Lg
end
section
namespace Go.Lg.Fld
open Go Go.Lg
def Ch.vals (x : Ch) : List Value := [.int .i64 x.kind, .int .i64 x.comp, .string ⟨x.fld.toArray⟩]
end Go.Lg.Fld
namespace Go.Proofs.YtnfbccfghgmfiaaGreat
open Go Go.Lg Go.Lg.Fld
set_option maxRecDepth 100000
variable (X : Nat → Option Obj)
end Go.Proofs.YtnfbccfghgmfiaaGreat
end
section
namespace Go.Proofs.YtnfbccfghgmfiaaGreat
open Go Go.Lg Go.Lg.Fml
abbrev Nm := Bool × Int
def gd (n : Nm) : Bool := formB n.1 n.2
def zz (n : Nm) : Int := zv n.1 n.2
def okI (x : Ins) : Bool := (decide (1 ≤ x.op) && decide (x.op ≤ 17)) && (gd x.k && ((decide (0 ≤ x.a) && decide (x.a ≤ 7)) && (decide (0 ≤ x.b) && decide (x.b ≤ 7))))
theorem okI_facts {x : Ins} (h : okI x = true) : (1 ≤ x.op ∧ x.op ≤ 17) ∧ gd x.k = true ∧ (0 ≤ x.a ∧ x.a ≤ 7) ∧ (0 ≤ x.b ∧ x.b ≤ 7) := by
  unfold okI at h
  simp only [Bool.and_eq_true, decide_eq_true_eq] at h
  exact ⟨h.1, h.2.1, h.2.2.1, h.2.2.2⟩
def chkX (l : List Ins) : Int := if 64 < l.length then 5 else if dep okI 0 l = some 1 then 0 else 4
theorem chkX_zero {l : List Ins} (h : chkX l = 0) : l.length ≤ 64 ∧ dep okI 0 l = some 1 := by
  unfold chkX at h
  split at h
  · cases h
  · split at h
    · rename_i h1 h2; exact ⟨by omega, h2⟩
    · cases h
theorem dep_ok {okJ : Ins → Bool} : ∀ {l : List Ins} {n m : Nat}, dep okJ n l = some m → ∀ x ∈ l, okJ x = true
  | [], _, _, _, x, hx => by cases hx
  | y :: l, n, m, h, x, hx => by
    simp only [dep] at h
    split at h
    · rename_i h1
      rcases List.mem_cons.1 hx with rfl | hx
      · exact h1.1
      · exact dep_ok h x hx
    · cases h
theorem chkX_ok {l : List Ins} (h : chkX l = 0) : ∀ x ∈ l, okI x = true := dep_ok (chkX_zero h).2
theorem chkX_ne {l : List Ins} (h : chkX l = 0) : l ≠ [] := fun e => by
  have := (chkX_zero h).2
  rw [e] at this
  cases this
def truth (b : Bool) : Nm := (false, if b then 1 else 0)
def elemX (fs : List (List Nm)) (a b : Int) : Except Int Nm :=
  if a < 0 ∨ b < 0 then .error 3 else match fs[a.toNat]? with
    | none => .error 3
    | some r => match r[b.toNat]? with
      | none => .error 3
      | some v => .ok v
def leafX (fs : List (List Nm)) (at_ : Int) (x : Ins) : Except Int Nm :=
  if x.op = 1 then .ok x.k else if x.op = 4 then (if at_ < 0 then .error 3 else .ok (false, at_)) else elemX fs x.a (if x.op = 3 then at_ else x.b)
def arith (op x y : Int) : Int := if op = 5 then x + y else if op = 6 then x - y else if op = 7 then x * y else if op = 8 then x.tdiv y else x.tmod y
instance decR127 (z : Int) : Decidable (R127 z) := by unfold R127; exact inferInstance
def doX (op : Int) (x y : Nm) : Except Int Nm :=
  if (gd x && gd y) = false then .error 1 else if 7 < op ∧ zz y = 0 then .error 1 else if R127 (arith op (zz x) (zz y)) then .ok (qn (arith op (zz x) (zz y))) else .error 3
def nodeX (op : Int) : List Nm → Except Int Nm
  | [x] => if gd x = false then .error 1 else if op = 10 then .ok (qn (-(zz x))) else .ok (truth (decide (x = (false, 0))))
  | [x, y] => if 5 ≤ op ∧ op ≤ 9 then doX op x y
    else if op = 17 then (if gd y = false then .error 1 else if y = (false, 0) then .error 9 else .ok x)
    else if (gd x && gd y) = false then .error 1
    else if op = 11 then .ok (if zz y < zz x then y else x)
    else if op = 12 then .ok (if zz x < zz y then y else x)
    else if op = 13 then .ok (truth (decide (x = y)))
    else .ok (truth (decide (zz x < zz y)))
  | [x, y, z] => if gd x = false then .error 1 else .ok (if x = (false, 0) then z else y)
  | _ => .error 0
def oneX (fs : List (List Nm)) (at_ : Int) (x : Ins) (a : List Nm) : Except Int Nm := if takes x.op = 0 then leafX fs at_ x else nodeX x.op a
def lastX : Except Int (List Nm) → Except Int Nm
  | .error e => .error e
  | .ok [v] => if gd v = true then .ok v else .error 4
  | .ok _ => .error 4
def evX (l : List Ins) (fs : List (List Nm)) (at_ : Int) : Except Int Nm := if chkX l = 0 then lastX (run (oneX fs at_) l []) else .error (chkX l)
theorem evX_tree {l : List Ins} {t : Tr} {fs : List (List Nm)} {at_ : Int} (h : chkX l = 0) (ht : t.ok) (hl : t.flat = l) : evX l fs at_ = match t.ev (oneX fs at_) with | .error e => .error e | .ok v => if gd v = true then .ok v else .error 4 := by
  unfold evX
  rw [if_pos h, ← hl, ← List.append_nil t.flat, run_flat ht]
  cases t.ev (oneX fs at_) with
  | error e => rfl
  | ok v => rfl
def wordX (op : Int) : List UInt8 :=
  if op = 5 then [97, 100, 100] else if op = 6 then [115, 117, 98] else if op = 7 then [109, 117, 108] else if op = 8 then [113, 117, 111] else if op = 9 then [114, 101, 109]
  else if op = 10 then [110, 101, 103] else if op = 11 then [108, 101, 97, 115, 116] else if op = 12 then [103, 114, 101, 97, 116] else if op = 13 then [115, 97, 109, 101]
  else if op = 14 then [108, 101, 115, 115] else if op = 15 then [110, 111, 116] else if op = 16 then [112, 105, 99, 107] else [110, 101, 101, 100]
def usesX (l : List Ins) : List Ins := l.filter fun x => x.op == 2 || x.op == 3
theorem doX_bad {op : Int} {x y : Nm} (h : (gd x && gd y) = false) : doX op x y = .error 1 := if_pos h
theorem node_err {op : Int} {a : List Nm} {e : Int} (ha : a.length = 1 ∨ a.length = 2 ∨ a.length = 3) (h : nodeX op a = .error e) : e ≠ 0 := by
  match a, ha with
  | [x], _ =>
    simp only [nodeX] at h
    repeat' (split at h <;> try (first | (simp only [Except.error.injEq] at h; omega) | cases h))
  | [x, y], _ =>
    simp only [nodeX, doX] at h
    repeat' (split at h <;> try (first | (simp only [Except.error.injEq] at h; omega) | cases h))
  | [x, y, z], _ =>
    simp only [nodeX] at h
    repeat' (split at h <;> try (first | (simp only [Except.error.injEq] at h; omega) | cases h))
  | [], ha => simp at ha
  | _ :: _ :: _ :: _ :: _, ha => simp at ha
theorem leaf_err {fs : List (List Nm)} {at_ : Int} {x : Ins} {e : Int} (h : leafX fs at_ x = .error e) : e ≠ 0 := by
  simp only [leafX, elemX] at h
  repeat' (split at h <;> try (first | (simp only [Except.error.injEq] at h; omega) | cases h))
theorem one_err {fs : List (List Nm)} {at_ : Int} {x : Ins} {a : List Nm} {e : Int} (ha : a.length = takes x.op) (h : oneX fs at_ x a = .error e) : e ≠ 0 := by
  unfold oneX at h
  have := takes_le x.op
  split at h
  · exact leaf_err h
  · exact node_err (by omega) h
theorem tree_err {fs : List (List Nm)} {at_ : Int} : ∀ {t : Tr} {e : Int}, t.ok → t.ev (oneX fs at_) = .error e → e ≠ 0
  | .n0 x, e, ht, h => one_err (a := []) (show _ = takes x.op from (show takes x.op = 0 from ht).symm) h
  | .n1 x a, e, ht, h => by
    simp only [Tr.ev] at h
    cases ha : a.ev (oneX fs at_) with
    | error e' => rw [ha] at h; simp only [Except.error.injEq] at h; subst h; exact tree_err ht.2 ha
    | ok u => rw [ha] at h; exact one_err (a := [u]) ht.1.symm h
  | .n2 x a b, e, ht, h => by
    simp only [Tr.ev] at h
    cases ha : a.ev (oneX fs at_) with
    | error e' => rw [ha] at h; simp only [Except.error.injEq] at h; subst h; exact tree_err ht.2.1 ha
    | ok u =>
      rw [ha] at h
      simp only at h
      cases hb : b.ev (oneX fs at_) with
      | error e' => rw [hb] at h; simp only [Except.error.injEq] at h; subst h; exact tree_err ht.2.2 hb
      | ok v => rw [hb] at h; exact one_err (a := [u, v]) ht.1.symm h
  | .n3 x a b c, e, ht, h => by
    simp only [Tr.ev] at h
    cases ha : a.ev (oneX fs at_) with
    | error e' => rw [ha] at h; simp only [Except.error.injEq] at h; subst h; exact tree_err ht.2.1 ha
    | ok u =>
      rw [ha] at h
      simp only at h
      cases hb : b.ev (oneX fs at_) with
      | error e' => rw [hb] at h; simp only [Except.error.injEq] at h; subst h; exact tree_err ht.2.2.1 hb
      | ok v =>
        rw [hb] at h
        simp only at h
        cases hc : c.ev (oneX fs at_) with
        | error e' => rw [hc] at h; simp only [Except.error.injEq] at h; subst h; exact tree_err ht.2.2.2 hc
        | ok w => rw [hc] at h; exact one_err (a := [u, v, w]) ht.1.symm h
theorem evX_err {l : List Ins} {fs : List (List Nm)} {at_ e : Int} (h : evX l fs at_ = .error e) : e ≠ 0 := by
  by_cases hz : chkX l = 0
  · obtain ⟨t, ht, hl⟩ := parse (chkX_zero hz).2
    rw [evX_tree hz ht hl] at h
    cases hv : t.ev (oneX fs at_) with
    | error e' => rw [hv] at h; simp only [Except.error.injEq] at h; subst h; exact tree_err ht hv
    | ok v =>
      rw [hv] at h
      simp only at h
      split at h
      · cases h
      · simp only [Except.error.injEq] at h; omega
  · unfold evX at h
    rw [if_neg hz] at h
    simp only [Except.error.injEq] at h
    omega
end Go.Proofs.YtnfbccfghgmfiaaGreat
end
section
namespace Go.Proofs.YtnfbccfghgmfiaaGreat
open Go Go.Lg Go.Lg.Fml Go.Lg.Fld
def o8 (n : Int) : UInt8 := UInt8.ofNat (n % 256).toNat
def loW (n : Int) : Nat := (n % 18446744073709551616).toNat
def hiW (n : Int) : Nat := (n / 18446744073709551616).toNat
def sgB (b : Bool) : UInt8 := if b then 1 else 0
def encI (x : Ins) : List UInt8 := o8 x.op :: (if x.op = 1 then sgB x.k.1 :: (leB 8 (loW x.k.2) ++ leB 8 (hiW x.k.2)) else if x.op = 2 then [o8 x.a, o8 x.b] else if x.op = 3 then [o8 x.a] else [])
def encIs : List Ins → List UInt8
  | [] => []
  | x :: t => encI x ++ encIs t
theorem encIs_app : ∀ (a b : List Ins), encIs (a ++ b) = encIs a ++ encIs b
  | [], _ => rfl
  | x :: t, b => by simp only [List.cons_append, encIs, encIs_app t b, List.append_assoc]
def plainI (x : Ins) : Bool := (decide (x.op = 1) || decide (x.k = (false, 0))) && ((decide (x.op = 2) || decide (x.b = 0)) && (decide (x.op = 2) || (decide (x.op = 3) || decide (x.a = 0))))
def encX (l : List Ins) : List UInt8 := o8 (l.length : Nat) :: encIs l
def encErr (l : List Ins) : Int := if chkX l = 0 then (if l.all plainI = true then 0 else 1) else chkX l
def encTX (l : List Ins) : List UInt8 := if encErr l = 0 then encX l else []
def getI : List UInt8 → Option (Ins × List UInt8)
  | [] => none
  | o :: r => if o.toNat = 1 then (match r with
      | [] => none
      | s :: r => if s.toNat ≤ 1 ∧ 16 ≤ r.length then some (⟨1, 0, 0, (decide (s.toNat = 1), ((le (r.take 8) + 18446744073709551616 * le ((r.drop 8).take 8) : Nat) : Int))⟩, r.drop 16) else none)
    else if o.toNat = 2 then (match r with
      | a :: b :: r => some (⟨2, (a.toNat : Nat), (b.toNat : Nat), (false, 0)⟩, r)
      | _ => none)
    else if o.toNat = 3 then (match r with
      | a :: r => some (⟨3, (a.toNat : Nat), 0, (false, 0)⟩, r)
      | _ => none)
    else some (⟨(o.toNat : Nat), 0, 0, (false, 0)⟩, r)
def getIs : Nat → List UInt8 → Option (List Ins × List UInt8)
  | 0, b => some ([], b)
  | n + 1, b => match getI b with
    | some (x, r) => match getIs n r with
      | some (l, r') => some (x :: l, r')
      | none => none
    | none => none
def decX : List UInt8 → Option (List Ins)
  | [] => none
  | n :: r => match getIs n.toNat r with
    | some (l, []) => if chkX l = 0 then some l else none
    | _ => none
theorem words {n : Int} (h : In2 n) : ((loW n + 18446744073709551616 * hiW n : Nat) : Int) = n ∧ loW n < 256 ^ 8 ∧ hiW n < 256 ^ 8 := by
  have hp : (256 : Nat) ^ 8 = 18446744073709551616 := by decide
  unfold In2 at h
  unfold loW hiW
  omega
theorem encI_len (x : Ins) : 1 ≤ (encI x).length ∧ (encI x).length ≤ 18 := by
  unfold encI
  split
  · simp only [List.length_cons, List.length_append, leB_length]; omega
  · split
    · simp
    · split <;> simp
theorem encIs_len : ∀ l : List Ins, (encIs l).length ≤ l.length * 18
  | [] => by simp [encIs]
  | x :: t => by have := (encI_len x).2; have := encIs_len t; simp only [encIs, List.length_append, List.length_cons]; omega
end Go.Proofs.YtnfbccfghgmfiaaGreat
end
section
namespace Go.Lg.Fml
def Tr.args : Tr → List Tr
  | .n0 _ => []
  | .n1 _ a => [a]
  | .n2 _ a b => [a, b]
  | .n3 _ a b c => [a, b, c]
def flatL : List Tr → List Ins
  | [] => []
  | a :: r => a.flat ++ flatL r
def endsL (p : Nat) : List Tr → List Nat
  | [] => []
  | a :: r => (p + a.flat.length - 1) :: endsL (p + a.flat.length) r
section
variable {V : Type} (one : Ins → List V → Except Int V)
variable {one}
end
def At (l : List Ins) (p : Nat) (t : Tr) : Prop := ∃ pre suf, l = pre ++ (t.flat ++ suf) ∧ pre.length = p
end Go.Lg.Fml
end
section
namespace Go.Proofs.YtnfbccfghgmfiaaGreat
open Go Go.Lg Go.Lg.Fml Go.Lg.Fld
def insV (x : Ins) : List Value := [.int .i64 x.op, .int .i64 x.a, .int .i64 x.b, .bool x.k.1, .int .u64 (x.k.2 / 18446744073709551616), .int .u64 (x.k.2 % 18446744073709551616)]
def smallI (x : Ins) : Prop := (-9223372036854775808 ≤ x.op ∧ x.op < 9223372036854775808) ∧ (-9223372036854775808 ≤ x.a ∧ x.a < 9223372036854775808) ∧ (-9223372036854775808 ≤ x.b ∧ x.b < 9223372036854775808) ∧ In2 x.k.2
structure InsIn (X : Nat → Option Obj) (ad : Option Addr) (l : List Ins) : Prop where
  rows : Go.Lg.RowsIn X ad 6 (l.map insV)
  small : ∀ x ∈ l, smallI x
theorem InsIn.mono {X Y : Nat → Option Obj} (hXY : ∀ b o, X b = some o → Y b = some o) {ad : Option Addr} {l : List Ins} (h : InsIn X ad l) : InsIn Y ad l := ⟨h.rows.mono hXY, h.small⟩
theorem InsIn.at {X : Nat → Option Obj} {ad : Option Addr} {l : List Ins} (h : InsIn X ad l) {i : Nat} {x : Ins} (hx : l[i]? = some x) :
    ∃ (blk off : Nat) (arr : Array Value) (el : TypeId) (fr : Nat × Nat), ad = some ⟨blk, off, none⟩ ∧ X blk = some (.cells arr el fr) ∧ off + i * 6 + 6 ≤ arr.size ∧ ((arr.toList.drop (off + i * 6)).take 6).map CV.val = (insV x).map CV.val ∧ arr[off + i * 6]? = some (.int .i64 x.op) := by
  obtain ⟨blk, off, arr, el, fr, h1, h2, h3, h4⟩ := h.rows i (insV x) (by rw [List.getElem?_map, hx]; rfl)
  refine ⟨blk, off, arr, el, fr, h1, h2, h3, by rw [h4], ?_⟩
  have h5 : ((arr.toList.drop (off + i * 6)).take 6)[0]? = some (.int .i64 x.op) := by rw [h4]; rfl
  rw [List.getElem?_take, if_pos (by decide), List.getElem?_drop, Nat.add_zero, Array.getElem?_toList] at h5
  exact h5
structure FssIn (X : Nat → Option Obj) (ad : Option Addr) (fss : List (List Nm)) : Prop where
  at_ : ∀ (i : Nat) (r : List Nm), fss[i]? = some r → ∃ (blk off : Nat) (arr : Array Value) (el : TypeId) (fr : Nat × Nat) (vad : Option Addr) (vcap : Nat), ad = some ⟨blk, off, none⟩ ∧ X blk = some (.cells arr el fr) ∧ off + i * 1 + 1 ≤ arr.size ∧ arr[off + i]? = some (.slice vad r.length vcap) ∧ NumsIn X vad r
theorem FssIn.mono {X Y : Nat → Option Obj} (hXY : ∀ b o, X b = some o → Y b = some o) {ad : Option Addr} {fss : List (List Nm)} (h : FssIn X ad fss) : FssIn Y ad fss := ⟨fun i r hr => by
  obtain ⟨blk, off, arr, el, fr, vad, vcap, h1, h2, h3, h4, h5⟩ := h.at_ i r hr
  exact ⟨blk, off, arr, el, fr, vad, vcap, h1, hXY _ _ h2, h3, h4, h5.rows.mono hXY, h5.in2⟩⟩
abbrev LIn (x : Ins) : LV := .sv (.agg ((insV x).map .val))
abbrev LEnv (fad : Option Addr) (n cap : Nat) (at_ : Int) : LV := .sv (.agg [.val (.slice fad n cap), .val (.int .i64 at_)])
end Go.Proofs.YtnfbccfghgmfiaaGreat
end
section
namespace Go.Proofs.YtnfbccfghgmfiaaGreat
open Go Go.Lg Go.Lg.Fml Go.Lg.Fld
structure Rl where
  nw : Int
  old : Int
  ex : List (List Ins)
  deriving DecidableEq
structure Pg where
  va : Int
  vb : Int
  rs : List Rl
  deriving DecidableEq
def firstX : List (List Ins) → Int
  | [] => 0
  | c :: t => if encErr c = 0 then firstX t else encErr c
def chkR (r : Rl) (last : Int) : Int := if r.nw < 1 ∨ 24 < r.nw ∨ r.old < 0 ∨ 24 < r.old ∨ r.nw ≤ last then 1 else if r.old = 0 ∧ r.ex ≠ [] then 4 else if 8 < r.ex.length then 5 else firstX r.ex
def chkRs : Int → List Rl → Int
  | _, [] => 0
  | last, r :: t => if chkR r last = 0 then chkRs r.nw t else chkR r last
def verOk (n : Int) : Bool := decide (1 ≤ n) && decide (n ≤ 1073741824)
def chkP (p : Pg) : Int := if (verOk p.va && verOk p.vb) = true then chkRs 0 p.rs else 1
theorem chkR_zero {r : Rl} {last : Int} (h : chkR r last = 0) : (1 ≤ r.nw ∧ r.nw ≤ 24) ∧ (0 ≤ r.old ∧ r.old ≤ 24) ∧ last < r.nw ∧ (r.old = 0 → r.ex = []) ∧ r.ex.length ≤ 8 ∧ firstX r.ex = 0 := by
  unfold chkR at h
  split at h
  · cases h
  · rename_i h1
    split at h
    · cases h
    · rename_i h2
      split at h
      · cases h
      · rename_i h3
        refine ⟨by omega, by omega, by omega, fun e => ?_, by omega, h⟩
        by_cases hx : r.ex = []
        · exact hx
        · exact absurd ⟨e, hx⟩ h2
def get4 (b : List UInt8) : Option (Nat × List UInt8) := if 4 ≤ b.length then some (le (b.take 4), b.drop 4) else none
def getE (b : List UInt8) : Option (List Ins × List UInt8) := match get4 b with
  | none => none
  | some (m, r) => if m ≤ r.length then (match decX (r.take m) with
    | some l => some (l, r.drop m)
    | none => none) else none
def getEs : Nat → List UInt8 → Option (List (List Ins) × List UInt8)
  | 0, b => some ([], b)
  | n + 1, b => match getE b with
    | some (x, r) => match getEs n r with
      | some (l, r') => some (x :: l, r')
      | none => none
    | none => none
def getRl : List UInt8 → Option (Rl × List UInt8)
  | n :: o :: m :: r => match getEs m.toNat r with
    | some (l, r') => some (⟨(n.toNat : Nat), (o.toNat : Nat), l⟩, r')
    | none => none
  | _ => none
def getRls : Nat → List UInt8 → Option (List Rl × List UInt8)
  | 0, b => some ([], b)
  | n + 1, b => match getRl b with
    | some (x, r) => match getRls n r with
      | some (l, r') => some (x :: l, r')
      | none => none
    | none => none
end Go.Proofs.YtnfbccfghgmfiaaGreat
end
section
namespace Go.Lg.Fml
theorem dep_snoc {okJ : Ins → Bool} {l : List Ins} {i n : Nat} {x : Ins} (hd : dep okJ 0 (l.take i) = some n) (hx : l[i]? = some x) : dep okJ 0 (l.take (i + 1)) = if okJ x = true ∧ takes x.op ≤ n ∧ n - takes x.op + 1 ≤ 16 then some (n - takes x.op + 1) else none := by
  rw [Go.Lg.Fld.take_snoc hx, dep_app, hd]
  show dep okJ n [x] = _
  simp only [dep]
theorem dep_none {okJ : Ins → Bool} {l : List Ins} {i : Nat} (hd : dep okJ 0 (l.take i) = none) : dep okJ 0 l = none := by
  rw [← List.take_append_drop i l, dep_app, hd]
  rfl
theorem dep_le {okJ : Ins → Bool} : ∀ {l : List Ins} {n m : Nat}, n ≤ 16 → dep okJ n l = some m → m ≤ 16
  | [], n, m, hn, h => by simp only [dep, Option.some.injEq] at h; omega
  | x :: l, n, m, hn, h => by
    simp only [dep] at h
    split at h
    · rename_i h1; exact dep_le h1.2.2 h
    · cases h
end Go.Lg.Fml
namespace Go.Proofs.YtnfbccfghgmfiaaGreat
open Go Go.Lg Go.Lg.Fml Go.Lg.Fld
set_option maxRecDepth 100000
variable (X : Nat → Option Obj)
instance : ArrB Tryz.prog 120 (List.replicate 18 (.int .i64 0)) 1 := ⟨by kernel_rfl⟩
theorem takes_out {op : Int} (h : op < 5 ∨ 17 < op) : takes op = 0 := by
  unfold takes
  rw [if_neg (by omega), if_neg (by omega), if_neg (by omega)]
theorem chkX_bad {l : List Ins} {i n : Nat} {x : Ins} (h64 : ¬ 64 < l.length) (hd : dep okI 0 (l.take i) = some n) (hx : l[i]? = some x) (hb : ¬ (okI x = true ∧ takes x.op ≤ n ∧ n - takes x.op + 1 ≤ 16)) : chkX l = 4 := by
  unfold chkX
  rw [if_neg h64, if_neg]
  rw [dep_none (i := i + 1) ((dep_snoc hd hx).trans (if_neg hb))]
  exact fun h => by cases h
end Go.Proofs.YtnfbccfghgmfiaaGreat
end
section
namespace Go.Lg.Sg
open Go Go.Lg
def NuIn (X : Nat → Option Obj) (ad : Option Addr) (l : List Int) : Prop := RowsIn X ad 1 (l.map fun n => [.int .i64 n])
end Go.Lg.Sg
end
