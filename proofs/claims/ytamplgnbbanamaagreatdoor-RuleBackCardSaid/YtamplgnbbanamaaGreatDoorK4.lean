/- A piece of a proof over this program: contracts of its functions, and a logic to prove them by. -/
import Derived.Test.YtamplgnbbanamaaGreatDoorK2
import Derived.Test.YtamplgnbbanamaaGreatDoorK3
import Derived.StringKeys
import Derived.WideMake
import Derived.Test.YtamplgnbbanamaaGreatDoorRows
import Derived.Lib.ItoaLen
import Derived.Shelf.Strings.Builder1
import Derived.Shelf.Strings.Builder2
import Derived.Shelf.Strings.OnBuilder
import Derived.Shelf.Small.Bits
import Derived.Shelf.Strings.BuilderF
import Derived.Shelf.Strconv.Itoa0
import Derived.Shelf.Strconv.Itoa1
import Derived.Shelf.LaysM
import Derived.Shelf.Strconv.Itoa2
import Derived.Shelf.Strconv.Itoa3
import Derived.Shelf.Strings.Prefix
import Derived.Shelf.Bits.Mul64
import Derived.Shelf.Strings.Repeat
import Derived.Test.YtamplgnbbanamaaGreatDoorProg
import Derived.Lib.Walk
import Derived.Lib.ItoaMem
import Derived.Lib.AppendIntMem
import Derived.WalkKit
import Derived.BigCall
import Derived.BigGuard
import Derived.ChangeKeysEq
section
namespace Go.Lg
open Go Go.RowKit
section
variable {P : Program} {n : Nat} {ops os : List Oper} {acc : List Eff} {K : List Eff → St → Prop} {s : List (Nat × LV)} {bx : List (Nat × Option Box)} {X : Nat → Option Obj} {σ : St}
theorem run_equal_slcNil {P : Program} (w : World) (t : TypeId) (a : Option Addr) (l c sz : Nat) (h : sliceOf P t = some sz) : (Op.equal t (.slice a l c) (.slice none 0 0)).run P w = .ok a.isNone w := by
  obtain ⟨e, hu, _⟩ := sliceOf_spec h
  have key : ∀ d, (Op.equalIn (d + 1) t (.slice a l c) (.slice none 0 0)).run P w = .ok a.isNone w := fun d => by
    cases a <;> simp [Op.equalIn, run_underlying hu]
  exact key 9999
theorem LOK.slcNil {d : Nat} {op : BinOp} {t t' : TypeId} {x : Operand} {ty : TypeId} {pos : String} {after_ : Array Edge} {g : Option (Nat × Bool)} {r : Bool} {ad : Option Addr} {len cap sz : Nat} (hx : σ.ev x = some (.sv (.one (.val (.slice ad len cap))))) (ht : sliceOf P t = some sz)
    (hop : (op = .eql ∧ r = ad.isNone) ∨ (op = .neq ∧ r = !ad.isNone)) :
    LOK P n ops ⟨some d, .binOp op t x (.const (.slice none 0 0)) t', ty, pos, after_, g⟩ σ ⟨[(d, .sv (.one (.val (.bool r))))], [], []⟩ :=
  LOK.value fun σ' ha C ι a w hr => by
    have hv : a.eval x = .slice ad len cap := hr.ev ((ha.ev (x := x) (by simp [Op.operands])).trans hx)
    have hc : a.eval (.const (.slice none 0 0)) = .slice none 0 0 := rfl
    have h1 := run_equal_slcNil w t ad len cap sz ht
    rcases hop with ⟨rfl, rfl⟩ | ⟨rfl, rfl⟩
    · exact ⟨_, by simp only [execOp, hv, hc, eqGuard, Sem.run_bind]; simp [binOp, h1], rfl⟩
    · exact ⟨_, by simp only [execOp, hv, hc, eqGuard, Sem.run_bind]; simp [binOp, h1], rfl⟩
theorem K.slcNil {d : Nat} {op : BinOp} {t t' : TypeId} {x : Operand} {ty : TypeId} {pos : String} {after_ : Array Edge} {g : Option (Nat × Bool)} {r : Bool} {ad : Option Addr} {len cap sz : Nat} (hx : (⟨s, bx, X⟩ : St).ev x = some (.sv (.one (.val (.slice ad len cap))))) (ht : sliceOf P t = some sz)
    (hop : (op = .eql ∧ r = ad.isNone) ∨ (op = .neq ∧ r = !ad.isNone)) (hw : Want ops s g) (kont : RunK P n ops os ⟨(d, .sv (.one (.val (.bool r)))) :: s, bx, X⟩ (⟨[(d, .sv (.one (.val (.bool r))))], [], []⟩ :: acc) K) :
    RunK P n ops (⟨some d, .binOp op t x (.const (.slice none 0 0)) t', ty, pos, after_, g⟩ :: os) ⟨s, bx, X⟩ acc K := RunK.g1 (LOK.slcNil hx ht hop) hw kont
end
end Go.Lg
end
section
namespace Go.Lg
open Go Go.RowKit
def LentBox (Y : Nat → Option Obj) (b : Box) (blk m : Nat) : Prop :=
  match b.row with
  | .bool _ => ∃ (arr : Array Value) (fr : Nat × Nat) (us sp : List Value), Y blk = some (.cells arr b.elem fr) ∧ arr.size = m ∧ arr.toList = us ++ sp ∧ ∀ vals : List Value, b.cells = vals.map .val → us = vals
  | .res R => ∃ H : Nat → Option Obj, R.holds (blk, m) H ∧ ∀ i o, H i = some o → Y i = some o
def LentC (S : Nat → Option (Option Box)) (Y : Nat → Option Obj) : CV → Value → Prop
  | .val v, u => u = v
  | .slc k off len sz, u => ∃ (b : Box) (blk cap m : Nat), S k = some (some b) ∧ u = .slice (some ⟨blk, off, none⟩) len cap ∧ len ≤ cap ∧ off + cap * sz ≤ m ∧ LentBox Y b blk m
  | _, _ => False
def LentCs (S : Nat → Option (Option Box)) (Y : Nat → Option Obj) : List CV → List Value → Prop
  | [], us => us = []
  | c :: l, us => ∃ u us', us = u :: us' ∧ LentC S Y c u ∧ LentCs S Y l us'
def LentL (S : Nat → Option (Option Box)) (Y : Nat → Option Obj) (lv : LV) (u : Value) : Prop :=
  match lv with
  | .sv (.one c) => LentC S Y c u
  | .sv (.agg cs) => ∃ us : List Value, u = .agg us.toArray ∧ LentCs S Y cs us
  | _ => False
def LentLs (S : Nat → Option (Option Box)) (Y : Nat → Option Obj) : List LV → List Value → Prop
  | [], us => us = []
  | lv :: l, us => ∃ u us', us = u :: us' ∧ LentL S Y lv u ∧ LentLs S Y l us'
def lendC (S : Nat → Option (Option Box)) (ks : List Nat) : CV → Bool
  | .val _ => true
  | .slc k _ _ _ => ks.contains k && (match S k with | some (some _) => true | _ => false)
  | _ => false
def lendL (S : Nat → Option (Option Box)) (ks : List Nat) : LV → Bool
  | .sv (.one c) => lendC S ks c
  | .sv (.agg cs) => cs.all (lendC S ks)
  | _ => false
section
variable {P : Program} {n : Nat} {ops os : List Oper} {acc : List Eff} {K : List Eff → St → Prop} {s : List (Nat × LV)} {bx : List (Nat × Option Box)} {X : Nat → Option Obj} {σ : St}
theorem lentBox_of {C : Ctx} {ι : Nat → Nat × Nat} {a : Act} {w : World} {σ' : St} (hr : Rel n C ι σ' a w) {k : Nat} {b : Box} (hst : σ'.stat k = some (some b)) : LentBox (fun i => w.heap[i]?) b (ι k).1 (ι k).2 := by
  obtain ⟨e, cs, row⟩ := b
  cases row with
  | bool r =>
    obtain ⟨arr, fr, harr, _, hsz, hbr⟩ := hr.boxes k _ hst rfl
    unfold Box.rel at hbr
    cases r with
    | false => exact ⟨arr, fr, arr.toList, [], harr, hsz, by simp, fun vals e => by simp only at e hbr; rw [e] at hbr; exact rel_vals hbr⟩
    | true =>
      obtain ⟨us, sp, e, hl⟩ := hbr
      exact ⟨arr, fr, us, sp, harr, hsz, e, fun vals e => by simp only at e hl; rw [e] at hl; exact rel_vals hl⟩
  | res R =>
    obtain ⟨F, hF⟩ := hr.res
    exact ⟨F k, (hF.holds k _ _ _ hst).1, fun i o h => (hF.mem k i o h).2.1⟩
theorem lentC_of {C : Ctx} {ι : Nat → Nat × Nat} {a : Act} {w : World} {σ' : St} (hr : Rel n C ι σ' a w) (ks : List Nat) (S : Nat → Option (Option Box)) (hS : ∀ k, k ∈ ks → σ'.stat k = S k) {c : CV} {u : Value} (hl : lendC S ks c = true) (h : c.rel σ'.stat ι u) : LentC S (fun i => w.heap[i]?) c u := by
  cases c with
  | val v => exact h
  | slc k off len sz =>
    simp only [lendC, Bool.and_eq_true] at hl
    have hk : k ∈ ks := by simpa using hl.1
    cases hs : S k with
    | none => rw [hs] at hl; exact absurd hl.2 (by simp)
    | some x =>
      cases x with
      | none => rw [hs] at hl; exact absurd hl.2 (by simp)
      | some b =>
        have hst : σ'.stat k = some (some b) := by rw [hS k hk, hs]
        simp only [CV.rel, hst] at h
        obtain ⟨cap, rfl, h3, h4⟩ := h
        exact ⟨b, _, cap, _, hs, rfl, h3, h4, lentBox_of hr hst⟩
  | ptr _ _ => cases hl
  | mp _ => cases hl
  | fn _ _ _ => cases hl
  | junk => cases hl
theorem lentCs_of {C : Ctx} {ι : Nat → Nat × Nat} {a : Act} {w : World} {σ' : St} (hr : Rel n C ι σ' a w) (ks : List Nat) (S : Nat → Option (Option Box)) (hS : ∀ k, k ∈ ks → σ'.stat k = S k) : ∀ {cs : List CV} {us : List Value}, cs.all (lendC S ks) = true → CVs.rel σ'.stat ι cs us → LentCs S (fun i => w.heap[i]?) cs us
  | [], [], _, _ => rfl
  | [], _ :: _, _, h => h.elim
  | _ :: _, [], _, h => h.elim
  | c :: l, u :: us, hl, h => by
    simp only [List.all_cons, Bool.and_eq_true] at hl
    exact ⟨u, us, rfl, lentC_of hr ks S hS hl.1 h.1, lentCs_of hr ks S hS hl.2 h.2⟩
theorem lentLs_of {C : Ctx} {ι : Nat → Nat × Nat} {a : Act} {w : World} {σ' : St} (hr : Rel n C ι σ' a w) (ks : List Nat) (S : Nat → Option (Option Box)) (hS : ∀ k, k ∈ ks → σ'.stat k = S k) : ∀ {lvs : List LV} {us : List Value}, lvs.all (lendL S ks) = true → LVs.rel σ'.stat ι lvs us → LentLs S (fun i => w.heap[i]?) lvs us
  | [], [], _, _ => rfl
  | [], _ :: _, _, h => h.elim
  | _ :: _, [], _, h => h.elim
  | lv :: l, u :: us, hl, h => by
    simp only [List.all_cons, Bool.and_eq_true] at hl
    refine ⟨u, us, rfl, ?_, lentLs_of hr ks S hS hl.2 h.2⟩
    have h1 := h.1
    have h2 := hl.1
    match lv with
    | .sv (.one c) => exact lentC_of hr ks S hS h2 h1
    | .sv (.agg cs) =>
      obtain ⟨arr, rfl, hl'⟩ := h1
      exact ⟨arr.toList, by simp, lentCs_of hr ks S hS h2 hl'⟩
    | .tup _ => cases h2
theorem LOK.callL {d : Nat} {f : FuncId} {args : List Operand} {tys : Array TypeId} {ty : TypeId} {pos : String} {after_ : Array Edge} {g : Option (Nat × Bool)} {lvs : List LV} {r : LV} (ks : List Nat) (hargs : evs σ args = some lvs) (hl : lvs.all (lendL σ.stat ks) = true) (hent : Program.enters P f = true)
    (hs : ∀ (Y : Nat → Option Obj) (us : List Value), (∀ b o, σ.X b = some o → Y b = some o) → LentLs σ.stat Y lvs us → PSpec P Y f (us.map toLV) r) :
    LOK P n ops ⟨some d, .call ⟨.value (.func f), args.toArray, tys⟩, ty, pos, after_, g⟩ σ ⟨[(d, r)], ks, []⟩ := by
  refine ⟨fun σ' ha C ι a w hr hd next Q hn => ?_⟩
  have hargs' : evs σ' args = some lvs := by
    rw [evs_agree fun x hx => ha.ev (by simp [Op.operands, Call.operands, hx])]
    exact hargs
  have hrel := evs_rel hr hargs'
  have hlent := lentLs_of hr ks σ.stat (fun k hk => ha.stat k (.inl hk)) hl hrel
  have hc := (hs (fun b => w.heap[b]?) _ (fun b o hb => hr.ext b o (by rw [ha.X]; exact hb)) hlent).out w (args.toArray.map a.eval) (fun b o hb => hb) (by rw [Array.toList_map, List.toList_toArray]; exact args_rel _)
  unfold Oper.wp
  have hrun : (execOp a.eval ⟨some d, .call ⟨.value (.func f), args.toArray, tys⟩, ty, pos, after_, g⟩).run P w = .ok (.enter f (args.toArray.map a.eval)) w := by
    simp only [execOp, resolve, Act.eval, Deferred.ofValue, invoke, Sem.run_bind, Sem.run_pure, Result.andThen_ok]
    simp [run_enter hent]
  rw [hrun]
  refine hc.mono ?_
  rintro e w' ⟨v, rfl, hv, hb⟩
  exact hn ι _ w' ((hr.below hb).put (hd d rfl) (LV.rel_later (later_noS _ _ _) hv))
theorem K.callL {d : Nat} {f : FuncId} {args : List Operand} {tys : Array TypeId} {ty : TypeId} {pos : String} {after_ : Array Edge} {g : Option (Nat × Bool)} {lvs : List LV} {r : LV} (ks : List Nat) (hargs : evs ⟨s, bx, X⟩ args = some lvs) (hl : lvs.all (lendL (fun k => look k bx) ks) = true) (hent : Program.enters P f = true)
    (hs : ∀ (Y : Nat → Option Obj) (us : List Value), (∀ b o, X b = some o → Y b = some o) → LentLs (fun k => look k bx) Y lvs us → PSpec P Y f (us.map toLV) r) (hw : Want ops s g)
    (kont : RunK P n ops os ⟨(d, r) :: s, bx, X⟩ (⟨[(d, r)], ks, []⟩ :: acc) K) :
    RunK P n ops (⟨some d, .call ⟨.value (.func f), args.toArray, tys⟩, ty, pos, after_, g⟩ :: os) ⟨s, bx, X⟩ acc K := RunK.gen hw (LOK.callL ks hargs hl hent hs) kont
end
end Go.Lg
end
section
namespace Go.Lg
open Go Go.RowKit
def blkZ : Value → Option Nat
  | .slice (some a) (_ + 1) _ => some a.block
  | _ => none
def SliceZ (H : Nat → Option Obj) (v : Value) (el : TypeId) (sz : Nat) (vals : List Value) : Prop := (vals = [] ∧ ∃ ad cap, v = .slice ad 0 cap) ∨ ∃ b, LeadsTo H b v el sz vals ∧ vals ≠ []
structure Twigs (H : Nat → Option Obj) (el : TypeId) (sz : Nat) (op : List Nat) (cells : List Value) (chs : List (List Value)) : Prop where
  len : cells.length = chs.length
  at_ : ∀ (i : Nat) (c : Value) (x : List Value), i ∉ op → cells[i]? = some c → chs[i]? = some x → SliceZ H c el sz x
  apart : ∀ (i j : Nat) (c c' : Value) (b : Nat), i ∉ op → j ∉ op → cells[i]? = some c → cells[j]? = some c' → blkZ c = some b → blkZ c' = some b → i = j
section
variable {H : Nat → Option Obj} {el : TypeId} {sz : Nat} {op : List Nat} {cells : List Value} {chs : List (List Value)}
end
end Go.Lg
end
section
namespace Go.Lg
open Go Go.RowKit
section
variable {P : Program} {n : Nat} {ops os : List Oper} {acc : List Eff} {K : List Eff → St → Prop} {s : List (Nat × LV)} {bx : List (Nat × Option Box)} {X : Nat → Option Obj} {σ : St}
theorem LOK.cutLoX {d b off len cap sz l : Nat} {t : TypeId} {x y : Operand} {ty : TypeId} {pos : String} {after_ : Array Edge} {g : Option (Nat × Bool)} {kh : IntKind} (hx : σ.ev x = some (.sv (.one (.val (.slice (some ⟨b, off, none⟩) len cap))))) (hy : σ.ev y = some (.sv (.one (.val (.int kh (l : Nat))))))
    (ht : sliceOf P t = some sz) (hl : l ≤ len) : LOK P n ops ⟨some d, .slice t x (some y) none none, ty, pos, after_, g⟩ σ ⟨[(d, .sv (.one (.val (.slice (some ⟨b, if cap = l then off else off + l * sz, none⟩) (len - l) (cap - l)))))], [], []⟩ :=
  LOK.value fun σ' ha C ι a w hr => by
    have h1 : a.eval x = _ := hr.ev ((ha.ev (x := x) (by simp [Op.operands])).trans hx)
    have h2 : a.eval y = .int kh (l : Nat) := hr.ev ((ha.ev (x := y) (by simp [Op.operands])).trans hy)
    obtain ⟨e, hu, hsz⟩ := sliceOf_spec ht
    have hrun : (Instr.sliceAt t (.slice (some ⟨b, off, none⟩) len cap) (some (.int kh (l : Nat))) none none).run P w = .ok (.slice (some ⟨b, if cap = l then off else off + l * sz, none⟩) (len - l) (cap - l)) w := by
      have ha0 : (⟨b, off, none⟩ : Addr).add (l * sz) = ⟨b, off + l * sz, none⟩ := addr_add _ _ _
      simp [Instr.sliceAt, Instr.slice, run_underlying hu, Instr.sliceBounds, Instr.sliceBound, asIntOf, hsz, ha0]
      rw [if_pos hl]
      by_cases e : cap = l
      · simp [e]
      · simp [e]
    exact ⟨_, by simp only [execOp, h1, h2, Option.map_none, Option.map_some, Sem.run_bind, hrun, Result.andThen_ok, Sem.run_pure], rfl⟩
theorem K.cutLoX {d b off len cap sz l off' len' cap' : Nat} {t : TypeId} {x y : Operand} {ty : TypeId} {pos : String} {after_ : Array Edge} {g : Option (Nat × Bool)} {kh : IntKind} (hx : (⟨s, bx, X⟩ : St).ev x = some (.sv (.one (.val (.slice (some ⟨b, off, none⟩) len cap))))) (hy : (⟨s, bx, X⟩ : St).ev y = some (.sv (.one (.val (.int kh (l : Nat))))))
    (ht : sliceOf P t = some sz) (hl : l ≤ len) (ho : (if cap = l then off else off + l * sz) = off') (hn : len - l = len') (hc : cap - l = cap') (hw : Want ops s g) (kont : RunK P n ops os ⟨(d, .sv (.one (.val (.slice (some ⟨b, off', none⟩) len' cap')))) :: s, bx, X⟩ (⟨[(d, .sv (.one (.val (.slice (some ⟨b, off', none⟩) len' cap'))))], [], []⟩ :: acc) K) :
    RunK P n ops (⟨some d, .slice t x (some y) none none, ty, pos, after_, g⟩ :: os) ⟨s, bx, X⟩ acc K := by
  subst ho hn hc
  exact RunK.g1 (LOK.cutLoX hx hy ht hl) hw kont
end
end Go.Lg
end
section
namespace Go.Lg
open Go Go.RowKit
section
variable {n : Nat} {C : Ctx} {σ : St} {ι : Nat → Nat × Nat} {a : Act} {w : World}
end
structure KL (P : Program) (k : TypeId) : Prop where
  check : ∀ (w : World) (em : Bool) {v : Value} {l : Lit}, Go.keyOf P k v = some l → (Instr.checkKey em 10000 k v).run P w = .ok () w
  find : ∀ (w : World) {x : Value} {lx : Lit}, Go.keyOf P k x = some lx → ∀ es : List MapEntry, (∀ e ∈ es, ∃ l, Go.keyOf P k e.key = some l) →
    ((Instr.findKey k x es).run P w = .ok none w ∧ ∀ e ∈ es, e.key ≠ x) ∨ ∃ j e, (Instr.findKey k x es).run P w = .ok (some (j, e.val)) w ∧ es[j]? = some e ∧ e.key = x
  stays : ∀ (w : World) {v : Value} {l : Lit}, Go.keyOf P k v = some l → (Instr.keyThatStays v v).run P w = .ok v w
theorem int_of_keyOf {P : Program} {k : TypeId} {q : IntKind} (hk : P.underlying k = some (.int q)) {v : Value} {l : Lit} (h : Go.keyOf P k v = some l) : ∃ n, v = .int q n := by
  rw [keyOf_int hk] at h
  unfold mapKey at h
  cases v <;> simp [hk] at h
  rename_i q' n
  exact ⟨n, by rw [h.1.1]⟩
open Go.MapKept Go.WideShapes Go.WideMaps in
theorem KL.int {P : Program} {k : TypeId} {q : IntKind} (hk : P.underlying k = some (.int q)) : KL P k where
  check w em _ _ h := by
    obtain ⟨n, rfl⟩ := int_of_keyOf hk h
    exact run_checkKey hk (d := .int q) (k := .int q n) rfl em 9999
  find w _ _ hx es hes := by
    obtain ⟨n, rfl⟩ := int_of_keyOf hk hx
    have hks : ∀ x ∈ es, IsKey (.int q) x.key := fun x hxm => by
      obtain ⟨l, hl⟩ := hes x hxm
      obtain ⟨n', e⟩ := int_of_keyOf hk hl
      rw [e]
      exact rfl
    rcases findNow_spec (d := .int q) (k := .int q n) rfl es 0 hks with ⟨h1, h2⟩ | ⟨j, e0, h1, h2, h3⟩
    · exact Or.inl ⟨run_findKey hk h1, h2⟩
    · exact Or.inr ⟨j, e0, by simpa using run_findKey hk h1, h2, h3⟩
  stays w _ _ h := by
    obtain ⟨n, rfl⟩ := int_of_keyOf hk h
    exact run_keyThatStays (d := .int q) (k := .int q n) rfl
def At (m : List (Value × Value)) (key v z : Value) : Prop := (key, v) ∈ m ∨ ((∀ p ∈ m, p.1 ≠ key) ∧ v = z)
section
variable {P : Program} {n : Nat} {ops os : List Oper} {acc : List Eff} {K : List Eff → St → Prop} {s : List (Nat × LV)} {bx : List (Nat × Option Box)} {X : Nat → Option Obj} {σ : St}
end
end Go.Lg
end
section
namespace Go.Lg
open Go Go.RowKit
section
variable {P : Program} {n : Nat} {C : Ctx} {c : Code} {Q : Exit → St → Prop} {X : Nat → Option Obj}
theorem Rel.freezePtr {ι : Nat → Nat × Nat} {a : Act} {w : World} {s : List (Nat × LV)} {bx : List (Nat × Option Box)} {d k off : Nat} {el : TypeId} {vals : List Value} {row : Bool}
    (hs : s.all (fun p => p.2.inUse bx) = true) (hb : bx.all (fun p => match p.2 with | some b => b.cells.all (CV.inUse bx) | none => true) = true) (hk : look k bx = none)
    (hr : Rel n C ι ⟨(d, .sv (.one (.ptr k off))) :: s, (k, some ⟨el, vals.map .val, row⟩) :: bx, X⟩ a w) :
    ∃ (blk : Nat) (arr : Array Value) (fr : Nat × Nat), X blk = none ∧ Frozen C blk arr fr ∧ (∃ sp, arr.toList = vals ++ sp) ∧
      Rel n C ι ⟨(d, .sv (.one (.val (.pointer (some ⟨blk, off, none⟩))))) :: s, bx, withBlock X blk (.cells arr el fr)⟩ a w := by
  have hst : (⟨(d, .sv (.one (.ptr k off))) :: s, (k, some ⟨el, vals.map .val, row⟩) :: bx, X⟩ : St).stat k = some (some ⟨el, vals.map .val, row⟩) := by
    simp [St.stat, look]
  have hlk : ∀ k' x, look k' bx = some x → k' ≠ k := fun k' x h' e => by rw [e, hk] at h'; cases h'
  have hstb : ∀ k' x, look k' bx = some x → (⟨(d, .sv (.one (.ptr k off))) :: s, (k, some ⟨el, vals.map .val, row⟩) :: bx, X⟩ : St).stat k' = some x := fun k' x h' => by
    simp only [St.stat, look]
    cases e : Nat.beq k k' with
    | true => exact absurd (Nat.eq_of_beq_eq_true e).symm (hlk k' x h')
    | false => exact h'
  obtain ⟨arr, fr, harr, hth, hsz, hbr⟩ := hr.boxes k _ hst rfl
  obtain ⟨v, hv, hvr⟩ := hr.slots d (.sv (.one (.ptr k off))) (by simp [St.slot, look])
  simp only [LV.rel, SV.rel, CV.rel] at hvr
  rw [hst] at hvr
  subst hvr
  have hXn : X (ι k).1 = none := (hr.own k _ hst).2
  have hsp : ∃ sp, arr.toList = vals ++ sp := by
    unfold Box.rel at hbr
    cases hrow : row with
    | false =>
      rw [hrow] at hbr
      exact ⟨[], by rw [List.append_nil]; exact rel_vals hbr⟩
    | true =>
      rw [hrow] at hbr
      obtain ⟨us, sp, e, hl⟩ := hbr
      exact ⟨sp, by rw [e, rel_vals hl]⟩
  refine ⟨(ι k).1, arr, fr, hXn, ⟨(hr.own k _ hst).1, hth⟩, hsp, ?_⟩
  have hon : SameOn bx (⟨(d, .sv (.one (.ptr k off))) :: s, (k, some ⟨el, vals.map .val, row⟩) :: bx, X⟩ : St).stat (fun k => look k bx) := fun k' x h' => (hstb k' x h').trans h'.symm
  exact {
    defers := hr.defers, size := hr.size
    slots := fun d' lv hd => by
      simp only [St.slot, look] at hd
      cases e : Nat.beq d d' with
      | true =>
        rw [e] at hd
        simp at hd
        subst hd
        have := Nat.eq_of_beq_eq_true e
        subst this
        exact ⟨_, hv, rfl⟩
      | false =>
        rw [e] at hd
        have hd : look d' s = some lv := by simpa using hd
        obtain ⟨v', hv', hr'⟩ := hr.slots d' lv (by simp only [St.slot, look, e]; exact hd)
        exact ⟨v', hv', LV.rel_on hon (List.all_eq_true.1 hs _ (look_mem hd)) hr'⟩
    res := by
      obtain ⟨F, hF⟩ := hr.res
      refine hF.keep (fun j e cs R hj => ⟨hstb j _ hj, rfl⟩) (fun _ _ _ _ _ hj => hj) (fun _ _ ho => ho) (fun b _ hx hne _ => ?_) (fun j bj hj => .inl ⟨bj, hstb j _ hj, rfl⟩)
      show withBlock X (ι k).1 _ b = none
      unfold withBlock
      rw [if_neg (fun e => hne k _ hst rfl e.symm)]
      exact hx
    boxes := fun k' b hb' hbk => by
      have hb' : look k' bx = some (some b) := hb'
      obtain ⟨arr', fr', h1, h2, h3, h4⟩ := hr.boxes k' b (hstb k' _ hb') hbk
      exact ⟨arr', fr', h1, h2, h3, Box.rel_on hon (by simpa using List.all_eq_true.1 hb _ (look_mem hb')) h4⟩
    own := fun k' b hb' => by
      have hb' : look k' bx = some (some b) := hb'
      obtain ⟨h1, h2⟩ := hr.own k' b (hstb k' _ hb')
      refine ⟨h1, ?_⟩
      show withBlock X (ι k).1 _ (ι k').1 = none
      unfold withBlock
      rw [if_neg (fun e => hlk k' _ hb' (hr.inj k' k b _ (hstb k' _ hb') hst e))]
      exact h2
    inj := fun k1 k2 b1 b2 h1 h2 he => hr.inj k1 k2 b1 b2 (hstb k1 _ h1) (hstb k2 _ h2) he
    keep := fun k' b hb' hge => hr.keep k' b (hstb k' _ hb') hge
    ext := fun b o hbo => by
      have hbo : withBlock X (ι k).1 (.cells arr el fr) b = some o := hbo
      unfold withBlock at hbo
      by_cases e : b = (ι k).1
      · rw [if_pos e] at hbo
        rw [e, harr]; exact hbo
      · rw [if_neg e] at hbo
        exact hr.ext b o hbo
    frame := hr.frame, big := hr.big, os := hr.os, tape := hr.tape, output := hr.output }
theorem LWP.freezePtr {s : List (Nat × LV)} {bx : List (Nat × Option Box)} {d k off : Nat} {el : TypeId} {vals : List Value} {row : Bool}
    (hs : s.all (fun p => p.2.inUse bx) = true) (hb : bx.all (fun p => match p.2 with | some b => b.cells.all (CV.inUse bx) | none => true) = true) (hk : look k bx = none)
    (h : ∀ (blk : Nat) (arr : Array Value) (fr : Nat × Nat), X blk = none → Frozen C blk arr fr → (∃ sp, arr.toList = vals ++ sp) →
      LWP P n C c Q ⟨(d, .sv (.one (.val (.pointer (some ⟨blk, off, none⟩))))) :: s, bx, withBlock X blk (.cells arr el fr)⟩) :
    LWP P n C c Q ⟨(d, .sv (.one (.ptr k off))) :: s, (k, some ⟨el, vals.map .val, row⟩) :: bx, X⟩ := by
  refine ⟨fun ι a w hr => ?_⟩
  obtain ⟨blk, arr, fr, h1, h2, h5, h6⟩ := hr.freezePtr hs hb hk
  exact (h blk arr fr h1 h2 h5).out ι a w h6
end
section
variable {P : Program} {n : Nat} {ops os : List Oper} {acc : List Eff} {K : List Eff → St → Prop} {s : List (Nat × LV)} {bx : List (Nat × Option Box)} {X : Nat → Option Obj} {σ : St}
theorem LOK.makeFunc {d : Nat} {fn : Fn} {caps : List Operand} {us : List Value} {lvs : List LV} {ty : TypeId} {pos : String} {after_ : Array Edge} {g : Option (Nat × Bool)} (hc : evs σ caps = some lvs) (hu : plainLVs lvs = some us) :
    LOK P n ops ⟨some d, .makeFunc fn #[] caps.toArray, ty, pos, after_, g⟩ σ ⟨[(d, .sv (.one (.val (.func fn #[] us.toArray))))], [], []⟩ :=
  LOK.value fun σ' ha C ι a w hr => by
    have hc' : evs σ' caps = some lvs := by
      rw [evs_agree fun x hx => ha.ev (by simp [Op.operands, hx])]
      exact hc
    have e : caps.map a.eval = us := plainLVs_rel hu (evs_rel hr hc')
    exact ⟨.func fn #[] us.toArray, by rw [← e]; simp [execOp, Instr.makeFunc], rfl⟩
theorem K.makeFunc {d : Nat} {fn : Fn} {caps : List Operand} {us : List Value} {lvs : List LV} {ty : TypeId} {pos : String} {after_ : Array Edge} {g : Option (Nat × Bool)} (hc : evs ⟨s, bx, X⟩ caps = some lvs) (hu : plainLVs lvs = some us) (hw : Want ops s g)
    (kont : RunK P n ops os ⟨(d, .sv (.one (.val (.func fn #[] us.toArray)))) :: s, bx, X⟩ (⟨[(d, .sv (.one (.val (.func fn #[] us.toArray))))], [], []⟩ :: acc) K) :
    RunK P n ops (⟨some d, .makeFunc fn #[] caps.toArray, ty, pos, after_, g⟩ :: os) ⟨s, bx, X⟩ acc K := RunK.g1 (LOK.makeFunc hc hu) hw kont
theorem LOK.callF {d : Nat} {x : Operand} {f : FuncId} {caps : List Value} {args : List Operand} {tys : Array TypeId} {ty : TypeId} {pos : String} {after_ : Array Edge} {g : Option (Nat × Bool)} {lvs : List LV} {r : LV} (hx : σ.ev x = some (.sv (.one (.val (.func (.func f) #[] caps.toArray))))) (hargs : evs σ args = some lvs) (hcl : lvs.all LV.closed = true) (hs : PSpec P σ.X f (lvs ++ caps.map fun v => .sv (.one (.val v))) r) :
    LOK P n ops ⟨some d, .call ⟨.value x, args.toArray, tys⟩, ty, pos, after_, g⟩ σ ⟨[(d, r)], [], []⟩ := by
  refine ⟨fun σ' ha C ι a w hr hd next Q hn => ?_⟩
  have hargs' : evs σ' args = some lvs := by
    rw [evs_agree fun y hy => ha.ev (by simp [Op.operands, Call.operands, hy])]
    exact hargs
  have hv : a.eval x = .func (.func f) #[] caps.toArray := hr.ev ((ha.ev (x := x) (by simp [Op.operands, Call.operands])).trans hx)
  have hrel := LVs.rel_closed (S' := noS) (ι' := fun _ => (0, 0)) hcl (evs_rel hr hargs')
  have happ : ∀ {l : List LV} {us : List Value}, LVs.rel noS (fun _ => (0, 0)) l us → LVs.rel noS (fun _ => (0, 0)) (l ++ caps.map fun v => .sv (.one (.val v))) (us ++ caps) := fun {l} => by
    induction l with
    | nil =>
      intro us h
      cases us with
      | cons => exact h.elim
      | nil =>
        simp only [List.nil_append]
        have key : ∀ cs : List Value, LVs.rel noS (fun _ => (0, 0)) (cs.map fun v => LV.sv (.one (.val v))) cs := fun cs => by
          induction cs with
          | nil => trivial
          | cons c cs ih => exact ⟨rfl, ih⟩
        exact key caps
    | cons a l ih =>
      intro us h
      cases us with
      | nil => exact h.elim
      | cons u us => exact ⟨h.1, ih h.2⟩
  have hc := hs.out w (args.toArray.map a.eval ++ caps.toArray) (fun b o hb => hr.ext b o (by rw [ha.X]; exact hb)) (by simpa using happ hrel)
  unfold Oper.wp
  have hrun : (execOp a.eval ⟨some d, .call ⟨.value x, args.toArray, tys⟩, ty, pos, after_, g⟩).run P w = .ok (.enter f (args.toArray.map a.eval ++ caps.toArray)) w := by
    simp only [execOp, resolve, hv, Deferred.ofValue, invoke, Sem.run_bind, Sem.run_pure, Result.andThen_ok]
    simp [run_enter hs.enters]
  rw [hrun]
  refine hc.mono ?_
  rintro e w' ⟨v, rfl, hv, hb⟩
  exact hn ι _ w' ((hr.below hb).put (hd d rfl) (LV.rel_later (later_noS _ _ _) hv))
theorem K.callF {d : Nat} {x : Operand} {f : FuncId} {caps : List Value} {args : List Operand} {tys : Array TypeId} {ty : TypeId} {pos : String} {after_ : Array Edge} {g : Option (Nat × Bool)} {lvs : List LV} {r : LV} (hx : (⟨s, bx, X⟩ : St).ev x = some (.sv (.one (.val (.func (.func f) #[] caps.toArray))))) (hargs : evs ⟨s, bx, X⟩ args = some lvs) (hcl : lvs.all LV.closed = true) (hs : PSpec P X f (lvs ++ caps.map fun v => .sv (.one (.val v))) r) (hw : Want ops s g)
    (kont : RunK P n ops os ⟨(d, r) :: s, bx, X⟩ (⟨[(d, r)], [], []⟩ :: acc) K) :
    RunK P n ops (⟨some d, .call ⟨.value x, args.toArray, tys⟩, ty, pos, after_, g⟩ :: os) ⟨s, bx, X⟩ acc K := RunK.g1 (LOK.callF hx hargs hcl hs) hw kont
end
end Go.Lg
end
section
namespace Go.Lg.Fld
open Go Go.Lg
def NamesC (cs : List Cp) : Prop := ∀ c ∈ cs, c.fs.length < 4611686018427387904 ∧ c.nm.length ≤ 9223372036854775807 ∧ ∀ f ∈ c.fs, f.nm.length ≤ 9223372036854775807
end Go.Lg.Fld
namespace Go.Proofs.YtamplgnbbanamaaGreatDoor
open Go Go.Lg Go.Lg.Fld
set_option maxRecDepth 100000
variable (X : Nat → Option Obj)
end Go.Proofs.YtamplgnbbanamaaGreatDoor
end
section
namespace Go.Lg.Fld
open Go Go.Lg
end Go.Lg.Fld
namespace Go.Proofs.YtamplgnbbanamaaGreatDoor
open Go Go.Lg Go.Lg.Fld
set_option maxRecDepth 100000
abbrev Lf (f : FuncId) (caps : List Value) : LV := .sv (.one (.val (.func (.func f) #[] caps.toArray)))
variable (X : Nat → Option Obj)
section
variable (ver : Int) (ad : Option Addr) (cap : Nat) (cs : List Cp) (f : FuncId) (caps : List Value) (p : Cp → Bool)
end
theorem at_zero {arr : Array Value} {v : Value} (h : ∃ sp, arr.toList = [v] ++ sp) : arr[0]? = some v := by
  obtain ⟨sp, h⟩ := h
  rw [← Array.getElem?_toList, h]; rfl
end Go.Proofs.YtamplgnbbanamaaGreatDoor
end
section
namespace Go.Lg.Fld
open Go Go.Lg
theorem joinM_has {C : Ctx} {Y H : Nat → Option Obj} (hO : OwnedM C Y H) {b : Nat} {o : Obj} (h : Y b = some o) : joinM Y H b = some o := by
  cases hb : H b with
  | none => rw [joinM_out hb]; exact h
  | some o' => have := (hO.own b o' hb).2.2; rw [this] at h; cases h
end Go.Lg.Fld
namespace Go.Proofs.YtamplgnbbanamaaGreatDoor
open Go Go.Lg Go.Lg.Fld
set_option maxRecDepth 100000
section
variable {n : Nat} {C : Ctx} {X : Nat → Option Obj} {s : List (Nat × LV)} {bx : List (Nat × Option Box)} {k : Nat}
end
variable (X : Nat → Option Obj)
end Go.Proofs.YtamplgnbbanamaaGreatDoor
end
section
namespace Go.Proofs.YtamplgnbbanamaaGreatDoor
open Go Go.Lg Go.Lg.Fld
set_option maxRecDepth 100000
theorem rows_in {Y : Nat → Option Obj} {blk : Nat} {arr : Array Value} {el : TypeId} {fr : Nat × Nat} {sz : Nat} {rows : List (List Value)} (hY : Y blk = some (.cells arr el fr)) (hl : ∀ r ∈ rows, r.length = sz) (hsp : ∃ sp, arr.toList = rows.flatten ++ sp) : Go.Lg.RowsIn Y (some ⟨blk, 0, none⟩) sz rows := fun i r hi => by
  obtain ⟨sp, e⟩ := hsp
  obtain ⟨h1, h2⟩ := flat_row hl (sp := sp) hi
  refine ⟨blk, 0, arr, el, fr, rfl, hY, ?_, ?_⟩
  · rw [← Array.length_toList, e]; omega
  · rw [e, Nat.zero_add]; exact h2
variable (X : Nat → Option Obj)
end Go.Proofs.YtamplgnbbanamaaGreatDoor
end
section
namespace Go.Lg.Fld
open Go Go.Lg
end Go.Lg.Fld
namespace Go.Proofs.YtamplgnbbanamaaGreatDoor
open Go Go.Lg Go.Lg.Fld
set_option maxRecDepth 100000
variable (X : Nat → Option Obj)
def cs0 : List Cp := [⟨1, [112, 111, 115], [⟨[120], 3, 1⟩, ⟨[121], 3, 1⟩]⟩, ⟨3, [116, 97, 103], []⟩]
end Go.Proofs.YtamplgnbbanamaaGreatDoor
end
section
namespace Go.Lg.Fld
open Go Go.Lg
def Scan {α : Type} (p : α → Bool) (l : List α) (k : Nat) (v : Int) : Prop := (v = -1 ∧ ∀ (m : Nat) (y : α), k ≤ m → l[m]? = some y → p y = false) ∨ ∃ (i : Nat) (c : α), v = (i : Nat) ∧ l[i]? = some c ∧ p c = true ∧ ∀ (m : Nat) (y : α), k ≤ m → m < i → l[m]? = some y → p y = false
end Go.Lg.Fld
namespace Go.Proofs.YtamplgnbbanamaaGreatDoor
open Go Go.Lg Go.Lg.Fld
set_option maxRecDepth 100000
variable (X : Nat → Option Obj)
end Go.Proofs.YtamplgnbbanamaaGreatDoor
end
section
namespace Go.Lg.Fld
open Go Go.Lg
structure Good (cs : List Cp) : Prop where
  one : ∀ (i : Nat) (c : Cp), cs[i]? = some c → 1 ≤ c.id ∧ c.id ≤ 24 ∧ nmB c.nm = true ∧ firstE (fldE c.fs) 0 c.fs.length = 0 ∧ layErr c.fs = 0
  two : ∀ (i j : Nat) (c d : Cp), i < j → cs[i]? = some c → cs[j]? = some d → c.id < d.id ∧ c.nm ≠ d.nm
end Go.Lg.Fld
end
section
namespace Go.Lg.Fld
open Go Go.Lg
structure Ch where
  kind : Int
  comp : Int
  fld : List UInt8
instance : DecidableEq Ch := fun a b => decidable_of_iff (a.kind = b.kind ∧ a.comp = b.comp ∧ a.fld = b.fld) ⟨fun ⟨h1, h2, h3⟩ => by cases a; cases b; simp_all, fun h => by rw [h]; exact ⟨rfl, rfl, rfl⟩⟩
def fldAt (fs : List Fl) (nm : List UInt8) : Option Fl := fs.find? fun f => f.nm == nm
def fldIx (fs : List Fl) (nm : List UInt8) : Int := findI (fun f => f.nm == nm) fs
theorem fldIx_some {fs : List Fl} {nm : List UInt8} (h : 0 ≤ fldIx fs nm) : ∃ (k : Nat) (g : Fl), fs[k]? = some g ∧ g.nm = nm ∧ fldIx fs nm = (k : Nat) ∧ fldAt fs nm = some g ∧ ∀ (j : Nat) (y : Fl), j < k → fs[j]? = some y → y.nm ≠ nm := by
  unfold fldIx findI at h
  cases hf : fs.findIdx? (fun f => f.nm == nm) with
  | none => rw [hf] at h; simp only at h; omega
  | some k =>
    obtain ⟨hk, h1, h2⟩ := List.findIdx?_eq_some_iff_getElem.1 hf
    refine ⟨k, fs[k], List.getElem?_eq_getElem hk, by simpa using h1, by unfold fldIx findI; rw [hf], ?_, fun j y hj hy => ?_⟩
    · unfold fldAt
      rw [List.find?_eq_some_iff_getElem]
      exact ⟨h1, k, hk, rfl, fun j hj => by simpa using h2 j hj⟩
    · obtain ⟨hj', e⟩ := List.getElem?_eq_some_iff.1 hy
      have := h2 j hj
      rw [e] at this
      simpa using this
end Go.Lg.Fld
end
section
namespace Go.Lg.Fld
open Go Go.Lg
def Apart (fs : List Fl) : Prop := fs.Pairwise fun f g => f.nm ≠ g.nm
end Go.Lg.Fld
end
section
namespace Go.Lg
open Go Go.RowKit
section
variable {P : Program} {n : Nat} {ops os : List Oper} {acc : List Eff} {K : List Eff → St → Prop} {s : List (Nat × LV)} {bx : List (Nat × Option Box)} {X : Nat → Option Obj} {σ : St}
end
section
variable {P : Program} {n : Nat} {C : Ctx} {c : Code} {Q : Exit → St → Prop} {X : Nat → Option Obj}
theorem Rel.fixRes {ι : Nat → Nat × Nat} {a : Act} {w : World} {s : List (Nat × LV)} {bx : List (Nat × Option Box)} {d k off len sz : Nat} {e : TypeId} {cs : List CV} {R : Rsc}
    (hs : s.all (fun p => p.2.inUse bx) = true) (hb : bx.all (fun p => match p.2 with | some b => b.cells.all (CV.inUse bx) | none => true) = true) (hk : look k bx = none)
    (hr : Rel n C ι ⟨(d, .sv (.one (.slc k off len sz))) :: s, (k, some ⟨e, cs, .res R⟩) :: bx, X⟩ a w) :
    ∃ (ρ : Nat × Nat) (H : Nat → Option Obj) (cap : Nat), R.holds ρ H ∧ OwnedM C X H ∧ len ≤ cap ∧ off + cap * sz ≤ ρ.2 ∧
      Rel n C ι ⟨(d, .sv (.one (.val (.slice (some ⟨ρ.1, off, none⟩) len cap)))) :: s, bx, joinM X H⟩ a w := by
  have hst : (⟨(d, .sv (.one (.slc k off len sz))) :: s, (k, some ⟨e, cs, .res R⟩) :: bx, X⟩ : St).stat k = some (some ⟨e, cs, .res R⟩) := by simp [St.stat, look]
  have hlk : ∀ k' x, look k' bx = some x → k' ≠ k := fun k' x h' e => by rw [e, hk] at h'; cases h'
  have hstb : ∀ k' x, look k' bx = some x → (⟨(d, .sv (.one (.slc k off len sz))) :: s, (k, some ⟨e, cs, .res R⟩) :: bx, X⟩ : St).stat k' = some x := fun k' x h' => by
    simp only [St.stat, look]
    cases e : Nat.beq k k' with
    | true => exact absurd (Nat.eq_of_beq_eq_true e).symm (hlk k' x h')
    | false => exact h'
  have hback : ∀ j x, j ≠ k → (⟨(d, .sv (.one (.slc k off len sz))) :: s, (k, some ⟨e, cs, .res R⟩) :: bx, X⟩ : St).stat j = some x → look j bx = some x := fun j x hj h' => by
    simp only [St.stat, look] at h'
    cases e : Nat.beq k j with
    | true => exact absurd (Nat.eq_of_beq_eq_true e).symm hj
    | false => rw [e] at h'; exact h'
  obtain ⟨F, hF⟩ := hr.res
  obtain ⟨hR, _⟩ := hF.holds k _ _ _ hst
  obtain ⟨v, hv, hvr⟩ := hr.slots d (.sv (.one (.slc k off len sz))) (by simp [St.slot, look])
  simp only [LV.rel, SV.rel, CV.rel] at hvr
  rw [hst] at hvr
  obtain ⟨cap, rfl, hcap, hfit⟩ := hvr
  refine ⟨ι k, F k, cap, hR, ⟨fun b o hb => let h := hF.mem k b o hb; ⟨h.2.2.2.1, h.2.2.1, h.2.2.2.2.1⟩⟩, hcap, hfit, ?_⟩
  have hon : SameOn bx (⟨(d, .sv (.one (.slc k off len sz))) :: s, (k, some ⟨e, cs, .res R⟩) :: bx, X⟩ : St).stat (fun k => look k bx) := fun k' x h' => (hstb k' x h').trans h'.symm
  have hnot : ∀ j b, look j bx = some (some b) → F k (ι j).1 = none := fun j b hj => by
    cases hc : F k (ι j).1 with
    | none => rfl
    | some o => exact absurd ((hF.mem k _ o hc).2.2.2.2.2 j b (hstb j _ hj) rfl) (hlk j _ hj)
  exact {
    defers := hr.defers, size := hr.size
    slots := fun d' lv hd => by
      simp only [St.slot, look] at hd
      cases e : Nat.beq d d' with
      | true =>
        rw [e] at hd
        simp at hd
        subst hd
        have := Nat.eq_of_beq_eq_true e
        subst this
        exact ⟨_, hv, rfl⟩
      | false =>
        rw [e] at hd
        have hd : look d' s = some lv := by simpa using hd
        obtain ⟨v', hv', hr'⟩ := hr.slots d' lv (by simp only [St.slot, look, e]; exact hd)
        exact ⟨v', hv', LV.rel_on hon (List.all_eq_true.1 hs _ (look_mem hd)) hr'⟩
    boxes := fun k' b hb' hbk => by
      have hb' : look k' bx = some (some b) := hb'
      obtain ⟨arr', fr', h1, h2, h3, h4⟩ := hr.boxes k' b (hstb k' _ hb') hbk
      exact ⟨arr', fr', h1, h2, h3, Box.rel_on hon (by simpa using List.all_eq_true.1 hb _ (look_mem hb')) h4⟩
    own := fun k' b hb' => by
      have hb' : look k' bx = some (some b) := hb'
      obtain ⟨h1, h2⟩ := hr.own k' b (hstb k' _ hb')
      exact ⟨h1, (joinM_out (hnot k' b hb')).trans h2⟩
    inj := fun k1 k2 b1 b2 h1 h2 he => hr.inj k1 k2 b1 b2 (hstb k1 _ h1) (hstb k2 _ h2) he
    keep := fun k' b hb' hge => hr.keep k' b (hstb k' _ hb') hge
    ext := fun b o hbo => by
      have hbo : joinM X (F k) b = some o := hbo
      cases hc : F k b with
      | none => rw [joinM_out hc] at hbo; exact hr.ext b o hbo
      | some o' =>
        rw [joinM_in hc] at hbo
        cases hbo
        exact (hF.mem k b o hc).2.1
    res := by
      refine ⟨fun j => open Classical in if j = k then fun _ => none else F j, fun j e' cs' R' hj => ?_, fun j b o ho => ?_, fun i j b h1 h2 => ?_⟩
      · have hj : look j bx = some (some ⟨e', cs', .res R'⟩) := hj
        rw [if_neg (hlk j _ hj)]
        exact hF.holds j e' cs' R' (hstb j _ hj)
      · by_cases ej : j = k
        · rw [if_pos ej] at ho; cases ho
        · rw [if_neg ej] at ho
          obtain ⟨⟨e1, cs1, R1, h1⟩, h2, h3, h4, h5, h6⟩ := hF.mem j b o ho
          refine ⟨⟨e1, cs1, R1, hback j _ ej h1⟩, h2, h3, h4, ?_, fun i bi hi ei => h6 i bi (hstb i _ hi) ei⟩
          have hc : F k b = none := by
            cases hc : F k b with
            | none => rfl
            | some o' => exact absurd (hF.apart j k b (by rw [ho]; simp) (by rw [hc]; simp)) ej
          exact (joinM_out hc).trans h5
      · by_cases ei : i = k
        · rw [if_pos ei] at h1; exact absurd rfl h1
        · by_cases ej : j = k
          · rw [if_pos ej] at h2; exact absurd rfl h2
          · rw [if_neg ei] at h1
            rw [if_neg ej] at h2
            exact hF.apart i j b h1 h2
    frame := hr.frame, big := hr.big, os := hr.os, tape := hr.tape, output := hr.output }
theorem LWP.fixRes {s : List (Nat × LV)} {bx : List (Nat × Option Box)} {d k off len sz : Nat} {e : TypeId} {cs : List CV} {R : Rsc}
    (hs : s.all (fun p => p.2.inUse bx) = true) (hb : bx.all (fun p => match p.2 with | some b => b.cells.all (CV.inUse bx) | none => true) = true) (hk : look k bx = none)
    (h : ∀ (ρ : Nat × Nat) (H : Nat → Option Obj) (cap : Nat), R.holds ρ H → OwnedM C X H → len ≤ cap → off + cap * sz ≤ ρ.2 → LWP P n C c Q ⟨(d, .sv (.one (.val (.slice (some ⟨ρ.1, off, none⟩) len cap)))) :: s, bx, joinM X H⟩) :
    LWP P n C c Q ⟨(d, .sv (.one (.slc k off len sz))) :: s, (k, some ⟨e, cs, .res R⟩) :: bx, X⟩ := by
  refine ⟨fun ι a w hr => ?_⟩
  obtain ⟨ρ, H, cap, h1, h2, h3, h4, h5⟩ := hr.fixRes hs hb hk
  exact (h ρ H cap h1 h2 h3 h4).out ι a w h5
end
theorem Le.loose {n : Nat} {C : Ctx} {s : List (Nat × LV)} {bx : List (Nat × Option Box)} {X : Nat → Option Obj} {j : Nat} {e : TypeId} {A : List CV} {r : Bool} : Le n C ⟨s, (j, some ⟨e, A, r⟩) :: bx, X⟩ ⟨s, (j, some ⟨e, A, true⟩) :: bx, X⟩ := by
  have h := Le.trim (n := n) (C := C) (s := s) (bx := bx) (X := X) (j := j) (e := e) (A := A) (B := []) (r := r)
  rw [List.append_nil] at h
  exact h
end Go.Lg
end
section
namespace Go.Lg.Fld
open Go Go.Lg
def Ch.vals (x : Ch) : List Value := [.int .i64 x.kind, .int .i64 x.comp, .string ⟨x.fld.toArray⟩]
end Go.Lg.Fld
namespace Go.Proofs.YtamplgnbbanamaaGreatDoor
open Go Go.Lg Go.Lg.Fld
set_option maxRecDepth 100000
variable (X : Nat → Option Obj)
end Go.Proofs.YtamplgnbbanamaaGreatDoor
end
section
namespace Go.Proofs.YtamplgnbbanamaaGreatDoor
open Go Go.Lg Go.Lg.Fml
abbrev Nm := Bool × Int
def gd (n : Nm) : Bool := formB n.1 n.2
def zz (n : Nm) : Int := zv n.1 n.2
def okI (x : Ins) : Bool := (decide (1 ≤ x.op) && decide (x.op ≤ 17)) && (gd x.k && ((decide (0 ≤ x.a) && decide (x.a ≤ 7)) && (decide (0 ≤ x.b) && decide (x.b ≤ 7))))
theorem okI_facts {x : Ins} (h : okI x = true) : (1 ≤ x.op ∧ x.op ≤ 17) ∧ gd x.k = true ∧ (0 ≤ x.a ∧ x.a ≤ 7) ∧ (0 ≤ x.b ∧ x.b ≤ 7) := by
  unfold okI at h
  simp only [Bool.and_eq_true, decide_eq_true_eq] at h
  exact ⟨h.1, h.2.1, h.2.2.1, h.2.2.2⟩
def chkX (l : List Ins) : Int := if 64 < l.length then 5 else if dep okI 0 l = some 1 then 0 else 4
theorem chkX_zero {l : List Ins} (h : chkX l = 0) : l.length ≤ 64 ∧ dep okI 0 l = some 1 := by
  unfold chkX at h
  split at h
  · cases h
  · split at h
    · rename_i h1 h2; exact ⟨by omega, h2⟩
    · cases h
theorem dep_ok {okJ : Ins → Bool} : ∀ {l : List Ins} {n m : Nat}, dep okJ n l = some m → ∀ x ∈ l, okJ x = true
  | [], _, _, _, x, hx => by cases hx
  | y :: l, n, m, h, x, hx => by
    simp only [dep] at h
    split at h
    · rename_i h1
      rcases List.mem_cons.1 hx with rfl | hx
      · exact h1.1
      · exact dep_ok h x hx
    · cases h
theorem chkX_ok {l : List Ins} (h : chkX l = 0) : ∀ x ∈ l, okI x = true := dep_ok (chkX_zero h).2
def truth (b : Bool) : Nm := (false, if b then 1 else 0)
def elemX (fs : List (List Nm)) (a b : Int) : Except Int Nm :=
  if a < 0 ∨ b < 0 then .error 3 else match fs[a.toNat]? with
    | none => .error 3
    | some r => match r[b.toNat]? with
      | none => .error 3
      | some v => .ok v
def leafX (fs : List (List Nm)) (at_ : Int) (x : Ins) : Except Int Nm :=
  if x.op = 1 then .ok x.k else if x.op = 4 then (if at_ < 0 then .error 3 else .ok (false, at_)) else elemX fs x.a (if x.op = 3 then at_ else x.b)
def arith (op x y : Int) : Int := if op = 5 then x + y else if op = 6 then x - y else if op = 7 then x * y else if op = 8 then x.tdiv y else x.tmod y
instance decR127 (z : Int) : Decidable (R127 z) := by unfold R127; exact inferInstance
def doX (op : Int) (x y : Nm) : Except Int Nm :=
  if (gd x && gd y) = false then .error 1 else if 7 < op ∧ zz y = 0 then .error 1 else if R127 (arith op (zz x) (zz y)) then .ok (qn (arith op (zz x) (zz y))) else .error 3
def nodeX (op : Int) : List Nm → Except Int Nm
  | [x] => if gd x = false then .error 1 else if op = 10 then .ok (qn (-(zz x))) else .ok (truth (decide (x = (false, 0))))
  | [x, y] => if 5 ≤ op ∧ op ≤ 9 then doX op x y
    else if op = 17 then (if gd y = false then .error 1 else if y = (false, 0) then .error 9 else .ok x)
    else if (gd x && gd y) = false then .error 1
    else if op = 11 then .ok (if zz y < zz x then y else x)
    else if op = 12 then .ok (if zz x < zz y then y else x)
    else if op = 13 then .ok (truth (decide (x = y)))
    else .ok (truth (decide (zz x < zz y)))
  | [x, y, z] => if gd x = false then .error 1 else .ok (if x = (false, 0) then z else y)
  | _ => .error 0
def oneX (fs : List (List Nm)) (at_ : Int) (x : Ins) (a : List Nm) : Except Int Nm := if takes x.op = 0 then leafX fs at_ x else nodeX x.op a
def dg1 (n : Int) : List UInt8 := Lib.itoa n
def wordX (op : Int) : List UInt8 :=
  if op = 5 then [97, 100, 100] else if op = 6 then [115, 117, 98] else if op = 7 then [109, 117, 108] else if op = 8 then [113, 117, 111] else if op = 9 then [114, 101, 109]
  else if op = 10 then [110, 101, 103] else if op = 11 then [108, 101, 97, 115, 116] else if op = 12 then [103, 114, 101, 97, 116] else if op = 13 then [115, 97, 109, 101]
  else if op = 14 then [108, 101, 115, 115] else if op = 15 then [110, 111, 116] else if op = 16 then [112, 105, 99, 107] else [110, 101, 101, 100]
def leafS (x : Ins) : List UInt8 :=
  if x.op = 1 then textQ (zz x.k) else if x.op = 2 then ([102] ++ dg1 x.a) ++ ([46] ++ dg1 x.b) else if x.op = 3 then ([102] ++ dg1 x.a) ++ [64] else [64]
def joinS : List (List UInt8) → List UInt8
  | [] => []
  | [a] => a
  | a :: b :: t => (a ++ [44]) ++ joinS (b :: t)
def oneS (x : Ins) (a : List (List UInt8)) : Except Int (List UInt8) := .ok (if takes x.op = 0 then leafS x else ((wordX x.op ++ [40]) ++ joinS a) ++ [41])
def showX (l : List Ins) : List UInt8 := if chkX l = 0 then (match run oneS l [] with | .ok [s] => s | _ => []) else []
def Tr.txt (t : Tr) : List UInt8 := match t.ev oneS with | .ok s => s | .error _ => []
theorem ev_txt : ∀ t : Tr, t.ev oneS = .ok (Tr.txt t)
  | .n0 x => rfl
  | .n1 x a => by unfold Tr.txt; simp only [Tr.ev, ev_txt a]; rfl
  | .n2 x a b => by unfold Tr.txt; simp only [Tr.ev, ev_txt a, ev_txt b]; rfl
  | .n3 x a b c => by unfold Tr.txt; simp only [Tr.ev, ev_txt a, ev_txt b, ev_txt c]; rfl
theorem showX_tree {l : List Ins} {t : Tr} (h : chkX l = 0) (ht : t.ok) (hl : t.flat = l) : showX l = Tr.txt t := by
  unfold showX
  rw [if_pos h, ← hl, ← List.append_nil t.flat, run_flat ht, ev_txt t]
  rfl
theorem doX_bad {op : Int} {x y : Nm} (h : (gd x && gd y) = false) : doX op x y = .error 1 := if_pos h
end Go.Proofs.YtamplgnbbanamaaGreatDoor
end
section
namespace Go.Proofs.YtamplgnbbanamaaGreatDoor
open Go Go.Lg Go.Lg.Fml Go.Lg.Fld
def o8 (n : Int) : UInt8 := UInt8.ofNat (n % 256).toNat
theorem o8_nat {n : Int} (h : 0 ≤ n ∧ n < 256) : ((o8 n).toNat : Int) = n := by
  unfold o8
  rw [UInt8.toNat_ofNat']
  omega
theorem o8_of (c : UInt8) : o8 (c.toNat : Nat) = c := by
  have h : c.toNat < 256 := c.toNat_lt
  apply UInt8.toNat_inj.1
  unfold o8
  rw [UInt8.toNat_ofNat']
  omega
def loW (n : Int) : Nat := (n % 18446744073709551616).toNat
def hiW (n : Int) : Nat := (n / 18446744073709551616).toNat
def sgB (b : Bool) : UInt8 := if b then 1 else 0
def encI (x : Ins) : List UInt8 := o8 x.op :: (if x.op = 1 then sgB x.k.1 :: (leB 8 (loW x.k.2) ++ leB 8 (hiW x.k.2)) else if x.op = 2 then [o8 x.a, o8 x.b] else if x.op = 3 then [o8 x.a] else [])
def encIs : List Ins → List UInt8
  | [] => []
  | x :: t => encI x ++ encIs t
theorem encIs_app : ∀ (a b : List Ins), encIs (a ++ b) = encIs a ++ encIs b
  | [], _ => rfl
  | x :: t, b => by simp only [List.cons_append, encIs, encIs_app t b, List.append_assoc]
def plainI (x : Ins) : Bool := (decide (x.op = 1) || decide (x.k = (false, 0))) && ((decide (x.op = 2) || decide (x.b = 0)) && (decide (x.op = 2) || (decide (x.op = 3) || decide (x.a = 0))))
def encX (l : List Ins) : List UInt8 := o8 (l.length : Nat) :: encIs l
def encErr (l : List Ins) : Int := if chkX l = 0 then (if l.all plainI = true then 0 else 1) else chkX l
def encTX (l : List Ins) : List UInt8 := if encErr l = 0 then encX l else []
def getI : List UInt8 → Option (Ins × List UInt8)
  | [] => none
  | o :: r => if o.toNat = 1 then (match r with
      | [] => none
      | s :: r => if s.toNat ≤ 1 ∧ 16 ≤ r.length then some (⟨1, 0, 0, (decide (s.toNat = 1), ((le (r.take 8) + 18446744073709551616 * le ((r.drop 8).take 8) : Nat) : Int))⟩, r.drop 16) else none)
    else if o.toNat = 2 then (match r with
      | a :: b :: r => some (⟨2, (a.toNat : Nat), (b.toNat : Nat), (false, 0)⟩, r)
      | _ => none)
    else if o.toNat = 3 then (match r with
      | a :: r => some (⟨3, (a.toNat : Nat), 0, (false, 0)⟩, r)
      | _ => none)
    else some (⟨(o.toNat : Nat), 0, 0, (false, 0)⟩, r)
def getIs : Nat → List UInt8 → Option (List Ins × List UInt8)
  | 0, b => some ([], b)
  | n + 1, b => match getI b with
    | some (x, r) => match getIs n r with
      | some (l, r') => some (x :: l, r')
      | none => none
    | none => none
def decX : List UInt8 → Option (List Ins)
  | [] => none
  | n :: r => match getIs n.toNat r with
    | some (l, []) => if chkX l = 0 then some l else none
    | _ => none
def okB (x : Ins) : Prop := (0 ≤ x.op ∧ x.op < 256) ∧ (0 ≤ x.a ∧ x.a < 256) ∧ (0 ≤ x.b ∧ x.b < 256) ∧ In2 x.k.2 ∧ plainI x = true
theorem words {n : Int} (h : In2 n) : ((loW n + 18446744073709551616 * hiW n : Nat) : Int) = n ∧ loW n < 256 ^ 8 ∧ hiW n < 256 ^ 8 := by
  have hp : (256 : Nat) ^ 8 = 18446744073709551616 := by decide
  unfold In2 at h
  unfold loW hiW
  omega
theorem plain_facts {x : Ins} (h : plainI x = true) : (x.op = 1 ∨ x.k = (false, 0)) ∧ (x.op = 2 ∨ x.b = 0) ∧ (x.op = 2 ∨ x.op = 3 ∨ x.a = 0) := by
  unfold plainI at h
  simp only [Bool.and_eq_true, Bool.or_eq_true, decide_eq_true_eq] at h
  exact h
theorem cut16 {A B r : List UInt8} (hA : A.length = 8) (hB : B.length = 8) : (A ++ B ++ r).take 8 = A ∧ ((A ++ B ++ r).drop 8).take 8 = B ∧ (A ++ B ++ r).drop 16 = r := by
  have h16 : 16 = (A ++ B).length := by rw [List.length_append, hA, hB]
  refine ⟨?_, ?_, ?_⟩
  · rw [← hA, List.append_assoc, List.take_left]
  · rw [List.append_assoc, ← hA, List.drop_left, hA, ← hB, List.take_left]
  · rw [h16, List.drop_left]
theorem getI_enc {x : Ins} (h : okB x) (r : List UInt8) : getI (encI x ++ r) = some (x, r) := by
  obtain ⟨h1, h2, h3, h4, h5⟩ := h
  obtain ⟨p1, p2, p3⟩ := plain_facts h5
  obtain ⟨op, a, b, k⟩ := x
  simp only at h1 h2 h3 h4 p1 p2 p3
  have ho := o8_nat h1
  unfold encI getI
  simp only [List.cons_append]
  by_cases e1 : op = 1
  · rw [if_pos (by omega), if_pos e1]
    obtain ⟨w1, w2, w3⟩ := words h4
    have hs : (sgB k.1).toNat ≤ 1 ∧ decide ((sgB k.1).toNat = 1) = k.1 := by cases k.1 <;> decide
    have hl8 : (leB 8 (loW k.2)).length = 8 := leB_length _ _
    have hh8 : (leB 8 (hiW k.2)).length = 8 := leB_length _ _
    simp only [List.cons_append]
    obtain ⟨e8, e9, e10⟩ := cut16 (r := r) hl8 hh8
    rw [if_pos ⟨hs.1, by simp only [List.length_append, hl8, hh8]; omega⟩, e8, e9, e10, le_leB _ _ w2, le_leB _ _ w3, w1, hs.2]
    have hb0 : b = 0 := by omega
    have ha0 : a = 0 := by omega
    subst e1 hb0 ha0
    rfl
  · rw [if_neg (by omega), if_neg e1]
    have hk : k = (false, 0) := by rcases p1 with h | h
                                   · exact absurd h e1
                                   · exact h
    subst hk
    by_cases e2 : op = 2
    · rw [if_pos (by omega), if_pos e2]
      simp only [List.cons_append, List.nil_append]
      rw [o8_nat h2, o8_nat h3, e2]
    · rw [if_neg (by omega), if_neg e2]
      have hb0 : b = 0 := by omega
      subst hb0
      by_cases e3 : op = 3
      · rw [if_pos (by omega), if_pos e3]
        simp only [List.cons_append, List.nil_append]
        rw [o8_nat h2, e3]
      · rw [if_neg (by omega), if_neg e3]
        have ha0 : a = 0 := by omega
        subst ha0
        simp only [List.nil_append]
        rw [ho]
theorem getIs_enc : ∀ {l : List Ins}, (∀ x ∈ l, okB x) → ∀ r : List UInt8, getIs l.length (encIs l ++ r) = some (l, r)
  | [], _, _ => rfl
  | x :: t, h, r => by
    simp only [List.length_cons, getIs, encIs, List.append_assoc]
    rw [getI_enc (h x (by simp))]
    simp only
    rw [getIs_enc (l := t) fun g hg => h g (by simp [hg])]
theorem getI_back {b r : List UInt8} {x : Ins} (h : getI b = some (x, r)) : b = encI x ++ r ∧ okB x := by
  unfold getI at h
  split at h
  · cases h
  · rename_i o r0
    have ho := o.toNat_lt
    split at h
    · rename_i e1
      split at h
      · cases h
      · rename_i s r1
        split at h
        · rename_i hc
          simp only [Option.some.injEq, Prod.mk.injEq] at h
          obtain ⟨rfl, rfl⟩ := h
          have hp : (256 : Nat) ^ 8 = 18446744073709551616 := by decide
          have l1 : (r1.take 8).length = 8 := by rw [List.length_take]; omega
          have l2 : ((r1.drop 8).take 8).length = 8 := by rw [List.length_take, List.length_drop]; omega
          have b1 := le_lt (r1.take 8)
          have b2 := le_lt ((r1.drop 8).take 8)
          rw [l1, hp] at b1
          rw [l2, hp] at b2
          have w1 : loW ((le (r1.take 8) + 18446744073709551616 * le ((r1.drop 8).take 8) : Nat) : Int) = le (r1.take 8) := by unfold loW; omega
          have w2 : hiW ((le (r1.take 8) + 18446744073709551616 * le ((r1.drop 8).take 8) : Nat) : Int) = le ((r1.drop 8).take 8) := by unfold hiW; omega
          have v1 := leB_of (r1.take 8)
          have v2 := leB_of ((r1.drop 8).take 8)
          rw [l1] at v1
          rw [l2] at v2
          have ho1 : o = 1 := UInt8.toNat_inj.1 e1
          have hs : s = sgB (decide (s.toNat = 1)) := by
            by_cases hs1 : s.toNat = 1
            · rw [decide_eq_true hs1]; exact UInt8.toNat_inj.1 hs1
            · rw [decide_eq_false hs1]; exact UInt8.toNat_inj.1 (by show s.toNat = 0; omega)
          refine ⟨?_, ⟨by simp only; omega, by simp only; omega⟩, ⟨by simp only; omega, by simp only; omega⟩, ⟨by simp only; omega, by simp only; omega⟩, ?_, by simp [plainI]⟩
          · unfold encI
            simp only
            rw [if_pos trivial, w1, w2, v1, v2, ← hs, ho1]
            simp only [List.cons_append, List.append_assoc]
            have : r1.take 8 ++ ((r1.drop 8).take 8 ++ r1.drop 16) = r1 := by
              rw [show r1.drop 16 = (r1.drop 8).drop 8 by rw [List.drop_drop], List.take_append_drop, List.take_append_drop]
            rw [this]
            rfl
          · unfold In2; simp only; omega
        · cases h
    · rename_i e1
      split at h
      · rename_i e2
        split at h
        · rename_i a b r1
          simp only [Option.some.injEq, Prod.mk.injEq] at h
          obtain ⟨rfl, rfl⟩ := h
          have ha := a.toNat_lt
          have hb := b.toNat_lt
          have ho1 : o = 2 := UInt8.toNat_inj.1 e2
          refine ⟨?_, ⟨by simp only; omega, by simp only; omega⟩, ⟨by simp only; omega, by simp only; omega⟩, ⟨by simp only; omega, by simp only; omega⟩, ⟨by simp only; omega, by simp only; omega⟩, by simp [plainI]⟩
          unfold encI
          simp only
          rw [if_neg (by decide), if_pos trivial, o8_of, o8_of, ho1]
          rfl
        · cases h
      · rename_i e2
        split at h
        · rename_i e3
          split at h
          · rename_i a r1
            simp only [Option.some.injEq, Prod.mk.injEq] at h
            obtain ⟨rfl, rfl⟩ := h
            have ha := a.toNat_lt
            have ho1 : o = 3 := UInt8.toNat_inj.1 e3
            refine ⟨?_, ⟨by simp only; omega, by simp only; omega⟩, ⟨by simp only; omega, by simp only; omega⟩, ⟨by simp only; omega, by simp only; omega⟩, ⟨by simp only; omega, by simp only; omega⟩, by simp [plainI]⟩
            unfold encI
            simp only
            rw [if_neg (by decide), if_neg (by decide), if_pos trivial, o8_of, ho1]
            rfl
          · cases h
        · rename_i e3
          simp only [Option.some.injEq, Prod.mk.injEq] at h
          obtain ⟨rfl, rfl⟩ := h
          refine ⟨?_, ⟨by simp only; omega, by simp only; omega⟩, ⟨by simp only; omega, by simp only; omega⟩, ⟨by simp only; omega, by simp only; omega⟩, ⟨by show (0 : Int) ≤ 0; decide, by show (0 : Int) < 340282366920938463463374607431768211456; decide⟩, by simp [plainI]⟩
          unfold encI
          simp only
          rw [if_neg (by omega), if_neg (by omega), if_neg (by omega), o8_of]
          rfl
theorem getIs_back : ∀ {n : Nat} {b r : List UInt8} {l : List Ins}, getIs n b = some (l, r) → b = encIs l ++ r ∧ l.length = n ∧ ∀ x ∈ l, okB x
  | 0, b, r, fs, h => by
    simp only [getIs, Option.some.injEq, Prod.mk.injEq] at h
    obtain ⟨rfl, rfl⟩ := h
    exact ⟨rfl, rfl, fun f hf => by cases hf⟩
  | n + 1, b, r, fs, h => by
    unfold getIs at h
    split at h
    · rename_i f r1 hf
      split at h
      · rename_i gs r2 hg
        simp only [Option.some.injEq, Prod.mk.injEq] at h
        obtain ⟨rfl, rfl⟩ := h
        obtain ⟨h1, h2⟩ := getI_back hf
        obtain ⟨h3, h4, h5⟩ := getIs_back hg
        refine ⟨by rw [h1, h3, encIs, List.append_assoc], by rw [List.length_cons, h4], fun g hg => ?_⟩
        rcases List.mem_cons.1 hg with rfl | hg
        · exact h2
        · exact h5 g hg
      · cases h
    · cases h
theorem okB_of {l : List Ins} (h : encErr l = 0) (hi : ∀ x ∈ l, In2 x.k.2) : chkX l = 0 ∧ ∀ x ∈ l, okB x := by
  unfold encErr at h
  by_cases hz : chkX l = 0
  · rw [if_pos hz] at h
    by_cases hp : l.all plainI = true
    · refine ⟨hz, fun x hx => ?_⟩
      obtain ⟨h1, _, h3, h4⟩ := okI_facts (chkX_ok hz x hx)
      exact ⟨by omega, by omega, by omega, hi x hx, List.all_eq_true.1 hp x hx⟩
    · rw [if_neg hp] at h; cases h
  · rw [if_neg hz] at h; exact absurd h hz
theorem decX_enc {l : List Ins} (h : encErr l = 0) (hi : ∀ x ∈ l, In2 x.k.2) : decX (encX l) = some l := by
  obtain ⟨hz, hb⟩ := okB_of h hi
  have e : (o8 (l.length : Nat)).toNat = l.length := by
    have := o8_nat (n := (l.length : Nat)) ⟨by omega, by have := (chkX_zero hz).1; omega⟩
    omega
  have hg := getIs_enc hb []
  rw [List.append_nil] at hg
  simp only [decX, encX, e, hg]
  rw [if_pos hz]
theorem encX_dec {b : List UInt8} {l : List Ins} (h : decX b = some l) : encX l = b ∧ encErr l = 0 ∧ chkX l = 0 ∧ ∀ x ∈ l, okB x := by
  unfold decX at h
  split at h
  · cases h
  · rename_i n r
    split at h
    · rename_i l' hg
      split at h
      · rename_i hz
        simp only [Option.some.injEq] at h
        subst h
        obtain ⟨h1, h2, h3⟩ := getIs_back hg
        refine ⟨?_, ?_, hz, h3⟩
        · unfold encX
          rw [h2, o8_of, h1, List.append_nil]
        · unfold encErr
          rw [if_pos hz, if_pos (List.all_eq_true.2 fun x hx => (h3 x hx).2.2.2.2)]
      · cases h
    · cases h
theorem encI_len (x : Ins) : 1 ≤ (encI x).length ∧ (encI x).length ≤ 18 := by
  unfold encI
  split
  · simp only [List.length_cons, List.length_append, leB_length]; omega
  · split
    · simp
    · split <;> simp
theorem encIs_len : ∀ l : List Ins, (encIs l).length ≤ l.length * 18
  | [] => by simp [encIs]
  | x :: t => by have := (encI_len x).2; have := encIs_len t; simp only [encIs, List.length_append, List.length_cons]; omega
end Go.Proofs.YtamplgnbbanamaaGreatDoor
end
section
namespace Go.Lg.Fml
def Tr.args : Tr → List Tr
  | .n0 _ => []
  | .n1 _ a => [a]
  | .n2 _ a b => [a, b]
  | .n3 _ a b c => [a, b, c]
section
variable {V : Type} (one : Ins → List V → Except Int V)
def evL : List Tr → Except Int (List V)
  | [] => .ok []
  | a :: r => match a.ev one with
    | .error e => .error e
    | .ok u => match evL r with
      | .error e => .error e
      | .ok vs => .ok (u :: vs)
variable {one}
theorem ev_args (t : Tr) : t.ev one = match evL one t.args with | .error e => .error e | .ok vs => one t.top vs := by
  cases t with
  | n0 x => rfl
  | n1 x a =>
    simp only [Tr.ev, Tr.args, evL, Tr.top]
    cases a.ev one <;> rfl
  | n2 x a b =>
    simp only [Tr.ev, Tr.args, evL, Tr.top]
    cases a.ev one with
    | error e => rfl
    | ok u => cases b.ev one <;> rfl
  | n3 x a b c =>
    simp only [Tr.ev, Tr.args, evL, Tr.top]
    cases a.ev one with
    | error e => rfl
    | ok u => cases b.ev one with
      | error e => rfl
      | ok v => cases c.ev one <;> rfl
end
def At (l : List Ins) (p : Nat) (t : Tr) : Prop := ∃ pre suf, l = pre ++ (t.flat ++ suf) ∧ pre.length = p
end Go.Lg.Fml
end
section
namespace Go.Proofs.YtamplgnbbanamaaGreatDoor
open Go Go.Lg Go.Lg.Fml Go.Lg.Fld
def insV (x : Ins) : List Value := [.int .i64 x.op, .int .i64 x.a, .int .i64 x.b, .bool x.k.1, .int .u64 (x.k.2 / 18446744073709551616), .int .u64 (x.k.2 % 18446744073709551616)]
def smallI (x : Ins) : Prop := (-9223372036854775808 ≤ x.op ∧ x.op < 9223372036854775808) ∧ (-9223372036854775808 ≤ x.a ∧ x.a < 9223372036854775808) ∧ (-9223372036854775808 ≤ x.b ∧ x.b < 9223372036854775808) ∧ In2 x.k.2
structure InsIn (X : Nat → Option Obj) (ad : Option Addr) (l : List Ins) : Prop where
  rows : Go.Lg.RowsIn X ad 6 (l.map insV)
  small : ∀ x ∈ l, smallI x
theorem InsIn.mono {X Y : Nat → Option Obj} (hXY : ∀ b o, X b = some o → Y b = some o) {ad : Option Addr} {l : List Ins} (h : InsIn X ad l) : InsIn Y ad l := ⟨h.rows.mono hXY, h.small⟩
theorem InsIn.at {X : Nat → Option Obj} {ad : Option Addr} {l : List Ins} (h : InsIn X ad l) {i : Nat} {x : Ins} (hx : l[i]? = some x) :
    ∃ (blk off : Nat) (arr : Array Value) (el : TypeId) (fr : Nat × Nat), ad = some ⟨blk, off, none⟩ ∧ X blk = some (.cells arr el fr) ∧ off + i * 6 + 6 ≤ arr.size ∧ ((arr.toList.drop (off + i * 6)).take 6).map CV.val = (insV x).map CV.val ∧ arr[off + i * 6]? = some (.int .i64 x.op) := by
  obtain ⟨blk, off, arr, el, fr, h1, h2, h3, h4⟩ := h.rows i (insV x) (by rw [List.getElem?_map, hx]; rfl)
  refine ⟨blk, off, arr, el, fr, h1, h2, h3, by rw [h4], ?_⟩
  have h5 : ((arr.toList.drop (off + i * 6)).take 6)[0]? = some (.int .i64 x.op) := by rw [h4]; rfl
  rw [List.getElem?_take, if_pos (by decide), List.getElem?_drop, Nat.add_zero, Array.getElem?_toList] at h5
  exact h5
structure FssIn (X : Nat → Option Obj) (ad : Option Addr) (fss : List (List Nm)) : Prop where
  at_ : ∀ (i : Nat) (r : List Nm), fss[i]? = some r → ∃ (blk off : Nat) (arr : Array Value) (el : TypeId) (fr : Nat × Nat) (vad : Option Addr) (vcap : Nat), ad = some ⟨blk, off, none⟩ ∧ X blk = some (.cells arr el fr) ∧ off + i * 1 + 1 ≤ arr.size ∧ arr[off + i]? = some (.slice vad r.length vcap) ∧ NumsIn X vad r
abbrev LIn (x : Ins) : LV := .sv (.agg ((insV x).map .val))
abbrev LEnv (fad : Option Addr) (n cap : Nat) (at_ : Int) : LV := .sv (.agg [.val (.slice fad n cap), .val (.int .i64 at_)])
end Go.Proofs.YtamplgnbbanamaaGreatDoor
end
section
namespace Go.Proofs.YtamplgnbbanamaaGreatDoor
open Go Go.Lg Go.Lg.Fml Go.Lg.Fld
structure Rl where
  nw : Int
  old : Int
  ex : List (List Ins)
  deriving DecidableEq
structure Pg where
  va : Int
  vb : Int
  rs : List Rl
  deriving DecidableEq
def firstX : List (List Ins) → Int
  | [] => 0
  | c :: t => if encErr c = 0 then firstX t else encErr c
def chkR (r : Rl) (last : Int) : Int := if r.nw < 1 ∨ 24 < r.nw ∨ r.old < 0 ∨ 24 < r.old ∨ r.nw ≤ last then 1 else if r.old = 0 ∧ r.ex ≠ [] then 4 else if 8 < r.ex.length then 5 else firstX r.ex
def chkRs : Int → List Rl → Int
  | _, [] => 0
  | last, r :: t => if chkR r last = 0 then chkRs r.nw t else chkR r last
def verOk (n : Int) : Bool := decide (1 ≤ n) && decide (n ≤ 1073741824)
def chkP (p : Pg) : Int := if (verOk p.va && verOk p.vb) = true then chkRs 0 p.rs else 1
theorem firstX_zero : ∀ {l : List (List Ins)}, firstX l = 0 → ∀ c ∈ l, encErr c = 0
  | [], _, c, hc => by cases hc
  | d :: t, h, c, hc => by
    unfold firstX at h
    by_cases e : encErr d = 0
    · rw [if_pos e] at h
      rcases List.mem_cons.1 hc with rfl | hc
      · exact e
      · exact firstX_zero h c hc
    · rw [if_neg e] at h; exact absurd h e
theorem chkR_zero {r : Rl} {last : Int} (h : chkR r last = 0) : (1 ≤ r.nw ∧ r.nw ≤ 24) ∧ (0 ≤ r.old ∧ r.old ≤ 24) ∧ last < r.nw ∧ (r.old = 0 → r.ex = []) ∧ r.ex.length ≤ 8 ∧ firstX r.ex = 0 := by
  unfold chkR at h
  split at h
  · cases h
  · rename_i h1
    split at h
    · cases h
    · rename_i h2
      split at h
      · cases h
      · rename_i h3
        refine ⟨by omega, by omega, by omega, fun e => ?_, by omega, h⟩
        by_cases hx : r.ex = []
        · exact hx
        · exact absurd ⟨e, hx⟩ h2
theorem chkRs_mem : ∀ {l : List Rl} {last : Int}, chkRs last l = 0 → ∀ r ∈ l, ∃ last', chkR r last' = 0
  | [], _, _, r, hr => by cases hr
  | q :: t, last, h, r, hr => by
    unfold chkRs at h
    by_cases e : chkR q last = 0
    · rw [if_pos e] at h
      rcases List.mem_cons.1 hr with rfl | hr
      · exact ⟨last, e⟩
      · exact chkRs_mem h r hr
    · rw [if_neg e] at h; exact absurd h e
theorem chkRs_len : ∀ {l : List Rl} {last : Int}, 0 ≤ last → chkRs last l = 0 → (l.length : Int) ≤ max 0 (24 - last)
  | [], _, _, _ => by simp; omega
  | q :: t, last, h0, h => by
    unfold chkRs at h
    by_cases e : chkR q last = 0
    · rw [if_pos e] at h
      obtain ⟨h1, _, h3, _⟩ := chkR_zero e
      have := chkRs_len (by omega) h
      rw [List.length_cons]
      omega
    · rw [if_neg e] at h; exact absurd h e
theorem chkP_zero {p : Pg} (h : chkP p = 0) : (1 ≤ p.va ∧ p.va ≤ 1073741824) ∧ (1 ≤ p.vb ∧ p.vb ≤ 1073741824) ∧ chkRs 0 p.rs = 0 ∧ p.rs.length ≤ 24 := by
  unfold chkP at h
  split at h
  · rename_i hv
    unfold verOk at hv
    simp only [Bool.and_eq_true, decide_eq_true_eq] at hv
    have := chkRs_len (Int.le_refl 0) h
    exact ⟨hv.1, hv.2, h, by omega⟩
  · cases h
def encE (c : List Ins) : List UInt8 := leB 4 (encX c).length ++ encX c
def encEs : List (List Ins) → List UInt8
  | [] => []
  | c :: t => encE c ++ encEs t
def encR (r : Rl) : List UInt8 := o8 r.nw :: o8 r.old :: o8 (r.ex.length : Nat) :: encEs r.ex
def encRs : List Rl → List UInt8
  | [] => []
  | r :: t => encR r ++ encRs t
def encP (p : Pg) : List UInt8 := 77 :: (leB 4 p.va.toNat ++ (leB 4 p.vb.toNat ++ o8 (p.rs.length : Nat) :: encRs p.rs))
theorem encEs_app : ∀ (a b : List (List Ins)), encEs (a ++ b) = encEs a ++ encEs b
  | [], _ => rfl
  | x :: t, b => by simp only [List.cons_append, encEs, encEs_app t b, List.append_assoc]
theorem encRs_app : ∀ (a b : List Rl), encRs (a ++ b) = encRs a ++ encRs b
  | [], _ => rfl
  | x :: t, b => by simp only [List.cons_append, encRs, encRs_app t b, List.append_assoc]
def get4 (b : List UInt8) : Option (Nat × List UInt8) := if 4 ≤ b.length then some (le (b.take 4), b.drop 4) else none
def getE (b : List UInt8) : Option (List Ins × List UInt8) := match get4 b with
  | none => none
  | some (m, r) => if m ≤ r.length then (match decX (r.take m) with
    | some l => some (l, r.drop m)
    | none => none) else none
def getEs : Nat → List UInt8 → Option (List (List Ins) × List UInt8)
  | 0, b => some ([], b)
  | n + 1, b => match getE b with
    | some (x, r) => match getEs n r with
      | some (l, r') => some (x :: l, r')
      | none => none
    | none => none
def getRl : List UInt8 → Option (Rl × List UInt8)
  | n :: o :: m :: r => match getEs m.toNat r with
    | some (l, r') => some (⟨(n.toNat : Nat), (o.toNat : Nat), l⟩, r')
    | none => none
  | _ => none
def getRls : Nat → List UInt8 → Option (List Rl × List UInt8)
  | 0, b => some ([], b)
  | n + 1, b => match getRl b with
    | some (x, r) => match getRls n r with
      | some (l, r') => some (x :: l, r')
      | none => none
    | none => none
def decP (b : List UInt8) : Option Pg := match b with
  | c :: r => if c.toNat = 77 then (match get4 r with
    | some (va, r1) => match get4 r1 with
      | some (vb, n :: r2) => match getRls n.toNat r2 with
        | some (l, []) => if chkP ⟨(va : Nat), (vb : Nat), l⟩ = 0 then some ⟨(va : Nat), (vb : Nat), l⟩ else none
        | _ => none
      | _ => none
    | none => none) else none
  | [] => none
theorem get4_enc {n : Nat} (h : n < 4294967296) (r : List UInt8) : get4 (leB 4 n ++ r) = some (n, r) := by
  have hl := leB_length 4 n
  unfold get4
  rw [if_pos (by rw [List.length_append, hl]; omega)]
  have e1 : (leB 4 n ++ r).take 4 = leB 4 n := by rw [← hl]; exact List.take_left
  have e2 : (leB 4 n ++ r).drop 4 = r := by rw [← hl]; exact List.drop_left
  have hp : (256 : Nat) ^ 4 = 4294967296 := by decide
  rw [e1, e2, le_leB _ _ (by omega)]
theorem get4_back {b r : List UInt8} {n : Nat} (h : get4 b = some (n, r)) : b = leB 4 n ++ r ∧ n < 4294967296 := by
  unfold get4 at h
  split at h
  · rename_i h4
    simp only [Option.some.injEq, Prod.mk.injEq] at h
    obtain ⟨rfl, rfl⟩ := h
    have l1 : (b.take 4).length = 4 := by rw [List.length_take]; omega
    have v := leB_of (b.take 4)
    rw [l1] at v
    have hp : (256 : Nat) ^ 4 = 4294967296 := by decide
    have hlt := le_lt (b.take 4)
    rw [l1, hp] at hlt
    exact ⟨by rw [v, List.take_append_drop], hlt⟩
  · cases h
theorem encX_short {c : List Ins} (h : encErr c = 0) : (encX c).length < 4294967296 := by
  have h1 : chkX c = 0 := by
    unfold encErr at h
    by_cases hz : chkX c = 0
    · exact hz
    · rw [if_neg hz] at h; exact absurd h hz
  have := (chkX_zero h1).1
  have := encIs_len c
  unfold encX
  rw [List.length_cons]
  omega
theorem getE_enc {c : List Ins} (h : encErr c = 0) (hi : ∀ x ∈ c, In2 x.k.2) (r : List UInt8) : getE (encE c ++ r) = some (c, r) := by
  unfold getE encE
  rw [List.append_assoc, get4_enc (encX_short h)]
  simp only
  rw [if_pos (by rw [List.length_append]; omega), List.take_left, List.drop_left, decX_enc h hi]
theorem getE_back {b r : List UInt8} {c : List Ins} (h : getE b = some (c, r)) : b = encE c ++ r ∧ encErr c = 0 ∧ ∀ x ∈ c, In2 x.k.2 := by
  unfold getE at h
  cases h4 : get4 b with
  | none => rw [h4] at h; cases h
  | some p =>
    obtain ⟨m, q⟩ := p
    rw [h4] at h
    simp only at h
    obtain ⟨e1, _⟩ := get4_back h4
    split at h
    · rename_i hm
      cases hd : decX (q.take m) with
      | none => rw [hd] at h; cases h
      | some l =>
        rw [hd] at h
        simp only [Option.some.injEq, Prod.mk.injEq] at h
        obtain ⟨rfl, rfl⟩ := h
        obtain ⟨h1, h2, _, h3⟩ := encX_dec hd
        refine ⟨?_, h2, fun x hx => (h3 x hx).2.2.2.1⟩
        unfold encE
        rw [h1, List.length_take, Nat.min_eq_left hm, List.append_assoc, List.take_append_drop]
        exact e1
    · cases h
theorem getEs_enc : ∀ {l : List (List Ins)}, (∀ c ∈ l, encErr c = 0) → (∀ c ∈ l, ∀ x ∈ c, In2 x.k.2) → ∀ r : List UInt8, getEs l.length (encEs l ++ r) = some (l, r)
  | [], _, _, _ => rfl
  | c :: t, h, hi, r => by
    simp only [List.length_cons, getEs, encEs, List.append_assoc]
    rw [getE_enc (h c (by simp)) (hi c (by simp))]
    simp only
    rw [getEs_enc (l := t) (fun g hg => h g (by simp [hg])) (fun g hg => hi g (by simp [hg]))]
theorem getEs_back : ∀ {n : Nat} {b r : List UInt8} {l : List (List Ins)}, getEs n b = some (l, r) → b = encEs l ++ r ∧ l.length = n ∧ ∀ c ∈ l, encErr c = 0 ∧ ∀ x ∈ c, In2 x.k.2
  | 0, b, r, l, h => by
    simp only [getEs, Option.some.injEq, Prod.mk.injEq] at h
    obtain ⟨rfl, rfl⟩ := h
    exact ⟨rfl, rfl, fun f hf => by cases hf⟩
  | n + 1, b, r, l, h => by
    unfold getEs at h
    split at h
    · rename_i f r1 hf
      split at h
      · rename_i gs r2 hg
        simp only [Option.some.injEq, Prod.mk.injEq] at h
        obtain ⟨rfl, rfl⟩ := h
        obtain ⟨h1, h2⟩ := getE_back hf
        obtain ⟨h3, h4, h5⟩ := getEs_back hg
        refine ⟨by rw [h1, h3, encEs, List.append_assoc], by rw [List.length_cons, h4], fun g hg => ?_⟩
        rcases List.mem_cons.1 hg with rfl | hg
        · exact h2
        · exact h5 g hg
      · cases h
    · cases h
def okRl (r : Rl) : Prop := (0 ≤ r.nw ∧ r.nw < 256) ∧ (0 ≤ r.old ∧ r.old < 256) ∧ r.ex.length < 256 ∧ ∀ c ∈ r.ex, encErr c = 0 ∧ ∀ x ∈ c, In2 x.k.2
theorem getRl_enc {r : Rl} (h : okRl r) (b : List UInt8) : getRl (encR r ++ b) = some (r, b) := by
  obtain ⟨h1, h2, h3, h4⟩ := h
  unfold encR getRl
  simp only [List.cons_append]
  have e3 : (o8 (r.ex.length : Nat)).toNat = r.ex.length := by have := o8_nat (n := (r.ex.length : Nat)) ⟨by omega, by omega⟩; omega
  rw [e3, getEs_enc (fun c hc => (h4 c hc).1) (fun c hc => (h4 c hc).2)]
  simp only
  rw [o8_nat h1, o8_nat h2]
theorem getRl_back {b q : List UInt8} {r : Rl} (h : getRl b = some (r, q)) : b = encR r ++ q ∧ okRl r := by
  unfold getRl at h
  split at h
  · rename_i n o m b1
    cases he : getEs m.toNat b1 with
    | none => rw [he] at h; cases h
    | some p =>
      obtain ⟨l, b2⟩ := p
      rw [he] at h
      simp only [Option.some.injEq, Prod.mk.injEq] at h
      obtain ⟨rfl, rfl⟩ := h
      obtain ⟨h1, h2, h3⟩ := getEs_back he
      have hn := n.toNat_lt
      have ho := o.toNat_lt
      have hm := m.toNat_lt
      refine ⟨?_, ⟨by simp only; omega, by simp only; omega⟩, ⟨by simp only; omega, by simp only; omega⟩, by simp only; omega, h3⟩
      unfold encR
      simp only [List.cons_append]
      rw [o8_of, o8_of, h2, o8_of, h1]
  · cases h
theorem getRls_enc : ∀ {l : List Rl}, (∀ r ∈ l, okRl r) → ∀ b : List UInt8, getRls l.length (encRs l ++ b) = some (l, b)
  | [], _, _ => rfl
  | c :: t, h, r => by
    simp only [List.length_cons, getRls, encRs, List.append_assoc]
    rw [getRl_enc (h c (by simp))]
    simp only
    rw [getRls_enc (l := t) (fun g hg => h g (by simp [hg]))]
theorem getRls_back : ∀ {n : Nat} {b r : List UInt8} {l : List Rl}, getRls n b = some (l, r) → b = encRs l ++ r ∧ l.length = n ∧ ∀ c ∈ l, okRl c
  | 0, b, r, l, h => by
    simp only [getRls, Option.some.injEq, Prod.mk.injEq] at h
    obtain ⟨rfl, rfl⟩ := h
    exact ⟨rfl, rfl, fun f hf => by cases hf⟩
  | n + 1, b, r, l, h => by
    unfold getRls at h
    split at h
    · rename_i f r1 hf
      split at h
      · rename_i gs r2 hg
        simp only [Option.some.injEq, Prod.mk.injEq] at h
        obtain ⟨rfl, rfl⟩ := h
        obtain ⟨h1, h2⟩ := getRl_back hf
        obtain ⟨h3, h4, h5⟩ := getRls_back hg
        refine ⟨by rw [h1, h3, encRs, List.append_assoc], by rw [List.length_cons, h4], fun g hg => ?_⟩
        rcases List.mem_cons.1 hg with rfl | hg
        · exact h2
        · exact h5 g hg
      · cases h
    · cases h
def InP (p : Pg) : Prop := ∀ r ∈ p.rs, ∀ c ∈ r.ex, ∀ x ∈ c, In2 x.k.2
theorem okRl_of {p : Pg} (h : chkP p = 0) (hi : InP p) : ∀ r ∈ p.rs, okRl r := fun r hr => by
  obtain ⟨last, hc⟩ := chkRs_mem (chkP_zero h).2.2.1 r hr
  obtain ⟨h1, h2, _, _, h5, h6⟩ := chkR_zero hc
  exact ⟨by omega, by omega, by omega, fun c hc => ⟨firstX_zero h6 c hc, hi r hr c hc⟩⟩
theorem decP_tail {p : Pg} (h : chkP p = 0) (hi : InP p) (b : List UInt8) : decP (encP p ++ b) = if b = [] then some p else none := by
  obtain ⟨h1, h2, h3, h4⟩ := chkP_zero h
  unfold encP decP
  simp only [List.cons_append, List.append_assoc]
  rw [if_pos (by decide), get4_enc (by omega)]
  simp only
  rw [get4_enc (by omega)]
  simp only
  have e3 : (o8 (p.rs.length : Nat)).toNat = p.rs.length := by have := o8_nat (n := (p.rs.length : Nat)) ⟨by omega, by omega⟩; omega
  rw [e3, getRls_enc (okRl_of h hi)]
  have hp : (⟨((p.va.toNat : Nat) : Int), ((p.vb.toNat : Nat) : Int), p.rs⟩ : Pg) = p := by
    obtain ⟨va, vb, rs⟩ := p
    simp only [Pg.mk.injEq, and_true]
    simp only at h1 h2
    omega
  cases b with
  | nil => simp only [hp]; rw [if_pos h]; rfl
  | cons x t => rfl
theorem decP_enc {p : Pg} (h : chkP p = 0) (hi : InP p) : decP (encP p) = some p := by
  have := decP_tail h hi []
  rw [List.append_nil] at this
  exact this
theorem decP_more {p : Pg} (h : chkP p = 0) (hi : InP p) (x : UInt8) : decP (encP p ++ [x]) = none := decP_tail h hi [x]
theorem encP_dec {b : List UInt8} {p : Pg} (h : decP b = some p) : encP p = b ∧ chkP p = 0 ∧ InP p := by
  unfold decP at h
  split at h
  · rename_i c r
    split at h
    · rename_i hc
      cases h4 : get4 r with
      | none => rw [h4] at h; cases h
      | some q =>
        obtain ⟨va, r1⟩ := q
        rw [h4] at h
        simp only at h
        split at h
        · rename_i vb n r2 h5
          split at h
          · rename_i l hg
            split at h
            · rename_i hz
              simp only [Option.some.injEq] at h
              subst h
              obtain ⟨e1, _⟩ := get4_back h4
              obtain ⟨e2, _⟩ := get4_back h5
              obtain ⟨e3, e4, e5⟩ := getRls_back hg
              refine ⟨?_, hz, fun r hr c hc => ((e5 r hr).2.2.2 c hc).2⟩
              unfold encP
              simp only [Int.toNat_natCast]
              rw [e4, o8_of, e1, e2, e3, List.append_nil, show c = 77 from UInt8.toNat_inj.1 hc]
            · cases h
          · cases h
        · cases h
    · cases h
  · cases h
theorem decP_less {p : Pg} (h : chkP p = 0) (hi : InP p) : decP ((encP p).take ((encP p).length - 1)) = none := by
  cases hd : decP ((encP p).take ((encP p).length - 1)) with
  | none => rfl
  | some q =>
    obtain ⟨h1, h2, h3⟩ := encP_dec hd
    have hl : 1 ≤ (encP p).length := by unfold encP; simp
    have e : encP p = encP q ++ [(encP p)[(encP p).length - 1]'(by omega)] := by
      rw [h1]
      conv => lhs; rw [← List.take_append_drop ((encP p).length - 1) (encP p)]
      congr 1
      rw [List.drop_eq_getElem_cons (by omega), List.drop_eq_nil_of_le (by omega)]
    have h5 := decP_more h2 h3 ((encP p)[(encP p).length - 1]'(by omega))
    rw [← e, decP_enc h hi] at h5
    cases h5
theorem encP_inj {p q : Pg} (hp : chkP p = 0) (hq : chkP q = 0) (ip : InP p) (iq : InP q) (h : encP p = encP q) : p = q := by
  have h1 := decP_enc hp ip
  rw [h, decP_enc hq iq] at h1
  exact (Option.some.inj h1).symm
end Go.Proofs.YtamplgnbbanamaaGreatDoor
end
section
namespace Go.Lg.Fml
theorem dep_snoc {okJ : Ins → Bool} {l : List Ins} {i n : Nat} {x : Ins} (hd : dep okJ 0 (l.take i) = some n) (hx : l[i]? = some x) : dep okJ 0 (l.take (i + 1)) = if okJ x = true ∧ takes x.op ≤ n ∧ n - takes x.op + 1 ≤ 16 then some (n - takes x.op + 1) else none := by
  rw [Go.Lg.Fld.take_snoc hx, dep_app, hd]
  show dep okJ n [x] = _
  simp only [dep]
theorem dep_none {okJ : Ins → Bool} {l : List Ins} {i : Nat} (hd : dep okJ 0 (l.take i) = none) : dep okJ 0 l = none := by
  rw [← List.take_append_drop i l, dep_app, hd]
  rfl
theorem dep_le {okJ : Ins → Bool} : ∀ {l : List Ins} {n m : Nat}, n ≤ 16 → dep okJ n l = some m → m ≤ 16
  | [], n, m, hn, h => by simp only [dep, Option.some.injEq] at h; omega
  | x :: l, n, m, hn, h => by
    simp only [dep] at h
    split at h
    · rename_i h1; exact dep_le h1.2.2 h
    · cases h
end Go.Lg.Fml
namespace Go.Proofs.YtamplgnbbanamaaGreatDoor
open Go Go.Lg Go.Lg.Fml Go.Lg.Fld
set_option maxRecDepth 100000
variable (X : Nat → Option Obj)
instance : ArrB Tryz.prog 150 (List.replicate 18 (.int .i64 0)) 1 := ⟨by kernel_rfl⟩
theorem takes_out {op : Int} (h : op < 5 ∨ 17 < op) : takes op = 0 := by
  unfold takes
  rw [if_neg (by omega), if_neg (by omega), if_neg (by omega)]
theorem chkX_bad {l : List Ins} {i n : Nat} {x : Ins} (h64 : ¬ 64 < l.length) (hd : dep okI 0 (l.take i) = some n) (hx : l[i]? = some x) (hb : ¬ (okI x = true ∧ takes x.op ≤ n ∧ n - takes x.op + 1 ≤ 16)) : chkX l = 4 := by
  unfold chkX
  rw [if_neg h64, if_neg]
  rw [dep_none (i := i + 1) ((dep_snoc hd hx).trans (if_neg hb))]
  exact fun h => by cases h
end Go.Proofs.YtamplgnbbanamaaGreatDoor
end
section
namespace Go.Lg.Sg
open Go Go.Lg
def NuIn (X : Nat → Option Obj) (ad : Option Addr) (l : List Int) : Prop := RowsIn X ad 1 (l.map fun n => [.int .i64 n])
end Go.Lg.Sg
end
section
namespace Go.Proofs
open Go.Shelf
def Tryz.lays156_ren : Go.Shelf.Ren := ⟨fun | 156 => 44 | 165 => 67 | 166 => 68 | 169 => 69 | 240 => 83 | 241 => 84 | 276 => 95 | 277 => 96 | n => n, fun | 31 => 55 | 9 => 9 | 3 => 3 | 4 => 4 | 0 => 0 | 20 => 20 | 72 => 119 | 76 => 123 | 70 => 117 | 37 => 59 | 75 => 122 | 127 => 143 | 164 => 155 | 5 => 5 | 80 => 80 | n => n, fun | n => n⟩
theorem Tryz.lays156 : Go.Proofs.Lays.n156 Tryz.prog Tryz.lays156_ren := {
  mixed := by kernel_rfl
  f156 := Tryz.func44.trans (congrArg some (by kernel_rfl))
  f165 := Tryz.func67.trans (congrArg some (by kernel_rfl))
  f166 := Tryz.func68.trans (congrArg some (by kernel_rfl))
  f169 := Tryz.func69.trans (congrArg some (by kernel_rfl))
  f240 := Tryz.func83.trans (congrArg some (by kernel_rfl))
  f241 := Tryz.func84.trans (congrArg some (by kernel_rfl))
  f276 := Tryz.func95.trans (congrArg some (by kernel_rfl))
  f277 := Tryz.func96.trans (congrArg some (by kernel_rfl))
  t0 := Tryz.underlying0
  a0 := Tryz.isAgg0
  z0 := Tryz.sizeOf0
  v0 := Tryz.zeroValue0
  t3 := Tryz.underlying3
  a3 := Tryz.isAgg3
  z3 := Tryz.sizeOf3
  v3 := Tryz.zeroValue3
  t4 := Tryz.underlying4
  a4 := Tryz.isAgg4
  z4 := Tryz.sizeOf4
  v4 := Tryz.zeroValue4
  t9 := Tryz.underlying9
  a9 := Tryz.isAgg9
  z9 := Tryz.sizeOf9
  v9 := Tryz.zeroValue9
  t20 := Tryz.underlying20
  a20 := Tryz.isAgg20
  z20 := Tryz.sizeOf20
  v20 := Tryz.zeroValue20
  t31 := Tryz.underlying55
  a31 := Tryz.isAgg55
  z31 := Tryz.sizeOf55
  v31 := Tryz.zeroValue55
  t37 := Tryz.underlying59
  a37 := Tryz.isAgg59
  z37 := Tryz.sizeOf59
  v37 := Tryz.zeroValue59
  t70 := Tryz.underlying117
  a70 := Tryz.isAgg117
  z70 := Tryz.sizeOf117
  v70 := Tryz.zeroValue117
  t72 := Tryz.underlying119
  a72 := Tryz.isAgg119
  z72 := Tryz.sizeOf119
  v72 := Tryz.zeroValue119
  t75 := Tryz.underlying122
  a75 := Tryz.isAgg122
  z75 := Tryz.sizeOf122
  v75 := Tryz.zeroValue122
  t76 := Tryz.underlying123
  a76 := Tryz.isAgg123
  z76 := Tryz.sizeOf123
  v76 := Tryz.zeroValue123
  t127 := Tryz.underlying143
  a127 := Tryz.isAgg143
  z127 := Tryz.sizeOf143
  v127 := Tryz.zeroValue143
  t164 := Tryz.underlying155
  a164 := Tryz.isAgg155
  z164 := Tryz.sizeOf155
  v164 := Tryz.zeroValue155 }
theorem Tryz.Builder_Extra_156 : Builder.Extra Tryz.prog Tryz.lays156_ren := {
  sizeBuilder := by kernel_rfl
  liesBuilder := by kernel_rfl
  t5 := Tryz.underlying5
  a5 := Tryz.isAgg5
  z5 := Tryz.sizeOf5
  v5 := Tryz.zeroValue5
  infoByte := by kernel_rfl
  cellsByte := by kernel_rfl
  sizeByte := by kernel_rfl
  neB5 := by decide }
open Go.RowKit in
theorem Tryz.strings_Join (bk o c : Nat) (xs : List ByteArray) (sep : ByteArray) (w : World) (hcells : ∀ (j : Nat) x, xs[j]? = some x → w.cell? ⟨bk, o + j, none⟩ = some (.string x)) (hbk : bk < w.heap.size) (hN : xs.length ≤ 140737488355328) (hcap : xs.length ≤ c) (hlen : (Lib.join (xs.map (·.data.toList)) sep.data.toList).length ≤ 140737488355328) :
    Calls Tryz.prog 44 #[.slice (some ⟨bk, o, none⟩) xs.length c, .string sep] w fun e w' => e = .returned (.string ⟨(Lib.join (xs.map (·.data.toList)) sep.data.toList).toArray⟩) ∧ Below w.heap.size w w' := Any.strings_Join Tryz.lays156 Tryz.Builder_Extra_156 bk o c xs sep w hcells hbk hN hcap hlen
def Tryz.lays134_ren : Go.Shelf.Ren := ⟨fun | 134 => 169 | 129 => 155 | n => n, fun | 53 => 62 | 3 => 3 | 4 => 4 | 46 => 212 | 5 => 5 | 9 => 9 | n => n, fun | n => n⟩
theorem Tryz.lays134 : Go.Proofs.Lays.n134 Tryz.prog Tryz.lays134_ren := {
  mixed := by kernel_rfl
  f129 := Tryz.func155.trans (congrArg some (by kernel_rfl))
  f134 := Tryz.func169.trans (congrArg some (by kernel_rfl))
  t3 := Tryz.underlying3
  a3 := Tryz.isAgg3
  z3 := Tryz.sizeOf3
  v3 := Tryz.zeroValue3
  t4 := Tryz.underlying4
  a4 := Tryz.isAgg4
  z4 := Tryz.sizeOf4
  v4 := Tryz.zeroValue4
  t5 := Tryz.underlying5
  a5 := Tryz.isAgg5
  z5 := Tryz.sizeOf5
  v5 := Tryz.zeroValue5
  t9 := Tryz.underlying9
  a9 := Tryz.isAgg9
  z9 := Tryz.sizeOf9
  v9 := Tryz.zeroValue9
  t46 := Tryz.underlying212
  a46 := Tryz.isAgg212
  z46 := Tryz.sizeOf212
  v46 := Tryz.zeroValue212
  t53 := Tryz.underlying62
  a53 := Tryz.isAgg62
  z53 := Tryz.sizeOf62
  v53 := Tryz.zeroValue62 }
theorem Tryz.bits_LeadingZeros64 (x : Int) (w : World) (h0 : 0 ≤ x) (h1 : x ≤ 18446744073709551615) :
    Calls Tryz.prog 169 #[.int .u64 x] w fun e w' => e = .returned (.int .i64 (64 - (Lib.bitLen x.toNat : Int))) ∧ w' = w := Any.bits_LeadingZeros64 Tryz.lays134 x w h0 h1
def Tryz.lays283_ren : Go.Shelf.Ren := ⟨fun | 283 => 124 | n => n, fun | 3 => 3 | 9 => 9 | 4 => 4 | n => n, fun | n => n⟩
theorem Tryz.lays283 : Go.Proofs.Lays.n283 Tryz.prog Tryz.lays283_ren := {
  mixed := by kernel_rfl
  f283 := Tryz.func124.trans (congrArg some (by kernel_rfl))
  t3 := Tryz.underlying3
  a3 := Tryz.isAgg3
  z3 := Tryz.sizeOf3
  v3 := Tryz.zeroValue3
  t4 := Tryz.underlying4
  a4 := Tryz.isAgg4
  z4 := Tryz.sizeOf4
  v4 := Tryz.zeroValue4
  t9 := Tryz.underlying9
  a9 := Tryz.isAgg9
  z9 := Tryz.sizeOf9
  v9 := Tryz.zeroValue9 }
open Go.Lib in
theorem Tryz.internal_strconv_small (i : Nat) (h : i < 100) (w : World) :
    Calls Tryz.prog 124 #[.int .i64 i] w fun e w' => e = .returned (.string ⟨(Lib.decDigits i).toArray⟩) ∧ w' = w := Any.internal_strconv_small Tryz.lays283 i h w
def Tryz.laysM284_ren : Go.Shelf.Ren := ⟨fun | 284 => 125 | 129 => 155 | 317 => 154 | 318 => 156 | n => n, fun | 53 => 62 | 3 => 3 | 212 => 209 | 0 => 0 | 4 => 4 | 46 => 212 | 5 => 5 | 9 => 9 | n => n, fun | 17 => 1 | n => n⟩
theorem Tryz.laysM284 : Go.Proofs.LaysM.n284 Tryz.prog Tryz.laysM284_ren := {
  mixed := by kernel_rfl
  f129 := Tryz.func155.trans (congrArg some (by kernel_rfl))
  f284 := Tryz.func125.trans (congrArg some (by kernel_rfl))
  f317 := Tryz.func154.trans (congrArg some (by kernel_rfl))
  f318 := Tryz.func156.trans (congrArg some (by kernel_rfl))
  t0 := Tryz.underlying0
  a0 := Tryz.isAgg0
  z0 := Tryz.sizeOf0
  v0 := Tryz.zeroValue0
  t3 := Tryz.underlying3
  a3 := Tryz.isAgg3
  z3 := Tryz.sizeOf3
  v3 := Tryz.zeroValue3
  t4 := Tryz.underlying4
  a4 := Tryz.isAgg4
  z4 := Tryz.sizeOf4
  v4 := Tryz.zeroValue4
  t5 := Tryz.underlying5
  a5 := Tryz.isAgg5
  z5 := Tryz.sizeOf5
  v5 := Tryz.zeroValue5
  t9 := Tryz.underlying9
  a9 := Tryz.isAgg9
  z9 := Tryz.sizeOf9
  v9 := Tryz.zeroValue9
  t46 := Tryz.underlying212
  a46 := Tryz.isAgg212
  z46 := Tryz.sizeOf212
  v46 := Tryz.zeroValue212
  t53 := Tryz.underlying62
  a53 := Tryz.isAgg62
  z53 := Tryz.sizeOf62
  v53 := Tryz.zeroValue62
  t212 := Tryz.underlying209
  a212 := Tryz.isAgg209
  z212 := Tryz.sizeOf209
  v212 := Tryz.zeroValue209
  g17 := by kernel_rfl
  i0 := by kernel_rfl
  i3 := by kernel_rfl
  i4 := by kernel_rfl
  i5 := by kernel_rfl
  i9 := by kernel_rfl
  i46 := by kernel_rfl
  i53 := by kernel_rfl
  i212 := by kernel_rfl
  m17 := by kernel_rfl }
open Go.Lib in
theorem Tryz.internal_strconv_numDigits (u : Nat) (h1 : 1 ≤ u) (h2 : u < 18446744073709551616) (w : World) (htab : Lib.TabIs Tryz.prog w "internal/strconv.uint64pow10" .u64 Lib.pow10Tab) :
    Calls Tryz.prog 125 #[.int .u64 u] w fun e w' => e = .returned (.int .i64 (Lib.nDigits u)) ∧ w' = w := Any.internal_strconv_numDigits Tryz.laysM284 u h1 h2 w htab
def Tryz.lays285_ren : Go.Shelf.Ren := ⟨fun | 285 => 126 | n => n, fun | 37 => 59 | 53 => 62 | 3 => 3 | 4 => 4 | 51 => 210 | 9 => 9 | 5 => 5 | 0 => 0 | n => n, fun | n => n⟩
theorem Tryz.lays285 : Go.Proofs.Lays.n285 Tryz.prog Tryz.lays285_ren := {
  mixed := by kernel_rfl
  f285 := Tryz.func126.trans (congrArg some (by kernel_rfl))
  t0 := Tryz.underlying0
  a0 := Tryz.isAgg0
  z0 := Tryz.sizeOf0
  v0 := Tryz.zeroValue0
  t3 := Tryz.underlying3
  a3 := Tryz.isAgg3
  z3 := Tryz.sizeOf3
  v3 := Tryz.zeroValue3
  t4 := Tryz.underlying4
  a4 := Tryz.isAgg4
  z4 := Tryz.sizeOf4
  v4 := Tryz.zeroValue4
  t5 := Tryz.underlying5
  a5 := Tryz.isAgg5
  z5 := Tryz.sizeOf5
  v5 := Tryz.zeroValue5
  t9 := Tryz.underlying9
  a9 := Tryz.isAgg9
  z9 := Tryz.sizeOf9
  v9 := Tryz.zeroValue9
  t37 := Tryz.underlying59
  a37 := Tryz.isAgg59
  z37 := Tryz.sizeOf59
  v37 := Tryz.zeroValue59
  t51 := Tryz.underlying210
  a51 := Tryz.isAgg210
  z51 := Tryz.sizeOf210
  v51 := Tryz.zeroValue210
  t53 := Tryz.underlying62
  a53 := Tryz.isAgg62
  z53 := Tryz.sizeOf62
  v53 := Tryz.zeroValue62 }
open Go.RowKit Go.Sort Go.Lib in
theorem Tryz.internal_strconv_formatBase10 (blk off cap : Nat) (u : Nat) (d : Array UInt8) (w : World) (hH : Holds (fun (b : UInt8) => Value.int .u8 (b.toNat : Int)) w blk off d) (hu : u < 10 ^ d.size) (hu64 : u < 18446744073709551616) (hsz : d.size < 4611686018427387904) :
    Calls Tryz.prog 126 #[.slice (some ⟨blk, off, none⟩) d.size cap, .int .u64 u] w fun e w' =>
      e = .returned (.tuple #[]) ∧ ∃ (n v' : Nat) (dk : Array UInt8), w' = (putRow (fun (b : UInt8) => Value.int .u8 (b.toNat : Int)) w blk off dk).drewN n ∧ FmtInv d.size u 0 v' dk := Any.internal_strconv_formatBase10 Tryz.lays285 blk off cap u d w hH hu hu64 hsz
def Tryz.lays171_ren : Go.Shelf.Ren := ⟨fun | 171 => 70 | 243 => 85 | 246 => 97 | 283 => 124 | 284 => 125 | 285 => 126 | 286 => 127 | 129 => 155 | 317 => 154 | 318 => 156 | 319 => 157 | 320 => 158 | 337 => 167 | 338 => 168 | n => n, fun | 3 => 3 | 9 => 9 | 2 => 2 | 4 => 4 | 171 => 177 | 0 => 0 | 53 => 62 | 37 => 59 | 5 => 5 | 173 => 180 | 212 => 209 | 51 => 210 | 20 => 20 | 213 => 211 | 46 => 212 | 232 => 225 | 233 => 226 | n => n, fun | 17 => 1 | 18 => 4 | 19 => 5 | n => n⟩
theorem Tryz.lays171 : Go.Proofs.Lays.n171 Tryz.prog Tryz.lays171_ren := {
  mixed := by kernel_rfl
  f129 := Tryz.func155.trans (congrArg some (by kernel_rfl))
  f171 := Tryz.func70.trans (congrArg some (by kernel_rfl))
  f243 := Tryz.func85.trans (congrArg some (by kernel_rfl))
  f246 := Tryz.func97.trans (congrArg some (by kernel_rfl))
  f283 := Tryz.func124.trans (congrArg some (by kernel_rfl))
  f284 := Tryz.func125.trans (congrArg some (by kernel_rfl))
  f285 := Tryz.func126.trans (congrArg some (by kernel_rfl))
  f286 := Tryz.func127.trans (congrArg some (by kernel_rfl))
  f317 := Tryz.func154.trans (congrArg some (by kernel_rfl))
  f318 := Tryz.func156.trans (congrArg some (by kernel_rfl))
  f319 := Tryz.func157.trans (congrArg some (by kernel_rfl))
  f320 := Tryz.func158.trans (congrArg some (by kernel_rfl))
  f337 := Tryz.func167.trans (congrArg some (by kernel_rfl))
  f338 := Tryz.func168.trans (congrArg some (by kernel_rfl))
  t0 := Tryz.underlying0
  a0 := Tryz.isAgg0
  z0 := Tryz.sizeOf0
  v0 := Tryz.zeroValue0
  t2 := Tryz.underlying2
  a2 := Tryz.isAgg2
  z2 := Tryz.sizeOf2
  v2 := Tryz.zeroValue2
  t3 := Tryz.underlying3
  a3 := Tryz.isAgg3
  z3 := Tryz.sizeOf3
  v3 := Tryz.zeroValue3
  t4 := Tryz.underlying4
  a4 := Tryz.isAgg4
  z4 := Tryz.sizeOf4
  v4 := Tryz.zeroValue4
  t5 := Tryz.underlying5
  a5 := Tryz.isAgg5
  z5 := Tryz.sizeOf5
  v5 := Tryz.zeroValue5
  t9 := Tryz.underlying9
  a9 := Tryz.isAgg9
  z9 := Tryz.sizeOf9
  v9 := Tryz.zeroValue9
  t20 := Tryz.underlying20
  a20 := Tryz.isAgg20
  z20 := Tryz.sizeOf20
  v20 := Tryz.zeroValue20
  t37 := Tryz.underlying59
  a37 := Tryz.isAgg59
  z37 := Tryz.sizeOf59
  v37 := Tryz.zeroValue59
  t46 := Tryz.underlying212
  a46 := Tryz.isAgg212
  z46 := Tryz.sizeOf212
  v46 := Tryz.zeroValue212
  t51 := Tryz.underlying210
  a51 := Tryz.isAgg210
  z51 := Tryz.sizeOf210
  v51 := Tryz.zeroValue210
  t53 := Tryz.underlying62
  a53 := Tryz.isAgg62
  z53 := Tryz.sizeOf62
  v53 := Tryz.zeroValue62
  t171 := Tryz.underlying177
  a171 := Tryz.isAgg177
  z171 := Tryz.sizeOf177
  v171 := Tryz.zeroValue177
  t173 := Tryz.underlying180
  a173 := Tryz.isAgg180
  z173 := Tryz.sizeOf180
  v173 := Tryz.zeroValue180
  t212 := Tryz.underlying209
  a212 := Tryz.isAgg209
  z212 := Tryz.sizeOf209
  v212 := Tryz.zeroValue209
  t213 := Tryz.underlying211
  a213 := Tryz.isAgg211
  z213 := Tryz.sizeOf211
  t232 := Tryz.underlying225
  a232 := Tryz.isAgg225
  z232 := Tryz.sizeOf225
  v232 := Tryz.zeroValue225
  t233 := Tryz.underlying226
  a233 := Tryz.isAgg226
  z233 := Tryz.sizeOf226
  v233 := Tryz.zeroValue226
  g17 := by kernel_rfl
  g18 := by kernel_rfl
  g19 := by kernel_rfl }
open Go.RowKit Go.Sort Go.Lib in
theorem Tryz.strconv_Itoa_small (i : Nat) (hi : i < 100) (w : World) :
    Calls Tryz.prog 70 #[.int .i64 i] w fun e w' => e = .returned (.string ⟨(Lib.decDigits i).toArray⟩) ∧ w' = w := Any.strconv_Itoa_small Tryz.lays171 i hi w
def Tryz.lays99_ren : Go.Shelf.Ren := ⟨fun | 99 => 172 | 206 => 176 | n => n, fun | 9 => 9 | 4 => 4 | 3 => 3 | n => n, fun | n => n⟩
theorem Tryz.lays99 : Go.Proofs.Lays.n99 Tryz.prog Tryz.lays99_ren := {
  mixed := by kernel_rfl
  f99 := Tryz.func172.trans (congrArg some (by kernel_rfl))
  f206 := Tryz.func176.trans (congrArg some (by kernel_rfl))
  t3 := Tryz.underlying3
  a3 := Tryz.isAgg3
  z3 := Tryz.sizeOf3
  v3 := Tryz.zeroValue3
  t4 := Tryz.underlying4
  a4 := Tryz.isAgg4
  z4 := Tryz.sizeOf4
  v4 := Tryz.zeroValue4
  t9 := Tryz.underlying9
  a9 := Tryz.isAgg9
  z9 := Tryz.sizeOf9
  v9 := Tryz.zeroValue9 }
def Tryz.lays264_ren : Go.Shelf.Ren := ⟨fun | 264 => 165 | n => n, fun | 53 => 62 | 46 => 212 | n => n, fun | n => n⟩
theorem Tryz.lays264 : Go.Proofs.Lays.n264 Tryz.prog Tryz.lays264_ren := {
  mixed := by kernel_rfl
  f264 := Tryz.func165.trans (congrArg some (by kernel_rfl))
  t46 := Tryz.underlying212
  a46 := Tryz.isAgg212
  z46 := Tryz.sizeOf212
  v46 := Tryz.zeroValue212
  t53 := Tryz.underlying62
  a53 := Tryz.isAgg62
  z53 := Tryz.sizeOf62
  v53 := Tryz.zeroValue62 }
open Go.RowKit Go.Lib in
theorem Tryz.bits_Mul64 (x y : Nat) (hx : x < 18446744073709551616) (hy : y < 18446744073709551616) (w : World) :
    Calls Tryz.prog 165 #[.int .u64 x, .int .u64 y] w fun e w' => e = .returned (.tuple #[.int .u64 ((x * y / 18446744073709551616 : Nat) : Int), .int .u64 ((x * y % 18446744073709551616 : Nat) : Int)]) ∧ w' = w := Any.bits_Mul64 Tryz.lays264 x y hx hy w
def Tryz.lays105_ren : Go.Shelf.Ren := ⟨fun | 105 => 161 | 212 => 171 | 99 => 172 | 165 => 67 | 166 => 68 | 170 => 173 | 169 => 69 | 263 => 175 | 264 => 165 | 206 => 176 | 240 => 83 | 241 => 84 | 276 => 95 | 277 => 96 | n => n, fun | 9 => 9 | 3 => 3 | 4 => 4 | 20 => 20 | 0 => 0 | 46 => 212 | 109 => 221 | 5 => 5 | 72 => 119 | 76 => 123 | 51 => 210 | 146 => 227 | 53 => 62 | 148 => 214 | 70 => 117 | 37 => 59 | 75 => 122 | 127 => 143 | 164 => 155 | 80 => 80 | n => n, fun | n => n⟩
theorem Tryz.lays105 : Go.Proofs.Lays.n105 Tryz.prog Tryz.lays105_ren := {
  mixed := by kernel_rfl
  f99 := Tryz.func172.trans (congrArg some (by kernel_rfl))
  f105 := Tryz.func161.trans (congrArg some (by kernel_rfl))
  f165 := Tryz.func67.trans (congrArg some (by kernel_rfl))
  f166 := Tryz.func68.trans (congrArg some (by kernel_rfl))
  f169 := Tryz.func69.trans (congrArg some (by kernel_rfl))
  f170 := Tryz.func173.trans (congrArg some (by kernel_rfl))
  f206 := Tryz.func176.trans (congrArg some (by kernel_rfl))
  f212 := Tryz.func171.trans (congrArg some (by kernel_rfl))
  f240 := Tryz.func83.trans (congrArg some (by kernel_rfl))
  f241 := Tryz.func84.trans (congrArg some (by kernel_rfl))
  f263 := Tryz.func175.trans (congrArg some (by kernel_rfl))
  f264 := Tryz.func165.trans (congrArg some (by kernel_rfl))
  f276 := Tryz.func95.trans (congrArg some (by kernel_rfl))
  f277 := Tryz.func96.trans (congrArg some (by kernel_rfl))
  t0 := Tryz.underlying0
  a0 := Tryz.isAgg0
  z0 := Tryz.sizeOf0
  v0 := Tryz.zeroValue0
  t3 := Tryz.underlying3
  a3 := Tryz.isAgg3
  z3 := Tryz.sizeOf3
  v3 := Tryz.zeroValue3
  t4 := Tryz.underlying4
  a4 := Tryz.isAgg4
  z4 := Tryz.sizeOf4
  v4 := Tryz.zeroValue4
  t5 := Tryz.underlying5
  a5 := Tryz.isAgg5
  z5 := Tryz.sizeOf5
  v5 := Tryz.zeroValue5
  t9 := Tryz.underlying9
  a9 := Tryz.isAgg9
  z9 := Tryz.sizeOf9
  v9 := Tryz.zeroValue9
  t20 := Tryz.underlying20
  a20 := Tryz.isAgg20
  z20 := Tryz.sizeOf20
  v20 := Tryz.zeroValue20
  t37 := Tryz.underlying59
  a37 := Tryz.isAgg59
  z37 := Tryz.sizeOf59
  v37 := Tryz.zeroValue59
  t46 := Tryz.underlying212
  a46 := Tryz.isAgg212
  z46 := Tryz.sizeOf212
  v46 := Tryz.zeroValue212
  t51 := Tryz.underlying210
  a51 := Tryz.isAgg210
  z51 := Tryz.sizeOf210
  v51 := Tryz.zeroValue210
  t53 := Tryz.underlying62
  a53 := Tryz.isAgg62
  z53 := Tryz.sizeOf62
  v53 := Tryz.zeroValue62
  t70 := Tryz.underlying117
  a70 := Tryz.isAgg117
  z70 := Tryz.sizeOf117
  v70 := Tryz.zeroValue117
  t72 := Tryz.underlying119
  a72 := Tryz.isAgg119
  z72 := Tryz.sizeOf119
  v72 := Tryz.zeroValue119
  t75 := Tryz.underlying122
  a75 := Tryz.isAgg122
  z75 := Tryz.sizeOf122
  v75 := Tryz.zeroValue122
  t76 := Tryz.underlying123
  a76 := Tryz.isAgg123
  z76 := Tryz.sizeOf123
  v76 := Tryz.zeroValue123
  t109 := Tryz.underlying221
  a109 := Tryz.isAgg221
  z109 := Tryz.sizeOf221
  v109 := Tryz.zeroValue221
  t127 := Tryz.underlying143
  a127 := Tryz.isAgg143
  z127 := Tryz.sizeOf143
  v127 := Tryz.zeroValue143
  t146 := Tryz.underlying227
  a146 := Tryz.isAgg227
  z146 := Tryz.sizeOf227
  v146 := Tryz.zeroValue227
  t148 := Tryz.underlying214
  a148 := Tryz.isAgg214
  z148 := Tryz.sizeOf214
  v148 := Tryz.zeroValue214
  t164 := Tryz.underlying155
  a164 := Tryz.isAgg155
  z164 := Tryz.sizeOf155
  v164 := Tryz.zeroValue155 }
theorem Tryz.Builder_Extra_105 : Builder.Extra Tryz.prog Tryz.lays105_ren := {
  sizeBuilder := by kernel_rfl
  liesBuilder := by kernel_rfl
  t5 := Tryz.underlying5
  a5 := Tryz.isAgg5
  z5 := Tryz.sizeOf5
  v5 := Tryz.zeroValue5
  infoByte := by kernel_rfl
  cellsByte := by kernel_rfl
  sizeByte := by kernel_rfl
  neB5 := by decide }
open Go.RowKit Go.Lib in
theorem Tryz.strings_Repeat (s : ByteArray) (c : Nat) (w : World) (hc : c ≤ 9223372036854775807) (hlen : s.size * c ≤ 140737488355328) :
    Calls Tryz.prog 161 #[.string s, .int .i64 c] w fun e w' => e = .returned (.string ⟨(Lib.repeatL s.data.toList c).toArray⟩) ∧ Below w.heap.size w w' := Any.strings_Repeat Tryz.lays105 Tryz.Builder_Extra_105 s c w hc hlen
end Go.Proofs
end
section
namespace Go.Proofs.YtamplgnbbanamaaGreatDoor
open Go Go.Lg Go.Lg.Arith
variable (X : Nat → Option Obj)
theorem mul64_spec (x y p : Int) (hx : 0 ≤ x ∧ x < 18446744073709551616) (hy : 0 ≤ y ∧ y < 18446744073709551616) (hp : x * y = p) :
    PSpec Tryz.prog X 165 [Ln .u64 x, Ln .u64 y] (.tup [Sn .u64 (p / 18446744073709551616), Sn .u64 (p % 18446744073709551616)]) := by
  subst hp
  obtain ⟨a, rfl⟩ := Int.eq_ofNat_of_zero_le hx.1
  obtain ⟨b, rfl⟩ := Int.eq_ofNat_of_zero_le hy.1
  refine PSpec.ofCalls (vals := [.int .u64 a, .int .u64 b]) (v := .tuple #[.int .u64 (a * b / 18446744073709551616), .int .u64 (a * b % 18446744073709551616)]) (by kernel_rfl) rfl rfl (fun w _ => ?_)
  have h := Tryz.bits_Mul64 a b (by omega) (by omega) w
  have e1 : ((a * b / 18446744073709551616 : Nat) : Int) = (a : Int) * b / 18446744073709551616 := by rw [Int.natCast_ediv, Int.natCast_mul]; rfl
  have e2 : ((a * b % 18446744073709551616 : Nat) : Int) = (a : Int) * b % 18446744073709551616 := by rw [Int.natCast_emod, Int.natCast_mul]; rfl
  rw [e1, e2] at h
  exact h
theorem times_spec (M N : Int) (hM : In2 M) (hN : In2 N) (hw : M < 18446744073709551616 ∨ N < 18446744073709551616) (r : Bool) (hr : decide (M * N < 340282366920938463463374607431768211456) = r) :
    PSpec Tryz.prog X 141 [LZ M, LZ N] (.tup [SZ (M * N % 340282366920938463463374607431768211456), Sb r]) := by
  have core : ∀ H L m p q P : Int, 0 ≤ H ∧ H < 18446744073709551616 → 0 ≤ L ∧ L < 18446744073709551616 → 0 ≤ m ∧ m < 18446744073709551616 → H * m = p → L * m = q → (H * 18446744073709551616 + L) * m = P →
      0 ≤ p ∧ 0 ≤ q ∧ P = p * 18446744073709551616 + q ∧ q / 18446744073709551616 < 18446744073709551616 ∧ p / 18446744073709551616 < 18446744073709551616 := by
    intro H L m p q P hH hL hm hp hq hP
    have b1 := mul_bound (A := 18446744073709551615) (B := 18446744073709551615) ⟨hH.1, by omega⟩ (show 0 ≤ m ∧ m ≤ 18446744073709551615 by omega)
    have b2 := mul_bound (A := 18446744073709551615) (B := 18446744073709551615) ⟨hL.1, by omega⟩ (show 0 ≤ m ∧ m ≤ 18446744073709551615 by omega)
    have := times_low hp hq hP
    rw [hp] at b1
    rw [hq] at b2
    omega
  unfold In2 at *
  refine PSpec.intro Tryz.func141 rfl (by kernel_rfl) rfl rfl ?_
  intro C
  by_cases h0 : M / 18446744073709551616 = 0
  · obtain ⟨p, hp⟩ : ∃ p, N / 18446744073709551616 * (M % 18446744073709551616) = p := ⟨_, rfl⟩
    obtain ⟨q, hq⟩ : ∃ q, N % 18446744073709551616 * (M % 18446744073709551616) = q := ⟨_, rfl⟩
    obtain ⟨S, hS⟩ : ∃ S, M * N = S := ⟨_, rfl⟩
    obtain ⟨c1, c2, c3, c4, c5⟩ := core _ _ _ p q S (by omega) (by omega) (by omega) hp hq (by
      rw [← hS, show N / 18446744073709551616 * 18446744073709551616 + N % 18446744073709551616 = N by omega, show M % 18446744073709551616 = M by omega]; exact Int.mul_comm _ _)
    rw [hS] at hr ⊢
    by_cases hP : S < 340282366920938463463374607431768211456
    · rw [decide_eq_true hP] at hr
      subst hr
      (refine LWP.seq <| rgN <| K.box rfl rfl rfl .plain <| K.box rfl rfl rfl .plain <| K.alloc rfl .plain ?_; refine kas rfl <| RunK.nil <| LWP.seq <| LWP.seq <| rgN <| kfa rfl rfl ?_; refine kl1 rfl rfl rfl <| keq rfl rfl (beq_iff_eq.2 (by omega)) <| RunK.nil <| LWP.condT rfl ?_; refine rgN <| K.loadAll rfl rfl rfl .plain ?_; refine K.loadAll rfl rfl rfl .plain ?_; refine K.storeAll rfl rfl rfl rfl rfl rfl .plain ?_; refine K.storeAll rfl rfl rfl rfl rfl rfl .plain ?_; refine RunK.nil <| LWP.seq <| LWP.seq <| rgN <| kfa rfl rfl ?_; refine kl1 rfl rfl rfl <| kne rfl rfl ((bne_eq_false_iff_eq.2 (by omega))) <| RunK.nil <| LWP.condF rfl ?_; refine LWP.skip ?_; refine LWP.seq <| rgN <| kfa rfl rfl ?_; refine kl1 rfl rfl rfl <| kfa rfl rfl ?_; refine kl1 rfl rfl rfl <| kca rfl rfl (mul64_spec _ _ _ p (by omega) (by omega) hp) <| kmv rfl <| kex rfl rfl <| kex rfl rfl <| kas rfl <| kas rfl <| RunK.nil <| LWP.seq <| rgN <| kfa rfl rfl ?_; refine kl1 rfl rfl rfl <| kfa rfl rfl ?_; refine kl1 rfl rfl rfl <| kca rfl rfl (mul64_spec _ _ _ q (by omega) (by omega) hq) <| kmv rfl <| kex rfl rfl <| kex rfl rfl <| kas rfl <| kas rfl <| RunK.nil <| LWP.seq <| rgN <| kmv rfl <| kmv rfl <| K.callN rfl rfl (add64 (s := S % 340282366920938463463374607431768211456 / 18446744073709551616) (t := 0) (by omega) (by omega) (by omega)) rfl .plain <| kmv rfl ?_; refine kex rfl rfl <| kex rfl rfl <| kas rfl <| kas rfl <| RunK.nil <| LWP.seq <| rgN <| kmv rfl <| kmv rfl <| K.build rfl rfl (by exact rfl) (by exact nl2 rfl rfl rfl) .plain ?_; refine kmv rfl <| keq rfl rfl (beq_iff_eq.2 (by omega)) <| kmv rfl <| gmv rfl rfl rfl <| K.eql rfl rfl (beq_iff_eq.2 (by omega)) (.taken rfl rfl) ?_; refine kpt rfl rfl <| K.storeAll rfl rfl rfl rfl rfl rfl .plain ?_; refine kas rfl <| RunK.nil <| LWP.ret ?_)
      unfold SZ; rw [show S % 340282366920938463463374607431768211456 % 18446744073709551616 = q % 18446744073709551616 by omega]
      exact ⟨[_, _], ⟨⟨_, _, rfl, rfl, rfl, .inl ⟨AggT.h, rfl⟩⟩, rfl, trivial⟩, rfl⟩
    · rw [decide_eq_false hP] at hr
      subst hr
      by_cases ho : p / 18446744073709551616 = 0
      · (refine LWP.seq <| rgN <| K.box rfl rfl rfl .plain <| K.box rfl rfl rfl .plain <| K.alloc rfl .plain ?_; refine kas rfl <| RunK.nil <| LWP.seq <| LWP.seq <| rgN <| kfa rfl rfl ?_; refine kl1 rfl rfl rfl <| keq rfl rfl (beq_iff_eq.2 (by omega)) <| RunK.nil <| LWP.condT rfl ?_; refine rgN <| K.loadAll rfl rfl rfl .plain ?_; refine K.loadAll rfl rfl rfl .plain ?_; refine K.storeAll rfl rfl rfl rfl rfl rfl .plain ?_; refine K.storeAll rfl rfl rfl rfl rfl rfl .plain ?_; refine RunK.nil <| LWP.seq <| LWP.seq <| rgN <| kfa rfl rfl ?_; refine kl1 rfl rfl rfl <| kne rfl rfl ((bne_eq_false_iff_eq.2 (by omega))) <| RunK.nil <| LWP.condF rfl ?_; refine LWP.skip ?_; refine LWP.seq <| rgN <| kfa rfl rfl ?_; refine kl1 rfl rfl rfl <| kfa rfl rfl ?_; refine kl1 rfl rfl rfl <| kca rfl rfl (mul64_spec _ _ _ p (by omega) (by omega) hp) <| kmv rfl <| kex rfl rfl <| kex rfl rfl <| kas rfl <| kas rfl <| RunK.nil <| LWP.seq <| rgN <| kfa rfl rfl ?_; refine kl1 rfl rfl rfl <| kfa rfl rfl ?_; refine kl1 rfl rfl rfl <| kca rfl rfl (mul64_spec _ _ _ q (by omega) (by omega) hq) <| kmv rfl <| kex rfl rfl <| kex rfl rfl <| kas rfl <| kas rfl <| RunK.nil <| LWP.seq <| rgN <| kmv rfl <| kmv rfl <| K.callN rfl rfl (add64 (s := S % 340282366920938463463374607431768211456 / 18446744073709551616) (t := 1) (by omega) (by omega) (by omega)) rfl .plain <| kmv rfl ?_; refine kex rfl rfl <| kex rfl rfl <| kas rfl <| kas rfl <| RunK.nil <| LWP.seq <| rgN <| kmv rfl <| kmv rfl <| K.build rfl rfl (by exact rfl) (by exact nl2 rfl rfl rfl) .plain ?_; refine kmv rfl <| keq rfl rfl (beq_iff_eq.2 (by omega)) <| kmv rfl <| gmv rfl rfl rfl <| K.eql rfl rfl (beq_eq_false_iff_ne.2 (by omega)) (.taken rfl rfl) ?_; refine kpt rfl rfl <| K.storeAll rfl rfl rfl rfl rfl rfl .plain ?_; refine kas rfl <| RunK.nil <| LWP.ret ?_)
        unfold SZ; rw [show S % 340282366920938463463374607431768211456 % 18446744073709551616 = q % 18446744073709551616 by omega]
        exact ⟨[_, _], ⟨⟨_, _, rfl, rfl, rfl, .inl ⟨AggT.h, rfl⟩⟩, rfl, trivial⟩, rfl⟩
      · (refine LWP.seq <| rgN <| K.box rfl rfl rfl .plain <| K.box rfl rfl rfl .plain <| K.alloc rfl .plain ?_; refine kas rfl <| RunK.nil <| LWP.seq <| LWP.seq <| rgN <| kfa rfl rfl ?_; refine kl1 rfl rfl rfl <| keq rfl rfl (beq_iff_eq.2 (by omega)) <| RunK.nil <| LWP.condT rfl ?_; refine rgN <| K.loadAll rfl rfl rfl .plain ?_; refine K.loadAll rfl rfl rfl .plain ?_; refine K.storeAll rfl rfl rfl rfl rfl rfl .plain ?_; refine K.storeAll rfl rfl rfl rfl rfl rfl .plain ?_; refine RunK.nil <| LWP.seq <| LWP.seq <| rgN <| kfa rfl rfl ?_; refine kl1 rfl rfl rfl <| kne rfl rfl ((bne_eq_false_iff_eq.2 (by omega))) <| RunK.nil <| LWP.condF rfl ?_; refine LWP.skip ?_; refine LWP.seq <| rgN <| kfa rfl rfl ?_; refine kl1 rfl rfl rfl <| kfa rfl rfl ?_; refine kl1 rfl rfl rfl <| kca rfl rfl (mul64_spec _ _ _ p (by omega) (by omega) hp) <| kmv rfl <| kex rfl rfl <| kex rfl rfl <| kas rfl <| kas rfl <| RunK.nil <| LWP.seq <| rgN <| kfa rfl rfl ?_; refine kl1 rfl rfl rfl <| kfa rfl rfl ?_; refine kl1 rfl rfl rfl <| kca rfl rfl (mul64_spec _ _ _ q (by omega) (by omega) hq) <| kmv rfl <| kex rfl rfl <| kex rfl rfl <| kas rfl <| kas rfl <| RunK.nil <| LWP.seq <| rgN <| kmv rfl <| kmv rfl <| K.callN rfl rfl (add64 (s := S % 340282366920938463463374607431768211456 / 18446744073709551616) (t := (q / 18446744073709551616 + p % 18446744073709551616) / 18446744073709551616) (by omega) (by omega) (by omega)) rfl .plain <| kmv rfl ?_; refine kex rfl rfl <| kex rfl rfl <| kas rfl <| kas rfl <| RunK.nil <| LWP.seq <| rgN <| kmv rfl <| kmv rfl <| K.build rfl rfl (by exact rfl) (by exact nl2 rfl rfl rfl) .plain ?_; refine kmv rfl <| keq rfl rfl (beq_eq_false_iff_ne.2 (by omega)) <| kmv rfl <| RunK.passed rfl rfl rfl <| RunK.passed rfl rfl rfl <| kpf rfl rfl <| K.storeAll rfl rfl rfl rfl rfl rfl .plain ?_; refine kas rfl <| RunK.nil <| LWP.ret ?_)
        unfold SZ; rw [show S % 340282366920938463463374607431768211456 % 18446744073709551616 = q % 18446744073709551616 by omega]
        exact ⟨[_, _], ⟨⟨_, _, rfl, rfl, rfl, .inl ⟨AggT.h, rfl⟩⟩, rfl, trivial⟩, rfl⟩
  · have hN0 : N / 18446744073709551616 = 0 := by omega
    obtain ⟨p, hp⟩ : ∃ p, M / 18446744073709551616 * (N % 18446744073709551616) = p := ⟨_, rfl⟩
    obtain ⟨q, hq⟩ : ∃ q, M % 18446744073709551616 * (N % 18446744073709551616) = q := ⟨_, rfl⟩
    obtain ⟨S, hS⟩ : ∃ S, M * N = S := ⟨_, rfl⟩
    obtain ⟨c1, c2, c3, c4, c5⟩ := core _ _ _ p q S (by omega) (by omega) (by omega) hp hq (by
      rw [← hS, show M / 18446744073709551616 * 18446744073709551616 + M % 18446744073709551616 = M by omega, show N % 18446744073709551616 = N by omega])
    rw [hS] at hr ⊢
    by_cases hP : S < 340282366920938463463374607431768211456
    · rw [decide_eq_true hP] at hr
      subst hr
      (refine LWP.seq <| rgN <| K.box rfl rfl rfl .plain <| K.box rfl rfl rfl .plain <| K.alloc rfl .plain ?_; refine kas rfl <| RunK.nil <| LWP.seq <| LWP.seq <| rgN <| kfa rfl rfl ?_; refine kl1 rfl rfl rfl <| keq rfl rfl (beq_eq_false_iff_ne.2 (by omega)) <| RunK.nil <| LWP.condF rfl ?_; refine LWP.skip ?_; refine LWP.seq <| LWP.seq <| rgN <| kfa rfl rfl ?_; refine kl1 rfl rfl rfl <| kne rfl rfl ((bne_eq_false_iff_eq.2 (by omega))) <| RunK.nil <| LWP.condF rfl ?_; refine LWP.skip ?_; refine LWP.seq <| rgN <| kfa rfl rfl ?_; refine kl1 rfl rfl rfl <| kfa rfl rfl ?_; refine kl1 rfl rfl rfl <| kca rfl rfl (mul64_spec _ _ _ p (by omega) (by omega) hp) <| kmv rfl <| kex rfl rfl <| kex rfl rfl <| kas rfl <| kas rfl <| RunK.nil <| LWP.seq <| rgN <| kfa rfl rfl ?_; refine kl1 rfl rfl rfl <| kfa rfl rfl ?_; refine kl1 rfl rfl rfl <| kca rfl rfl (mul64_spec _ _ _ q (by omega) (by omega) hq) <| kmv rfl <| kex rfl rfl <| kex rfl rfl <| kas rfl <| kas rfl <| RunK.nil <| LWP.seq <| rgN <| kmv rfl <| kmv rfl <| K.callN rfl rfl (add64 (s := S % 340282366920938463463374607431768211456 / 18446744073709551616) (t := 0) (by omega) (by omega) (by omega)) rfl .plain <| kmv rfl ?_; refine kex rfl rfl <| kex rfl rfl <| kas rfl <| kas rfl <| RunK.nil <| LWP.seq <| rgN <| kmv rfl <| kmv rfl <| K.build rfl rfl (by exact rfl) (by exact nl2 rfl rfl rfl) .plain ?_; refine kmv rfl <| keq rfl rfl (beq_iff_eq.2 (by omega)) <| kmv rfl <| gmv rfl rfl rfl <| K.eql rfl rfl (beq_iff_eq.2 (by omega)) (.taken rfl rfl) ?_; refine kpt rfl rfl <| K.storeAll rfl rfl rfl rfl rfl rfl .plain ?_; refine kas rfl <| RunK.nil <| LWP.ret ?_)
      unfold SZ; rw [show S % 340282366920938463463374607431768211456 % 18446744073709551616 = q % 18446744073709551616 by omega]
      exact ⟨[_, _], ⟨⟨_, _, rfl, rfl, rfl, .inl ⟨AggT.h, rfl⟩⟩, rfl, trivial⟩, rfl⟩
    · rw [decide_eq_false hP] at hr
      subst hr
      by_cases ho : p / 18446744073709551616 = 0
      · (refine LWP.seq <| rgN <| K.box rfl rfl rfl .plain <| K.box rfl rfl rfl .plain <| K.alloc rfl .plain ?_; refine kas rfl <| RunK.nil <| LWP.seq <| LWP.seq <| rgN <| kfa rfl rfl ?_; refine kl1 rfl rfl rfl <| keq rfl rfl (beq_eq_false_iff_ne.2 (by omega)) <| RunK.nil <| LWP.condF rfl ?_; refine LWP.skip ?_; refine LWP.seq <| LWP.seq <| rgN <| kfa rfl rfl ?_; refine kl1 rfl rfl rfl <| kne rfl rfl ((bne_eq_false_iff_eq.2 (by omega))) <| RunK.nil <| LWP.condF rfl ?_; refine LWP.skip ?_; refine LWP.seq <| rgN <| kfa rfl rfl ?_; refine kl1 rfl rfl rfl <| kfa rfl rfl ?_; refine kl1 rfl rfl rfl <| kca rfl rfl (mul64_spec _ _ _ p (by omega) (by omega) hp) <| kmv rfl <| kex rfl rfl <| kex rfl rfl <| kas rfl <| kas rfl <| RunK.nil <| LWP.seq <| rgN <| kfa rfl rfl ?_; refine kl1 rfl rfl rfl <| kfa rfl rfl ?_; refine kl1 rfl rfl rfl <| kca rfl rfl (mul64_spec _ _ _ q (by omega) (by omega) hq) <| kmv rfl <| kex rfl rfl <| kex rfl rfl <| kas rfl <| kas rfl <| RunK.nil <| LWP.seq <| rgN <| kmv rfl <| kmv rfl <| K.callN rfl rfl (add64 (s := S % 340282366920938463463374607431768211456 / 18446744073709551616) (t := 1) (by omega) (by omega) (by omega)) rfl .plain <| kmv rfl ?_; refine kex rfl rfl <| kex rfl rfl <| kas rfl <| kas rfl <| RunK.nil <| LWP.seq <| rgN <| kmv rfl <| kmv rfl <| K.build rfl rfl (by exact rfl) (by exact nl2 rfl rfl rfl) .plain ?_; refine kmv rfl <| keq rfl rfl (beq_iff_eq.2 (by omega)) <| kmv rfl <| gmv rfl rfl rfl <| K.eql rfl rfl (beq_eq_false_iff_ne.2 (by omega)) (.taken rfl rfl) ?_; refine kpt rfl rfl <| K.storeAll rfl rfl rfl rfl rfl rfl .plain ?_; refine kas rfl <| RunK.nil <| LWP.ret ?_)
        unfold SZ; rw [show S % 340282366920938463463374607431768211456 % 18446744073709551616 = q % 18446744073709551616 by omega]
        exact ⟨[_, _], ⟨⟨_, _, rfl, rfl, rfl, .inl ⟨AggT.h, rfl⟩⟩, rfl, trivial⟩, rfl⟩
      · (refine LWP.seq <| rgN <| K.box rfl rfl rfl .plain <| K.box rfl rfl rfl .plain <| K.alloc rfl .plain ?_; refine kas rfl <| RunK.nil <| LWP.seq <| LWP.seq <| rgN <| kfa rfl rfl ?_; refine kl1 rfl rfl rfl <| keq rfl rfl (beq_eq_false_iff_ne.2 (by omega)) <| RunK.nil <| LWP.condF rfl ?_; refine LWP.skip ?_; refine LWP.seq <| LWP.seq <| rgN <| kfa rfl rfl ?_; refine kl1 rfl rfl rfl <| kne rfl rfl ((bne_eq_false_iff_eq.2 (by omega))) <| RunK.nil <| LWP.condF rfl ?_; refine LWP.skip ?_; refine LWP.seq <| rgN <| kfa rfl rfl ?_; refine kl1 rfl rfl rfl <| kfa rfl rfl ?_; refine kl1 rfl rfl rfl <| kca rfl rfl (mul64_spec _ _ _ p (by omega) (by omega) hp) <| kmv rfl <| kex rfl rfl <| kex rfl rfl <| kas rfl <| kas rfl <| RunK.nil <| LWP.seq <| rgN <| kfa rfl rfl ?_; refine kl1 rfl rfl rfl <| kfa rfl rfl ?_; refine kl1 rfl rfl rfl <| kca rfl rfl (mul64_spec _ _ _ q (by omega) (by omega) hq) <| kmv rfl <| kex rfl rfl <| kex rfl rfl <| kas rfl <| kas rfl <| RunK.nil <| LWP.seq <| rgN <| kmv rfl <| kmv rfl <| K.callN rfl rfl (add64 (s := S % 340282366920938463463374607431768211456 / 18446744073709551616) (t := (q / 18446744073709551616 + p % 18446744073709551616) / 18446744073709551616) (by omega) (by omega) (by omega)) rfl .plain <| kmv rfl ?_; refine kex rfl rfl <| kex rfl rfl <| kas rfl <| kas rfl <| RunK.nil <| LWP.seq <| rgN <| kmv rfl <| kmv rfl <| K.build rfl rfl (by exact rfl) (by exact nl2 rfl rfl rfl) .plain ?_; refine kmv rfl <| keq rfl rfl (beq_eq_false_iff_ne.2 (by omega)) <| kmv rfl <| RunK.passed rfl rfl rfl <| RunK.passed rfl rfl rfl <| kpf rfl rfl <| K.storeAll rfl rfl rfl rfl rfl rfl .plain ?_; refine kas rfl <| RunK.nil <| LWP.ret ?_)
        unfold SZ; rw [show S % 340282366920938463463374607431768211456 % 18446744073709551616 = q % 18446744073709551616 by omega]
        exact ⟨[_, _], ⟨⟨_, _, rfl, rfl, rfl, .inl ⟨AggT.h, rfl⟩⟩, rfl, trivial⟩, rfl⟩
theorem times_far (M N : Int) (hM : In2 M) (hN : In2 N) (h1 : 18446744073709551616 ≤ M) (h2 : 18446744073709551616 ≤ N) :
    PSpec Tryz.prog X 141 [LZ M, LZ N] (.tup [.agg [.val (.int .u64 0), .val (.int .u64 0)], Sb false]) := by
  unfold In2 at *
  refine PSpec.intro Tryz.func141 rfl (by kernel_rfl) rfl rfl ?_
  intro C
  (refine LWP.seq <| rgN <| K.box rfl rfl rfl .plain <| K.box rfl rfl rfl .plain <| K.alloc rfl .plain ?_; refine kas rfl <| RunK.nil <| LWP.seq <| LWP.seq <| rgN <| kfa rfl rfl ?_; refine kl1 rfl rfl rfl <| keq rfl rfl (beq_eq_false_iff_ne.2 (by omega)) <| RunK.nil <| LWP.condF rfl ?_; refine LWP.skip ?_; refine LWP.seq <| LWP.seq <| rgN <| kfa rfl rfl ?_; refine kl1 rfl rfl rfl <| kne rfl rfl (bne_iff_ne.2 (by omega)) <| RunK.nil <| LWP.condT rfl ?_; refine LWP.seq <| rgN <| K.build rfl rfl (by exact rfl) (by exact nl2 rfl rfl rfl) .plain ?_; refine K.storeAll rfl rfl rfl rfl rfl rfl .plain ?_; refine kas rfl <| RunK.nil <| LWP.ret ?_)
  exact ⟨[_, _], ⟨⟨_, _, rfl, rfl, rfl, .inl ⟨AggT.h, rfl⟩⟩, rfl, trivial⟩, rfl⟩
end Go.Proofs.YtamplgnbbanamaaGreatDoor
end
section
namespace Go.Proofs.YtamplgnbbanamaaGreatDoor
open Go Go.Lg Go.Lg.Arith
variable (X : Nat → Option Obj)
theorem Mul_arg (b c : Bool) (M N : Int) (hM : In2 M) (hN : In2 N) (hf : (formB b M && formB c N) = false) : PSpec Tryz.prog X 110 [LI b M, LI c N] (.tup [S0, Sn .i64 1]) := by
  refine PSpec.intro Tryz.func110 rfl (by kernel_rfl) rfl rfl ?_
  intro C
  (refine LWP.seq <| rgN <| K.box rfl rfl rfl .plain <| K.box rfl rfl rfl .plain <| K.alloc rfl .plain ?_; refine kas rfl <| RunK.nil <| LWP.seq <| LWP.seq <| rgN <| K.loadAll rfl rfl rfl .plain ?_; refine K.loadAll rfl rfl rfl .plain ?_; refine kca rfl rfl (bothForm_spec _ _ _ _ _ hM hN _ hf) <| K.not rfl rfl .plain <| RunK.nil <| LWP.condT rfl ?_; refine LWP.seq <| rgN <| K.build rfl rfl (by exact rfl) (by exact nl3 rfl rfl rfl rfl) .plain ?_; refine K.storeAll rfl rfl rfl rfl rfl rfl .plain ?_; refine kas rfl <| RunK.nil <| LWP.ret ?_)
  exact ⟨[_, _], ⟨⟨_, _, rfl, rfl, rfl, .inl ⟨AggT.h, rfl⟩⟩, rfl, trivial⟩, rfl⟩
theorem zv_mul (x y : Int) : zv (decide (x < 0) != decide (y < 0)) (mg x * mg y) = x * y := by
  unfold zv mg
  by_cases cx : x < 0 <;> by_cases cy : y < 0 <;> simp [cx, cy, Int.neg_mul, Int.mul_neg]
theorem range_zv {b : Bool} {N : Int} (hN : 0 ≤ N) : R127 (zv b N) ↔ N < 170141183460469231731687303715884105728 := by
  unfold R127 zv
  cases b <;> simp <;> omega
theorem Mul_q (x y : Int) (hx : R127 x) (hy : R127 y) : PSpec Tryz.prog X 110 [LQ x, LQ y] (addR (x * y)) := by
  have hf := both_q hx hy
  have hB := bothForm_spec X _ _ _ _ (mg_in2 hx) (mg_in2 hy) true hf
  have hz := zv_mul x y
  have hp0 : 0 ≤ mg x * mg y := Int.mul_nonneg (mg_nonneg x) (mg_nonneg y)
  have hrange := range_zv (b := decide (x < 0) != decide (y < 0)) hp0
  rw [hz] at hrange
  by_cases hfar : 18446744073709551616 ≤ mg x ∧ 18446744073709551616 ≤ mg y
  · have hm := Int.mul_le_mul hfar.1 hfar.2 (by decide) (by omega : (0 : Int) ≤ mg x)
    rw [addR_out (by rw [hrange]; omega)]
    refine PSpec.intro Tryz.func110 rfl (by kernel_rfl) rfl rfl ?_
    intro C
    (refine LWP.seq <| rgN <| K.box rfl rfl rfl .plain <| K.box rfl rfl rfl .plain <| K.alloc rfl .plain ?_; refine kas rfl <| RunK.nil <| LWP.seq <| LWP.seq <| rgN <| K.loadAll rfl rfl rfl .plain ?_; refine K.loadAll rfl rfl rfl .plain ?_; refine kca rfl rfl (hB) <| K.not rfl rfl .plain <| RunK.nil <| LWP.condF rfl ?_; refine LWP.skip ?_; refine LWP.seq <| rgD mixed <| K.loadAll rfl rfl rfl .plain ?_; refine kca rfl rfl (sizeOf_spec _ _ _ _) <| K.loadAll rfl rfl rfl .plain ?_; refine kca rfl rfl (sizeOf_spec _ _ _ _) <| kca rfl rfl (times_far _ _ _ (mg_in2 hx) (mg_in2 hy) hfar.1 hfar.2) <| kmv rfl <| kex rfl rfl <| kex rfl rfl <| K.alloc rfl .plain ?_; refine K.storeAll rfl rfl rfl rfl rfl rfl .plain ?_; refine kas rfl <| RunK.nil <| rgA ?_; refine LWP.seq <| LWP.seq <| rgN <| kmv rfl <| K.not rfl rfl .plain <| RunK.nil <| LWP.condT rfl ?_; refine LWP.seq <| rgN <| K.build rfl rfl (by exact rfl) (by exact nl3 rfl rfl rfl rfl) .plain ?_; refine K.storeAll rfl rfl rfl rfl rfl rfl .plain ?_; refine kas rfl <| RunK.nil <| LWP.ret ?_)
    exact ⟨[_, _], ⟨⟨_, _, rfl, rfl, rfl, .inl ⟨AggT.h, rfl⟩⟩, rfl, trivial⟩, rfl⟩
  · have ht := times_spec X (mg x) (mg y) (mg_in2 hx) (mg_in2 hy) (by omega)
    by_cases hbig : mg x * mg y < 340282366920938463463374607431768211456
    · have ht' := ht true (decide_eq_true hbig)
      have e : mg x * mg y % 340282366920938463463374607431768211456 = mg x * mg y := by omega
      rw [e] at ht'
      by_cases hfit : mg x * mg y < 170141183460469231731687303715884105728
      · rw [addR_in (hrange.2 hfit), ← tup_q hp0 hz]
        have hb := bounded_ok X (decide (x < 0) != decide (y < 0)) (mg x * mg y) ⟨hp0, hfit⟩ _ rfl
        refine PSpec.intro Tryz.func110 rfl (by kernel_rfl) rfl rfl ?_
        intro C
        (refine LWP.seq <| rgN <| K.box rfl rfl rfl .plain <| K.box rfl rfl rfl .plain <| K.alloc rfl .plain ?_; refine kas rfl <| RunK.nil <| LWP.seq <| LWP.seq <| rgN <| K.loadAll rfl rfl rfl .plain ?_; refine K.loadAll rfl rfl rfl .plain ?_; refine kca rfl rfl (hB) <| K.not rfl rfl .plain <| RunK.nil <| LWP.condF rfl ?_; refine LWP.skip ?_; refine LWP.seq <| rgD mixed <| K.loadAll rfl rfl rfl .plain ?_; refine kca rfl rfl (sizeOf_spec _ _ _ _) <| K.loadAll rfl rfl rfl .plain ?_; refine kca rfl rfl (sizeOf_spec _ _ _ _) <| kca rfl rfl (ht') <| kmv rfl <| kex rfl rfl <| kex rfl rfl <| K.alloc rfl .plain ?_; refine K.storeAll rfl rfl rfl rfl rfl rfl .plain ?_; refine kas rfl <| RunK.nil <| rgA ?_; refine LWP.seq <| LWP.seq <| rgN <| kmv rfl <| K.not rfl rfl .plain <| RunK.nil <| LWP.condF rfl ?_; refine LWP.skip ?_; refine LWP.seq <| rgN <| kfa rfl rfl ?_; refine kl1 rfl rfl rfl <| kfa rfl rfl ?_; refine kl1 rfl rfl rfl <| K.neqB rfl rfl rfl .plain <| K.loadAll rfl rfl rfl .plain ?_; refine kca rfl rfl (hb) <| kex rfl rfl <| kex rfl rfl <| K.storeAll rfl rfl rfl rfl rfl rfl .plain ?_; refine kas rfl <| RunK.nil <| LWP.ret ?_)
        exact ⟨[_, _], ⟨⟨_, _, rfl, rfl, rfl, .inl ⟨AggT.h, rfl⟩⟩, rfl, trivial⟩, rfl⟩
      · rw [addR_out (by rw [hrange]; omega)]
        have hb := bounded_no X (decide (x < 0) != decide (y < 0)) (mg x * mg y) (by omega) ⟨hp0, hbig⟩
        refine PSpec.intro Tryz.func110 rfl (by kernel_rfl) rfl rfl ?_
        intro C
        (refine LWP.seq <| rgN <| K.box rfl rfl rfl .plain <| K.box rfl rfl rfl .plain <| K.alloc rfl .plain ?_; refine kas rfl <| RunK.nil <| LWP.seq <| LWP.seq <| rgN <| K.loadAll rfl rfl rfl .plain ?_; refine K.loadAll rfl rfl rfl .plain ?_; refine kca rfl rfl (hB) <| K.not rfl rfl .plain <| RunK.nil <| LWP.condF rfl ?_; refine LWP.skip ?_; refine LWP.seq <| rgD mixed <| K.loadAll rfl rfl rfl .plain ?_; refine kca rfl rfl (sizeOf_spec _ _ _ _) <| K.loadAll rfl rfl rfl .plain ?_; refine kca rfl rfl (sizeOf_spec _ _ _ _) <| kca rfl rfl (ht') <| kmv rfl <| kex rfl rfl <| kex rfl rfl <| K.alloc rfl .plain ?_; refine K.storeAll rfl rfl rfl rfl rfl rfl .plain ?_; refine kas rfl <| RunK.nil <| rgA ?_; refine LWP.seq <| LWP.seq <| rgN <| kmv rfl <| K.not rfl rfl .plain <| RunK.nil <| LWP.condF rfl ?_; refine LWP.skip ?_; refine LWP.seq <| rgN <| kfa rfl rfl ?_; refine kl1 rfl rfl rfl <| kfa rfl rfl ?_; refine kl1 rfl rfl rfl <| K.neqB rfl rfl rfl .plain <| K.loadAll rfl rfl rfl .plain ?_; refine kca rfl rfl (hb) <| kex rfl rfl <| kex rfl rfl <| K.storeAll rfl rfl rfl rfl rfl rfl .plain ?_; refine kas rfl <| RunK.nil <| LWP.ret ?_)
        exact ⟨[_, _], ⟨⟨_, _, rfl, rfl, rfl, .inl ⟨AggT.h, rfl⟩⟩, rfl, trivial⟩, rfl⟩
    · have ht' := ht false (decide_eq_false hbig)
      rw [addR_out (by rw [hrange]; omega)]
      refine PSpec.intro Tryz.func110 rfl (by kernel_rfl) rfl rfl ?_
      intro C
      (refine LWP.seq <| rgN <| K.box rfl rfl rfl .plain <| K.box rfl rfl rfl .plain <| K.alloc rfl .plain ?_; refine kas rfl <| RunK.nil <| LWP.seq <| LWP.seq <| rgN <| K.loadAll rfl rfl rfl .plain ?_; refine K.loadAll rfl rfl rfl .plain ?_; refine kca rfl rfl (hB) <| K.not rfl rfl .plain <| RunK.nil <| LWP.condF rfl ?_; refine LWP.skip ?_; refine LWP.seq <| rgD mixed <| K.loadAll rfl rfl rfl .plain ?_; refine kca rfl rfl (sizeOf_spec _ _ _ _) <| K.loadAll rfl rfl rfl .plain ?_; refine kca rfl rfl (sizeOf_spec _ _ _ _) <| kca rfl rfl (ht') <| kmv rfl <| kex rfl rfl <| kex rfl rfl <| K.alloc rfl .plain ?_; refine K.storeAll rfl rfl rfl rfl rfl rfl .plain ?_; refine kas rfl <| RunK.nil <| rgA ?_; refine LWP.seq <| LWP.seq <| rgN <| kmv rfl <| K.not rfl rfl .plain <| RunK.nil <| LWP.condT rfl ?_; refine LWP.seq <| rgN <| K.build rfl rfl (by exact rfl) (by exact nl3 rfl rfl rfl rfl) .plain ?_; refine K.storeAll rfl rfl rfl rfl rfl rfl .plain ?_; refine kas rfl <| RunK.nil <| LWP.ret ?_)
      exact ⟨[_, _], ⟨⟨_, _, rfl, rfl, rfl, .inl ⟨AggT.h, rfl⟩⟩, rfl, trivial⟩, rfl⟩
end Go.Proofs.YtamplgnbbanamaaGreatDoor
end
section
namespace Go.Proofs.YtamplgnbbanamaaGreatDoor
open Go Go.Lg Go.Lg.Arith
variable (X : Nat → Option Obj)
def lzOf (y : Int) : Nat := 64 - Lib.bitLen y.toNat
theorem lzOf_spec {y : Int} (hy : 0 < y ∧ y < 18446744073709551616) : lzOf y ≤ 63 ∧ 9223372036854775808 ≤ y * 2 ^ lzOf y ∧ y * 2 ^ lzOf y < 18446744073709551616 := by
  obtain ⟨n, rfl⟩ := Int.eq_ofNat_of_zero_le (Int.le_of_lt hy.1)
  have hb := Lib.bitLenAux_bounds 64 n (by have := hy.2; omega) (by have := hy.1; omega)
  have hle : Lib.bitLen n ≤ 64 := Lib.bitLen_le n 64 (by decide) (by have := hy.2; omega)
  change 1 ≤ Lib.bitLen n ∧ 2 ^ (Lib.bitLen n - 1) ≤ n ∧ n < 2 ^ Lib.bitLen n at hb
  have e : lzOf (n : Int) = 64 - Lib.bitLen n := by simp [lzOf]
  rw [e]
  generalize Lib.bitLen n = k at *
  obtain ⟨h1, h2, h3⟩ := hb
  have m1 := Nat.mul_le_mul_right (2 ^ (64 - k)) h2
  have m2 := Nat.mul_lt_mul_of_pos_right h3 (Nat.two_pow_pos (64 - k))
  rw [← Nat.pow_add, show k - 1 + (64 - k) = 63 by omega] at m1
  rw [← Nat.pow_add, show k + (64 - k) = 64 by omega] at m2
  have ec : ((n : Int) * 2 ^ (64 - k)) = ((n * 2 ^ (64 - k) : Nat) : Int) := by rw [Int.natCast_mul, Int.natCast_pow]; rfl
  rw [ec]
  exact ⟨by omega, by omega, by omega⟩
theorem lz_spec (y : Int) (hy : 0 ≤ y ∧ y < 18446744073709551616) : PSpec Tryz.prog X 169 [Ln .u64 y] (Ln .i64 (lzOf y : Nat)) := by
  refine PSpec.ofCalls (vals := [.int .u64 y]) (v := .int .i64 (lzOf y : Nat)) (by kernel_rfl) rfl rfl (fun w _ => ?_)
  refine (Tryz.bits_LeadingZeros64 y w hy.1 (by omega)).mono ?_
  rintro e w' ⟨rfl, rfl⟩
  refine ⟨?_, rfl⟩
  have hle : Lib.bitLen y.toNat ≤ 64 := Lib.bitLen_le _ 64 (by decide) (by have := hy.2; omega)
  have : ((lzOf y : Nat) : Int) = 64 - (Lib.bitLen y.toNat : Int) := by unfold lzOf; omega
  rw [this]
set_option maxHeartbeats 1000000 in
theorem Div64_spec (hi lo y : Int) (hh : 0 ≤ hi ∧ hi < y) (hl : 0 ≤ lo ∧ lo < 18446744073709551616) (hy : y < 18446744073709551616) :
    PSpec Tryz.prog X 159 [Ln .u64 hi, Ln .u64 lo, Ln .u64 y] (.tup [Sn .u64 ((hi * 18446744073709551616 + lo) / y), Sn .u64 ((hi * 18446744073709551616 + lo) % y)]) := by
  have hlz := lz_spec X y (by omega)
  obtain ⟨hs, hY1, hY2⟩ := lzOf_spec (y := y) (by omega)
  generalize lzOf y = s at hlz hs hY1 hY2
  have hE : (0 : Int) < 2 ^ s := Int.pow_pos (by decide)
  have hF : (0 : Int) < 2 ^ (64 - s) := Int.pow_pos (by decide)
  have hEF := pow_split (s := s) (by omega)
  have hsh := shift2 (hi := hi) (lo := lo) hE hF hEF hl.1
  have hsc := scale (N := hi * 18446744073709551616 + lo) (y := y) hE (by omega)
  have hlo2 : 0 ≤ lo / 2 ^ (64 - s) ∧ lo / 2 ^ (64 - s) < 2 ^ s := by
    refine ⟨Int.ediv_nonneg hl.1 (Int.le_of_lt hF), ?_⟩
    rw [Int.ediv_lt_iff_lt_mul hF, hEF]; exact hl.2
  have hhi2 : 0 ≤ hi ∧ hi * 2 ^ s < 18446744073709551616 := by
    refine ⟨hh.1, ?_⟩
    have := Int.mul_le_mul_of_nonneg_right (Int.le_of_lt hh.2) (Int.le_of_lt hE)
    omega
  have hhi3 : 0 ≤ hi * 2 ^ s := Int.mul_nonneg hh.1 (Int.le_of_lt hE)
  obtain ⟨Y, hY⟩ : ∃ Y, y * 2 ^ s = Y := ⟨_, rfl⟩
  obtain ⟨U, hU⟩ : ∃ U, hi * 2 ^ s + lo / 2 ^ (64 - s) = U := ⟨_, rfl⟩
  obtain ⟨V, hV⟩ : ∃ V, lo * 2 ^ s % 18446744073709551616 = V := ⟨_, rfl⟩
  have hV0 : 0 ≤ V ∧ V < 18446744073709551616 := by omega
  have hUY : U < Y := by
    have h1 : (hi * 18446744073709551616 + lo) * 2 ^ s < (y * 18446744073709551616) * 2 ^ s := Int.mul_lt_mul_of_pos_right (by omega) hE
    rw [Int.mul_right_comm] at h1
    rw [hY] at h1
    rw [hsh, hU, hV] at h1
    omega
  have hU0 : 0 ≤ U := by omega
  rw [hsh, hU, hV, hY] at hsc
  rw [hY] at hY1 hY2
  have ka1 : KArg (Y / 4294967296) (Y % 4294967296) U (V / 4294967296) := ⟨by omega, by omega, by omega, by omega⟩
  have eY : Y / 4294967296 * 4294967296 + Y % 4294967296 = Y := by omega
  have ks1 := k_start ka1
  have kq1 : ∀ q r, KInv (Y / 4294967296) (Y % 4294967296) U (V / 4294967296) q r → q * Y ≤ U * 4294967296 + V / 4294967296 → q = (U * 4294967296 + V / 4294967296) / Y ∧ U * 4294967296 + V / 4294967296 - q * Y = (U * 4294967296 + V / 4294967296) % Y := by
    intro q r k he
    have := k_quo ka1 k (by rw [eY]; exact he)
    rw [eY] at this
    exact this
  refine PSpec.intro Tryz.func159 rfl (by kernel_rfl) rfl rfl ?_
  intro C
  by_cases hz : hi = 0
  · subst hz
    (refine LWP.seq <| rgN <| kas rfl <| kas rfl <| RunK.nil <| LWP.seq <| LWP.seq <| rgN <| kmv rfl <| keq rfl rfl (beq_eq_false_iff_ne.2 (by omega)) <| RunK.nil <| LWP.condF rfl ?_; refine LWP.skip ?_; refine LWP.seq <| LWP.seq <| rgN <| kmv rfl <| kmv rfl <| K.leq rfl rfl (decide_eq_false (by omega)) .plain <| RunK.nil <| LWP.condF rfl ?_; refine LWP.skip ?_; refine LWP.seq <| LWP.seq <| rgN <| kmv rfl <| keq rfl rfl (beq_iff_eq.2 (by omega)) <| RunK.nil <| LWP.condT rfl ?_; refine LWP.seq <| rgD mixed <| kmv rfl <| kmv rfl <| K.quo rfl rfl (by omega) (quo_u64 (by omega) (by omega)) .plain <| kmv rfl <| kmv rfl <| K.rem rfl rfl (by omega) (rem_pos (by omega)) .plain <| kas rfl <| kas rfl <| RunK.nil <| rgA ?_; refine LWP.ret ?_)
    exact ⟨[_, _], ⟨rfl, rfl, trivial⟩, by simp [resOf]⟩
  · have hm1 : 0 ≤ U / (Y / 4294967296) * (Y / 4294967296) ∧ U / (Y / 4294967296) * (Y / 4294967296) ≤ U := by have := ks1.r0; have := ks1.eq; exact ⟨Int.mul_nonneg ks1.q0 (by omega), by omega⟩
    (refine LWP.seq <| rgN <| kas rfl <| kas rfl <| RunK.nil <| LWP.seq <| LWP.seq <| rgN <| kmv rfl <| keq rfl rfl (beq_eq_false_iff_ne.2 (by omega)) <| RunK.nil <| LWP.condF rfl ?_; refine LWP.skip ?_; refine LWP.seq <| LWP.seq <| rgN <| kmv rfl <| kmv rfl <| K.leq rfl rfl (decide_eq_false (by omega)) .plain <| RunK.nil <| LWP.condF rfl ?_; refine LWP.skip ?_; refine LWP.seq <| LWP.seq <| rgN <| kmv rfl <| keq rfl rfl (beq_eq_false_iff_ne.2 (by omega)) <| RunK.nil <| LWP.condF rfl ?_; refine LWP.skip ?_; refine LWP.seq <| rgN <| kmv rfl <| kca rfl rfl (hlz) <| kcv rfl (by exact wrap_u64 (by omega)) ?_; refine kas rfl <| RunK.nil <| LWP.seq <| rgN <| kmv rfl <| kmv rfl <| K.shl rfl rfl (by omega) (shl_s (by omega) hY (by omega)) .plain <| kas rfl <| RunK.nil <| LWP.seq <| rgN <| kmv rfl <| K.shr rfl rfl (by omega) (shr_32 _) .plain <| kas rfl ?_; refine RunK.nil <| LWP.seq <| rgN <| kmv rfl <| K.bitop (by simp) rfl rfl (and_32 (by omega)) .plain <| kas rfl <| RunK.nil <| LWP.seq <| rgN <| kmv rfl <| kmv rfl <| K.shl rfl rfl (by omega) (shl_s (by omega) rfl ⟨hhi3, hhi2.2⟩) .plain <| kmv rfl <| kmv rfl ?_; refine K.sub rfl rfl (wrap_u64 (by omega)) .plain <| K.shr rfl rfl (by omega) (shr_64s (by omega)) .plain <| K.bitop (by simp) rfl rfl (or_apart' (by omega) hhi2 hlo2 hU) .plain <| kas rfl <| RunK.nil <| LWP.seq <| rgN <| kmv rfl <| kmv rfl <| K.shl rfl rfl (by omega) ((shl_mod (by omega)).trans hV) .plain <| kas rfl <| RunK.nil <| LWP.seq <| rgN ?_; refine kmv rfl <| K.shr rfl rfl (by omega) (shr_32 _) .plain <| kas rfl <| RunK.nil <| LWP.seq <| rgN <| kmv rfl <| K.bitop (by simp) rfl rfl (and_32 (by omega)) .plain <| kas rfl <| RunK.nil <| LWP.seq <| rgN <| kmv rfl <| kmv rfl ?_; refine K.quo rfl rfl (by omega) (quo_u64 (by omega) (by omega)) .plain <| kas rfl <| RunK.nil <| LWP.seq <| rgN <| kmv rfl <| kmv rfl <| kmv rfl <| K.mul rfl rfl (wrap_u64 (by omega)) .plain <| K.sub rfl rfl (wrap_u64 (by omega)) .plain <| kas rfl <| RunK.nil <| LWP.seq <| LWP.block ?_)
    have hy1 : U - U / (Y / 4294967296) * (Y / 4294967296) < Y / 4294967296 := by
      have h2 := Int.emod_add_mul_ediv U (Y / 4294967296)
      have h3 := Int.emod_lt_of_pos U (show 0 < Y / 4294967296 by omega)
      rw [Int.mul_comm] at h2
      omega
    refine LWP.meet (fun σ => ∃ q r : Int, q = (U * 4294967296 + V / 4294967296) / Y ∧ σ = ⟨[(2, Ln .u64 Y), (8, Ln .u64 s), (9, Ln .u64 (Y / 4294967296)), (10, Ln .u64 (Y % 4294967296)), (11, Ln .u64 U), (13, Ln .u64 (V / 4294967296)), (14, Ln .u64 (V % 4294967296)), (15, Ln .u64 q), (16, Ln .u64 r)], [], X⟩) ?_ ?_
    · refine LWP.loop (fun m σ => ∃ q r : Int, KInv (Y / 4294967296) (Y % 4294967296) U (V / 4294967296) q r ∧ r < 4294967296 ∧ m = q.toNat ∧ σ = ⟨[(2, Ln .u64 Y), (8, Ln .u64 s), (9, Ln .u64 (Y / 4294967296)), (10, Ln .u64 (Y % 4294967296)), (11, Ln .u64 U), (13, Ln .u64 (V / 4294967296)), (14, Ln .u64 (V % 4294967296)), (15, Ln .u64 q), (16, Ln .u64 r)], [], X⟩) (U / (Y / 4294967296)).toNat
        ⟨_, Le.of (by exact ⟨rfl, rfl, rfl, rfl, rfl, rfl, rfl, rfl, rfl, trivial⟩) (by exact trivial) (by exact rfl) (by exact rfl) (by exact rfl), _, _, ks1, by omega, rfl, rfl⟩ ?_
      rintro m σ ⟨q, r, k, hr, rfl, rfl⟩
      have hq0 := k.q0
      have hr0 := k.r0
      have hqU : q ≤ U := by
        have := k.eq
        have := Int.mul_le_mul_of_nonneg_left (show (1 : Int) ≤ Y / 4294967296 by omega) hq0
        omega
      have next : ∀ q' r', KInv (Y / 4294967296) (Y % 4294967296) U (V / 4294967296) q' r' → 4294967296 ≤ r' → q' = (U * 4294967296 + V / 4294967296) / Y := fun q' r' k' h' => (kq1 q' r' k' (by have := k_break ka1 k' h'; rwa [eY] at this)).1
      by_cases hq : 4294967296 ≤ q
      · have k' := k_big ka1 k hq
        have hrn := next _ _ k'
        by_cases hr2 : 4294967296 ≤ r + Y / 4294967296
        · (refine LWP.seq <| LWP.seq <| rgN <| kmv rfl <| K.geq rfl rfl (decide_eq_true (by omega)) .plain <| kmv rfl <| RunK.passed rfl rfl rfl <| RunK.passed rfl rfl rfl <| RunK.passed rfl rfl rfl <| RunK.passed rfl rfl rfl <| RunK.passed rfl rfl rfl <| RunK.passed rfl rfl rfl <| RunK.passed rfl rfl rfl <| RunK.passed rfl rfl rfl ?_; refine kpt rfl rfl <| RunK.nil <| LWP.condT rfl ?_; refine LWP.skip ?_; refine LWP.block <| LWP.seq <| rgN <| kmv rfl <| K.sub rfl rfl (wrap_u64 (by omega)) .plain <| kas rfl <| RunK.nil <| LWP.seq <| rgN <| kmv rfl <| kmv rfl <| kad rfl rfl (wrap_u64 (by omega)) <| kas rfl <| RunK.nil ?_; refine LWP.seq <| rgN <| kmv rfl <| K.geq rfl rfl (decide_eq_true (by omega)) .plain <| RunK.nil <| LWP.condT rfl ?_; refine LWP.exit ?_)
          exact ⟨_, Le.of (by exact ⟨rfl, rfl, rfl, rfl, rfl, rfl, rfl, rfl, rfl, trivial⟩) (by exact trivial) (by exact rfl) (by exact rfl) (by exact rfl), _, _, hrn hr2, rfl⟩
        · (refine LWP.seq <| LWP.seq <| rgN <| kmv rfl <| K.geq rfl rfl (decide_eq_true (by omega)) .plain <| kmv rfl <| RunK.passed rfl rfl rfl <| RunK.passed rfl rfl rfl <| RunK.passed rfl rfl rfl <| RunK.passed rfl rfl rfl <| RunK.passed rfl rfl rfl <| RunK.passed rfl rfl rfl <| RunK.passed rfl rfl rfl <| RunK.passed rfl rfl rfl ?_; refine kpt rfl rfl <| RunK.nil <| LWP.condT rfl ?_; refine LWP.skip ?_; refine LWP.block <| LWP.seq <| rgN <| kmv rfl <| K.sub rfl rfl (wrap_u64 (by omega)) .plain <| kas rfl <| RunK.nil <| LWP.seq <| rgN <| kmv rfl <| kmv rfl <| kad rfl rfl (wrap_u64 (by omega)) <| kas rfl <| RunK.nil ?_; refine LWP.seq <| rgN <| kmv rfl <| K.geq rfl rfl (decide_eq_false (by omega)) .plain <| RunK.nil <| LWP.condF rfl ?_; refine LWP.skip ?_)
          exact ⟨_, _, by omega, Le.of (by exact ⟨rfl, rfl, rfl, rfl, rfl, rfl, rfl, rfl, rfl, trivial⟩) (by exact trivial) (by exact rfl) (by exact rfl) (by exact rfl), _, _, k', by omega, rfl, rfl⟩
      · have hqy := mul_bound (a := q) (b := Y % 4294967296) (A := 4294967295) (B := 4294967295) ⟨hq0, by omega⟩ ⟨by omega, by omega⟩
        by_cases hb : 4294967296 * r + V / 4294967296 < q * (Y % 4294967296)
        · have k' := k_high ka1 k hb
          have hrn := next _ _ k'
          have hq1 : 1 ≤ q := by have := k'.q0; omega
          by_cases hr2 : 4294967296 ≤ r + Y / 4294967296
          · (refine LWP.seq <| LWP.seq <| rgN <| kmv rfl <| K.geq rfl rfl (decide_eq_false (by omega)) .plain <| kmv rfl <| gmv rfl rfl rfl <| gmv rfl rfl rfl <| K.mul rfl rfl (wrap_u64 (by omega)) (.taken rfl rfl) ?_; refine gmv rfl rfl rfl <| K.mul rfl rfl (wrap_u64 (by omega)) (.taken rfl rfl) ?_; refine gmv rfl rfl rfl <| K.add rfl rfl (wrap_u64 (by omega)) (.taken rfl rfl) ?_; refine K.gtr rfl rfl (decide_eq_true (by omega)) (.taken rfl rfl) ?_; refine kpf rfl rfl <| RunK.nil <| LWP.condT rfl ?_; refine LWP.skip ?_; refine LWP.block <| LWP.seq <| rgN <| kmv rfl <| K.sub rfl rfl (wrap_u64 (by omega)) .plain <| kas rfl <| RunK.nil <| LWP.seq <| rgN <| kmv rfl <| kmv rfl <| kad rfl rfl (wrap_u64 (by omega)) <| kas rfl <| RunK.nil ?_; refine LWP.seq <| rgN <| kmv rfl <| K.geq rfl rfl (decide_eq_true (by omega)) .plain <| RunK.nil <| LWP.condT rfl ?_; refine LWP.exit ?_)
            exact ⟨_, Le.of (by exact ⟨rfl, rfl, rfl, rfl, rfl, rfl, rfl, rfl, rfl, trivial⟩) (by exact trivial) (by exact rfl) (by exact rfl) (by exact rfl), _, _, hrn hr2, rfl⟩
          · (refine LWP.seq <| LWP.seq <| rgN <| kmv rfl <| K.geq rfl rfl (decide_eq_false (by omega)) .plain <| kmv rfl <| gmv rfl rfl rfl <| gmv rfl rfl rfl <| K.mul rfl rfl (wrap_u64 (by omega)) (.taken rfl rfl) ?_; refine gmv rfl rfl rfl <| K.mul rfl rfl (wrap_u64 (by omega)) (.taken rfl rfl) ?_; refine gmv rfl rfl rfl <| K.add rfl rfl (wrap_u64 (by omega)) (.taken rfl rfl) ?_; refine K.gtr rfl rfl (decide_eq_true (by omega)) (.taken rfl rfl) ?_; refine kpf rfl rfl <| RunK.nil <| LWP.condT rfl ?_; refine LWP.skip ?_; refine LWP.block <| LWP.seq <| rgN <| kmv rfl <| K.sub rfl rfl (wrap_u64 (by omega)) .plain <| kas rfl <| RunK.nil <| LWP.seq <| rgN <| kmv rfl <| kmv rfl <| kad rfl rfl (wrap_u64 (by omega)) <| kas rfl <| RunK.nil ?_; refine LWP.seq <| rgN <| kmv rfl <| K.geq rfl rfl (decide_eq_false (by omega)) .plain <| RunK.nil <| LWP.condF rfl ?_; refine LWP.skip ?_)
            exact ⟨_, _, by omega, Le.of (by exact ⟨rfl, rfl, rfl, rfl, rfl, rfl, rfl, rfl, rfl, trivial⟩) (by exact trivial) (by exact rfl) (by exact rfl) (by exact rfl), _, _, k', by omega, rfl, rfl⟩
        · (refine LWP.seq <| LWP.seq <| rgN <| kmv rfl <| K.geq rfl rfl (decide_eq_false (by omega)) .plain <| kmv rfl <| gmv rfl rfl rfl <| gmv rfl rfl rfl <| K.mul rfl rfl (wrap_u64 (by omega)) (.taken rfl rfl) ?_; refine gmv rfl rfl rfl <| K.mul rfl rfl (wrap_u64 (by omega)) (.taken rfl rfl) ?_; refine gmv rfl rfl rfl <| K.add rfl rfl (wrap_u64 (by omega)) (.taken rfl rfl) ?_; refine K.gtr rfl rfl (decide_eq_false (by omega)) (.taken rfl rfl) ?_; refine kpf rfl rfl <| RunK.nil <| LWP.condF rfl ?_; refine LWP.exit ?_)
          exact ⟨_, Le.of (by exact ⟨rfl, rfl, rfl, rfl, rfl, rfl, rfl, rfl, rfl, trivial⟩) (by exact trivial) (by exact rfl) (by exact rfl) (by exact rfl), _, _, (kq1 q r k (by have := k_end k (by omega); rwa [eY] at this)).1, rfl⟩
    · rintro σ ⟨q1, r1, hq1, rfl⟩
      have hYp : 0 < Y := by omega
      have hq1B := digit_lt hYp hUY (show V / 4294967296 < 4294967296 by omega) hq1
      obtain ⟨R, hR⟩ : ∃ R, (U * 4294967296 + V / 4294967296) % Y = R := ⟨_, rfl⟩
      have hR0 := Int.emod_nonneg (U * 4294967296 + V / 4294967296) (show Y ≠ 0 by omega)
      have hR1 := Int.emod_lt_of_pos (U * 4294967296 + V / 4294967296) hYp
      have hRe := Int.emod_add_mul_ediv (U * 4294967296 + V / 4294967296) Y
      rw [← hq1, Int.mul_comm Y q1] at hRe
      rw [hR] at hR0 hR1 hRe
      have hq10 : 0 ≤ q1 := by rw [hq1]; exact Int.ediv_nonneg (by omega) (by omega)
      have hsub1 : IntKind.u64.wrap (IntKind.u64.wrap (IntKind.u64.wrap (U * 4294967296) + V / 4294967296) - IntKind.u64.wrap (q1 * Y)) = R := by rw [wrap3 (by omega)]; omega
      have ka2 : KArg (Y / 4294967296) (Y % 4294967296) R (V % 4294967296) := ⟨by omega, by omega, by omega, by omega⟩
      have ks2 := k_start ka2
      have kq2 : ∀ q r, KInv (Y / 4294967296) (Y % 4294967296) R (V % 4294967296) q r → q * Y ≤ R * 4294967296 + V % 4294967296 → q = (R * 4294967296 + V % 4294967296) / Y ∧ R * 4294967296 + V % 4294967296 - q * Y = (R * 4294967296 + V % 4294967296) % Y := by
        intro q r k he
        have := k_quo ka2 k (by rw [eY]; exact he)
        rw [eY] at this
        exact this
      have hm2 : 0 ≤ R / (Y / 4294967296) * (Y / 4294967296) ∧ R / (Y / 4294967296) * (Y / 4294967296) ≤ R := by have := ks2.r0; have := ks2.eq; exact ⟨Int.mul_nonneg ks2.q0 (by omega), by omega⟩
      have hy2 : R - R / (Y / 4294967296) * (Y / 4294967296) < Y / 4294967296 := by
        have h2 := Int.emod_add_mul_ediv R (Y / 4294967296)
        have h3 := Int.emod_lt_of_pos R (show 0 < Y / 4294967296 by omega)
        rw [Int.mul_comm] at h2
        omega
      (refine LWP.seq <| rgN <| kmv rfl <| K.mul rfl rfl rfl .plain <| kmv rfl <| kad rfl rfl rfl <| kmv rfl <| kmv rfl <| K.mul rfl rfl rfl .plain <| K.sub rfl rfl hsub1 .plain <| kas rfl <| RunK.nil <| LWP.seq <| rgN ?_; refine kmv rfl <| kmv rfl <| K.quo rfl rfl (by omega) (quo_u64 (by omega) (by omega)) .plain <| kas rfl <| RunK.nil <| LWP.seq <| rgN <| kmv rfl <| kmv rfl <| kmv rfl <| K.mul rfl rfl (wrap_u64 (by omega)) .plain <| K.sub rfl rfl (wrap_u64 (by omega)) .plain <| kas rfl <| RunK.nil ?_; refine LWP.seq <| LWP.block ?_)
      refine LWP.meet (fun σ => ∃ q r : Int, q = (R * 4294967296 + V % 4294967296) / Y ∧ σ = ⟨[(2, Ln .u64 Y), (8, Ln .u64 s), (14, Ln .u64 (V % 4294967296)), (15, Ln .u64 q1), (17, Ln .u64 R), (18, Ln .u64 q), (16, Ln .u64 r)], [], X⟩) ?_ ?_
      · refine LWP.loop (fun m σ => ∃ q r : Int, KInv (Y / 4294967296) (Y % 4294967296) R (V % 4294967296) q r ∧ r < 4294967296 ∧ m = q.toNat ∧ σ = ⟨[(2, Ln .u64 Y), (8, Ln .u64 s), (9, Ln .u64 (Y / 4294967296)), (10, Ln .u64 (Y % 4294967296)), (14, Ln .u64 (V % 4294967296)), (15, Ln .u64 q1), (17, Ln .u64 R), (18, Ln .u64 q), (16, Ln .u64 r)], [], X⟩) (R / (Y / 4294967296)).toNat
          ⟨_, Le.of (by exact ⟨rfl, rfl, rfl, rfl, rfl, rfl, rfl, rfl, rfl, trivial⟩) (by exact trivial) (by exact rfl) (by exact rfl) (by exact rfl), _, _, ks2, by omega, rfl, rfl⟩ ?_
        rintro m σ ⟨q, r, k, hr, rfl, rfl⟩
        have hq0 := k.q0
        have hr0 := k.r0
        have hqU : q ≤ R := by
          have := k.eq
          have := Int.mul_le_mul_of_nonneg_left (show (1 : Int) ≤ Y / 4294967296 by omega) hq0
          omega
        have next : ∀ q' r', KInv (Y / 4294967296) (Y % 4294967296) R (V % 4294967296) q' r' → 4294967296 ≤ r' → q' = (R * 4294967296 + V % 4294967296) / Y := fun q' r' k' h' => (kq2 q' r' k' (by have := k_break ka2 k' h'; rwa [eY] at this)).1
        by_cases hq : 4294967296 ≤ q
        · have k' := k_big ka2 k hq
          have hrn := next _ _ k'
          by_cases hr2 : 4294967296 ≤ r + Y / 4294967296
          · (refine LWP.seq <| LWP.seq <| rgN <| kmv rfl <| K.geq rfl rfl (decide_eq_true (by omega)) .plain <| kmv rfl <| RunK.passed rfl rfl rfl <| RunK.passed rfl rfl rfl <| RunK.passed rfl rfl rfl <| RunK.passed rfl rfl rfl <| RunK.passed rfl rfl rfl <| RunK.passed rfl rfl rfl <| RunK.passed rfl rfl rfl <| RunK.passed rfl rfl rfl ?_; refine kpt rfl rfl <| RunK.nil <| LWP.condT rfl ?_; refine LWP.skip ?_; refine LWP.block <| LWP.seq <| rgN <| kmv rfl <| K.sub rfl rfl (wrap_u64 (by omega)) .plain <| kas rfl <| RunK.nil <| LWP.seq <| rgN <| kmv rfl <| kmv rfl <| kad rfl rfl (wrap_u64 (by omega)) <| kas rfl <| RunK.nil ?_; refine LWP.seq <| rgN <| kmv rfl <| K.geq rfl rfl (decide_eq_true (by omega)) .plain <| RunK.nil <| LWP.condT rfl ?_; refine LWP.exit ?_)
            exact ⟨_, Le.of (by exact ⟨rfl, rfl, rfl, rfl, rfl, rfl, rfl, trivial⟩) (by exact trivial) (by exact rfl) (by exact rfl) (by exact rfl), _, _, hrn hr2, rfl⟩
          · (refine LWP.seq <| LWP.seq <| rgN <| kmv rfl <| K.geq rfl rfl (decide_eq_true (by omega)) .plain <| kmv rfl <| RunK.passed rfl rfl rfl <| RunK.passed rfl rfl rfl <| RunK.passed rfl rfl rfl <| RunK.passed rfl rfl rfl <| RunK.passed rfl rfl rfl <| RunK.passed rfl rfl rfl <| RunK.passed rfl rfl rfl <| RunK.passed rfl rfl rfl ?_; refine kpt rfl rfl <| RunK.nil <| LWP.condT rfl ?_; refine LWP.skip ?_; refine LWP.block <| LWP.seq <| rgN <| kmv rfl <| K.sub rfl rfl (wrap_u64 (by omega)) .plain <| kas rfl <| RunK.nil <| LWP.seq <| rgN <| kmv rfl <| kmv rfl <| kad rfl rfl (wrap_u64 (by omega)) <| kas rfl <| RunK.nil ?_; refine LWP.seq <| rgN <| kmv rfl <| K.geq rfl rfl (decide_eq_false (by omega)) .plain <| RunK.nil <| LWP.condF rfl ?_; refine LWP.skip ?_)
            exact ⟨_, _, by omega, Le.of (by exact ⟨rfl, rfl, rfl, rfl, rfl, rfl, rfl, rfl, rfl, trivial⟩) (by exact trivial) (by exact rfl) (by exact rfl) (by exact rfl), _, _, k', by omega, rfl, rfl⟩
        · have hqy := mul_bound (a := q) (b := Y % 4294967296) (A := 4294967295) (B := 4294967295) ⟨hq0, by omega⟩ ⟨by omega, by omega⟩
          by_cases hb : 4294967296 * r + V % 4294967296 < q * (Y % 4294967296)
          · have k' := k_high ka2 k hb
            have hrn := next _ _ k'
            have hq1 : 1 ≤ q := by have := k'.q0; omega
            by_cases hr2 : 4294967296 ≤ r + Y / 4294967296
            · (refine LWP.seq <| LWP.seq <| rgN <| kmv rfl <| K.geq rfl rfl (decide_eq_false (by omega)) .plain <| kmv rfl <| gmv rfl rfl rfl <| gmv rfl rfl rfl <| K.mul rfl rfl (wrap_u64 (by omega)) (.taken rfl rfl) ?_; refine gmv rfl rfl rfl <| K.mul rfl rfl (wrap_u64 (by omega)) (.taken rfl rfl) ?_; refine gmv rfl rfl rfl <| K.add rfl rfl (wrap_u64 (by omega)) (.taken rfl rfl) ?_; refine K.gtr rfl rfl (decide_eq_true (by omega)) (.taken rfl rfl) ?_; refine kpf rfl rfl <| RunK.nil <| LWP.condT rfl ?_; refine LWP.skip ?_; refine LWP.block <| LWP.seq <| rgN <| kmv rfl <| K.sub rfl rfl (wrap_u64 (by omega)) .plain <| kas rfl <| RunK.nil <| LWP.seq <| rgN <| kmv rfl <| kmv rfl <| kad rfl rfl (wrap_u64 (by omega)) <| kas rfl <| RunK.nil ?_; refine LWP.seq <| rgN <| kmv rfl <| K.geq rfl rfl (decide_eq_true (by omega)) .plain <| RunK.nil <| LWP.condT rfl ?_; refine LWP.exit ?_)
              exact ⟨_, Le.of (by exact ⟨rfl, rfl, rfl, rfl, rfl, rfl, rfl, trivial⟩) (by exact trivial) (by exact rfl) (by exact rfl) (by exact rfl), _, _, hrn hr2, rfl⟩
            · (refine LWP.seq <| LWP.seq <| rgN <| kmv rfl <| K.geq rfl rfl (decide_eq_false (by omega)) .plain <| kmv rfl <| gmv rfl rfl rfl <| gmv rfl rfl rfl <| K.mul rfl rfl (wrap_u64 (by omega)) (.taken rfl rfl) ?_; refine gmv rfl rfl rfl <| K.mul rfl rfl (wrap_u64 (by omega)) (.taken rfl rfl) ?_; refine gmv rfl rfl rfl <| K.add rfl rfl (wrap_u64 (by omega)) (.taken rfl rfl) ?_; refine K.gtr rfl rfl (decide_eq_true (by omega)) (.taken rfl rfl) ?_; refine kpf rfl rfl <| RunK.nil <| LWP.condT rfl ?_; refine LWP.skip ?_; refine LWP.block <| LWP.seq <| rgN <| kmv rfl <| K.sub rfl rfl (wrap_u64 (by omega)) .plain <| kas rfl <| RunK.nil <| LWP.seq <| rgN <| kmv rfl <| kmv rfl <| kad rfl rfl (wrap_u64 (by omega)) <| kas rfl <| RunK.nil ?_; refine LWP.seq <| rgN <| kmv rfl <| K.geq rfl rfl (decide_eq_false (by omega)) .plain <| RunK.nil <| LWP.condF rfl ?_; refine LWP.skip ?_)
              exact ⟨_, _, by omega, Le.of (by exact ⟨rfl, rfl, rfl, rfl, rfl, rfl, rfl, rfl, rfl, trivial⟩) (by exact trivial) (by exact rfl) (by exact rfl) (by exact rfl), _, _, k', by omega, rfl, rfl⟩
          · (refine LWP.seq <| LWP.seq <| rgN <| kmv rfl <| K.geq rfl rfl (decide_eq_false (by omega)) .plain <| kmv rfl <| gmv rfl rfl rfl <| gmv rfl rfl rfl <| K.mul rfl rfl (wrap_u64 (by omega)) (.taken rfl rfl) ?_; refine gmv rfl rfl rfl <| K.mul rfl rfl (wrap_u64 (by omega)) (.taken rfl rfl) ?_; refine gmv rfl rfl rfl <| K.add rfl rfl (wrap_u64 (by omega)) (.taken rfl rfl) ?_; refine K.gtr rfl rfl (decide_eq_false (by omega)) (.taken rfl rfl) ?_; refine kpf rfl rfl <| RunK.nil <| LWP.condF rfl ?_; refine LWP.exit ?_)
            exact ⟨_, Le.of (by exact ⟨rfl, rfl, rfl, rfl, rfl, rfl, rfl, trivial⟩) (by exact trivial) (by exact rfl) (by exact rfl) (by exact rfl), _, _, (kq2 q r k (by have := k_end k (by omega); rwa [eY] at this)).1, rfl⟩
      · rintro σ ⟨q2, r2, hq2, rfl⟩
        have hend := quo_end hYp hq1 hR.symm hq2
        have hq2B := digit_lt hYp hR1 (show V % 4294967296 < 4294967296 by omega) hq2
        have hq20 : 0 ≤ q2 := by rw [hq2]; exact Int.ediv_nonneg (by omega) (by omega)
        obtain ⟨T, hT⟩ : ∃ T, (R * 4294967296 + V % 4294967296) % Y = T := ⟨_, rfl⟩
        have hT0 := Int.emod_nonneg (R * 4294967296 + V % 4294967296) (show Y ≠ 0 by omega)
        have hT1 := Int.emod_lt_of_pos (R * 4294967296 + V % 4294967296) hYp
        have hTe := Int.emod_add_mul_ediv (R * 4294967296 + V % 4294967296) Y
        rw [← hq2, Int.mul_comm Y q2] at hTe
        rw [hT] at hT0 hT1 hTe hend
        have hsub2 : IntKind.u64.wrap (IntKind.u64.wrap (IntKind.u64.wrap (R * 4294967296) + V % 4294967296) - IntKind.u64.wrap (q2 * Y)) = T := by rw [wrap3 (by omega)]; omega
        (refine LWP.seq <| rgN <| kmv rfl <| K.mul rfl rfl (wrap_u64 (by omega)) .plain <| kmv rfl <| kad rfl rfl (wrap_u64 (by omega)) <| kmv rfl <| K.mul rfl rfl rfl .plain <| kmv rfl <| kad rfl rfl rfl <| kmv rfl <| kmv rfl <| K.mul rfl rfl rfl .plain <| K.sub rfl rfl hsub2 .plain ?_; refine kmv rfl <| K.shr rfl rfl (by omega) (shr_s (by omega)) .plain <| kas rfl <| kas rfl <| RunK.nil <| LWP.ret ?_)
        rw [← hsc.1, ← hsc.2, ← hend.1, ← hend.2]
        exact ⟨[_, _], ⟨rfl, rfl, trivial⟩, rfl⟩
end Go.Proofs.YtamplgnbbanamaaGreatDoor
end
section
namespace Go.Proofs.YtamplgnbbanamaaGreatDoor
open Go Go.Lg Go.Lg.Arith
variable (X : Nat → Option Obj)
theorem LZ_word {g : Int} (h : 0 ≤ g ∧ g < 18446744073709551616) : LZ g = Lz 0 g := by
  unfold LZ
  rw [show g / 18446744073709551616 = 0 by omega, show g % 18446744073709551616 = g by omega]
set_option maxHeartbeats 1000000 in
theorem divideLong_spec (M N : Int) (hM : Lim M) (hN : 18446744073709551616 ≤ N ∧ N < 170141183460469231731687303715884105728) :
    PSpec Tryz.prog X 166 [LZ M, LZ N] (.tup [SZ (M / N), SZ (M % N)]) := by
  obtain ⟨hM0, hM1⟩ := hM
  obtain ⟨H, hH⟩ : ∃ H, N / 18446744073709551616 = H := ⟨_, rfl⟩
  obtain ⟨l, hl⟩ : ∃ l, N % 18446744073709551616 = l := ⟨_, rfl⟩
  have hH1 : 0 < H ∧ H < 9223372036854775808 := by omega
  have hl1 : 0 ≤ l ∧ l < 18446744073709551616 := by omega
  have hlz := lz_spec X H (by omega)
  obtain ⟨hs, hY1, hY2⟩ := lzOf_spec (y := H) (by omega)
  generalize lzOf H = s at hlz hs hY1 hY2
  have hs1 : 1 ≤ s := by
    rcases Nat.eq_zero_or_pos s with h | h
    · subst h; simp at hY1; omega
    · exact h
  have hE : (0 : Int) < 2 ^ s := Int.pow_pos (by decide)
  have hF : (0 : Int) < 2 ^ (64 - s) := Int.pow_pos (by decide)
  have hEF := pow_split (s := s) (by omega)
  have hF2 : (2 : Int) ≤ 2 ^ (64 - s) := by
    rw [show 64 - s = (63 - s) + 1 by omega, Int.pow_succ]
    have : (0 : Int) < 2 ^ (63 - s) := Int.pow_pos (by decide)
    omega
  have hlo2 : 0 ≤ l / 2 ^ (64 - s) ∧ l / 2 ^ (64 - s) < 2 ^ s := by
    refine ⟨Int.ediv_nonneg hl1.1 (Int.le_of_lt hF), ?_⟩
    rw [Int.ediv_lt_iff_lt_mul hF, hEF]; exact hl1.2
  have hH2 : 0 ≤ H * 2 ^ s := Int.mul_nonneg (by omega) (Int.le_of_lt hE)
  obtain ⟨L, hL⟩ : ∃ L, H * 2 ^ s + l / 2 ^ (64 - s) = L := ⟨_, rfl⟩
  have hLW : L < 18446744073709551616 := by
    have h1 : H < 2 ^ (64 - s) := by
      rcases Int.lt_or_le H (2 ^ (64 - s)) with h | h
      · exact h
      · have := Int.mul_le_mul_of_nonneg_right h (Int.le_of_lt hE)
        rw [Int.mul_comm ((2 : Int) ^ (64 - s)), hEF] at this
        omega
    have h2 := Int.mul_le_mul_of_nonneg_right (show H ≤ 2 ^ (64 - s) - 1 by omega) (Int.le_of_lt hE)
    rw [Int.sub_mul, Int.one_mul, Int.mul_comm ((2 : Int) ^ (64 - s)), hEF] at h2
    omega
  have hNL : ∃ r0, N = L * 2 ^ (64 - s) + r0 ∧ 0 ≤ r0 ∧ r0 < 2 ^ (64 - s) := by
    have h1 := Int.emod_add_mul_ediv l (2 ^ (64 - s))
    have h2 := Int.emod_nonneg l (show (2 : Int) ^ (64 - s) ≠ 0 by omega)
    have h3 := Int.emod_lt_of_pos l hF
    refine ⟨l % 2 ^ (64 - s), ?_, h2, h3⟩
    have h4 : H * 2 ^ s * 2 ^ (64 - s) = H * 18446744073709551616 := by rw [Int.mul_assoc, hEF]
    rw [← hL, Int.add_mul, h4, Int.mul_comm (l / 2 ^ (64 - s))]
    omega
  obtain ⟨r0, hNL, hr0⟩ := hNL
  obtain ⟨g, hg⟩ : ∃ g, M / (L * 2 ^ (64 - s)) = g := ⟨_, rfl⟩
  obtain ⟨hg0, hgz, hgp⟩ := long_guess (M := M) (N := N) ⟨hM0, hM1⟩ (show 9223372036854775808 ≤ L by omega) hF2 hNL hr0 hg.symm
  have hd3 := div3 (M := M) (L := L) (P := 2 ^ (64 - s)) (s := s) hs rfl (by omega)
  rw [hg] at hd3
  have hNne : 0 < N := by omega
  have hq0 := Int.emod_nonneg M (show N ≠ 0 by omega)
  have hq1 := Int.emod_lt_of_pos M hNne
  have hq2 := Int.emod_add_mul_ediv M N
  have hqq : 0 ≤ M / N := Int.ediv_nonneg hM0 (by omega)
  have hqW : M / N < 18446744073709551616 := by
    rw [Int.ediv_lt_iff_lt_mul hNne]; omega
  have hgW : g < 18446744073709551617 := by
    rcases Int.lt_or_le g 18446744073709551617 with h | h
    · exact h
    · have h1 := (hgp (by omega)).1
      have := Int.mul_le_mul (show (18446744073709551616 : Int) ≤ g - 1 by omega) hN.1 (by decide) (by omega)
      omega
  have hLZl : LZ N = Lz H l := by unfold LZ; rw [hH, hl]
  have hor2 : M / 18446744073709551616 % 2 * 2 ^ 63 + M % 18446744073709551616 / 2 = M / 2 % 18446744073709551616 := by
    show M / 18446744073709551616 % 2 * 9223372036854775808 + M % 18446744073709551616 / 2 = _
    omega
  have hdiv := Div64_spec X (M / 18446744073709551616 / 2) (M / 2 % 18446744073709551616) L (by omega) (by omega) hLW
  rw [show M / 18446744073709551616 / 2 * 18446744073709551616 + M / 2 % 18446744073709551616 = M / 2 by omega] at hdiv
  have hMz : 0 ≤ M / 2 / L := Int.ediv_nonneg (by omega) (by omega)
  have hcall := compare_spec X
  rw [hLZl]
  refine PSpec.intro Tryz.func166 rfl (by kernel_rfl) rfl rfl ?_
  intro C
  by_cases hg00 : g = 0
  · have hMN := hgz hg00
    subst hg00
    have e1 : M / N = 0 := Int.ediv_eq_zero_of_lt hM0 hMN
    have e2 : M % N = M := Int.emod_eq_of_lt hM0 hMN
    rw [e1, e2]
    have ht := times_spec X N 0 ⟨by omega, by omega⟩ ⟨by omega, by omega⟩ (by omega) true (by simp)
    rw [LZ_word (g := 0) (by omega), Int.mul_zero, hLZl] at ht
    have hmi := minus_spec X M 0 ⟨by omega, by omega⟩ ⟨by omega, by omega⟩ hM0
    rw [Int.sub_zero] at hmi
    have hcm := compare_spec X M N (-1) (by simp [cmpI, hMN])
    rw [hLZl] at hcm
    ((refine LWP.seq <| rgN <| K.box rfl rfl rfl .plain <| K.box rfl rfl rfl .plain <| K.alloc rfl .plain ?_; refine K.alloc rfl .plain ?_; refine RunK.nil <| LWP.seq <| rgN <| kfa rfl rfl ?_; refine kl1 rfl rfl rfl <| kca rfl rfl (hlz) <| kcv rfl (by exact wrap_u64 (by omega)) ?_; refine kas rfl <| RunK.nil <| LWP.seq <| rgN <| kfa rfl rfl ?_; refine kl1 rfl rfl rfl <| kmv rfl <| K.shl rfl rfl (by omega) (shl_s (by omega) rfl ⟨hH2, hY2⟩) .plain <| kfa rfl rfl ?_; refine kl1 rfl rfl rfl <| kmv rfl <| K.sub rfl rfl (wrap_u64 (by omega)) .plain <| K.shr rfl rfl (by omega) (shr_64s (by omega)) .plain <| K.bitop (by simp) rfl rfl (or_apart' (by omega) ⟨by omega, hY2⟩ hlo2 hL) .plain <| kas rfl <| RunK.nil <| LWP.seq <| rgN <| kfa rfl rfl ?_; refine kl1 rfl rfl rfl <| K.shr rfl rfl (by omega) (shr_1 _) .plain <| kfa rfl rfl ?_; refine kl1 rfl rfl rfl <| K.shl rfl rfl (by omega) (shl_63 _) .plain <| kfa rfl rfl ?_; refine kl1 rfl rfl rfl <| K.shr rfl rfl (by omega) (shr_1 _) .plain <| K.bitop (by simp) rfl rfl (or_apart' (by decide) (by omega) (by omega) hor2) .plain <| kmv rfl <| kca rfl rfl (hdiv) <| kmv rfl <| kex rfl rfl <| kex rfl rfl <| kas rfl <| kas rfl <| RunK.nil <| LWP.seq <| rgN <| kmv rfl ?_; refine kmv rfl <| K.sub rfl rfl (wrap_u64 (by omega)) .plain <| K.shr rfl rfl (by omega) ((shr_63s hs).trans hd3) .plain <| kas rfl <| RunK.nil <| LWP.seq <| LWP.seq <| rgN <| kmv rfl <| kne rfl rfl ((bne_eq_false_iff_eq.2 (by omega))) <| RunK.nil <| LWP.condF rfl ?_; refine LWP.skip ?_); (refine LWP.seq <| rgN <| K.loadAll rfl rfl rfl .plain ?_; refine kmv rfl <| K.build rfl rfl (by exact rfl) (by exact nl2 rfl rfl rfl) .plain ?_; refine kca rfl rfl (ht) <| kmv rfl <| kex rfl rfl <| kex rfl rfl <| K.alloc rfl .plain ?_; refine K.storeAll rfl rfl rfl rfl rfl rfl .plain ?_; refine kas rfl <| RunK.nil <| LWP.seq <| rgN <| K.loadAll rfl rfl rfl .plain ?_; refine K.loadAll rfl rfl rfl .plain ?_; refine kca rfl rfl (hmi) <| K.alloc rfl .plain ?_; refine K.storeAll rfl rfl rfl rfl rfl rfl .plain ?_; refine RunK.nil <| LWP.seq <| LWP.seq <| rgN <| K.loadAll rfl rfl rfl .plain ?_; refine K.loadAll rfl rfl rfl .plain ?_; refine kca rfl rfl (hcm) <| K.geq rfl rfl (decide_eq_false (by omega)) .plain <| RunK.nil <| LWP.condF rfl ?_; refine LWP.skip ?_); (refine LWP.seq <| rgD mixed <| kmv rfl <| K.build rfl rfl (by exact rfl) (by exact nl2 rfl rfl rfl) .plain ?_; refine K.loadAll rfl rfl rfl .plain ?_; refine K.storeAll rfl rfl rfl rfl rfl rfl .plain ?_; refine K.storeAll rfl rfl rfl rfl rfl rfl .plain ?_; refine RunK.nil <| rgA ?_; refine LWP.ret ?_))
    exact ⟨[_, _], ⟨⟨_, _, rfl, rfl, rfl, .inl ⟨AggT.h, rfl⟩⟩, ⟨_, _, rfl, rfl, rfl, .inl ⟨AggT.h, rfl⟩⟩, trivial⟩, rfl⟩
  · obtain ⟨h1, h2⟩ := hgp hg00
    obtain ⟨G, hG⟩ : ∃ G, g - 1 = G := ⟨_, rfl⟩
    rw [hG] at h1 h2
    have hGN : 0 ≤ G * N := Int.mul_nonneg (by omega) (by omega)
    have ht := times_spec X N G ⟨by omega, by omega⟩ ⟨by omega, by omega⟩ (by omega) true (decide_eq_true (by rw [Int.mul_comm]; omega))
    rw [LZ_word (g := G) (by omega), Int.mul_comm N G, show G * N % 340282366920938463463374607431768211456 = G * N by omega, hLZl] at ht
    have hmi := minus_spec X M (G * N) ⟨by omega, by omega⟩ ⟨by omega, by omega⟩ h1
    have huse : ∀ q : Int, q * N ≤ M → M < q * N + N → M / N = q ∧ M % N = M - q * N := by
      intro q a b
      have e : M / N = q := by rw [Int.ediv_eq_iff_of_pos hNne]; exact ⟨a, b⟩
      rw [e, Int.mul_comm] at hq2
      exact ⟨e, by omega⟩
    by_cases hlt : M - G * N < N
    · obtain ⟨e1, e2⟩ := huse G h1 (by omega)
      rw [e1, e2]
      have hcm := compare_spec X (M - G * N) N (-1) (by simp [cmpI, hlt])
      rw [hLZl] at hcm
      ((refine LWP.seq <| rgN <| K.box rfl rfl rfl .plain <| K.box rfl rfl rfl .plain <| K.alloc rfl .plain ?_; refine K.alloc rfl .plain ?_; refine RunK.nil <| LWP.seq <| rgN <| kfa rfl rfl ?_; refine kl1 rfl rfl rfl <| kca rfl rfl (hlz) <| kcv rfl (by exact wrap_u64 (by omega)) ?_; refine kas rfl <| RunK.nil <| LWP.seq <| rgN <| kfa rfl rfl ?_; refine kl1 rfl rfl rfl <| kmv rfl <| K.shl rfl rfl (by omega) (shl_s (by omega) rfl ⟨hH2, hY2⟩) .plain <| kfa rfl rfl ?_; refine kl1 rfl rfl rfl <| kmv rfl <| K.sub rfl rfl (wrap_u64 (by omega)) .plain <| K.shr rfl rfl (by omega) (shr_64s (by omega)) .plain <| K.bitop (by simp) rfl rfl (or_apart' (by omega) ⟨by omega, hY2⟩ hlo2 hL) .plain <| kas rfl <| RunK.nil <| LWP.seq <| rgN <| kfa rfl rfl ?_; refine kl1 rfl rfl rfl <| K.shr rfl rfl (by omega) (shr_1 _) .plain <| kfa rfl rfl ?_; refine kl1 rfl rfl rfl <| K.shl rfl rfl (by omega) (shl_63 _) .plain <| kfa rfl rfl ?_; refine kl1 rfl rfl rfl <| K.shr rfl rfl (by omega) (shr_1 _) .plain <| K.bitop (by simp) rfl rfl (or_apart' (by decide) (by omega) (by omega) hor2) .plain <| kmv rfl <| kca rfl rfl (hdiv) <| kmv rfl <| kex rfl rfl <| kex rfl rfl <| kas rfl <| kas rfl <| RunK.nil <| LWP.seq <| rgN <| kmv rfl ?_; refine kmv rfl <| K.sub rfl rfl (wrap_u64 (by omega)) .plain <| K.shr rfl rfl (by omega) ((shr_63s hs).trans hd3) .plain <| kas rfl <| RunK.nil <| LWP.seq <| LWP.seq <| rgN <| kmv rfl <| kne rfl rfl (bne_iff_ne.2 (by omega)) <| RunK.nil <| LWP.condT rfl ?_; refine rgN <| kmv rfl <| K.sub rfl rfl ((wrap_u64 (by omega)).trans hG) .plain <| kas rfl <| RunK.nil <| LWP.seq <| rgN <| K.loadAll rfl rfl rfl .plain ?_); (refine kmv rfl <| K.build rfl rfl (by exact rfl) (by exact nl2 rfl rfl rfl) .plain ?_; refine kca rfl rfl (ht) <| kmv rfl <| kex rfl rfl <| kex rfl rfl <| K.alloc rfl .plain ?_; refine K.storeAll rfl rfl rfl rfl rfl rfl .plain ?_; refine kas rfl <| RunK.nil <| LWP.seq <| rgN <| K.loadAll rfl rfl rfl .plain ?_; refine K.loadAll rfl rfl rfl .plain ?_; refine kca rfl rfl (hmi) <| K.alloc rfl .plain ?_; refine K.storeAll rfl rfl rfl rfl rfl rfl .plain ?_; refine RunK.nil <| LWP.seq <| LWP.seq <| rgN <| K.loadAll rfl rfl rfl .plain ?_; refine K.loadAll rfl rfl rfl .plain ?_; refine kca rfl rfl (hcm) <| K.geq rfl rfl (decide_eq_false (by omega)) .plain <| RunK.nil <| LWP.condF rfl ?_; refine LWP.skip ?_; refine LWP.seq <| rgD mixed <| kmv rfl <| K.build rfl rfl (by exact rfl) (by exact nl2 rfl rfl rfl) .plain ?_); (refine K.loadAll rfl rfl rfl .plain ?_; refine K.storeAll rfl rfl rfl rfl rfl rfl .plain ?_; refine K.storeAll rfl rfl rfl rfl rfl rfl .plain ?_; refine RunK.nil <| rgA ?_; refine LWP.ret ?_))
      rw [show SZ G = .agg [.val (.int .u64 0), .val (.int .u64 G)] by unfold SZ; rw [show G / 18446744073709551616 = 0 by omega, show G % 18446744073709551616 = G by omega]]
      exact ⟨[_, _], ⟨⟨_, _, rfl, rfl, rfl, .inl ⟨AggT.h, rfl⟩⟩, ⟨_, _, rfl, rfl, rfl, .inl ⟨AggT.h, rfl⟩⟩, trivial⟩, rfl⟩
    · have hG1 : (G + 1) * N = G * N + N := by rw [Int.add_mul, Int.one_mul]
      obtain ⟨e1, e2⟩ := huse (G + 1) (by omega) (by omega)
      rw [e1] at hqW
      rw [e1, e2, hG1, show M - (G * N + N) = M - G * N - N by omega]
      have hcm : ∃ r, (r = 0 ∨ r = 1) ∧ cmpI (M - G * N) N = r := ⟨_, by unfold cmpI; (repeat' split) <;> omega, rfl⟩
      obtain ⟨r, hr, hcm⟩ := hcm
      have hcm := compare_spec X (M - G * N) N r hcm
      have hmi2 := minus_spec X (M - G * N) N ⟨by omega, by omega⟩ ⟨by omega, by omega⟩ (by omega)
      rw [hLZl] at hcm hmi2
      ((refine LWP.seq <| rgN <| K.box rfl rfl rfl .plain <| K.box rfl rfl rfl .plain <| K.alloc rfl .plain ?_; refine K.alloc rfl .plain ?_; refine RunK.nil <| LWP.seq <| rgN <| kfa rfl rfl ?_; refine kl1 rfl rfl rfl <| kca rfl rfl (hlz) <| kcv rfl (by exact wrap_u64 (by omega)) ?_; refine kas rfl <| RunK.nil <| LWP.seq <| rgN <| kfa rfl rfl ?_; refine kl1 rfl rfl rfl <| kmv rfl <| K.shl rfl rfl (by omega) (shl_s (by omega) rfl ⟨hH2, hY2⟩) .plain <| kfa rfl rfl ?_; refine kl1 rfl rfl rfl <| kmv rfl <| K.sub rfl rfl (wrap_u64 (by omega)) .plain <| K.shr rfl rfl (by omega) (shr_64s (by omega)) .plain <| K.bitop (by simp) rfl rfl (or_apart' (by omega) ⟨by omega, hY2⟩ hlo2 hL) .plain <| kas rfl <| RunK.nil <| LWP.seq <| rgN <| kfa rfl rfl ?_; refine kl1 rfl rfl rfl <| K.shr rfl rfl (by omega) (shr_1 _) .plain <| kfa rfl rfl ?_; refine kl1 rfl rfl rfl <| K.shl rfl rfl (by omega) (shl_63 _) .plain <| kfa rfl rfl ?_; refine kl1 rfl rfl rfl <| K.shr rfl rfl (by omega) (shr_1 _) .plain <| K.bitop (by simp) rfl rfl (or_apart' (by decide) (by omega) (by omega) hor2) .plain <| kmv rfl <| kca rfl rfl (hdiv) <| kmv rfl <| kex rfl rfl <| kex rfl rfl <| kas rfl <| kas rfl <| RunK.nil <| LWP.seq <| rgN <| kmv rfl ?_; refine kmv rfl <| K.sub rfl rfl (wrap_u64 (by omega)) .plain <| K.shr rfl rfl (by omega) ((shr_63s hs).trans hd3) .plain <| kas rfl <| RunK.nil <| LWP.seq <| LWP.seq <| rgN <| kmv rfl <| kne rfl rfl (bne_iff_ne.2 (by omega)) <| RunK.nil <| LWP.condT rfl ?_; refine rgN <| kmv rfl <| K.sub rfl rfl ((wrap_u64 (by omega)).trans hG) .plain <| kas rfl <| RunK.nil <| LWP.seq <| rgN <| K.loadAll rfl rfl rfl .plain ?_); (refine kmv rfl <| K.build rfl rfl (by exact rfl) (by exact nl2 rfl rfl rfl) .plain ?_; refine kca rfl rfl (ht) <| kmv rfl <| kex rfl rfl <| kex rfl rfl <| K.alloc rfl .plain ?_; refine K.storeAll rfl rfl rfl rfl rfl rfl .plain ?_; refine kas rfl <| RunK.nil <| LWP.seq <| rgN <| K.loadAll rfl rfl rfl .plain ?_; refine K.loadAll rfl rfl rfl .plain ?_; refine kca rfl rfl (hmi) <| K.alloc rfl .plain ?_; refine K.storeAll rfl rfl rfl rfl rfl rfl .plain ?_; refine RunK.nil <| LWP.seq <| LWP.seq <| rgN <| K.loadAll rfl rfl rfl .plain ?_; refine K.loadAll rfl rfl rfl .plain ?_; refine kca rfl rfl (hcm) <| K.geq rfl rfl (decide_eq_true (by omega)) .plain <| RunK.nil <| LWP.condT rfl ?_; refine LWP.seq <| rgN <| kmv rfl <| kad rfl rfl (wrap_u64 (by omega)) <| kas rfl <| RunK.nil <| rgN <| K.loadAll rfl rfl rfl .plain ?_; refine K.loadAll rfl rfl rfl .plain ?_); (refine kca rfl rfl (hmi2) <| K.storeAll rfl rfl rfl rfl rfl rfl .plain ?_; refine RunK.nil <| LWP.seq <| rgD mixed <| kmv rfl <| K.build rfl rfl (by exact rfl) (by exact nl2 rfl rfl rfl) .plain ?_; refine K.loadAll rfl rfl rfl .plain ?_; refine K.storeAll rfl rfl rfl rfl rfl rfl .plain ?_; refine K.storeAll rfl rfl rfl rfl rfl rfl .plain ?_; refine RunK.nil <| rgA ?_; refine LWP.ret ?_))
      rw [show SZ (G + 1) = .agg [.val (.int .u64 0), .val (.int .u64 (G + 1))] by unfold SZ; rw [show (G + 1) / 18446744073709551616 = 0 by omega, show (G + 1) % 18446744073709551616 = G + 1 by omega]]
      exact ⟨[_, _], ⟨⟨_, _, rfl, rfl, rfl, .inl ⟨AggT.h, rfl⟩⟩, ⟨_, _, rfl, rfl, rfl, .inl ⟨AggT.h, rfl⟩⟩, trivial⟩, rfl⟩
end Go.Proofs.YtamplgnbbanamaaGreatDoor
end
section
namespace Go.Proofs.YtamplgnbbanamaaGreatDoor
open Go Go.Lg Go.Lg.Arith
variable (X : Nat → Option Obj)
theorem two_word {T d Y : Int} (hY : 0 < Y) (hd : 0 ≤ d ∧ d < 18446744073709551616) (hT : 0 ≤ T) :
    (T * 18446744073709551616 + d) / Y = T / Y * 18446744073709551616 + (T % Y * 18446744073709551616 + d) / Y ∧ (T * 18446744073709551616 + d) % Y = (T % Y * 18446744073709551616 + d) % Y ∧
    0 ≤ (T % Y * 18446744073709551616 + d) / Y ∧ (T % Y * 18446744073709551616 + d) / Y < 18446744073709551616 ∧ 0 ≤ T % Y ∧ T % Y < Y ∧ 0 ≤ T / Y := by
  have h := Int.emod_add_mul_ediv T Y
  have h0 := Int.emod_nonneg T (show Y ≠ 0 by omega)
  have h1 := Int.emod_lt_of_pos T hY
  have e : T * 18446744073709551616 + d = (T % Y * 18446744073709551616 + d) + Y * (T / Y * 18446744073709551616) := by
    rw [← Int.mul_assoc]
    generalize Y * (T / Y) = a at *
    omega
  have hq0 : 0 ≤ (T % Y * 18446744073709551616 + d) / Y := Int.ediv_nonneg (by omega) (by omega)
  have hq1 : (T % Y * 18446744073709551616 + d) / Y < 18446744073709551616 := by rw [Int.ediv_lt_iff_lt_mul hY]; omega
  refine ⟨?_, ?_, hq0, hq1, h0, h1, Int.ediv_nonneg hT (by omega)⟩
  · rw [e, Int.add_mul_ediv_left _ _ (by omega)]; omega
  · rw [e, Int.add_mul_emod_self_left]
theorem divide_spec (M N : Int) (hM : Lim M) (hN : 0 < N ∧ N < 170141183460469231731687303715884105728) :
    PSpec Tryz.prog X 143 [LZ M, LZ N] (.tup [SZ (M / N), SZ (M % N)]) := by
  obtain ⟨hM0, hM1⟩ := hM
  refine PSpec.intro Tryz.func143 rfl (by kernel_rfl) rfl rfl ?_
  intro C
  by_cases hl : 18446744073709551616 ≤ N
  · (refine LWP.seq <| rgN <| K.box rfl rfl rfl .plain <| K.box rfl rfl rfl .plain <| K.alloc rfl .plain ?_; refine K.alloc rfl .plain ?_; refine RunK.nil <| LWP.seq <| LWP.seq <| rgN <| kfa rfl rfl ?_; refine kl1 rfl rfl rfl <| kne rfl rfl (bne_iff_ne.2 (by omega)) <| RunK.nil <| LWP.condT rfl ?_; refine LWP.seq <| rgN <| K.loadAll rfl rfl rfl .plain ?_; refine K.loadAll rfl rfl rfl .plain ?_; refine kca rfl rfl (divideLong_spec _ _ _ ⟨hM0, hM1⟩ ⟨hl, hN.2⟩) <| kex rfl rfl <| kex rfl rfl <| K.storeAll rfl rfl rfl rfl rfl rfl .plain ?_; refine K.storeAll rfl rfl rfl rfl rfl rfl .plain ?_; refine RunK.nil <| LWP.ret ?_)
    exact ⟨[_, _], ⟨⟨_, _, rfl, rfl, rfl, .inl ⟨AggT.h, rfl⟩⟩, ⟨_, _, rfl, rfl, rfl, .inl ⟨AggT.h, rfl⟩⟩, trivial⟩, rfl⟩
  · obtain ⟨t1, t2, t3, t4, t5, t6, t7⟩ := two_word (T := M / 18446744073709551616) (d := M % 18446744073709551616) (Y := N) hN.1 (by omega) (by omega)
    rw [show M / 18446744073709551616 * 18446744073709551616 + M % 18446744073709551616 = M by omega] at t1 t2
    have eN : N % 18446744073709551616 = N := by omega
    have hd := Div64_spec X (M / 18446744073709551616 % N) (M % 18446744073709551616) N ⟨t5, t6⟩ (by omega) (by omega)
    have hr0 := Int.emod_nonneg M (show N ≠ 0 by omega)
    have hr1 := Int.emod_lt_of_pos M hN.1
    rw [← t2] at hd
    rw [← eN] at hd
    rw [LZ_word (g := N) (by omega)]
    rw [eN] at hd
    have hq : M / 18446744073709551616 / N < 18446744073709551616 := by
      have := Int.ediv_le_self N (show 0 ≤ M / 18446744073709551616 by omega); omega
    (refine LWP.seq <| rgN <| K.box rfl rfl rfl .plain <| K.box rfl rfl rfl .plain <| K.alloc rfl .plain ?_; refine K.alloc rfl .plain ?_; refine RunK.nil <| LWP.seq <| LWP.seq <| rgN <| kfa rfl rfl ?_; refine kl1 rfl rfl rfl <| kne rfl rfl ((bne_eq_false_iff_eq.2 (by omega))) <| RunK.nil <| LWP.condF rfl ?_; refine LWP.skip ?_; refine LWP.seq <| rgD mixed <| kfa rfl rfl ?_; refine kl1 rfl rfl rfl <| kfa rfl rfl ?_; refine kl1 rfl rfl rfl <| K.quo rfl rfl (by omega) (quo_u64 (by omega) (by omega)) .plain <| kfa rfl rfl ?_; refine kl1 rfl rfl rfl <| kfa rfl rfl ?_; refine kl1 rfl rfl rfl <| K.rem rfl rfl (by omega) (rem_pos (by omega)) .plain <| kas rfl <| kas rfl <| RunK.nil <| rgA ?_; refine LWP.seq <| rgN <| kmv rfl <| kfa rfl rfl ?_; refine kl1 rfl rfl rfl <| kfa rfl rfl ?_; refine kl1 rfl rfl rfl <| kca rfl rfl (hd) <| kmv rfl <| kex rfl rfl <| kex rfl rfl <| kas rfl <| kas rfl <| RunK.nil <| LWP.seq <| rgN <| kmv rfl <| kmv rfl <| K.build rfl rfl (by exact rfl) (by exact nl2 rfl rfl rfl) .plain ?_; refine kmv rfl <| K.build rfl rfl (by exact rfl) (by exact nl2 rfl rfl rfl) .plain ?_; refine K.storeAll rfl rfl rfl rfl rfl rfl .plain ?_; refine K.storeAll rfl rfl rfl rfl rfl rfl .plain ?_; refine RunK.nil <| LWP.ret ?_)
    rw [show SZ (M / N) = .agg [.val (.int .u64 (M / 18446744073709551616 / N)), .val (.int .u64 ((M / 18446744073709551616 % N * 18446744073709551616 + M % 18446744073709551616) / N))] by
        unfold SZ; rw [show M / N / 18446744073709551616 = M / 18446744073709551616 / N by omega, show M / N % 18446744073709551616 = (M / 18446744073709551616 % N * 18446744073709551616 + M % 18446744073709551616) / N by omega],
      show SZ (M % N) = .agg [.val (.int .u64 0), .val (.int .u64 (M % N))] by unfold SZ; rw [show M % N / 18446744073709551616 = 0 by omega, show M % N % 18446744073709551616 = M % N by omega]]
    exact ⟨[_, _], ⟨⟨_, _, rfl, rfl, rfl, .inl ⟨AggT.h, rfl⟩⟩, ⟨_, _, rfl, rfl, rfl, .inl ⟨AggT.h, rfl⟩⟩, trivial⟩, rfl⟩
theorem divisible_spec (b c : Bool) (M N : Int) (hM : In2 M) (hN : In2 N) (r : Bool) (hr : ((formB b M && formB c N) && !(N == 0)) = r) : PSpec Tryz.prog X 142 [LI b M, LI c N] (Lb r) := by
  subst hr
  refine PSpec.intro Tryz.func142 rfl (by kernel_rfl) rfl rfl ?_
  intro C
  cases hf : (formB b M && formB c N)
  · (refine LWP.seq <| rgN <| K.box rfl rfl rfl .plain <| K.box rfl rfl rfl .plain <| kas rfl <| RunK.nil <| LWP.seq <| rgN <| K.loadAll rfl rfl rfl .plain ?_; refine K.loadAll rfl rfl rfl .plain ?_; refine kca rfl rfl (bothForm_spec _ _ _ _ _ hM hN _ hf) <| kmv rfl <| RunK.passed rfl rfl rfl <| RunK.passed rfl rfl rfl <| RunK.passed rfl rfl rfl <| RunK.passed rfl rfl rfl <| kpf rfl rfl <| kas rfl <| RunK.nil <| LWP.ret ?_)
    exact ⟨[_], ⟨rfl, trivial⟩, by simp [resOf]⟩
  · (refine LWP.seq <| rgN <| K.box rfl rfl rfl .plain <| K.box rfl rfl rfl .plain <| kas rfl <| RunK.nil <| LWP.seq <| rgN <| K.loadAll rfl rfl rfl .plain ?_; refine K.loadAll rfl rfl rfl .plain ?_; refine kca rfl rfl (bothForm_spec _ _ _ _ _ hM hN _ hf) <| kmv rfl <| K.loadAll rfl rfl rfl (.taken rfl rfl) ?_; refine gca rfl rfl (sizeOf_spec _ _ _ _) rfl rfl <| gca rfl rfl (zero_spec _ _ hN _ rfl) rfl rfl <| K.not rfl rfl (.taken rfl rfl) ?_; refine kpt rfl rfl <| kas rfl <| RunK.nil <| LWP.ret ?_)
    exact ⟨[_], ⟨rfl, trivial⟩, by simp [resOf]⟩
theorem Quo_arg (b c : Bool) (M N : Int) (hM : In2 M) (hN : In2 N) (hf : ((formB b M && formB c N) && !(N == 0)) = false) : PSpec Tryz.prog X 111 [LI b M, LI c N] (.tup [S0, Sn .i64 1]) := by
  refine PSpec.intro Tryz.func111 rfl (by kernel_rfl) rfl rfl ?_
  intro C
  (refine LWP.seq <| rgN <| K.box rfl rfl rfl .plain <| K.box rfl rfl rfl .plain <| K.alloc rfl .plain ?_; refine kas rfl <| RunK.nil <| LWP.seq <| LWP.seq <| rgN <| K.loadAll rfl rfl rfl .plain ?_; refine K.loadAll rfl rfl rfl .plain ?_; refine kca rfl rfl (divisible_spec _ _ _ _ _ hM hN _ hf) <| K.not rfl rfl .plain <| RunK.nil <| LWP.condT rfl ?_; refine LWP.seq <| rgN <| K.build rfl rfl (by exact rfl) (by exact nl3 rfl rfl rfl rfl) .plain ?_; refine K.storeAll rfl rfl rfl rfl rfl rfl .plain ?_; refine kas rfl <| RunK.nil <| LWP.ret ?_)
  exact ⟨[_, _], ⟨⟨_, _, rfl, rfl, rfl, .inl ⟨AggT.h, rfl⟩⟩, rfl, trivial⟩, rfl⟩
theorem Rem_arg (b c : Bool) (M N : Int) (hM : In2 M) (hN : In2 N) (hf : ((formB b M && formB c N) && !(N == 0)) = false) : PSpec Tryz.prog X 112 [LI b M, LI c N] (.tup [S0, Sn .i64 1]) := by
  refine PSpec.intro Tryz.func112 rfl (by kernel_rfl) rfl rfl ?_
  intro C
  (refine LWP.seq <| rgN <| K.box rfl rfl rfl .plain <| K.box rfl rfl rfl .plain <| K.alloc rfl .plain ?_; refine kas rfl <| RunK.nil <| LWP.seq <| LWP.seq <| rgN <| K.loadAll rfl rfl rfl .plain ?_; refine K.loadAll rfl rfl rfl .plain ?_; refine kca rfl rfl (divisible_spec _ _ _ _ _ hM hN _ hf) <| K.not rfl rfl .plain <| RunK.nil <| LWP.condT rfl ?_; refine LWP.seq <| rgN <| K.build rfl rfl (by exact rfl) (by exact nl3 rfl rfl rfl rfl) .plain ?_; refine K.storeAll rfl rfl rfl rfl rfl rfl .plain ?_; refine kas rfl <| RunK.nil <| LWP.ret ?_)
  exact ⟨[_, _], ⟨⟨_, _, rfl, rfl, rfl, .inl ⟨AggT.h, rfl⟩⟩, rfl, trivial⟩, rfl⟩
theorem mg_zero {y : Int} (hy : y ≠ 0) : 0 < mg y := by unfold mg; split <;> omega
theorem zv_quo (x y : Int) (hy : y ≠ 0) : zv (decide (x < 0) != decide (y < 0)) (mg x / mg y) = x.tdiv y ∧ zv (decide (x < 0)) (mg x % mg y) = x.tmod y := by
  unfold zv mg
  by_cases cx : x < 0 <;> by_cases cy : y < 0
  all_goals simp only [cx, cy, decide_true, decide_false, if_true, if_false, bne_self_eq_false, Bool.false_eq_true, Bool.true_bne, Bool.false_bne, Bool.not_false]
  · obtain ⟨a, rfl⟩ : ∃ a, x = -a := ⟨-x, by omega⟩
    obtain ⟨b, rfl⟩ : ∃ b, y = -b := ⟨-y, by omega⟩
    simp only [Int.neg_neg, Int.neg_tdiv, Int.tdiv_neg, Int.neg_tmod, Int.tmod_neg]
    rw [Int.tdiv_eq_ediv_of_nonneg (by omega), Int.tmod_eq_emod_of_nonneg (by omega)]
    exact ⟨rfl, rfl⟩
  · obtain ⟨a, rfl⟩ : ∃ a, x = -a := ⟨-x, by omega⟩
    simp only [Int.neg_neg, Int.neg_tdiv, Int.neg_tmod]
    rw [Int.tdiv_eq_ediv_of_nonneg (by omega), Int.tmod_eq_emod_of_nonneg (by omega)]
    exact ⟨rfl, rfl⟩
  · obtain ⟨b, rfl⟩ : ∃ b, y = -b := ⟨-y, by omega⟩
    simp only [Int.neg_neg, Int.tdiv_neg, Int.tmod_neg]
    rw [Int.tdiv_eq_ediv_of_nonneg (by omega), Int.tmod_eq_emod_of_nonneg (by omega)]
    exact ⟨rfl, rfl⟩
  · rw [Int.tdiv_eq_ediv_of_nonneg (by omega), Int.tmod_eq_emod_of_nonneg (by omega)]
    exact ⟨rfl, rfl⟩
theorem mg_zero' {y : Int} (hy : y ≠ 0) : (mg y == 0) = false := by
  have := mg_zero hy
  exact beq_eq_false_iff_ne.2 (by omega)
theorem Quo_q (x y : Int) (hx : R127 x) (hy : R127 y) (h0 : y ≠ 0) : PSpec Tryz.prog X 111 [LQ x, LQ y] (.tup [SQ (x.tdiv y), Sn .i64 0]) := by
  have hB := divisible_spec X _ _ _ _ (mg_in2 hx) (mg_in2 hy) true (by rw [both_q hx hy, mg_zero' h0]; rfl)
  have hd := divide_spec X (mg x) (mg y) ⟨mg_nonneg x, mg_lim hx⟩ ⟨mg_zero h0, mg_lim hy⟩
  have hq0 : 0 ≤ mg x / mg y := Int.ediv_nonneg (mg_nonneg x) (mg_nonneg y)
  have hq1 := Int.ediv_le_self (mg y) (mg_nonneg x)
  have hl := mg_lim hx
  have hn := number_spec X (decide (x < 0) != decide (y < 0)) (mg x / mg y) ⟨hq0, by omega⟩ _ rfl
  rw [← tup_q hq0 (zv_quo x y h0).1]
  refine PSpec.intro Tryz.func111 rfl (by kernel_rfl) rfl rfl ?_
  intro C
  (refine LWP.seq <| rgN <| K.box rfl rfl rfl .plain <| K.box rfl rfl rfl .plain <| K.alloc rfl .plain ?_; refine kas rfl <| RunK.nil <| LWP.seq <| LWP.seq <| rgN <| K.loadAll rfl rfl rfl .plain ?_; refine K.loadAll rfl rfl rfl .plain ?_; refine kca rfl rfl (hB) <| K.not rfl rfl .plain <| RunK.nil <| LWP.condF rfl ?_; refine LWP.skip ?_; refine LWP.seq <| rgD mixed <| K.loadAll rfl rfl rfl .plain ?_; refine kca rfl rfl (sizeOf_spec _ _ _ _) <| K.loadAll rfl rfl rfl .plain ?_; refine kca rfl rfl (sizeOf_spec _ _ _ _) <| kca rfl rfl (hd) <| kmv rfl <| kex rfl rfl <| kex rfl rfl <| K.alloc rfl .plain ?_; refine K.alloc rfl .plain ?_; refine K.storeAll rfl rfl rfl rfl rfl rfl .plain ?_; refine K.storeAll rfl rfl rfl rfl rfl rfl .plain ?_; refine RunK.nil <| rgA ?_; refine LWP.seq <| rgN <| kfa rfl rfl ?_; refine kl1 rfl rfl rfl <| kfa rfl rfl ?_; refine kl1 rfl rfl rfl <| K.neqB rfl rfl rfl .plain <| K.loadAll rfl rfl rfl .plain ?_; refine kca rfl rfl (hn) <| K.storeAll rfl rfl rfl rfl rfl rfl .plain ?_; refine kas rfl <| RunK.nil <| LWP.ret ?_)
  exact ⟨[_, _], ⟨⟨_, _, rfl, rfl, rfl, .inl ⟨AggT.h, rfl⟩⟩, rfl, trivial⟩, rfl⟩
theorem Rem_q (x y : Int) (hx : R127 x) (hy : R127 y) (h0 : y ≠ 0) : PSpec Tryz.prog X 112 [LQ x, LQ y] (.tup [SQ (x.tmod y), Sn .i64 0]) := by
  have hB := divisible_spec X _ _ _ _ (mg_in2 hx) (mg_in2 hy) true (by rw [both_q hx hy, mg_zero' h0]; rfl)
  have hd := divide_spec X (mg x) (mg y) ⟨mg_nonneg x, mg_lim hx⟩ ⟨mg_zero h0, mg_lim hy⟩
  have hq0 : 0 ≤ mg x % mg y := Int.emod_nonneg _ (by have := mg_zero h0; omega)
  have hq1 := Int.emod_lt_of_pos (mg x) (mg_zero h0)
  have hl := mg_lim hy
  have hn := number_spec X (decide (x < 0)) (mg x % mg y) ⟨hq0, by omega⟩ _ rfl
  rw [← tup_q hq0 (zv_quo x y h0).2]
  refine PSpec.intro Tryz.func112 rfl (by kernel_rfl) rfl rfl ?_
  intro C
  (refine LWP.seq <| rgN <| K.box rfl rfl rfl .plain <| K.box rfl rfl rfl .plain <| K.alloc rfl .plain ?_; refine kas rfl <| RunK.nil <| LWP.seq <| LWP.seq <| rgN <| K.loadAll rfl rfl rfl .plain ?_; refine K.loadAll rfl rfl rfl .plain ?_; refine kca rfl rfl (hB) <| K.not rfl rfl .plain <| RunK.nil <| LWP.condF rfl ?_; refine LWP.skip ?_; refine LWP.seq <| rgD mixed <| K.loadAll rfl rfl rfl .plain ?_; refine kca rfl rfl (sizeOf_spec _ _ _ _) <| K.loadAll rfl rfl rfl .plain ?_; refine kca rfl rfl (sizeOf_spec _ _ _ _) <| kca rfl rfl (hd) <| kmv rfl <| kex rfl rfl <| kex rfl rfl <| K.alloc rfl .plain ?_; refine K.alloc rfl .plain ?_; refine K.storeAll rfl rfl rfl rfl rfl rfl .plain ?_; refine K.storeAll rfl rfl rfl rfl rfl rfl .plain ?_; refine RunK.nil <| rgA ?_; refine LWP.seq <| rgN <| kfa rfl rfl ?_; refine kl1 rfl rfl rfl <| K.loadAll rfl rfl rfl .plain ?_; refine kca rfl rfl (hn) <| K.storeAll rfl rfl rfl rfl rfl rfl .plain ?_; refine kas rfl <| RunK.nil <| LWP.ret ?_)
  exact ⟨[_, _], ⟨⟨_, _, rfl, rfl, rfl, .inl ⟨AggT.h, rfl⟩⟩, rfl, trivial⟩, rfl⟩
end Go.Proofs.YtamplgnbbanamaaGreatDoor
end
section
namespace Go.Proofs.YtamplgnbbanamaaGreatDoor
open Go Go.Proofs Go.Shelf Go.RowKit Go.Sort Go.Lib
set_option maxHeartbeats 6400000 in
set_option maxRecDepth 100000 in
theorem inner_format (u : Nat) (hu64 : u < 18446744073709551616) (w : World) (htab : Lib.TabIs Tryz.prog w "internal/strconv.uint64pow10" .u64 Lib.pow10Tab) :
    Calls Tryz.prog 170 #[.int .u64 u, .int .i64 10] w fun e w' => e = .returned (.string ⟨(Lib.decDigits u).toArray⟩) ∧ Below w.heap.size w w' := by
  have mixed := Tryz.lays99.mixed
  have e74 : ∀ args w, (callFunc 124 args).run Tryz.prog w = .ok (.enter 124 args) w := enters_of Tryz.func124 (by kernel_rfl) rfl
  have e75 : ∀ args w, (callFunc 125 args).run Tryz.prog w = .ok (.enter 125 args) w := enters_of Tryz.func125 (by kernel_rfl) rfl
  have e76 : ∀ args w, (callFunc 126 args).run Tryz.prog w = .ok (.enter 126 args) w := enters_of Tryz.func126 (by kernel_rfl) rfl
  by_cases hs : u < 100
  · go_enter Tryz.func170, Tryz.ntmps170
    go_wp2_with (go_at_fn 124; refine (Tryz.internal_strconv_small u hs _).mono ?_; rintro e w' ⟨rfl, rfl⟩)
    go_ret
    exact ⟨rfl, Below.refl _ _⟩
  · have hu1 : 1 ≤ u := by omega
    have hnd20 : Lib.nDigits u ≤ 20 := by have := Lib.numDigits_eq u hu1 hu64; split at this <;> omega
    have hal : Tryz.prog.arrayLen 177 = 24 := by kernel_rfl
    have hsl1 : ∀ W, (Instr.sliceAt 177 (.pointer (some ⟨w.heap.size, 0, none⟩)) none (some (.int .i64 (Lib.nDigits u : Int))) none).run Tryz.prog W = .ok (.slice (some ⟨w.heap.size, 0, none⟩) (Lib.nDigits u) 24) W := fun W => by
      rw [run_sliceAt_array_h W 177 ⟨w.heap.size, 0, none⟩ (by kernel_rfl) .i64 (Lib.nDigits u : Int) (by omega) (by rw [hal]; omega)]
      go_simp
    have hH0 : Holds (fun (b : UInt8) => Value.int .u8 (b.toNat : Int)) (w.alloc (.cells Lib.zeros24 177)) w.heap.size 0 (Array.replicate (Lib.nDigits u) (0 : UInt8)) := fun j hj => by
      have hj' : j < Lib.nDigits u := by simpa using hj
      refine ⟨?_, World.frozen?_alloc_new _ _ _ _⟩
      rw [World.cell?_alloc_new, zeros24_at _ (by omega), getElem!_pos _ j hj]
      simp
    have hfmt := Tryz.internal_strconv_formatBase10 w.heap.size 0 24 u (Array.replicate (Lib.nDigits u) 0) (w.alloc (.cells Lib.zeros24 177)) hH0 (by rw [Array.size_replicate]; exact Lib.lt_pow_nDigits u) hu64 (by rw [Array.size_replicate]; omega)
    rw [Array.size_replicate] at hfmt
    have HH0 := Lib.hid hH0
    clear hH0 hal
    go_enter Tryz.func170, Tryz.ntmps170
    go_wp2_with (first
      | (go_at_fn 125; refine (Tryz.internal_strconv_numDigits u hu1 hu64 _ (Lib.tabIs_alloc htab _)).mono ?_; rintro e w' ⟨rfl, rfl⟩))
    go_at_fn 126
    refine hfmt.mono ?_
    rintro e w' ⟨rfl, k, v', dk, rfl, hF⟩
    have hcv : (convert 59 9 (.slice (some ⟨w.heap.size, 0, none⟩) (Lib.nDigits u) 24)).run Tryz.prog ((putRow (fun (b : UInt8) => Value.int .u8 (b.toNat : Int)) (w.alloc (.cells Lib.zeros24 177)) w.heap.size 0 dk).drewN k) = .ok (.string ⟨(Lib.decDigits u).toArray⟩) ((putRow (fun (b : UInt8) => Value.int .u8 (b.toNat : Int)) (w.alloc (.cells Lib.zeros24 177)) w.heap.size 0 dk).drewN k) := by
      have h := run_convert_bytes_back (P := Tryz.prog) ((putRow (fun (b : UInt8) => Value.int .u8 (b.toNat : Int)) (w.alloc (.cells Lib.zeros24 177)) w.heap.size 0 dk).drewN k) 59 9 5 ⟨w.heap.size, 0, none⟩ 24 (Lib.decDigits u) Tryz.underlying59 Tryz.underlying5 Tryz.underlying9 (fun j hj => by
        rw [Lib.row_is_numeral hF j hj, Lib.add_plain, World.cell?_drewN]
        exact cell?_putRow (fun (b : UInt8) => Value.int .u8 (b.toNat : Int)) _ w.heap.size 0 _ dk HH0.out (by rw [hF.size, Array.size_replicate]) j (by rw [hF.size]; rw [Lib.decDigits_length] at hj; exact hj))
      rw [Lib.decDigits_length] at h
      exact h
    go_wp2
    go_ret
    refine ⟨rfl, ?_⟩
    have e : ∃ os, (putRow (fun (b : UInt8) => Value.int .u8 (b.toNat : Int)) (w.alloc (.cells Lib.zeros24 177)) w.heap.size 0 dk).drewN k = grow (w.drewN k) os := by
      rw [alloc_eq_grow]
      obtain ⟨os', _, e⟩ := putRow_grow_new (fun (b : UInt8) => Value.int .u8 (b.toNat : Int)) w #[.cells Lib.zeros24 177] w.heap.size 0 dk (Nat.le_refl _)
      exact ⟨os', by rw [e]; rfl⟩
    obtain ⟨os, e⟩ := e
    rw [e]
    exact below_grow _ _ (Nat.le_refl _) k os
end Go.Proofs.YtamplgnbbanamaaGreatDoor
end
section
namespace Go.Lg.Dec
open Go Go.Lib
def pad : Nat → Nat → List UInt8
  | 0, _ => []
  | k + 1, u => pad k (u / 10) ++ [UInt8.ofNat (48 + u % 10)]
theorem dec_pad : ∀ (k U L : Nat), 0 < U → L < 10 ^ k → decDigits (U * 10 ^ k + L) = decDigits U ++ pad k L
  | 0, U, L, _, hL => by
    have : L = 0 := by simpa using hL
    subst this
    simp [pad]
  | k + 1, U, L, hU, hL => by
    have hp : 0 < 10 ^ k := Nat.pow_pos (by decide)
    have h1 : U * 10 ^ (k + 1) + L = (U * 10 ^ k + L / 10) * 10 + L % 10 := by rw [Nat.pow_succ, ← Nat.mul_assoc, Nat.add_mul]; omega
    have hb : ¬ U * 10 ^ (k + 1) + L < 10 := by
      have : 1 * 10 ^ k ≤ U * 10 ^ k := Nat.mul_le_mul_right _ hU
      omega
    rw [decDigits, dif_neg hb, h1, show ((U * 10 ^ k + L / 10) * 10 + L % 10) / 10 = U * 10 ^ k + L / 10 by omega, show ((U * 10 ^ k + L / 10) * 10 + L % 10) % 10 = L % 10 by omega,
      dec_pad k U (L / 10) hU (by rw [Nat.pow_succ] at hL; omega), List.append_assoc]
    rfl
theorem rep_snoc (k : Nat) : repeatL [48] k ++ [48] = repeatL [48] (k + 1) := by rw [repeatL_add, repeatL_one]
theorem pad_rep : ∀ (k L : Nat), L < 10 ^ (k + 1) → pad (k + 1) L = repeatL [48] (k + 1 - nDigits L) ++ decDigits L
  | 0, L, hL => by
    have h : L < 10 := by simpa using hL
    rw [nDigits_small h, decDigits_one h]
    simp [pad, repeatL, Nat.mod_eq_of_lt h]
  | k + 1, L, hL => by
    have hL' : L / 10 < 10 ^ (k + 1) := by rw [Nat.pow_succ] at hL; omega
    have ih := pad_rep k (L / 10) hL'
    show pad (k + 1) (L / 10) ++ [UInt8.ofNat (48 + L % 10)] = _
    rw [ih]
    by_cases h : L < 10
    · rw [nDigits_small h, show L / 10 = 0 by omega, nDigits_small (show 0 < 10 by decide), decDigits_one (show 0 < 10 by decide), decDigits_one h, Nat.mod_eq_of_lt h]
      show repeatL [48] (k + 1 - 1) ++ [48] ++ _ = _
      rw [rep_snoc]
      rfl
    · rw [nDigits_big h, show k + 1 + 1 - (nDigits (L / 10) + 1) = k + 1 - nDigits (L / 10) by omega, List.append_assoc]
      congr 1
      conv => rhs; rw [decDigits, dif_neg h]
theorem nDigits_le : ∀ (k u : Nat), u < 10 ^ (k + 1) → nDigits u ≤ k + 1
  | 0, u, h => by rw [nDigits_small (by simpa using h)]; omega
  | k + 1, u, h => by
    by_cases c : u < 10
    · rw [nDigits_small c]; omega
    · rw [nDigits_big c]
      have := nDigits_le k (u / 10) (by rw [Nat.pow_succ] at h; omega)
      omega
end Go.Lg.Dec
namespace Go.Proofs.YtamplgnbbanamaaGreatDoor
open Go Go.Lg Go.Lg.Arith Go.Lg.Dec Go.RowKit
variable (X : Nat → Option Obj)
def XTab : Prop := ∀ w : World, (∀ b o, X b = some o → w.heap[b]? = some o) → Lib.TabIs Tryz.prog w "internal/strconv.uint64pow10" .u64 Lib.pow10Tab
theorem format_inner (hT : XTab X) (u : Nat) (hu : u < 18446744073709551616) : PSpec Tryz.prog X 170 [Ln .u64 (u : Nat), Ln .i64 10] (Ls (Lib.decDigits u)) :=
  PSpec.ofBelow (vals := [.int .u64 (u : Nat), .int .i64 10]) (v := .string ⟨(Lib.decDigits u).toArray⟩) (by kernel_rfl) rfl rfl (fun w hX => inner_format u hu w (hT w hX))
theorem format_spec (hT : XTab X) (u : Nat) (hu : u < 18446744073709551616) : PSpec Tryz.prog X 160 [Ln .u64 (u : Nat), Ln .i64 10] (Ls (Lib.decDigits u)) := by
  refine PSpec.intro Tryz.func160 rfl (by kernel_rfl) rfl rfl ?_
  intro C
  (refine LWP.seq <| rgN <| kas rfl <| RunK.nil <| LWP.seq <| rgN <| kmv rfl <| kmv rfl <| kca rfl rfl (format_inner _ hT u hu) <| kas rfl <| RunK.nil <| LWP.ret ?_)
  exact ⟨[_], ⟨rfl, trivial⟩, rfl⟩
theorem repeat_spec (c : Nat) (hc : c ≤ 1000) : PSpec Tryz.prog X 161 [Ls [48], Ln .i64 (c : Nat)] (Ls (Lib.repeatL [48] c)) :=
  PSpec.ofBelow (vals := [.string ⟨[48].toArray⟩, .int .i64 (c : Nat)]) (v := .string ⟨(Lib.repeatL [48] c).toArray⟩) (by kernel_rfl) rfl rfl (fun w _ => Tryz.strings_Repeat ⟨[48].toArray⟩ c w (by omega) (by show 1 * c ≤ _; omega))
theorem digits_spec (hT : XTab X) (M : Nat) (hM : M < 170141183460469231731687303715884105728) : PSpec Tryz.prog X 128 [LZ (M : Nat)] (Ls (Lib.decDigits M)) := by
  have hdv := Div64_spec X ((M : Int) / 18446744073709551616) ((M : Int) % 18446744073709551616) 10000000000000000000 (by omega) (by omega) (by omega)
  rw [show (M : Int) / 18446744073709551616 * 18446744073709551616 + (M : Int) % 18446744073709551616 = (M : Int) by omega] at hdv
  rw [show (M : Int) / 10000000000000000000 = ((M / 10000000000000000000 : Nat) : Int) by omega, show (M : Int) % 10000000000000000000 = ((M % 10000000000000000000 : Nat) : Int) by omega] at hdv
  have hL : M % 10000000000000000000 < 10000000000000000000 := Nat.mod_lt _ (by decide)
  have hU : M / 10000000000000000000 < 18446744073709551616 := by omega
  have hsum : M = M / 10000000000000000000 * 10 ^ 19 + M % 10000000000000000000 := by omega
  generalize M / 10000000000000000000 = U at *
  generalize M % 10000000000000000000 = L at *
  have hf1 := format_spec X hT L (by omega)
  have hf2 := format_spec X hT U hU
  have hn := nDigits_le 18 L hL
  have hp := Lib.nDigits_pos L
  have hu := nDigits_le 19 U (by omega)
  have hs1 : (⟨(Lib.decDigits L).toArray⟩ : ByteArray).size = Lib.nDigits L := Lib.decDigits_length L
  have hs2 : (⟨(Lib.decDigits U).toArray⟩ : ByteArray).size = Lib.nDigits U := Lib.decDigits_length U
  have hs3 : (⟨(Lib.repeatL [48] (19 - Lib.nDigits L)).toArray⟩ : ByteArray).size = (19 - Lib.nDigits L) * 1 := Lib.repeatL_length _ _
  have hs4 : (⟨(Lib.decDigits U ++ Lib.repeatL [48] (19 - Lib.nDigits L)).toArray⟩ : ByteArray).size = Lib.nDigits U + (19 - Lib.nDigits L) * 1 := by
    show (Lib.decDigits U ++ Lib.repeatL [48] (19 - Lib.nDigits L)).length = _
    rw [List.length_append, Lib.decDigits_length, Lib.repeatL_length]
    rfl
  have hsub : IntKind.i64.wrap (19 - ((⟨(Lib.decDigits L).toArray⟩ : ByteArray).size : Nat)) = ((19 - Lib.nDigits L : Nat) : Int) := by
    rw [hs1, wrap_i64 (by omega)]; omega
  refine PSpec.intro Tryz.func128 rfl (by kernel_rfl) rfl rfl ?_
  intro C
  by_cases h0 : U = 0
  · subst h0
    rw [Nat.zero_mul, Nat.zero_add] at hsum
    subst hsum
    (refine LWP.seq <| rgN <| K.box rfl rfl rfl .plain <| kas rfl <| RunK.nil <| LWP.seq <| rgN <| kfa rfl rfl ?_; refine kl1 rfl rfl rfl <| kfa rfl rfl ?_; refine kl1 rfl rfl rfl <| kca rfl rfl (hdv) <| kmv rfl <| kex rfl rfl <| kex rfl rfl <| kas rfl <| kas rfl <| RunK.nil <| LWP.seq <| rgN <| kmv rfl <| kca rfl rfl (hf1) <| kas rfl <| RunK.nil ?_; refine LWP.seq <| LWP.seq <| rgN <| kmv rfl <| keq rfl rfl (beq_iff_eq.2 (by omega)) <| RunK.nil <| LWP.condT rfl ?_; refine LWP.seq <| rgN <| kmv rfl <| kas rfl <| RunK.nil <| LWP.ret ?_)
    exact ⟨[_], ⟨rfl, trivial⟩, rfl⟩
  · have e : Lib.decDigits M = Lib.decDigits U ++ Lib.repeatL [48] (19 - Lib.nDigits L) ++ Lib.decDigits L := by
      rw [hsum, dec_pad 19 U L (by omega) hL, pad_rep 18 L hL, List.append_assoc]
    rw [e]
    (refine LWP.seq <| rgN <| K.box rfl rfl rfl .plain <| kas rfl <| RunK.nil <| LWP.seq <| rgN <| kfa rfl rfl ?_; refine kl1 rfl rfl rfl <| kfa rfl rfl ?_; refine kl1 rfl rfl rfl <| kca rfl rfl (hdv) <| kmv rfl <| kex rfl rfl <| kex rfl rfl <| kas rfl <| kas rfl <| RunK.nil <| LWP.seq <| rgN <| kmv rfl <| kca rfl rfl (hf1) <| kas rfl <| RunK.nil ?_; refine LWP.seq <| LWP.seq <| rgN <| kmv rfl <| keq rfl rfl (beq_eq_false_iff_ne.2 (by omega)) <| RunK.nil <| LWP.condF rfl ?_; refine LWP.skip ?_; refine LWP.seq <| rgN <| kmv rfl <| kln rfl <| K.sub rfl rfl hsub .plain <| kca rfl rfl (repeat_spec _ (19 - Lib.nDigits L) (by omega)) <| kas rfl <| RunK.nil <| LWP.seq <| rgN <| kmv rfl <| kca rfl rfl (hf2) <| kmv rfl <| K.strAdd rfl rfl (by omega) (str_add _ _) .plain ?_; refine kmv rfl <| K.strAdd rfl rfl (by omega) (str_add _ _) .plain <| kas rfl <| RunK.nil <| LWP.ret ?_)
    exact ⟨[_], ⟨rfl, trivial⟩, rfl⟩
theorem Text_spec (hT : XTab X) (x : Int) (hx : R127 x) : PSpec Tryz.prog X 98 [LQ x] (Ls (textQ x)) := by
  have hF := Form_spec X _ _ (mg_in2 hx) true (formB_q hx)
  have hm := mg_nonneg x
  have hl := mg_lim hx
  have hd := digits_spec X hT (mg x).toNat (by omega)
  rw [show (((mg x).toNat : Nat) : Int) = mg x by omega] at hd
  have hlen : (⟨(Lib.decDigits (mg x).toNat).toArray⟩ : ByteArray).size ≤ 39 := by
    show (Lib.decDigits (mg x).toNat).length ≤ 39
    rw [Lib.decDigits_length]
    exact nDigits_le 38 _ (by omega)
  refine PSpec.intro Tryz.func98 rfl (by kernel_rfl) rfl rfl ?_
  intro C
  by_cases c : x < 0
  · have e : textQ x = [45] ++ Lib.decDigits (mg x).toNat := if_pos c
    rw [e]
    unfold LQ at hF ⊢
    simp only [c, decide_true] at hF ⊢
    (refine LWP.seq <| rgN <| K.box rfl rfl rfl .plain <| kas rfl <| RunK.nil <| LWP.seq <| LWP.seq <| rgN <| K.loadAll rfl rfl rfl .plain ?_; refine kca rfl rfl (hF) <| K.not rfl rfl .plain <| RunK.nil <| LWP.condF rfl ?_; refine LWP.skip ?_; refine LWP.seq <| rgN <| K.loadAll rfl rfl rfl .plain ?_; refine kca rfl rfl (sizeOf_spec _ _ _ _) <| kca rfl rfl (hd) <| kas rfl <| RunK.nil <| LWP.seq <| LWP.seq <| rgN <| kfa rfl rfl ?_; refine kl1 rfl rfl rfl <| RunK.nil <| LWP.condT rfl ?_; refine LWP.seq <| rgN <| kmv rfl <| K.strAdd rfl rfl (Nat.le_trans (Nat.add_le_add_left hlen _) (by decide)) (str_add [45] _) .plain <| kas rfl <| RunK.nil <| LWP.ret ?_)
    exact ⟨[_], ⟨rfl, trivial⟩, rfl⟩
  · have e : textQ x = Lib.decDigits (mg x).toNat := if_neg c
    rw [e]
    unfold LQ at hF ⊢
    simp only [c, decide_false] at hF ⊢
    (refine LWP.seq <| rgN <| K.box rfl rfl rfl .plain <| kas rfl <| RunK.nil <| LWP.seq <| LWP.seq <| rgN <| K.loadAll rfl rfl rfl .plain ?_; refine kca rfl rfl (hF) <| K.not rfl rfl .plain <| RunK.nil <| LWP.condF rfl ?_; refine LWP.skip ?_; refine LWP.seq <| rgN <| K.loadAll rfl rfl rfl .plain ?_; refine kca rfl rfl (sizeOf_spec _ _ _ _) <| kca rfl rfl (hd) <| kas rfl <| RunK.nil <| LWP.seq <| LWP.seq <| rgN <| kfa rfl rfl ?_; refine kl1 rfl rfl rfl <| RunK.nil <| LWP.condF rfl ?_; refine LWP.skip ?_; refine LWP.seq <| rgN <| kmv rfl <| kas rfl <| RunK.nil <| LWP.ret ?_)
    exact ⟨[_], ⟨rfl, trivial⟩, rfl⟩
end Go.Proofs.YtamplgnbbanamaaGreatDoor
end
section
namespace Go.Proofs.YtamplgnbbanamaaGreatDoor
open Go Go.Lg Go.Lg.Arith Go.Lg.Dec Go.Lg.Dig Go.RowKit
variable (X : Nat → Option Obj)
def part (M N i j : Nat) : Nat := M % 256 ^ i * N + dg M i * (N % 256 ^ j) * 256 ^ i
end Go.Proofs.YtamplgnbbanamaaGreatDoor
end
section
namespace Go.Lg
open Go Go.RowKit Go.Lg.Dig
end Go.Lg
namespace Go.Proofs.YtamplgnbbanamaaGreatDoor
open Go Go.Lg Go.Lg.Arith Go.Lg.Dec Go.Lg.Dig Go.RowKit
variable (X : Nat → Option Obj)
instance : ArrB Tryz.prog 159 (List.replicate 40 (.int .i64 0)) 1 := ⟨by kernel_rfl⟩
end Go.Proofs.YtamplgnbbanamaaGreatDoor
end
