/- A piece of a proof over this program: contracts of its functions, and a logic to prove them by. -/
import Derived.Test.YtdlilapjijpghaaP2
import Derived.Deep.Strs
import Derived.SizedLaws
import Derived.Test.YtdlilapjijpghaaRows
import Derived.Lib.Strings
import Derived.Lib.AppendZerosOnto
import Derived.StringKeys
import Derived.WideMake
section
namespace Go.Lg
open Go Go.RowKit
theorem ren_vals (f : Nat → Nat) : ∀ (l : List Value), (l.map CV.val).map (CV.ren f) = l.map CV.val
  | [] => rfl
  | c :: l => by rw [List.map_cons, List.map_cons, ren_vals f l]; rfl
theorem Box.ren_vals (f : Nat → Nat) (e : TypeId) (l : List Value) (r : Bool) : Box.ren f ⟨e, l.map CV.val, r⟩ = ⟨e, l.map CV.val, r⟩ := by
  unfold Box.ren
  simp only [Go.Lg.ren_vals]
theorem vals_inUse {bx : List (Nat × Option Box)} : ∀ {l : List Value}, (l.map CV.val).all (CV.inUse bx) = true
  | [] => rfl
  | c :: l => by rw [List.map_cons, List.all_cons, vals_inUse]; rfl
theorem vals_solid : ∀ {l : List Value}, l.all Value.oneCell' = true → (l.map CV.val).all CV.solid = true
  | [], _ => rfl
  | c :: l, h => by
    simp only [List.all_cons, Bool.and_eq_true] at h
    rw [List.map_cons, List.all_cons, vals_solid h.2]
    simp [CV.solid, h.1]
section
variable {S T : Nat → Option (Option Box)} {ι : Nat → Nat × Nat} {bx : List (Nat × Option Box)}
/-- names in use mean the same -/
def SameOn (bx : List (Nat × Option Box)) (S T : Nat → Option (Option Box)) : Prop := ∀ k x, look k bx = some x → S k = T k
theorem CV.rel_on (h : SameOn bx S T) {c : CV} (hu : c.inUse bx = true) {v : Value} (hr : c.rel S ι v) : c.rel T ι v := by
  cases c with
  | val u => exact hr
  | junk => trivial
  | ptr k off =>
    simp only [CV.inUse, Option.isSome_iff_exists] at hu
    obtain ⟨x, hx⟩ := hu
    simp only [CV.rel] at hr ⊢
    rw [← h k x hx]; exact hr
  | slc k off n sz =>
    simp only [CV.inUse, Option.isSome_iff_exists] at hu
    obtain ⟨x, hx⟩ := hu
    simp only [CV.rel] at hr ⊢
    rw [← h k x hx]; exact hr
  | mp k =>
    simp only [CV.inUse, Option.isSome_iff_exists] at hu
    obtain ⟨x, hx⟩ := hu
    simp only [CV.rel] at hr ⊢
    rw [← h k x hx]; exact hr
theorem CVs.rel_on (h : SameOn bx S T) : ∀ {l : List CV} {vs : List Value}, l.all (CV.inUse bx) = true → CVs.rel S ι l vs → CVs.rel T ι l vs
  | [], [], _, _ => trivial
  | _ :: _, _ :: _, hu, hr => by
    simp only [List.all_cons, Bool.and_eq_true] at hu
    exact ⟨CV.rel_on h hu.1 hr.1, CVs.rel_on h hu.2 hr.2⟩
  | [], _ :: _, _, hr => hr.elim
  | _ :: _, [], _, hr => hr.elim
theorem SV.rel_on (h : SameOn bx S T) {s : SV} (hu : s.inUse bx = true) {v : Value} (hr : s.rel S ι v) : s.rel T ι v := by
  cases s with
  | one c => exact CV.rel_on h hu hr
  | agg l => obtain ⟨arr, e, hl⟩ := hr; exact ⟨arr, e, CVs.rel_on h hu hl⟩
theorem SVs.rel_on (h : SameOn bx S T) : ∀ {l : List SV} {vs : List Value}, l.all (SV.inUse bx) = true → SVs.rel S ι l vs → SVs.rel T ι l vs
  | [], [], _, _ => trivial
  | _ :: _, _ :: _, hu, hr => by
    simp only [List.all_cons, Bool.and_eq_true] at hu
    exact ⟨SV.rel_on h hu.1 hr.1, SVs.rel_on h hu.2 hr.2⟩
  | [], _ :: _, _, hr => hr.elim
  | _ :: _, [], _, hr => hr.elim
theorem LV.rel_on (h : SameOn bx S T) {s : LV} (hu : s.inUse bx = true) {v : Value} (hr : s.rel S ι v) : s.rel T ι v := by
  cases s with
  | sv s => exact SV.rel_on h hu hr
  | tup l => obtain ⟨arr, e, hl⟩ := hr; exact ⟨arr, e, SVs.rel_on h hu hl⟩
theorem Box.rel_on (h : SameOn bx S T) {b : Box} (hu : b.cells.all (CV.inUse bx) = true) {vs : List Value} (hr : b.rel S ι vs) : b.rel T ι vs := by
  unfold Box.rel at hr ⊢
  cases hb : b.row with
  | res R => rw [hb] at hr; exact hr.elim
  | bool r =>
    cases r with
    | false => rw [hb] at hr; exact CVs.rel_on h hu hr
    | true => rw [hb] at hr; obtain ⟨us, sp, e, hl⟩ := hr; exact ⟨us, sp, e, CVs.rel_on h hu hl⟩
/-- names in use mean the same blocks -/
theorem CV.rel_means {κ : Nat → Nat × Nat} (h : ∀ k, (look k bx).isSome = true → κ k = ι k) {c : CV} (hu : c.inUse bx = true) {v : Value} (hr : c.rel S ι v) : c.rel S κ v := by
  cases c with
  | val u => exact hr
  | junk => trivial
  | ptr k off =>
    simp only [CV.rel] at hr ⊢
    rw [h k hu]; exact hr
  | slc k off n sz =>
    simp only [CV.rel] at hr ⊢
    rw [h k hu]; exact hr
  | mp k =>
    simp only [CV.rel] at hr ⊢
    rw [h k hu]; exact hr
theorem CVs.rel_means {κ : Nat → Nat × Nat} (h : ∀ k, (look k bx).isSome = true → κ k = ι k) : ∀ {l : List CV} {vs : List Value}, l.all (CV.inUse bx) = true → CVs.rel S ι l vs → CVs.rel S κ l vs
  | [], [], _, _ => trivial
  | _ :: _, _ :: _, hu, hr => by
    simp only [List.all_cons, Bool.and_eq_true] at hu
    exact ⟨CV.rel_means h hu.1 hr.1, CVs.rel_means h hu.2 hr.2⟩
  | [], _ :: _, _, hr => hr.elim
  | _ :: _, [], _, hr => hr.elim
theorem SV.rel_means {κ : Nat → Nat × Nat} (h : ∀ k, (look k bx).isSome = true → κ k = ι k) {s : SV} (hu : s.inUse bx = true) {v : Value} (hr : s.rel S ι v) : s.rel S κ v := by
  cases s with
  | one c => exact CV.rel_means h hu hr
  | agg l => obtain ⟨arr, e, hl⟩ := hr; exact ⟨arr, e, CVs.rel_means h hu hl⟩
theorem SVs.rel_means {κ : Nat → Nat × Nat} (h : ∀ k, (look k bx).isSome = true → κ k = ι k) : ∀ {l : List SV} {vs : List Value}, l.all (SV.inUse bx) = true → SVs.rel S ι l vs → SVs.rel S κ l vs
  | [], [], _, _ => trivial
  | _ :: _, _ :: _, hu, hr => by
    simp only [List.all_cons, Bool.and_eq_true] at hu
    exact ⟨SV.rel_means h hu.1 hr.1, SVs.rel_means h hu.2 hr.2⟩
  | [], _ :: _, _, hr => hr.elim
  | _ :: _, [], _, hr => hr.elim
theorem LV.rel_means {κ : Nat → Nat × Nat} (h : ∀ k, (look k bx).isSome = true → κ k = ι k) {s : LV} (hu : s.inUse bx = true) {v : Value} (hr : s.rel S ι v) : s.rel S κ v := by
  cases s with
  | sv s => exact SV.rel_means h hu hr
  | tup l => obtain ⟨arr, e, hl⟩ := hr; exact ⟨arr, e, SVs.rel_means h hu hl⟩
end
section
variable {P : Program} {n : Nat} {C : Ctx} {c : Code} {Q : Exit → St → Prop} {X : Nat → Option Obj}
/-- the memory that stays, and one block more -/
def withBlock (X : Nat → Option Obj) (blk : Nat) (o : Obj) : Nat → Option Obj := fun b => if b = blk then some o else X b
theorem withBlock_at (X : Nat → Option Obj) (blk : Nat) (o : Obj) : withBlock X blk o blk = some o := if_pos rfl
theorem withBlock_old {X : Nat → Option Obj} {blk : Nat} {o : Obj} (hn : X blk = none) : ∀ b o', X b = some o' → withBlock X blk o b = some o' := fun b o' h => by
  unfold withBlock
  rw [if_neg (by rintro rfl; rw [hn] at h; cases h)]
  exact h
theorem look_mem {α : Type} {k : Nat} {x : α} : ∀ {l : List (Nat × α)}, look k l = some x → (k, x) ∈ l
  | [], h => by simp [look] at h
  | p :: l, h => by
    simp only [look] at h
    cases e : Nat.beq p.1 k with
    | true =>
      rw [e] at h
      simp at h
      have := Nat.eq_of_beq_eq_true e
      rw [← this, ← h]
      exact List.mem_cons_self
    | false => rw [e] at h; exact List.mem_cons_of_mem _ (look_mem (by simpa using h))
theorem rel_vals {S : Nat → Option (Option Box)} {ι : Nat → Nat × Nat} : ∀ {l : List Value} {vs : List Value}, CVs.rel S ι (l.map .val) vs → vs = l
  | [], [], _ => rfl
  | v :: l, u :: vs, h => by rw [rel_vals h.2]; have : u = v := h.1; rw [this]
  | [], _ :: _, h => h.elim
  | _ :: _, [], h => h.elim
/-- what a block that was frozen was -/
structure Frozen (C : Ctx) (blk : Nat) (arr : Array Value) (fr : Nat × Nat) : Prop where
  own : C.own blk ∨ C.w0.heap.size ≤ blk
  thaw : Thaw fr arr.size
/-- a slice's box becomes memory that stays -/
theorem Rel.freeze {ι : Nat → Nat × Nat} {a : Act} {w : World} {s : List (Nat × LV)} {bx : List (Nat × Option Box)} {d k off len sz : Nat} {el : TypeId} {vals : List Value} {row : Bool}
    (hs : s.all (fun p => p.2.inUse bx) = true) (hb : bx.all (fun p => match p.2 with | some b => b.cells.all (CV.inUse bx) | none => true) = true) (hk : look k bx = none)
    (hr : Rel n C ι ⟨(d, .sv (.one (.slc k off len sz))) :: s, (k, some ⟨el, vals.map .val, row⟩) :: bx, X⟩ a w) :
    ∃ (blk cap : Nat) (arr : Array Value) (fr : Nat × Nat), X blk = none ∧ Frozen C blk arr fr ∧ len ≤ cap ∧ off + cap * sz ≤ arr.size ∧ (∃ sp, arr.toList = vals ++ sp) ∧
      Rel n C ι ⟨(d, .sv (.one (.val (.slice (some ⟨blk, off, none⟩) len cap)))) :: s, bx, withBlock X blk (.cells arr el fr)⟩ a w := by
  have hst : (⟨(d, .sv (.one (.slc k off len sz))) :: s, (k, some ⟨el, vals.map .val, row⟩) :: bx, X⟩ : St).stat k = some (some ⟨el, vals.map .val, row⟩) := by
    simp [St.stat, look]
  have hlk : ∀ k' x, look k' bx = some x → k' ≠ k := fun k' x h' e => by rw [e, hk] at h'; cases h'
  have hstb : ∀ k' x, look k' bx = some x → (⟨(d, .sv (.one (.slc k off len sz))) :: s, (k, some ⟨el, vals.map .val, row⟩) :: bx, X⟩ : St).stat k' = some x := fun k' x h' => by
    simp only [St.stat, look]
    cases e : Nat.beq k k' with
    | true => exact absurd (Nat.eq_of_beq_eq_true e).symm (hlk k' x h')
    | false => exact h'
  obtain ⟨arr, fr, harr, hth, hsz, hbr⟩ := hr.boxes k _ hst rfl
  obtain ⟨v, hv, hvr⟩ := hr.slots d (.sv (.one (.slc k off len sz))) (by simp [St.slot, look])
  simp only [LV.rel, SV.rel, CV.rel] at hvr
  rw [hst] at hvr
  obtain ⟨cap, rfl, hcap, hfit⟩ := hvr
  have hXn : X (ι k).1 = none := (hr.own k _ hst).2
  have hsp : ∃ sp, arr.toList = vals ++ sp := by
    unfold Box.rel at hbr
    cases hrow : row with
    | false =>
      rw [hrow] at hbr
      exact ⟨[], by rw [List.append_nil]; exact rel_vals hbr⟩
    | true =>
      rw [hrow] at hbr
      obtain ⟨us, sp, e, hl⟩ := hbr
      exact ⟨sp, by rw [e, rel_vals hl]⟩
  refine ⟨(ι k).1, cap, arr, fr, hXn, ⟨(hr.own k _ hst).1, hth⟩, hcap, by omega, hsp, ?_⟩
  have hon : SameOn bx (⟨(d, .sv (.one (.slc k off len sz))) :: s, (k, some ⟨el, vals.map .val, row⟩) :: bx, X⟩ : St).stat (fun k => look k bx) := fun k' x h' => (hstb k' x h').trans h'.symm
  exact {
    defers := hr.defers, size := hr.size
    slots := fun d' lv hd => by
      simp only [St.slot, look] at hd
      cases e : Nat.beq d d' with
      | true =>
        rw [e] at hd
        simp at hd
        subst hd
        have := Nat.eq_of_beq_eq_true e
        subst this
        exact ⟨_, hv, rfl⟩
      | false =>
        rw [e] at hd
        have hd : look d' s = some lv := by simpa using hd
        obtain ⟨v', hv', hr'⟩ := hr.slots d' lv (by simp only [St.slot, look, e]; exact hd)
        exact ⟨v', hv', LV.rel_on hon (List.all_eq_true.1 hs _ (look_mem hd)) hr'⟩
    res := by
      obtain ⟨F, hF⟩ := hr.res
      refine hF.keep (fun j e cs R hj => ⟨hstb j _ hj, rfl⟩) (fun _ _ _ _ _ hj => hj) (fun _ _ ho => ho) (fun b _ hx hne _ => ?_) (fun j bj hj => .inl ⟨bj, hstb j _ hj, rfl⟩)
      show withBlock X (ι k).1 _ b = none
      unfold withBlock
      rw [if_neg (fun e => hne k _ hst rfl e.symm)]
      exact hx
    boxes := fun k' b hb' hbk => by
      have hb' : look k' bx = some (some b) := hb'
      obtain ⟨arr', fr', h1, h2, h3, h4⟩ := hr.boxes k' b (hstb k' _ hb') hbk
      exact ⟨arr', fr', h1, h2, h3, Box.rel_on hon (by simpa using List.all_eq_true.1 hb _ (look_mem hb')) h4⟩
    own := fun k' b hb' => by
      have hb' : look k' bx = some (some b) := hb'
      obtain ⟨h1, h2⟩ := hr.own k' b (hstb k' _ hb')
      refine ⟨h1, ?_⟩
      show withBlock X (ι k).1 _ (ι k').1 = none
      unfold withBlock
      rw [if_neg (fun e => hlk k' _ hb' (hr.inj k' k b _ (hstb k' _ hb') hst e))]
      exact h2
    inj := fun k1 k2 b1 b2 h1 h2 he => hr.inj k1 k2 b1 b2 (hstb k1 _ h1) (hstb k2 _ h2) he
    keep := fun k' b hb' hge => hr.keep k' b (hstb k' _ hb') hge
    ext := fun b o hbo => by
      have hbo : withBlock X (ι k).1 (.cells arr el fr) b = some o := hbo
      unfold withBlock at hbo
      by_cases e : b = (ι k).1
      · rw [if_pos e] at hbo
        rw [e, harr]; exact hbo
      · rw [if_neg e] at hbo
        exact hr.ext b o hbo
    frame := hr.frame, big := hr.big, os := hr.os, tape := hr.tape, output := hr.output }
theorem LWP.freeze {s : List (Nat × LV)} {bx : List (Nat × Option Box)} {d k off len sz : Nat} {el : TypeId} {vals : List Value} {row : Bool}
    (hs : s.all (fun p => p.2.inUse bx) = true) (hb : bx.all (fun p => match p.2 with | some b => b.cells.all (CV.inUse bx) | none => true) = true) (hk : look k bx = none)
    (h : ∀ (blk cap : Nat) (arr : Array Value) (fr : Nat × Nat), X blk = none → Frozen C blk arr fr → len ≤ cap → off + cap * sz ≤ arr.size → (∃ sp, arr.toList = vals ++ sp) →
      LWP P n C c Q ⟨(d, .sv (.one (.val (.slice (some ⟨blk, off, none⟩) len cap)))) :: s, bx, withBlock X blk (.cells arr el fr)⟩) :
    LWP P n C c Q ⟨(d, .sv (.one (.slc k off len sz))) :: s, (k, some ⟨el, vals.map .val, row⟩) :: bx, X⟩ := by
  refine ⟨fun ι a w hr => ?_⟩
  obtain ⟨blk, cap, arr, fr, h1, h2, h3, h4, h5, h6⟩ := hr.freeze hs hb hk
  exact (h blk cap arr fr h1 h2 h3 h4 h5).out ι a w h6
/-- the way back: memory that was frozen is a box again -/
theorem Rel.thaw {ι : Nat → Nat × Nat} {a : Act} {w : World} {s : List (Nat × LV)} {bx : List (Nat × Option Box)} {d k off len sz blk cap : Nat} {el : TypeId} {vals : List Value} {arr : Array Value} {fr : Nat × Nat}
    (hX : X blk = none) (hF : Frozen C blk arr fr) (hc : len ≤ cap) (hfit : off + cap * sz ≤ arr.size) (hsp : ∃ sp, arr.toList = vals ++ sp)
    (hs : s.all (fun p => p.2.inUse bx) = true) (hb : bx.all (fun p => match p.2 with | some b => b.cells.all (CV.inUse bx) | none => true) = true) (hk : look k bx = none) (hlt : k < 1000000)
    (hr : Rel n C ι ⟨(d, .sv (.one (.val (.slice (some ⟨blk, off, none⟩) len cap)))) :: s, bx, withBlock X blk (.cells arr el fr)⟩ a w) :
    Rel n C (put1 ι k (blk, arr.size)) ⟨(d, .sv (.one (.slc k off len sz))) :: s, (k, some ⟨el, vals.map .val, true⟩) :: bx, X⟩ a w := by
  have hlk : ∀ k' x, look k' bx = some x → k' ≠ k := fun k' x h' e => by rw [e, hk] at h'; cases h'
  have hι : ∀ k', k' ≠ k → put1 ι k (blk, arr.size) k' = ι k' := fun k' e => by unfold put1; rw [if_neg e]
  have hιk : put1 ι k (blk, arr.size) k = (blk, arr.size) := by unfold put1; rw [if_pos rfl]
  have hst : ∀ k' b, (⟨(d, .sv (.one (.slc k off len sz))) :: s, (k, some ⟨el, vals.map .val, true⟩) :: bx, X⟩ : St).stat k' = some (some b) → (k' = k ∧ b = ⟨el, vals.map .val, true⟩) ∨ (k' ≠ k ∧ look k' bx = some (some b)) := fun k' b h' => by
    simp only [St.stat, look] at h'
    cases e : Nat.beq k k' with
    | true =>
      rw [e] at h'
      simp at h'
      exact .inl ⟨(Nat.eq_of_beq_eq_true e).symm, h'.symm⟩
    | false =>
      rw [e] at h'
      have h' : look k' bx = some (some b) := by simpa using h'
      exact .inr ⟨hlk k' _ h', h'⟩
  have hon : SameOn bx (⟨(d, .sv (.one (.val (.slice (some ⟨blk, off, none⟩) len cap)))) :: s, bx, withBlock X blk (.cells arr el fr)⟩ : St).stat (⟨(d, .sv (.one (.slc k off len sz))) :: s, (k, some ⟨el, vals.map .val, true⟩) :: bx, X⟩ : St).stat := fun k' x h' => by
    simp only [St.stat, look]
    cases e : Nat.beq k k' with
    | true => exact absurd (Nat.eq_of_beq_eq_true e).symm (hlk k' x h')
    | false => rfl
  have hmean : ∀ {b : Box} {us : List Value}, b.rel (⟨(d, .sv (.one (.slc k off len sz))) :: s, (k, some ⟨el, vals.map .val, true⟩) :: bx, X⟩ : St).stat ι us → b.cells.all (CV.inUse bx) = true → b.rel (⟨(d, .sv (.one (.slc k off len sz))) :: s, (k, some ⟨el, vals.map .val, true⟩) :: bx, X⟩ : St).stat (put1 ι k (blk, arr.size)) us := fun {b us} h1 h2 => by
    unfold Box.rel at h1 ⊢
    cases hrow : b.row with
    | res R => rw [hrow] at h1; exact h1.elim
    | bool r =>
      cases r with
      | false => rw [hrow] at h1; exact CVs.rel_means (fun k' hk' => hι k' (by obtain ⟨x, hx⟩ := Option.isSome_iff_exists.1 hk'; exact hlk k' x hx)) h2 h1
      | true =>
        rw [hrow] at h1
        obtain ⟨us', sp, e, hl⟩ := h1
        exact ⟨us', sp, e, CVs.rel_means (fun k' hk' => hι k' (by obtain ⟨x, hx⟩ := Option.isSome_iff_exists.1 hk'; exact hlk k' x hx)) h2 hl⟩
  exact {
    defers := hr.defers, size := hr.size
    slots := fun d' lv hd => by
      simp only [St.slot, look] at hd
      cases e : Nat.beq d d' with
      | true =>
        rw [e] at hd
        simp at hd
        subst hd
        have := Nat.eq_of_beq_eq_true e
        subst this
        obtain ⟨v, hv, hvr⟩ := hr.slots d (.sv (.one (.val (.slice (some ⟨blk, off, none⟩) len cap)))) (by simp [St.slot, look])
        refine ⟨v, hv, ?_⟩
        have hvr : v = .slice (some ⟨blk, off, none⟩) len cap := hvr
        subst hvr
        simp only [LV.rel, SV.rel, CV.rel, St.stat, look, show Nat.beq k k = true from Nat.beq_refl k, cond_true, hιk]
        exact ⟨cap, rfl, hc, by omega⟩
      | false =>
        rw [e] at hd
        have hd : look d' s = some lv := by simpa using hd
        obtain ⟨v', hv', hr'⟩ := hr.slots d' lv (by simp only [St.slot, look, e]; exact hd)
        have hu := List.all_eq_true.1 hs _ (look_mem hd)
        exact ⟨v', hv', LV.rel_means (fun k' hk' => hι k' (by obtain ⟨x, hx⟩ := Option.isSome_iff_exists.1 hk'; exact hlk k' x hx)) hu (LV.rel_on hon hu hr')⟩
    res := by
      obtain ⟨F, hG⟩ := hr.res
      refine hG.keep (fun j e cs R hj => ?_) (fun _ _ _ _ _ hj => hj) (fun _ _ ho => ho) (fun b _ hx _ _ => ?_) (fun j bj hj => ?_)
      · rcases hst j _ hj with ⟨_, h2⟩ | ⟨hne, h2⟩
        · cases h2
        · exact ⟨h2, hι j hne⟩
      · have hx : withBlock X blk (.cells arr el fr) b = none := hx
        unfold withBlock at hx
        split at hx
        · cases hx
        · exact hx
      · rcases hst j bj hj with ⟨rfl, _⟩ | ⟨hne, h2⟩
        · rw [hιk]
          refine .inr (.inr (.inr ?_))
          show withBlock X blk (.cells arr el fr) blk ≠ none
          rw [withBlock_at]; simp
        · exact .inl ⟨bj, h2, by rw [hι j hne]⟩
    boxes := fun k' b hb' hbk => by
      rcases hst k' b hb' with ⟨rfl, rfl⟩ | ⟨hne, hb''⟩
      · rw [hιk]
        obtain ⟨sp, hsp⟩ := hsp
        exact ⟨arr, fr, hr.ext blk _ (withBlock_at _ _ _), hF.thaw, rfl, vals, sp, hsp, CVs.rel_map_val vals⟩
      · rw [hι k' hne]
        obtain ⟨arr', fr', h1, h2, h3, h4⟩ := hr.boxes k' b hb'' hbk
        have hu : b.cells.all (CV.inUse bx) = true := by simpa using List.all_eq_true.1 hb _ (look_mem hb'')
        exact ⟨arr', fr', h1, h2, h3, hmean (Box.rel_on hon hu h4) hu⟩
    own := fun k' b hb' => by
      rcases hst k' b hb' with ⟨rfl, rfl⟩ | ⟨hne, hb''⟩
      · rw [hιk]; exact ⟨hF.own, hX⟩
      · rw [hι k' hne]
        obtain ⟨h1, h2⟩ := hr.own k' b hb''
        refine ⟨h1, ?_⟩
        have h2 : withBlock X blk (.cells arr el fr) (ι k').1 = none := h2
        unfold withBlock at h2
        split at h2
        · cases h2
        · exact h2
    inj := fun k1 k2 b1 b2 h1 h2 he => by
      have hne : ∀ k' b, look k' bx = some (some b) → (ι k').1 ≠ blk := fun k' b hb' e => by
        have h2 : withBlock X blk (.cells arr el fr) (ι k').1 = none := (hr.own k' b hb').2
        rw [e, withBlock_at] at h2
        cases h2
      rcases hst k1 b1 h1 with ⟨e1, _⟩ | ⟨n1, h1'⟩ <;> rcases hst k2 b2 h2 with ⟨e2, _⟩ | ⟨n2, h2'⟩
      · rw [e1, e2]
      · rw [e1, hιk, hι k2 n2] at he; exact absurd he.symm (hne k2 b2 h2')
      · rw [e2, hιk, hι k1 n1] at he; exact absurd he (hne k1 b1 h1')
      · rw [hι k1 n1, hι k2 n2] at he; exact hr.inj k1 k2 b1 b2 h1' h2' he
    keep := fun k' b hb' hge => by
      rcases hst k' b hb' with ⟨e, _⟩ | ⟨hne, hb''⟩
      · omega
      · rw [hι k' hne]; exact hr.keep k' b hb'' hge
    ext := fun b o hbo => hr.ext b o (withBlock_old hX b o hbo)
    frame := hr.frame, big := hr.big, os := hr.os, tape := hr.tape, output := hr.output }
theorem LWP.thaw {s : List (Nat × LV)} {bx : List (Nat × Option Box)} {d k off len sz blk cap : Nat} {el : TypeId} {vals : List Value} {arr : Array Value} {fr : Nat × Nat}
    (hX : X blk = none) (hF : Frozen C blk arr fr) (hc : len ≤ cap) (hfit : off + cap * sz ≤ arr.size) (hsp : ∃ sp, arr.toList = vals ++ sp)
    (hs : s.all (fun p => p.2.inUse bx) = true) (hb : bx.all (fun p => match p.2 with | some b => b.cells.all (CV.inUse bx) | none => true) = true) (hk : look k bx = none) (hlt : k < 1000000)
    (h : LWP P n C c Q ⟨(d, .sv (.one (.slc k off len sz))) :: s, (k, some ⟨el, vals.map .val, true⟩) :: bx, X⟩) :
    LWP P n C c Q ⟨(d, .sv (.one (.val (.slice (some ⟨blk, off, none⟩) len cap)))) :: s, bx, withBlock X blk (.cells arr el fr)⟩ := by
  refine ⟨fun ι a w hr => ?_⟩
  exact h.out _ a w (hr.thaw hX hF hc hfit hsp hs hb hk hlt)
end
end Go.Lg
end
section
namespace Go.Lg
open Go
/-- rows of so many cells lie in memory that stays, where a slice begins -/
def RowsIn (X : Nat → Option Obj) (ad : Option Addr) (sz : Nat) (rows : List (List Value)) : Prop :=
  ∀ i r, rows[i]? = some r → ∃ (blk off : Nat) (arr : Array Value) (el : TypeId) (fr : Nat × Nat), ad = some ⟨blk, off, none⟩ ∧ X blk = some (.cells arr el fr) ∧ off + i * sz + sz ≤ arr.size ∧ (arr.toList.drop (off + i * sz)).take sz = r
theorem RowsIn.mono {X Y : Nat → Option Obj} {ad : Option Addr} {sz : Nat} {rows : List (List Value)} (h : RowsIn X ad sz rows) (hm : ∀ b o, X b = some o → Y b = some o) : RowsIn Y ad sz rows := fun i r hi => by
  obtain ⟨blk, off, arr, el, fr, h1, h2, h3, h4⟩ := h i r hi
  exact ⟨blk, off, arr, el, fr, h1, hm _ _ h2, h3, h4⟩
theorem flat_row {sz : Nat} : ∀ {rows : List (List Value)} (_ : ∀ r ∈ rows, r.length = sz) {sp : List Value} {i : Nat} {r : List Value} (_ : rows[i]? = some r), i * sz + sz ≤ (rows.flatten ++ sp).length ∧ ((rows.flatten ++ sp).drop (i * sz)).take sz = r
  | [], _, _, i, r, h => by simp at h
  | r0 :: rows, hl, sp, 0, r, h => by
    simp only [List.getElem?_cons_zero, Option.some.injEq] at h
    subst h
    have h0 := hl r0 (by simp)
    simp only [List.flatten_cons, List.append_assoc, List.length_append, Nat.zero_mul, List.drop_zero]
    refine ⟨by omega, ?_⟩
    rw [← h0, List.take_left]
  | r0 :: rows, hl, sp, i + 1, r, h => by
    have h0 := hl r0 (by simp)
    obtain ⟨h1, h2⟩ := flat_row (rows := rows) (fun x hx => hl x (by simp [hx])) (sp := sp) (i := i) (r := r) (by simpa using h)
    simp only [List.flatten_cons, List.append_assoc, List.length_append] at h1 ⊢
    have e : (i + 1) * sz = i * sz + sz := by rw [Nat.add_mul, Nat.one_mul]
    refine ⟨by omega, ?_⟩
    rw [e, Nat.add_comm, ← List.drop_drop, ← h0, List.drop_left, h0]
    exact h2
/-- what is frozen can be read as rows -/
theorem rows_frozen {X : Nat → Option Obj} {blk : Nat} {arr : Array Value} {el : TypeId} {fr : Nat × Nat} {sz : Nat} {rows : List (List Value)} (hl : ∀ r ∈ rows, r.length = sz) (hsp : ∃ sp, arr.toList = rows.flatten ++ sp) :
    RowsIn (withBlock X blk (.cells arr el fr)) (some ⟨blk, 0, none⟩) sz rows := fun i r hi => by
  obtain ⟨sp, e⟩ := hsp
  obtain ⟨h1, h2⟩ := flat_row hl (sp := sp) hi
  refine ⟨blk, 0, arr, el, fr, rfl, withBlock_at _ _ _, ?_, ?_⟩
  · rw [← Array.length_toList, e]; omega
  · rw [e, Nat.zero_add]; exact h2
end Go.Lg
namespace Go.Lg.Fld
open Go Go.Lg
end Go.Lg.Fld
end
section
namespace Go.Lg
open Go Go.RowKit Go.ChangeShapes Go.WideShapes Go.Joins
section
variable {H : Type} {enc : TypeId × Value → H} {P : Program} {w : World}
theorem cells_row {a : Addr} {sz : Nat} {cs : List Value} (hs : a.spot = none) (hsz : 1 ≤ sz) {i : Nat} (hl : cs.length = sz) (h : ∀ j, j < sz → w.cell? ((a.add (i * sz)).add j) = cs[j]?) :
    ∃ (arr : Array Value) (el : TypeId) (fr : Nat × Nat), w.heap[a.block]? = some (.cells arr el fr) ∧ a.off + i * sz + sz ≤ arr.size ∧ (arr.toList.drop (a.off + i * sz)).take sz = cs := by
  obtain ⟨b, o, sp⟩ := a
  simp only at hs
  subst hs
  have h2 : ∀ j, j < sz → ∃ u, cs[j]? = some u ∧ w.cell? ((⟨b, o, none⟩ : Addr).add (i * sz + j)) = some u := fun j hj => by
    have h3 := h j hj
    rw [Deep.add_add] at h3
    rw [List.getElem?_eq_getElem (by omega)] at h3
    exact ⟨_, List.getElem?_eq_getElem (by omega), h3⟩
  obtain ⟨u0, _, h0⟩ := h2 0 (by omega)
  obtain ⟨arr, el, fr, hh, _⟩ := cell_at (a := ⟨b, o, none⟩) rfl h0
  have hall : ∀ j, j < sz → arr[o + (i * sz + j)]? = cs[j]? := fun j hj => by
    obtain ⟨u, hu, hc⟩ := h2 j hj
    obtain ⟨arr', el', fr', hh', hc'⟩ := cell_at (a := ⟨b, o, none⟩) rfl hc
    rw [hh] at hh'
    cases hh'
    rw [hu]; exact hc'
  have hlast : o + (i * sz + (sz - 1)) < arr.size := by
    have h3 := hall (sz - 1) (by omega)
    rw [List.getElem?_eq_getElem (by omega)] at h3
    exact (Array.getElem?_eq_some_iff.1 h3).1
  refine ⟨arr, el, fr, hh, by show o + i * sz + sz ≤ arr.size; omega, ?_⟩
  apply List.ext_getElem?
  intro j
  rw [List.getElem?_take]
  by_cases hj : j < sz
  · rw [if_pos hj, List.getElem?_drop, Array.getElem?_toList, ← hall j hj]
    show arr[o + i * sz + j]? = _
    rw [Nat.add_assoc]
  · rw [if_neg hj, List.getElem?_eq_none (by omega)]
/-- a slice of whatever has so many cells -/
theorem open_rows {r : Reach} {b0 : Nat} {t e : TypeId} {sz : Nat} {v : Value} {d : DataW H} {p : List MemPlace} (ht : P.underlying t = some (.slice e)) (hc : P.cellsOf e = sz) (hsz : 1 ≤ sz) (hv : Value.okWide P w r b0 t v) (h : DataW.Trod enc P w 0 (fun _ => true) true t v d p) :
    ∃ (ad : Option Addr) (cap : Nat) (rows : List (List Value)), v = .slice ad rows.length cap ∧ rows.length ≤ cap ∧ cap ≤ maxLen ∧ RowsIn (fun b => w.heap[b]?) ad sz rows ∧
      (∀ u, u ∈ rows → u.length = sz ∧ ∃ (n : Nat) (x : DataW H × List MemPlace), DataW.trod enc P w 0 (fun _ => true) true n e u = some x) ∧
      ∀ by_ B : Nat, (∀ elems spare, d = .slice elems spare → (elems.length + spare.length) * by_ ≤ B) → rows.length * by_ ≤ B := by
  obtain ⟨a, len, cap, rfl⟩ := okWide_slice ht hv
  obtain ⟨fuel, hf⟩ := h
  rcases Deep.open_slice ht hf with ⟨h0, _⟩ | ⟨a', len', cap', m, n, D, Pl, h0, hb, hl, hm, hmm, hd, hx⟩
  · simp [Value.cells] at h0
    obtain ⟨rfl, rfl, rfl⟩ := h0
    exact ⟨none, 0, [], rfl, Nat.le_refl _, Nat.zero_le _, fun i r h => by simp at h, fun u hu => by simp at hu, fun by_ B _ => by simp⟩
  · simp [Value.cells] at h0
    obtain ⟨rfl, rfl, rfl⟩ := h0
    rw [if_pos rfl] at hmm
    subst hmm
    rw [hc] at hx
    have hch : ∃ f : Nat → List Value, ∀ i, i < m → w.cells? 0 (a'.add (i * sz)) sz = some (f i) ∧ DataW.trod enc P w 0 (fun _ => true) true n e (f i) = some (D i, Pl i) := by
      refine ⟨fun i => if hi : i < m then (hx i hi).choose else [], fun i hi => ?_⟩
      simp only [dif_pos hi]
      exact (hx i hi).choose_spec
    obtain ⟨f, hf2⟩ := hch
    refine ⟨some a', m, (List.range len).map f, by rw [List.length_map, List.length_range], by rw [List.length_map, List.length_range]; exact hl, hm, ?_, ?_, ?_⟩
    · intro i u hi
      have hi2 : i < len := by
        have := (List.getElem?_eq_some_iff.1 hi).1
        simpa using this
      have e : u = f i := by
        rw [List.getElem?_map, List.getElem?_range hi2] at hi
        simpa using hi.symm
      subst e
      have hspot : a'.spot = none := by
        obtain ⟨h1, _⟩ := hf2 0 (by omega)
        obtain ⟨_, hlen, hcell⟩ := World.cells?_some h1
        have e0 := hcell 0 (by omega)
        rw [Deep.add_add, Nat.zero_mul, Nat.zero_add] at e0
        rw [List.getElem?_eq_getElem (by omega)] at e0
        exact spot_none e0
      obtain ⟨h1, _⟩ := hf2 i (by omega)
      obtain ⟨_, hlen, hcell⟩ := World.cells?_some h1
      obtain ⟨arr, el, fr, hh, hsz2, htk⟩ := cells_row hspot hsz hlen hcell
      refine ⟨a'.block, a'.off, arr, el, fr, ?_, hh, hsz2, htk⟩
      obtain ⟨b, o, sp⟩ := a'
      simp only at hspot
      subst hspot
      rfl
    · intro u hu
      obtain ⟨i, hi, rfl⟩ := List.mem_map.1 hu
      have hi := List.mem_range.1 hi
      obtain ⟨h1, h2⟩ := hf2 i (by omega)
      exact ⟨(World.cells?_some h1).2.1, n, _, h2⟩
    · intro by_ B hB
      have hd1 := congrArg Prod.fst hd
      have h := hB _ _ hd1
      simp only [List.length_map, List.length_range] at h ⊢
      exact Nat.le_trans (Nat.mul_le_mul_right _ (by omega)) h
end
end Go.Lg
end
section
namespace Go.Lg
open Go Go.RowKit
section
variable {P : Program} {n : Nat} {ops os : List Oper} {acc : List Eff} {K : List Eff → St → Prop} {s : List (Nat × LV)} {bx : List (Nat × Option Box)} {X : Nat → Option Obj}
theorem kmv {d : Nat} {x : Operand} {ty : TypeId} {pos : String} {after : Array Edge} {lv : LV} (hx : (⟨s, bx, X⟩ : St).ev x = some lv) (kont : RunK P n ops os ⟨(d, lv) :: s, bx, X⟩ (⟨[(d, lv)], [], []⟩ :: acc) K) :
    RunK P n ops (⟨some d, .move x, ty, pos, after, none⟩ :: os) ⟨s, bx, X⟩ acc K := Go.Lg.K.move hx .plain kont
theorem gmv {d : Nat} {x : Operand} {ty : TypeId} {pos : String} {after : Array Edge} {lv : LV} (hx : (⟨s, bx, X⟩ : St).ev x = some lv) {gj gt : Nat} {gb : Bool} (g1 : (ops[gj]?).bind (·.dst) = some gt) (g2 : look gt s = some (.sv (.one (.val (.bool gb))))) (kont : RunK P n ops os ⟨(d, lv) :: s, bx, X⟩ (⟨[(d, lv)], [], []⟩ :: acc) K) :
    RunK P n ops (⟨some d, .move x, ty, pos, after, some (gj, gb)⟩ :: os) ⟨s, bx, X⟩ acc K := Go.Lg.K.move hx (.taken g1 g2) kont
theorem kas {d : Nat} {x : Operand} {ty : TypeId} {pos : String} {after : Array Edge} {lv : LV} (hx : (⟨s, bx, X⟩ : St).ev x = some lv) (kont : RunK P n ops os ⟨(d, lv) :: s, bx, X⟩ (⟨[(d, lv)], [], []⟩ :: acc) K) :
    RunK P n ops (⟨some d, .assign x, ty, pos, after, none⟩ :: os) ⟨s, bx, X⟩ acc K := Go.Lg.K.assign hx .plain kont
theorem kpt {d : Nat} {c x y : Operand} {ty : TypeId} {pos : String} {after : Array Edge} {lv : LV} (hc : (⟨s, bx, X⟩ : St).ev c = some (.sv (.one (.val (.bool true))))) (hx : (⟨s, bx, X⟩ : St).ev x = some lv) (kont : RunK P n ops os ⟨(d, lv) :: s, bx, X⟩ (⟨[(d, lv)], [], []⟩ :: acc) K) :
    RunK P n ops (⟨some d, .pick c x y, ty, pos, after, none⟩ :: os) ⟨s, bx, X⟩ acc K := Go.Lg.K.pickT hc hx .plain kont
theorem kpf {d : Nat} {c x y : Operand} {ty : TypeId} {pos : String} {after : Array Edge} {lv : LV} (hc : (⟨s, bx, X⟩ : St).ev c = some (.sv (.one (.val (.bool false))))) (hy : (⟨s, bx, X⟩ : St).ev y = some lv) (kont : RunK P n ops os ⟨(d, lv) :: s, bx, X⟩ (⟨[(d, lv)], [], []⟩ :: acc) K) :
    RunK P n ops (⟨some d, .pick c x y, ty, pos, after, none⟩ :: os) ⟨s, bx, X⟩ acc K := Go.Lg.K.pickF hc hy .plain kont
theorem kex {s0 : List (Nat × LV)} {d : Nat} {x : Operand} {i : Nat} {ty : TypeId} {pos : String} {after : Array Edge} {l : List SV} {s : SV} (hx : (⟨s0, bx, X⟩ : St).ev x = some (.tup l)) (hi : l[i]? = some s) (kont : RunK P n ops os ⟨(d, .sv s) :: s0, bx, X⟩ (⟨[(d, .sv s)], [], []⟩ :: acc) K) :
    RunK P n ops (⟨some d, .extract x i, ty, pos, after, none⟩ :: os) ⟨s0, bx, X⟩ acc K := Go.Lg.K.extract hx hi .plain kont
theorem kad {d : Nat} {t : TypeId} {t' : TypeId} {x : Operand} {y : Operand} {ty : TypeId} {pos : String} {after : Array Edge} {k : IntKind} {a : Int} {b : Int} {c : Int} (hx : (⟨s, bx, X⟩ : St).ev x = some (.sv (.one (.val (.int k a))))) (hy : (⟨s, bx, X⟩ : St).ev y = some (.sv (.one (.val (.int k b))))) (hc : k.wrap (a + b) = c) (kont : RunK P n ops os ⟨(d, .sv (.one (.val (.int k c)))) :: s, bx, X⟩ (⟨[(d, .sv (.one (.val (.int k c))))], [], []⟩ :: acc) K) :
    RunK P n ops (⟨some d, .binOp .add t x y t', ty, pos, after, none⟩ :: os) ⟨s, bx, X⟩ acc K := Go.Lg.K.add hx hy hc .plain kont
theorem keq {d : Nat} {t : TypeId} {t' : TypeId} {x : Operand} {y : Operand} {ty : TypeId} {pos : String} {after : Array Edge} {k : IntKind} {a : Int} {b : Int} {r : Bool} (hx : (⟨s, bx, X⟩ : St).ev x = some (.sv (.one (.val (.int k a))))) (hy : (⟨s, bx, X⟩ : St).ev y = some (.sv (.one (.val (.int k b))))) (hc : (a == b) = r) (kont : RunK P n ops os ⟨(d, .sv (.one (.val (.bool r)))) :: s, bx, X⟩ (⟨[(d, .sv (.one (.val (.bool r))))], [], []⟩ :: acc) K) :
    RunK P n ops (⟨some d, .binOp .eql t x y t', ty, pos, after, none⟩ :: os) ⟨s, bx, X⟩ acc K := Go.Lg.K.eql hx hy hc .plain kont
theorem kne {d : Nat} {t : TypeId} {t' : TypeId} {x : Operand} {y : Operand} {ty : TypeId} {pos : String} {after : Array Edge} {k : IntKind} {a : Int} {b : Int} {r : Bool} (hx : (⟨s, bx, X⟩ : St).ev x = some (.sv (.one (.val (.int k a))))) (hy : (⟨s, bx, X⟩ : St).ev y = some (.sv (.one (.val (.int k b))))) (hc : (a != b) = r) (kont : RunK P n ops os ⟨(d, .sv (.one (.val (.bool r)))) :: s, bx, X⟩ (⟨[(d, .sv (.one (.val (.bool r))))], [], []⟩ :: acc) K) :
    RunK P n ops (⟨some d, .binOp .neq t x y t', ty, pos, after, none⟩ :: os) ⟨s, bx, X⟩ acc K := Go.Lg.K.neq hx hy hc .plain kont
theorem klt {d : Nat} {t : TypeId} {t' : TypeId} {x : Operand} {y : Operand} {ty : TypeId} {pos : String} {after : Array Edge} {k : IntKind} {a : Int} {b : Int} {r : Bool} (hx : (⟨s, bx, X⟩ : St).ev x = some (.sv (.one (.val (.int k a))))) (hy : (⟨s, bx, X⟩ : St).ev y = some (.sv (.one (.val (.int k b))))) (hc : decide (a < b) = r) (kont : RunK P n ops os ⟨(d, .sv (.one (.val (.bool r)))) :: s, bx, X⟩ (⟨[(d, .sv (.one (.val (.bool r))))], [], []⟩ :: acc) K) :
    RunK P n ops (⟨some d, .binOp .lss t x y t', ty, pos, after, none⟩ :: os) ⟨s, bx, X⟩ acc K := Go.Lg.K.lss hx hy hc .plain kont
theorem kse {d : Nat} {t : TypeId} {t' : TypeId} {x : Operand} {y : Operand} {ty : TypeId} {pos : String} {after : Array Edge} {r : Bool} {p q : ByteArray} (hx : (⟨s, bx, X⟩ : St).ev x = some (.sv (.one (.val (.string p))))) (hy : (⟨s, bx, X⟩ : St).ev y = some (.sv (.one (.val (.string q))))) (hc : (p.toList == q.toList) = r) (kont : RunK P n ops os ⟨(d, .sv (.one (.val (.bool r)))) :: s, bx, X⟩ (⟨[(d, .sv (.one (.val (.bool r))))], [], []⟩ :: acc) K) :
    RunK P n ops (⟨some d, .binOp .eql t x y t', ty, pos, after, none⟩ :: os) ⟨s, bx, X⟩ acc K := Go.Lg.K.strEq hx hy hc .plain kont
theorem kca {d : Nat} {f : FuncId} {args : List Operand} {tys : Array TypeId} {ty : TypeId} {pos : String} {after : Array Edge} {lvs : List LV} {r : LV} (hargs : evs ⟨s, bx, X⟩ args = some lvs) (hcl : lvs.all LV.closed = true) (hs : PSpec P X f lvs r) (kont : RunK P n ops os ⟨(d, r) :: s, bx, X⟩ (⟨[(d, r)], [], []⟩ :: acc) K) :
    RunK P n ops (⟨some d, .call ⟨.value (.func f), args.toArray, tys⟩, ty, pos, after, none⟩ :: os) ⟨s, bx, X⟩ acc K := Go.Lg.K.call hargs hcl hs .plain kont
theorem gca {d : Nat} {f : FuncId} {args : List Operand} {tys : Array TypeId} {ty : TypeId} {pos : String} {after : Array Edge} {lvs : List LV} {r : LV} (hargs : evs ⟨s, bx, X⟩ args = some lvs) (hcl : lvs.all LV.closed = true) (hs : PSpec P X f lvs r) {gj gt : Nat} {gb : Bool} (g1 : (ops[gj]?).bind (·.dst) = some gt) (g2 : look gt s = some (.sv (.one (.val (.bool gb))))) (kont : RunK P n ops os ⟨(d, r) :: s, bx, X⟩ (⟨[(d, r)], [], []⟩ :: acc) K) :
    RunK P n ops (⟨some d, .call ⟨.value (.func f), args.toArray, tys⟩, ty, pos, after, some (gj, gb)⟩ :: os) ⟨s, bx, X⟩ acc K := Go.Lg.K.call hargs hcl hs (.taken g1 g2) kont
theorem kl1 {d : Nat} {t : TypeId} {x : Operand} {ty : TypeId} {pos : String} {after : Array Edge} {k off : Nat} {e : TypeId} {cs : List CV} {row : Bool} {c : CV} [i : OneT P t] (hx : (⟨s, bx, X⟩ : St).ev x = some (.sv (.one (.ptr k off)))) (hk : (⟨s, bx, X⟩ : St).stat k = some (some ⟨e, cs, row⟩)) (hc : cs[off]? = some c) (kont : RunK P n ops os ⟨(d, .sv (.one c)) :: s, bx, X⟩ (⟨[(d, .sv (.one c))], [k], []⟩ :: acc) K) :
    RunK P n ops (⟨some d, .load t x, ty, pos, after, none⟩ :: os) ⟨s, bx, X⟩ acc K := Go.Lg.K.loadOne hx hk hc .plain kont
theorem kfa {d : Nat} {t : TypeId} {x : Operand} {ty : TypeId} {pos : String} {after : Array Edge} {i k off o m : Nat} [f : FieldT P t i o m] (hx : (⟨s, bx, X⟩ : St).ev x = some (.sv (.one (.ptr k off)))) {off' : Nat} (ho : Nat.add off o = off') (kont : RunK P n ops os ⟨(d, .sv (.one (.ptr k off'))) :: s, bx, X⟩ (⟨[(d, .sv (.one (.ptr k off')))], [], []⟩ :: acc) K) :
    RunK P n ops (⟨some d, .fieldAddr t x i, ty, pos, after, none⟩ :: os) ⟨s, bx, X⟩ acc K := Go.Lg.K.fieldAddr hx ho .plain kont
theorem kln {d : Nat} {t : TypeId} {x : Operand} {ty : TypeId} {pos : String} {after : Array Edge} {s0 : List (Nat × LV)} {s : ByteArray} [StrT P t] (hx : (⟨s0, bx, X⟩ : St).ev x = some (.sv (.one (.val (.string s))))) (kont : RunK P n ops os ⟨(d, .sv (.one (.val (.int .i64 s.size)))) :: s0, bx, X⟩ (⟨[(d, .sv (.one (.val (.int .i64 s.size))))], [], []⟩ :: acc) K) :
    RunK P n ops (⟨some d, .call ⟨.builtin .len, #[x], #[t]⟩, ty, pos, after, none⟩ :: os) ⟨s0, bx, X⟩ acc K := Go.Lg.K.lenStr hx .plain kont
theorem kcv {d : Nat} {t : TypeId} {t' : TypeId} {x : Operand} {ty : TypeId} {pos : String} {after : Array Edge} {k k' : IntKind} {a c : Int} {ks : IntKind} [i : IntT P t ks] [i' : IntT P t' k'] (hx : (⟨s, bx, X⟩ : St).ev x = some (.sv (.one (.val (.int k a))))) (hc : k'.wrap a = c) (kont : RunK P n ops os ⟨(d, .sv (.one (.val (.int k' c)))) :: s, bx, X⟩ (⟨[(d, .sv (.one (.val (.int k' c))))], [], []⟩ :: acc) K) :
    RunK P n ops (⟨some d, .convert t t' x, ty, pos, after, none⟩ :: os) ⟨s, bx, X⟩ acc K := Go.Lg.K.conv hx hc .plain kont
end
end Go.Lg
end
section
namespace Go.Proofs.Ytdlilapjijpghaa
open Go Go.Lg
theorem mixed : Try.prog.follows .mixedOrders = true := by kernel_rfl
instance : ZeroT Try.prog 1 [(.val (.nilFunc))] := ⟨by kernel_rfl⟩
instance : OneT Try.prog 1 := ⟨by kernel_rfl⟩
instance : ZeroT Try.prog 2 [(.val (.int .i64 0))] := ⟨by kernel_rfl⟩
instance : OneT Try.prog 2 := ⟨by kernel_rfl⟩
instance : IntT Try.prog 2 .i64 := ⟨by kernel_rfl⟩
instance : ZeroT Try.prog 3 [(.val (.int .i64 0))] := ⟨by kernel_rfl⟩
instance : OneT Try.prog 3 := ⟨by kernel_rfl⟩
instance : IntT Try.prog 3 .i64 := ⟨by kernel_rfl⟩
instance : ZeroT Try.prog 4 [(.val (.bool false))] := ⟨by kernel_rfl⟩
instance : OneT Try.prog 4 := ⟨by kernel_rfl⟩
instance : BoolT Try.prog 4 := ⟨by kernel_rfl⟩
instance : ZeroT Try.prog 5 [(.val (.int .u8 0))] := ⟨by kernel_rfl⟩
instance : OneT Try.prog 5 := ⟨by kernel_rfl⟩
instance : IntT Try.prog 5 .u8 := ⟨by kernel_rfl⟩
instance : ZeroT Try.prog 6 [(.val (.int .u8 0))] := ⟨by kernel_rfl⟩
instance : OneT Try.prog 6 := ⟨by kernel_rfl⟩
instance : IntT Try.prog 6 .u8 := ⟨by kernel_rfl⟩
instance : ZeroT Try.prog 7 [(.val (.int .i64 0)), (.val (.int .i64 0)), (.val (.bool false)), (.val (.int .u8 0))] := ⟨by kernel_rfl⟩
instance : AggT Try.prog 7 4 := ⟨by kernel_rfl⟩
instance : FieldT Try.prog 7 0 0 0 := ⟨by kernel_rfl⟩
instance : FieldT Try.prog 7 1 1 0 := ⟨by kernel_rfl⟩
instance : FieldT Try.prog 7 2 2 0 := ⟨by kernel_rfl⟩
instance : FieldT Try.prog 7 3 3 0 := ⟨by kernel_rfl⟩
instance : StructT Try.prog 7 [(.int .i64 0), (.int .i64 0), (.bool false), (.int .u8 0)] [(0, 1), (1, 1), (2, 1), (3, 1)] := ⟨by kernel_rfl⟩
instance : ZeroT Try.prog 8 [(.val (.int .i64 0)), (.val (.int .i64 0)), (.val (.bool false)), (.val (.int .u8 0))] := ⟨by kernel_rfl⟩
instance : AggT Try.prog 8 4 := ⟨by kernel_rfl⟩
instance : FieldT Try.prog 8 0 0 0 := ⟨by kernel_rfl⟩
instance : FieldT Try.prog 8 1 1 0 := ⟨by kernel_rfl⟩
instance : FieldT Try.prog 8 2 2 0 := ⟨by kernel_rfl⟩
instance : FieldT Try.prog 8 3 3 0 := ⟨by kernel_rfl⟩
instance : StructT Try.prog 8 [(.int .i64 0), (.int .i64 0), (.bool false), (.int .u8 0)] [(0, 1), (1, 1), (2, 1), (3, 1)] := ⟨by kernel_rfl⟩
instance : ZeroT Try.prog 9 [(.val (.string ⟨#[]⟩))] := ⟨by kernel_rfl⟩
instance : OneT Try.prog 9 := ⟨by kernel_rfl⟩
instance : StrT Try.prog 9 := ⟨by kernel_rfl⟩
instance : ZeroT Try.prog 10 [(.val (.string ⟨#[]⟩))] := ⟨by kernel_rfl⟩
instance : OneT Try.prog 10 := ⟨by kernel_rfl⟩
instance : StrT Try.prog 10 := ⟨by kernel_rfl⟩
instance : ZeroT Try.prog 11 [(.val (.string ⟨#[]⟩))] := ⟨by kernel_rfl⟩
instance : OneT Try.prog 11 := ⟨by kernel_rfl⟩
instance : StrT Try.prog 11 := ⟨by kernel_rfl⟩
instance : ZeroT Try.prog 12 [(.val (.int .u64 0))] := ⟨by kernel_rfl⟩
instance : OneT Try.prog 12 := ⟨by kernel_rfl⟩
instance : IntT Try.prog 12 .u64 := ⟨by kernel_rfl⟩
instance : ZeroT Try.prog 13 [(.val (.string ⟨#[]⟩)), (.val (.int .u64 0))] := ⟨by kernel_rfl⟩
instance : AggT Try.prog 13 2 := ⟨by kernel_rfl⟩
instance : FieldT Try.prog 13 0 0 0 := ⟨by kernel_rfl⟩
instance : FieldT Try.prog 13 1 1 0 := ⟨by kernel_rfl⟩
instance : StructT Try.prog 13 [(.string ⟨#[]⟩), (.int .u64 0)] [(0, 1), (1, 1)] := ⟨by kernel_rfl⟩
instance : ZeroT Try.prog 14 [(.val (.string ⟨#[]⟩)), (.val (.int .u64 0))] := ⟨by kernel_rfl⟩
instance : AggT Try.prog 14 2 := ⟨by kernel_rfl⟩
instance : FieldT Try.prog 14 0 0 0 := ⟨by kernel_rfl⟩
instance : FieldT Try.prog 14 1 1 0 := ⟨by kernel_rfl⟩
instance : StructT Try.prog 14 [(.string ⟨#[]⟩), (.int .u64 0)] [(0, 1), (1, 1)] := ⟨by kernel_rfl⟩
instance : ZeroT Try.prog 15 [(.val (.pointer none))] := ⟨by kernel_rfl⟩
instance : OneT Try.prog 15 := ⟨by kernel_rfl⟩
instance : ZeroT Try.prog 16 [(.val (.pointer none))] := ⟨by kernel_rfl⟩
instance : OneT Try.prog 16 := ⟨by kernel_rfl⟩
instance : ZeroT Try.prog 17 [(.val (.pointer none))] := ⟨by kernel_rfl⟩
instance : OneT Try.prog 17 := ⟨by kernel_rfl⟩
instance : ZeroT Try.prog 18 [(.val (.pointer none))] := ⟨by kernel_rfl⟩
instance : AggT Try.prog 18 1 := ⟨by kernel_rfl⟩
instance : FieldT Try.prog 18 0 0 0 := ⟨by kernel_rfl⟩
instance : StructT Try.prog 18 [(.pointer none)] [(0, 1)] := ⟨by kernel_rfl⟩
instance : ZeroT Try.prog 19 [(.val (.pointer none))] := ⟨by kernel_rfl⟩
instance : AggT Try.prog 19 1 := ⟨by kernel_rfl⟩
instance : FieldT Try.prog 19 0 0 0 := ⟨by kernel_rfl⟩
instance : StructT Try.prog 19 [(.pointer none)] [(0, 1)] := ⟨by kernel_rfl⟩
instance : ZeroT Try.prog 20 [(.val (.nilIface))] := ⟨by kernel_rfl⟩
instance : OneT Try.prog 20 := ⟨by kernel_rfl⟩
instance : ZeroT Try.prog 21 [(.val (.int .i32 0))] := ⟨by kernel_rfl⟩
instance : OneT Try.prog 21 := ⟨by kernel_rfl⟩
instance : IntT Try.prog 21 .i32 := ⟨by kernel_rfl⟩
instance : ZeroT Try.prog 22 [(.val (.slice none 0 0))] := ⟨by kernel_rfl⟩
instance : OneT Try.prog 22 := ⟨by kernel_rfl⟩
instance : SliceT Try.prog 22 3 := ⟨by kernel_rfl⟩
instance : ZeroT Try.prog 23 [(.val (.nilFunc))] := ⟨by kernel_rfl⟩
instance : OneT Try.prog 23 := ⟨by kernel_rfl⟩
instance : ZeroT Try.prog 24 [(.val (.pointer none))] := ⟨by kernel_rfl⟩
instance : OneT Try.prog 24 := ⟨by kernel_rfl⟩
instance : ZeroT Try.prog 25 [(.val (.nilFunc))] := ⟨by kernel_rfl⟩
instance : OneT Try.prog 25 := ⟨by kernel_rfl⟩
instance : ZeroT Try.prog 26 [(.val (.int .i64 0))] := ⟨by kernel_rfl⟩
instance : OneT Try.prog 26 := ⟨by kernel_rfl⟩
instance : IntT Try.prog 26 .i64 := ⟨by kernel_rfl⟩
instance : ZeroT Try.prog 28 [(.val (.nilFunc))] := ⟨by kernel_rfl⟩
instance : OneT Try.prog 28 := ⟨by kernel_rfl⟩
instance : ZeroT Try.prog 30 [(.val (.nilFunc))] := ⟨by kernel_rfl⟩
instance : OneT Try.prog 30 := ⟨by kernel_rfl⟩
instance : ZeroT Try.prog 31 [(.val (.nilFunc))] := ⟨by kernel_rfl⟩
instance : OneT Try.prog 31 := ⟨by kernel_rfl⟩
instance : ZeroT Try.prog 32 [(.val (.nilFunc))] := ⟨by kernel_rfl⟩
instance : OneT Try.prog 32 := ⟨by kernel_rfl⟩
instance : ZeroT Try.prog 33 [(.val (.nilFunc))] := ⟨by kernel_rfl⟩
instance : OneT Try.prog 33 := ⟨by kernel_rfl⟩
instance : ZeroT Try.prog 34 [(.val (.slice none 0 0))] := ⟨by kernel_rfl⟩
instance : OneT Try.prog 34 := ⟨by kernel_rfl⟩
instance : SliceT Try.prog 34 1 := ⟨by kernel_rfl⟩
instance : ZeroT Try.prog 35 [(.val (.nilFunc))] := ⟨by kernel_rfl⟩
instance : OneT Try.prog 35 := ⟨by kernel_rfl⟩
instance : ZeroT Try.prog 36 [(.val (.nilFunc))] := ⟨by kernel_rfl⟩
instance : OneT Try.prog 36 := ⟨by kernel_rfl⟩
instance : ZeroT Try.prog 37 [(.val (.pointer none))] := ⟨by kernel_rfl⟩
instance : OneT Try.prog 37 := ⟨by kernel_rfl⟩
instance : ZeroT Try.prog 38 [(.val (.int .i64 0)), (.val (.int .i64 0)), (.val (.slice none 0 0))] := ⟨by kernel_rfl⟩
instance : AggT Try.prog 38 3 := ⟨by kernel_rfl⟩
instance : FieldT Try.prog 38 0 0 0 := ⟨by kernel_rfl⟩
instance : FieldT Try.prog 38 1 1 0 := ⟨by kernel_rfl⟩
instance : FieldT Try.prog 38 2 2 0 := ⟨by kernel_rfl⟩
instance : StructT Try.prog 38 [(.int .i64 0), (.int .i64 0), (.slice none 0 0)] [(0, 1), (1, 1), (2, 1)] := ⟨by kernel_rfl⟩
instance : ZeroT Try.prog 39 [(.val (.int .i64 0)), (.val (.int .i64 0)), (.val (.slice none 0 0))] := ⟨by kernel_rfl⟩
instance : AggT Try.prog 39 3 := ⟨by kernel_rfl⟩
instance : FieldT Try.prog 39 0 0 0 := ⟨by kernel_rfl⟩
instance : FieldT Try.prog 39 1 1 0 := ⟨by kernel_rfl⟩
instance : FieldT Try.prog 39 2 2 0 := ⟨by kernel_rfl⟩
instance : StructT Try.prog 39 [(.int .i64 0), (.int .i64 0), (.slice none 0 0)] [(0, 1), (1, 1), (2, 1)] := ⟨by kernel_rfl⟩
instance : ZeroT Try.prog 40 [(.val (.int .i64 0)), (.val (.int .i64 0)), (.val (.string ⟨#[]⟩))] := ⟨by kernel_rfl⟩
instance : AggT Try.prog 40 3 := ⟨by kernel_rfl⟩
instance : FieldT Try.prog 40 0 0 0 := ⟨by kernel_rfl⟩
instance : FieldT Try.prog 40 1 1 0 := ⟨by kernel_rfl⟩
instance : FieldT Try.prog 40 2 2 0 := ⟨by kernel_rfl⟩
instance : StructT Try.prog 40 [(.int .i64 0), (.int .i64 0), (.string ⟨#[]⟩)] [(0, 1), (1, 1), (2, 1)] := ⟨by kernel_rfl⟩
instance : ZeroT Try.prog 41 [(.val (.int .i64 0)), (.val (.int .i64 0)), (.val (.string ⟨#[]⟩))] := ⟨by kernel_rfl⟩
instance : AggT Try.prog 41 3 := ⟨by kernel_rfl⟩
instance : FieldT Try.prog 41 0 0 0 := ⟨by kernel_rfl⟩
instance : FieldT Try.prog 41 1 1 0 := ⟨by kernel_rfl⟩
instance : FieldT Try.prog 41 2 2 0 := ⟨by kernel_rfl⟩
instance : StructT Try.prog 41 [(.int .i64 0), (.int .i64 0), (.string ⟨#[]⟩)] [(0, 1), (1, 1), (2, 1)] := ⟨by kernel_rfl⟩
instance : ZeroT Try.prog 42 [(.val (.nilFunc))] := ⟨by kernel_rfl⟩
instance : OneT Try.prog 42 := ⟨by kernel_rfl⟩
instance : ZeroT Try.prog 43 [(.val (.nilFunc))] := ⟨by kernel_rfl⟩
instance : OneT Try.prog 43 := ⟨by kernel_rfl⟩
instance : ZeroT Try.prog 45 [(.val (.nilFunc))] := ⟨by kernel_rfl⟩
instance : OneT Try.prog 45 := ⟨by kernel_rfl⟩
instance : ZeroT Try.prog 46 [(.val (.nilFunc))] := ⟨by kernel_rfl⟩
instance : OneT Try.prog 46 := ⟨by kernel_rfl⟩
instance : ZeroT Try.prog 47 [(.val (.nilFunc))] := ⟨by kernel_rfl⟩
instance : OneT Try.prog 47 := ⟨by kernel_rfl⟩
instance : ZeroT Try.prog 48 [(.val (.slice none 0 0))] := ⟨by kernel_rfl⟩
instance : OneT Try.prog 48 := ⟨by kernel_rfl⟩
instance : SliceT Try.prog 48 1 := ⟨by kernel_rfl⟩
instance : ZeroT Try.prog 49 [(.val (.int .u64 0))] := ⟨by kernel_rfl⟩
instance : OneT Try.prog 49 := ⟨by kernel_rfl⟩
instance : IntT Try.prog 49 .u64 := ⟨by kernel_rfl⟩
instance : ZeroT Try.prog 50 [(.val (.map none))] := ⟨by kernel_rfl⟩
instance : OneT Try.prog 50 := ⟨by kernel_rfl⟩
instance : ZeroT Try.prog 51 [(.val (.slice none 0 0))] := ⟨by kernel_rfl⟩
instance : OneT Try.prog 51 := ⟨by kernel_rfl⟩
instance : SliceT Try.prog 51 1 := ⟨by kernel_rfl⟩
instance : ZeroT Try.prog 52 [(.val (.nilFunc))] := ⟨by kernel_rfl⟩
instance : OneT Try.prog 52 := ⟨by kernel_rfl⟩
instance : ZeroT Try.prog 53 [(.val (.nilFunc))] := ⟨by kernel_rfl⟩
instance : OneT Try.prog 53 := ⟨by kernel_rfl⟩
instance : ZeroT Try.prog 54 [(.val (.slice none 0 0))] := ⟨by kernel_rfl⟩
instance : OneT Try.prog 54 := ⟨by kernel_rfl⟩
instance : SliceT Try.prog 54 1 := ⟨by kernel_rfl⟩
instance : ZeroT Try.prog 55 [(.val (.int .i64 0)), (.val (.int .i64 0)), (.val (.int .i64 0)), (.val (.slice none 0 0))] := ⟨by kernel_rfl⟩
instance : AggT Try.prog 55 4 := ⟨by kernel_rfl⟩
instance : FieldT Try.prog 55 0 0 0 := ⟨by kernel_rfl⟩
instance : FieldT Try.prog 55 1 1 0 := ⟨by kernel_rfl⟩
instance : FieldT Try.prog 55 2 2 0 := ⟨by kernel_rfl⟩
instance : FieldT Try.prog 55 3 3 0 := ⟨by kernel_rfl⟩
instance : StructT Try.prog 55 [(.int .i64 0), (.int .i64 0), (.int .i64 0), (.slice none 0 0)] [(0, 1), (1, 1), (2, 1), (3, 1)] := ⟨by kernel_rfl⟩
instance : ZeroT Try.prog 56 [(.val (.int .i64 0)), (.val (.int .i64 0)), (.val (.int .i64 0)), (.val (.slice none 0 0))] := ⟨by kernel_rfl⟩
instance : AggT Try.prog 56 4 := ⟨by kernel_rfl⟩
instance : FieldT Try.prog 56 0 0 0 := ⟨by kernel_rfl⟩
instance : FieldT Try.prog 56 1 1 0 := ⟨by kernel_rfl⟩
instance : FieldT Try.prog 56 2 2 0 := ⟨by kernel_rfl⟩
instance : FieldT Try.prog 56 3 3 0 := ⟨by kernel_rfl⟩
instance : StructT Try.prog 56 [(.int .i64 0), (.int .i64 0), (.int .i64 0), (.slice none 0 0)] [(0, 1), (1, 1), (2, 1), (3, 1)] := ⟨by kernel_rfl⟩
instance : ZeroT Try.prog 57 [(.val (.nilFunc))] := ⟨by kernel_rfl⟩
instance : OneT Try.prog 57 := ⟨by kernel_rfl⟩
instance : ZeroT Try.prog 58 [(.val (.nilFunc))] := ⟨by kernel_rfl⟩
instance : OneT Try.prog 58 := ⟨by kernel_rfl⟩
instance : ZeroT Try.prog 59 [(.val (.nilFunc))] := ⟨by kernel_rfl⟩
instance : OneT Try.prog 59 := ⟨by kernel_rfl⟩
instance : ZeroT Try.prog 60 [(.val (.nilFunc))] := ⟨by kernel_rfl⟩
instance : OneT Try.prog 60 := ⟨by kernel_rfl⟩
instance : ZeroT Try.prog 61 [(.val (.pointer none)), (.val (.pointer none)), (.val (.pointer none)), (.val (.string ⟨#[]⟩))] := ⟨by kernel_rfl⟩
instance : AggT Try.prog 61 4 := ⟨by kernel_rfl⟩
instance : FieldT Try.prog 61 0 0 0 := ⟨by kernel_rfl⟩
instance : FieldT Try.prog 61 1 1 0 := ⟨by kernel_rfl⟩
instance : FieldT Try.prog 61 2 2 0 := ⟨by kernel_rfl⟩
instance : FieldT Try.prog 61 3 3 0 := ⟨by kernel_rfl⟩
instance : StructT Try.prog 61 [(.pointer none), (.pointer none), (.pointer none), (.string ⟨#[]⟩)] [(0, 1), (1, 1), (2, 1), (3, 1)] := ⟨by kernel_rfl⟩
instance : ZeroT Try.prog 62 [(.val (.pointer none)), (.val (.pointer none)), (.val (.pointer none)), (.val (.string ⟨#[]⟩))] := ⟨by kernel_rfl⟩
instance : AggT Try.prog 62 4 := ⟨by kernel_rfl⟩
instance : FieldT Try.prog 62 0 0 0 := ⟨by kernel_rfl⟩
instance : FieldT Try.prog 62 1 1 0 := ⟨by kernel_rfl⟩
instance : FieldT Try.prog 62 2 2 0 := ⟨by kernel_rfl⟩
instance : FieldT Try.prog 62 3 3 0 := ⟨by kernel_rfl⟩
instance : StructT Try.prog 62 [(.pointer none), (.pointer none), (.pointer none), (.string ⟨#[]⟩)] [(0, 1), (1, 1), (2, 1), (3, 1)] := ⟨by kernel_rfl⟩
instance : ZeroT Try.prog 63 [] := ⟨by kernel_rfl⟩
instance : AggT Try.prog 63 0 := ⟨by kernel_rfl⟩
instance : ArrT Try.prog 63 0 1 := ⟨by kernel_rfl⟩
instance : ZeroT Try.prog 64 [] := ⟨by kernel_rfl⟩
instance : AggT Try.prog 64 0 := ⟨by kernel_rfl⟩
instance : StructT Try.prog 64 [] [(0, 0)] := ⟨by kernel_rfl⟩
instance : ZeroT Try.prog 65 [] := ⟨by kernel_rfl⟩
instance : AggT Try.prog 65 0 := ⟨by kernel_rfl⟩
instance : StructT Try.prog 65 [] [(0, 0)] := ⟨by kernel_rfl⟩
instance : ZeroT Try.prog 66 [(.val (.int .u32 0))] := ⟨by kernel_rfl⟩
instance : OneT Try.prog 66 := ⟨by kernel_rfl⟩
instance : IntT Try.prog 66 .u32 := ⟨by kernel_rfl⟩
instance : ZeroT Try.prog 67 [(.val (.int .u8 0))] := ⟨by kernel_rfl⟩
instance : OneT Try.prog 67 := ⟨by kernel_rfl⟩
instance : IntT Try.prog 67 .u8 := ⟨by kernel_rfl⟩
instance : ZeroT Try.prog 68 [(.val (.int .u8 0))] := ⟨by kernel_rfl⟩
instance : OneT Try.prog 68 := ⟨by kernel_rfl⟩
instance : IntT Try.prog 68 .u8 := ⟨by kernel_rfl⟩
instance : ZeroT Try.prog 69 [(.val (.nilFunc))] := ⟨by kernel_rfl⟩
instance : OneT Try.prog 69 := ⟨by kernel_rfl⟩
instance : ZeroT Try.prog 70 [(.val (.pointer none))] := ⟨by kernel_rfl⟩
instance : OneT Try.prog 70 := ⟨by kernel_rfl⟩
instance : ZeroT Try.prog 71 [(.val (.int .i32 0))] := ⟨by kernel_rfl⟩
instance : OneT Try.prog 71 := ⟨by kernel_rfl⟩
instance : IntT Try.prog 71 .i32 := ⟨by kernel_rfl⟩
instance : ZeroT Try.prog 72 [(.val (.int .i32 0))] := ⟨by kernel_rfl⟩
instance : OneT Try.prog 72 := ⟨by kernel_rfl⟩
instance : IntT Try.prog 72 .i32 := ⟨by kernel_rfl⟩
instance : ZeroT Try.prog 73 [(.val (.int .u64 0)), (.val (.int .u64 0)), (.val (.int .u32 0)), (.val (.int .u8 0)), (.val (.int .u8 0)), (.val (.int .u8 0)), (.val (.int .u8 0)), (.val (.nilFunc)), (.val (.pointer none)), (.val (.int .i32 0)), (.val (.int .i32 0))] := ⟨by kernel_rfl⟩
instance : AggT Try.prog 73 11 := ⟨by kernel_rfl⟩
instance : FieldT Try.prog 73 0 0 0 := ⟨by kernel_rfl⟩
instance : FieldT Try.prog 73 1 1 0 := ⟨by kernel_rfl⟩
instance : FieldT Try.prog 73 2 2 0 := ⟨by kernel_rfl⟩
instance : FieldT Try.prog 73 3 3 0 := ⟨by kernel_rfl⟩
instance : FieldT Try.prog 73 4 4 0 := ⟨by kernel_rfl⟩
instance : FieldT Try.prog 73 5 5 0 := ⟨by kernel_rfl⟩
instance : FieldT Try.prog 73 6 6 0 := ⟨by kernel_rfl⟩
instance : FieldT Try.prog 73 7 7 0 := ⟨by kernel_rfl⟩
instance : FieldT Try.prog 73 8 8 0 := ⟨by kernel_rfl⟩
instance : FieldT Try.prog 73 9 9 0 := ⟨by kernel_rfl⟩
instance : FieldT Try.prog 73 10 10 0 := ⟨by kernel_rfl⟩
instance : StructT Try.prog 73 [(.int .u64 0), (.int .u64 0), (.int .u32 0), (.int .u8 0), (.int .u8 0), (.int .u8 0), (.int .u8 0), (.nilFunc), (.pointer none), (.int .i32 0), (.int .i32 0)] [(0, 1), (1, 1), (2, 1), (3, 1), (4, 1), (5, 1), (6, 1), (7, 1), (8, 1), (9, 1), (10, 1)] := ⟨by kernel_rfl⟩
instance : ZeroT Try.prog 74 [(.val (.int .u64 0)), (.val (.int .u64 0)), (.val (.int .u32 0)), (.val (.int .u8 0)), (.val (.int .u8 0)), (.val (.int .u8 0)), (.val (.int .u8 0)), (.val (.nilFunc)), (.val (.pointer none)), (.val (.int .i32 0)), (.val (.int .i32 0))] := ⟨by kernel_rfl⟩
instance : AggT Try.prog 74 11 := ⟨by kernel_rfl⟩
instance : FieldT Try.prog 74 0 0 0 := ⟨by kernel_rfl⟩
instance : FieldT Try.prog 74 1 1 0 := ⟨by kernel_rfl⟩
instance : FieldT Try.prog 74 2 2 0 := ⟨by kernel_rfl⟩
instance : FieldT Try.prog 74 3 3 0 := ⟨by kernel_rfl⟩
instance : FieldT Try.prog 74 4 4 0 := ⟨by kernel_rfl⟩
instance : FieldT Try.prog 74 5 5 0 := ⟨by kernel_rfl⟩
instance : FieldT Try.prog 74 6 6 0 := ⟨by kernel_rfl⟩
instance : FieldT Try.prog 74 7 7 0 := ⟨by kernel_rfl⟩
instance : FieldT Try.prog 74 8 8 0 := ⟨by kernel_rfl⟩
instance : FieldT Try.prog 74 9 9 0 := ⟨by kernel_rfl⟩
instance : FieldT Try.prog 74 10 10 0 := ⟨by kernel_rfl⟩
instance : StructT Try.prog 74 [(.int .u64 0), (.int .u64 0), (.int .u32 0), (.int .u8 0), (.int .u8 0), (.int .u8 0), (.int .u8 0), (.nilFunc), (.pointer none), (.int .i32 0), (.int .i32 0)] [(0, 1), (1, 1), (2, 1), (3, 1), (4, 1), (5, 1), (6, 1), (7, 1), (8, 1), (9, 1), (10, 1)] := ⟨by kernel_rfl⟩
end Go.Proofs.Ytdlilapjijpghaa
end
section
namespace Go.Lg
open Go Go.RowKit
theorem strs_eq {p q : ByteArray} {r : Bool} (h : (p.data.toList == q.data.toList) = r) : (p.toList == q.toList) = r := by rw [ByteArray.toList_eq, ByteArray.toList_eq, h]
theorem strs_ne {p q : ByteArray} {r : Bool} (h : (!(p.data.toList == q.data.toList)) = r) : (!(p.toList == q.toList)) = r := by rw [ByteArray.toList_eq, ByteArray.toList_eq, h]
theorem str_at {l : List UInt8} {i : Nat} {b : UInt8} (h : l[i]? = some b) : (⟨l.toArray⟩ : ByteArray)[i]? = some b := by
  obtain ⟨hi, h⟩ := List.getElem?_eq_some_iff.1 h
  have hs : i < (⟨l.toArray⟩ : ByteArray).size := by simpa [ByteArray.size] using hi
  rw [getElem?_pos _ i hs]
  exact congrArg some h
theorem str_add (a b : List UInt8) : (⟨a.toArray⟩ : ByteArray) ++ ⟨b.toArray⟩ = ⟨(a ++ b).toArray⟩ := by
  apply ByteArray.ext
  rw [ByteArray.data_append]
  simp
theorem str_cut (l : List UInt8) (a b : Nat) : (⟨l.toArray⟩ : ByteArray).extract a b = ⟨((l.drop a).take (b - a)).toArray⟩ := by
  apply ByteArray.ext
  apply Array.ext'
  rw [Lib.extract_data]
theorem ev_bool {b c : Bool} (h : b = c) : some (LV.sv (.one (.val (.bool b)))) = some (LV.sv (.one (.val (.bool c)))) := by rw [h]
end Go.Lg
namespace Go.Proofs.Ytdlilapjijpghaa
open Go Go.Lg
abbrev Lb (b : Bool) : LV := .sv (.one (.val (.bool b)))
abbrev Ln (k : IntKind) (n : Int) : LV := .sv (.one (.val (.int k n)))
abbrev Ls (l : List UInt8) : LV := .sv (.one (.val (.string ⟨l.toArray⟩)))
abbrev Sb (b : Bool) : SV := .one (.val (.bool b))
abbrev Sn (k : IntKind) (n : Int) : SV := .one (.val (.int k n))
abbrev Ss (l : List UInt8) : SV := .one (.val (.string ⟨l.toArray⟩))
/-- a pointer; nil; a text's cell -/
abbrev Lp (k : Nat) : LV := .sv (.one (.ptr k 0))
abbrev L0 : LV := .sv (.one (.val (.pointer none)))
abbrev vs (l : List UInt8) : CV := .val (.string ⟨l.toArray⟩)
end Go.Proofs.Ytdlilapjijpghaa
end
section
namespace Go.Lg
open Go Go.RowKit
section
variable {P : Program} {n : Nat} {ops os : List Oper} {acc : List Eff} {K : List Eff → St → Prop} {s : List (Nat × LV)} {bx : List (Nat × Option Box)} {X : Nat → Option Obj} {σ : St}
theorem slcBuild_one {t e : TypeId} {m : Nat} {v : Value} (hu : P.underlying t = some (.slice e)) (hz : (P.info? e).map (fun i => (i.size, i.zero.map (fun z => z.cells))) = some (1, some #[v])) (hm : m ≤ 16777216) :
    slcBuild P t m = some (List.replicate m v, 1, e) := by
  unfold slcBuild
  rw [hu]
  simp only
  cases hi : P.info? e with
  | none => rw [hi] at hz; cases hz
  | some ie =>
    rw [hi] at hz
    simp only [Option.map_some, Option.some.injEq, Prod.mk.injEq] at hz
    obtain ⟨h1, h2⟩ := hz
    cases hzz : ie.zero with
    | none => rw [hzz] at h2; cases h2
    | some z =>
      rw [hzz] at h2
      simp only [Option.map_some, Option.some.injEq] at h2
      simp only [hzz, h1, h2]
      rw [if_neg (show ¬ m * 1 > 2 ^ 24 by omega)]
      have : ((List.range (m * 1)).map fun i => (#[v] : Array Value)[i % (#[v] : Array Value).size]!) = List.replicate m v := by
        rw [Nat.mul_one]
        apply List.ext_getElem
        · simp
        · intro i h1 h2
          have : i % 1 = 0 := Nat.mod_one i
          simp [this]
      rw [this]
-- a slice in memory that stays, cut
theorem LOK.cutX {d b off len cap sz h : Nat} {t : TypeId} {x y : Operand} {ty : TypeId} {pos : String} {after_ : Array Edge} {g : Option (Nat × Bool)} {kh : IntKind} (hx : σ.ev x = some (.sv (.one (.val (.slice (some ⟨b, off, none⟩) len cap))))) (hy : σ.ev y = some (.sv (.one (.val (.int kh (h : Nat))))))
    (ht : sliceOf P t = some sz) (hh : h ≤ len) (hc : len ≤ cap) : LOK P n ops ⟨some d, .slice t x none (some y) none, ty, pos, after_, g⟩ σ ⟨[(d, .sv (.one (.val (.slice (some ⟨b, off, none⟩) h cap))))], [], []⟩ :=
  LOK.value fun σ' ha C ι a w hr => by
    have h1 : a.eval x = _ := hr.ev ((ha.ev (x := x) (by simp [Op.operands])).trans hx)
    have h2 : a.eval y = .int kh (h : Nat) := hr.ev ((ha.ev (x := y) (by simp [Op.operands])).trans hy)
    obtain ⟨e, hu, hsz⟩ := sliceOf_spec ht
    have hrun : (Instr.sliceAt t (.slice (some ⟨b, off, none⟩) len cap) none (some (.int kh (h : Nat))) none).run P w = .ok (.slice (some ⟨b, off, none⟩) h cap) w := by
      have ha0 : (⟨b, off, none⟩ : Addr).add 0 = ⟨b, off, none⟩ := by rw [addr_add, Nat.add_zero]
      simp [Instr.sliceAt, Instr.slice, run_underlying hu, Instr.sliceBounds, Instr.sliceBound, asIntOf, hsz, ha0]
      omega
    exact ⟨_, by simp only [execOp, h1, h2, Option.map_none, Option.map_some, Sem.run_bind, hrun, Result.andThen_ok, Sem.run_pure], rfl⟩
theorem K.cutX {d b off len cap sz h : Nat} {t : TypeId} {x y : Operand} {ty : TypeId} {pos : String} {after_ : Array Edge} {g : Option (Nat × Bool)} {kh : IntKind} (hx : (⟨s, bx, X⟩ : St).ev x = some (.sv (.one (.val (.slice (some ⟨b, off, none⟩) len cap))))) (hy : (⟨s, bx, X⟩ : St).ev y = some (.sv (.one (.val (.int kh (h : Nat))))))
    (ht : sliceOf P t = some sz) (hh : h ≤ len) (hc : len ≤ cap) (hw : Want ops s g) (kont : RunK P n ops os ⟨(d, .sv (.one (.val (.slice (some ⟨b, off, none⟩) h cap)))) :: s, bx, X⟩ (⟨[(d, .sv (.one (.val (.slice (some ⟨b, off, none⟩) h cap))))], [], []⟩ :: acc) K) :
    RunK P n ops (⟨some d, .slice t x none (some y) none, ty, pos, after_, g⟩ :: os) ⟨s, bx, X⟩ acc K := RunK.g1 (LOK.cutX hx hy ht hh hc) hw kont
/-- what is appended lies in memory that stays: its cells -/
structure ReadsX (X : Nat → Option Obj) (ad : Option Addr) (news : List Value) : Prop where
  cells : ∀ i u, news[i]? = some u → ∃ (blk off : Nat) (arr : Array Value) (el : TypeId) (fr : Nat × Nat), ad = some ⟨blk, off, none⟩ ∧ X blk = some (.cells arr el fr) ∧ arr[off + i]? = some u
theorem LOK.appendX {d k len m cap sz by_ : Nat} {ad : Addr} {t tx e e2 : TypeId} {x y : Operand} {ty : TypeId} {pos : String} {after_ : Array Edge} {g : Option (Nat × Bool)} {cells : List CV} {row : Bool} {news : List Value}
    (hx : σ.ev x = some (.sv (.one (.slc k 0 len sz)))) (hk : σ.stat k = some (some ⟨e, cells, row⟩)) (hcl : cells.length = len * sz) (hy : σ.ev y = some (.sv (.one (.val (.slice (some ad) m cap))))) (hX : ReadsX σ.X (some ad) news) (hnl : news.length = m * sz) (hone : ∀ u ∈ news, u.oneCell' = true)
    (hinf : slcInfo P t = some (e, sz, by_)) (htx : P.underlying tx = some (.slice e2)) (hfit : (len + m) * by_ ≤ 140737488355328) (h63 : len + m < 9223372036854775808) (hd : σ.fresh d = true) :
    LOK P n ops ⟨some d, .call ⟨.builtin .append, #[x, y], #[t, tx]⟩, ty, pos, after_, g⟩ σ ⟨[(d, .sv (.one (.slc d 0 (len + m) sz)))], [], [(d, some ⟨e, cells ++ news.map .val, true⟩), (k, none)]⟩ :=
  LOK.make fun σ' ha C ι a w hr => by
    have hk' : σ'.stat k = _ := (ha.stat k (.inr (by simp))).trans hk
    have hd' : σ'.stat d = none := (ha.stat d (.inr (by simp))).trans (St.fresh_none hd)
    have h1 := hr.ev ((ha.ev (x := x) (by simp [Op.operands, Call.operands])).trans hx)
    have h2 : a.eval y = .slice (some ad) m cap := hr.ev ((ha.ev (x := y) (by simp [Op.operands, Call.operands])).trans hy)
    simp only [LV.rel, SV.rel, CV.rel, hk'] at h1
    obtain ⟨c, h1, hle, hcs⟩ := h1
    have hsrc := Src.ofSlice (P := P) w (size := sz) htx ad m cap news hnl (fun j u hj => by
      obtain ⟨blk, off, arr, el, fr, e1, e2, e3⟩ := hX.cells j u hj
      have e1 : ad = ⟨blk, off, none⟩ := by simpa using e1
      subst e1
      have hw := hr.ext blk _ (by rw [ha.X]; exact e2)
      rw [addr_add]
      simp only [World.cell?, hw, Option.isSome_none, Bool.false_eq_true, if_false]
      exact e3) hone
    obtain ⟨v, w', ι', hrun, hrel, hv⟩ := append_core (ty := ty) hr hinf (xv := a.eval x) (yv := a.eval y) h1 hle hcs hk' hcl (by rw [h2]; exact hsrc) (CVs.rel_map_val news) hd' (St.fresh_lt hd) hfit h63
    exact ⟨v, w', ι', by simp [execOp, resolve, invoke, builtin, hrun], hrel, hv⟩
theorem K.appendX {d k len m cap sz by_ : Nat} {ad : Addr} {t tx e e2 : TypeId} {x y : Operand} {ty : TypeId} {pos : String} {after_ : Array Edge} {g : Option (Nat × Bool)} {cells : List CV} {row : Bool} {news : List Value}
    (hx : (⟨s, bx, X⟩ : St).ev x = some (.sv (.one (.slc k 0 len sz)))) (hk : (⟨s, bx, X⟩ : St).stat k = some (some ⟨e, cells, row⟩)) (hcl : cells.length = len * sz) (hy : (⟨s, bx, X⟩ : St).ev y = some (.sv (.one (.val (.slice (some ad) m cap))))) (hX : ReadsX X (some ad) news) (hnl : news.length = m * sz) (hone : ∀ u ∈ news, u.oneCell' = true)
    (hinf : slcInfo P t = some (e, sz, by_)) (htx : P.underlying tx = some (.slice e2)) (hfit : (len + m) * by_ ≤ 140737488355328) (h63 : len + m < 9223372036854775808) (hd : (⟨s, bx, X⟩ : St).fresh d = true) {nl : Nat} {nc : List CV} (hnl2 : len + m = nl) (hnc : cells ++ news.map .val = nc) (hw : Want ops s g)
    (kont : RunK P n ops os ⟨(d, .sv (.one (.slc d 0 nl sz))) :: s, (d, some ⟨e, nc, true⟩) :: (k, none) :: bx, X⟩ (⟨[(d, .sv (.one (.slc d 0 nl sz)))], [], [(d, some ⟨e, nc, true⟩), (k, none)]⟩ :: acc) K) :
    RunK P n ops (⟨some d, .call ⟨.builtin .append, #[x, y], #[t, tx]⟩, ty, pos, after_, g⟩ :: os) ⟨s, bx, X⟩ acc K := by
  subst hnl2 hnc
  exact RunK.gen hw (LOK.appendX hx hk hcl hy hX hnl hone hinf htx hfit h63 hd) kont
-- what is appended to no slice
theorem append_nil_core {C : Ctx} {ι : Nat → Nat × Nat} {a : Act} {w : World} {σ' : St} (hr : Rel n C ι σ' a w) {t tx ty e : TypeId} {sz by_ : Nat} (hinf : slcInfo P t = some (e, sz, by_)) {xv yv : Value} {d m : Nat} {l2 : List CV} {news : List Value}
    (hv : xv = .slice none 0 0) (hsrc : Src P sz tx yv m news w) (hl2 : CVs.rel σ'.stat ι l2 news) (hd : σ'.stat d = none) (hlt : d < 1000000) (hm : 1 ≤ m) (hfit : m * by_ ≤ 140737488355328) (h63 : m < 9223372036854775808) :
    ∃ v w' ι', (Builtin.append_ #[t, tx] ty #[xv, yv]).run P w = .ok v w' ∧ Rel n C ι' ⟨σ'.slots, (d, some ⟨e, l2, true⟩) :: σ'.boxes, σ'.X⟩ a w' ∧
      (CV.slc d 0 m sz).rel (⟨σ'.slots, (d, some ⟨e, l2, true⟩) :: σ'.boxes, σ'.X⟩ : St).stat ι' v := by
  obtain ⟨ie, z, hu, hi, hz, hsz, hby, hzs⟩ := slcInfo_spec hinf
  subst hv
  have hnl : news.length = m * sz := hsrc.newsLen
  have hstd : (⟨σ'.slots, (d, some ⟨e, l2, true⟩) :: σ'.boxes, σ'.X⟩ : St).stat d = some (some ⟨e, l2, true⟩) := by rw [stat_cons, if_pos rfl]
  subst hsz hby
  have hne := growslice_fits (need := 0 + m) (old := 0) (bytes := ie.bytes) (by omega) (by rw [Nat.zero_add]; exact hfit)
  have hold := run_firstCells_none (P := P) w.drew ie.size 0 0 0
  have hrun := run_append_grow_src (P := P) w t tx ty e ie z hu hi hz none 0 0 [] hold yv m news hsrc (by omega) (by omega) hne
  rw [Nat.zero_add, List.nil_append] at hrun
  refine ⟨_, _, _, hrun, hr.drew.new hlt hd (b := ⟨e, l2, true⟩) (arr := news.toArray ++ Builtin.zeroCells z.cells (grownCap w m 0 e - m)) ?_, ?_⟩
  · simp only [Box.rel]
    exact ⟨news, (Builtin.zeroCells z.cells (grownCap w m 0 e - m)).toList, by simp, hl2⟩
  · simp only [CV.rel, hstd, put1, if_true]
    have hge := grownCap_ge w m 0 e
    refine ⟨_, rfl, hge, ?_⟩
    have hzc : (Builtin.zeroCells z.cells (grownCap w m 0 e - m)).size = (grownCap w m 0 e - m) * ie.size := by
      simp [Builtin.zeroCells, hzs]
    rw [Array.size_append, hzc]
    have h5 : grownCap w m 0 e = (grownCap w m 0 e - m) + m := by omega
    generalize grownCap w m 0 e - m = q at *
    rw [h5, Nat.add_mul]
    simp
    omega
theorem LOK.appendNil {d k2 m sz by_ : Nat} {t tx e e2 : TypeId} {x y : Operand} {ty : TypeId} {pos : String} {after_ : Array Edge} {g : Option (Nat × Bool)} {l2 : List CV} {e3 : TypeId} {cs2 : List CV} {row2 : Bool}
    (hx : σ.ev x = some (.sv (.one (.val (.slice none 0 0))))) (hy : σ.ev y = some (.sv (.one (.slc k2 0 m sz)))) (hk2 : σ.stat k2 = some (some ⟨e3, cs2, row2⟩)) (hm2 : m * sz ≤ cs2.length) (hl2 : cs2.take (m * sz) = l2) (hso : l2.all CV.solid = true) (hm : 1 ≤ m)
    (hinf : slcInfo P t = some (e, sz, by_)) (htx : P.underlying tx = some (.slice e2)) (hfit : m * by_ ≤ 140737488355328) (h63 : m < 9223372036854775808) (hd : σ.fresh d = true) :
    LOK P n ops ⟨some d, .call ⟨.builtin .append, #[x, y], #[t, tx]⟩, ty, pos, after_, g⟩ σ ⟨[(d, .sv (.one (.slc d 0 m sz)))], [k2], [(d, some ⟨e, l2, true⟩)]⟩ :=
  LOK.make fun σ' ha C ι a w hr => by
    have hk2' : σ'.stat k2 = _ := (ha.stat k2 (.inl (by simp))).trans hk2
    have hd' : σ'.stat d = none := (ha.stat d (.inr (by simp))).trans (St.fresh_none hd)
    have h1 : a.eval x = .slice none 0 0 := hr.ev ((ha.ev (x := x) (by simp [Op.operands, Call.operands])).trans hx)
    have h2 := hr.ev ((ha.ev (x := y) (by simp [Op.operands, Call.operands])).trans hy)
    simp only [LV.rel, SV.rel, CV.rel, hk2'] at h2
    obtain ⟨c2, h2, -, -⟩ := h2
    obtain ⟨arr2, fr2, harr2, -, -, hbr2⟩ := hr.boxes k2 _ hk2' rfl
    obtain ⟨hsz2, hpart⟩ := Box.rel_part hbr2 (off := 0) (m := m * sz) (by show 0 + m * sz ≤ cs2.length; omega)
    rw [List.drop_zero, hl2, List.drop_zero] at hpart
    have hlen2 : (arr2.toList.take (m * sz)).length = m * sz := by simp at hsz2 ⊢; omega
    have hone : ∀ u ∈ arr2.toList.take (m * sz), u.oneCell' = true := (SV.cells_ok (s := .agg l2) (v := .agg (arr2.toList.take (m * sz)).toArray) ⟨_, rfl, by simpa using hpart⟩ hso).2 |> fun h u hu => h u (by simpa [Value.cells] using hu)
    have hsrc := Src.ofSlice (P := P) w (size := sz) htx ⟨(ι k2).1, 0, none⟩ m c2 (arr2.toList.take (m * sz)) hlen2 (fun j u hj => by
      rw [addr_add]
      simp only [World.cell?, harr2, Option.isSome_none, Bool.false_eq_true, if_false]
      rw [List.getElem?_take] at hj
      split at hj
      · simpa using hj
      · simp at hj) hone
    obtain ⟨v, w', ι', hrun, hrel, hv⟩ := append_nil_core (ty := ty) hr hinf (xv := a.eval x) (yv := a.eval y) h1 (by rw [h2]; exact hsrc) hpart hd' (St.fresh_lt hd) hm hfit h63
    exact ⟨v, w', ι', by simp [execOp, resolve, invoke, builtin, hrun], hrel, hv⟩
theorem K.appendNil {d k2 m sz by_ : Nat} {t tx e e2 : TypeId} {x y : Operand} {ty : TypeId} {pos : String} {after_ : Array Edge} {g : Option (Nat × Bool)} {l2 : List CV} {e3 : TypeId} {cs2 : List CV} {row2 : Bool}
    (hx : (⟨s, bx, X⟩ : St).ev x = some (.sv (.one (.val (.slice none 0 0))))) (hy : (⟨s, bx, X⟩ : St).ev y = some (.sv (.one (.slc k2 0 m sz)))) (hk2 : (⟨s, bx, X⟩ : St).stat k2 = some (some ⟨e3, cs2, row2⟩)) (hm2 : m * sz ≤ cs2.length) (hl2 : cs2.take (m * sz) = l2) (hso : l2.all CV.solid = true) (hm : 1 ≤ m)
    (hinf : slcInfo P t = some (e, sz, by_)) (htx : P.underlying tx = some (.slice e2)) (hfit : m * by_ ≤ 140737488355328) (h63 : m < 9223372036854775808) (hd : (⟨s, bx, X⟩ : St).fresh d = true) (hw : Want ops s g)
    (kont : RunK P n ops os ⟨(d, .sv (.one (.slc d 0 m sz))) :: s, (d, some ⟨e, l2, true⟩) :: bx, X⟩ (⟨[(d, .sv (.one (.slc d 0 m sz)))], [k2], [(d, some ⟨e, l2, true⟩)]⟩ :: acc) K) :
    RunK P n ops (⟨some d, .call ⟨.builtin .append, #[x, y], #[t, tx]⟩, ty, pos, after_, g⟩ :: os) ⟨s, bx, X⟩ acc K := RunK.gen hw (LOK.appendNil hx hy hk2 hm2 hl2 hso hm hinf htx hfit h63 hd) kont
end
end Go.Lg
end
section
namespace Go.Lg
open Go Go.RowKit
section
variable {P : Program} {n : Nat} {C : Ctx} {c y x z : Code} {Q Q1 Q2 : Exit → St → Prop} {X : Nat → Option Obj} {σ : St}
/-- what is known leads to one of these states -/
structure Leads (n : Nat) (C : Ctx) (Mid : St → Prop) (σ : St) : Prop where
  out : ∀ ι a w, Rel n C ι σ a w → ∃ ι' σ', Mid σ' ∧ Rel n C ι' σ' a w
theorem Leads.here {Mid : St → Prop} {σ' : St} (hle : Le n C σ σ') (h : Mid σ') : Leads n C Mid σ := ⟨fun ι a w hr => by
  obtain ⟨ι', hr'⟩ := hle.out ι a w hr
  exact ⟨ι', σ', h, hr'⟩⟩
theorem Leads.le {Mid : St → Prop} {σ' : St} (hle : Le n C σ σ') (h : Leads n C Mid σ') : Leads n C Mid σ := ⟨fun ι a w hr => by
  obtain ⟨ι', hr'⟩ := hle.out ι a w hr
  exact h.out ι' a w hr'⟩
theorem LWP.ofLeads {Mid : St → Prop} (h : Leads n C Mid σ) (hm : ∀ σ, Mid σ → LWP P n C y Q σ) : LWP P n C y Q σ := by
  refine ⟨fun ι a w hr => ?_⟩
  obtain ⟨ι', σ', hM, hr'⟩ := h.out ι a w hr
  exact (hm σ' hM).out ι' a w hr'
theorem Leads.freeze {Mid : St → Prop} {s : List (Nat × LV)} {bx : List (Nat × Option Box)} {d k off len sz : Nat} {el : TypeId} {vals : List Value} {row : Bool}
    (hs : s.all (fun p => p.2.inUse bx) = true) (hb : bx.all (fun p => match p.2 with | some b => b.cells.all (CV.inUse bx) | none => true) = true) (hk : look k bx = none)
    (h : ∀ (blk cap : Nat) (arr : Array Value) (fr : Nat × Nat), X blk = none → Frozen C blk arr fr → len ≤ cap → off + cap * sz ≤ arr.size → (∃ sp, arr.toList = vals ++ sp) →
      Leads n C Mid ⟨(d, .sv (.one (.val (.slice (some ⟨blk, off, none⟩) len cap)))) :: s, bx, withBlock X blk (.cells arr el fr)⟩) :
    Leads n C Mid ⟨(d, .sv (.one (.slc k off len sz))) :: s, (k, some ⟨el, vals.map .val, row⟩) :: bx, X⟩ := ⟨fun ι a w hr => by
  obtain ⟨blk, cap, arr, fr, h1, h2, h3, h4, h5, h6⟩ := hr.freeze hs hb hk
  exact (h blk cap arr fr h1 h2 h3 h4 h5).out ι a w h6⟩
theorem LWP.meetL (Mid : St → Prop) (h : LWP P n C c (thenQ (Leads n C Mid) (fun _ _ => False)) σ) (hm : ∀ σ, Mid σ → LWP P n C y Q σ) : LWP P n C c (thenQ (LWP P n C y Q) Q2) σ := by
  refine h.mono ?_
  intro e σ' hq
  cases e with
  | normal => exact LWP.ofLeads hq hm
  | exit id' => exact hq.elim
  | goto l => exact hq.elim
  | ret => exact hq.elim
  | panic c => exact hq.elim
  | outgrown => exact hq.elim
theorem LWP.cutL (Mid : St → Prop)
    (h : LWP P n C x (thenQ (LWP P n C z (thenQ (Leads n C Mid) (fun _ _ => False))) (fun _ _ => False)) σ) (hm : ∀ σ, Mid σ → LWP P n C y Q σ) :
    LWP P n C x (thenQ (LWP P n C z (thenQ (LWP P n C y Q) Q1)) Q2) σ := by
  refine h.mono ?_
  intro e σ' hq
  cases e with
  | normal => exact LWP.meetL Mid hq hm
  | exit id' => exact hq.elim
  | goto l => exact hq.elim
  | ret => exact hq.elim
  | panic c => exact hq.elim
  | outgrown => exact hq.elim
theorem rel_mid {S : Nat → Option (Option Box)} {ι : Nat → Nat × Nat} : ∀ {A : List CV} {c : CV} {B : List CV} {vs : List Value}, CVs.rel S ι (A ++ c :: B) vs → ∃ va v vb, vs = va ++ v :: vb ∧ CVs.rel S ι A va ∧ c.rel S ι v ∧ CVs.rel S ι B vb
  | [], c, B, [], h => h.elim
  | [], c, B, v :: vs, h => ⟨[], v, vs, rfl, trivial, h.1, h.2⟩
  | a :: A, c, B, [], h => h.elim
  | a :: A, c, B, v :: vs, h => by
    obtain ⟨va, u, vb, e, h1, h2, h3⟩ := rel_mid (A := A) (c := c) (B := B) h.2
    exact ⟨v :: va, u, vb, by rw [e]; rfl, ⟨h.1, h1⟩, h2, h3⟩
/-- a slice that lies in a box: its block becomes memory that stays -/
theorem Rel.freezeCell {ι : Nat → Nat × Nat} {a : Act} {w : World} {s : List (Nat × LV)} {bx : List (Nat × Option Box)} {j k off len sz : Nat} {el el2 : TypeId} {A B : List CV} {row2 : Bool} {vals : List Value} {row : Bool}
    (hs : s.all (fun p => p.2.inUse ((j, none) :: bx)) = true) (hA : A.all (CV.inUse ((j, none) :: bx)) = true) (hB : B.all (CV.inUse ((j, none) :: bx)) = true) (hb : bx.all (fun p => match p.2 with | some b => b.cells.all (CV.inUse ((j, none) :: bx)) | none => true) = true) (hk : look k bx = none) (hjk : Nat.beq j k = false)
    (hr : Rel n C ι ⟨s, (j, some ⟨el2, A ++ .slc k off len sz :: B, row2⟩) :: (k, some ⟨el, vals.map .val, row⟩) :: bx, X⟩ a w) :
    ∃ (blk cap : Nat) (arr : Array Value) (fr : Nat × Nat), X blk = none ∧ Frozen C blk arr fr ∧ len ≤ cap ∧ off + cap * sz ≤ arr.size ∧ (∃ sp, arr.toList = vals ++ sp) ∧
      Rel n C ι ⟨s, (j, some ⟨el2, A ++ .val (.slice (some ⟨blk, off, none⟩) len cap) :: B, row2⟩) :: bx, withBlock X blk (.cells arr el fr)⟩ a w := by
  have hjk' : j ≠ k := fun e => by rw [e, Nat.beq_refl] at hjk; cases hjk
  have hst : (⟨s, (j, some ⟨el2, A ++ .slc k off len sz :: B, row2⟩) :: (k, some ⟨el, vals.map .val, row⟩) :: bx, X⟩ : St).stat k = some (some ⟨el, vals.map .val, row⟩) := by
    simp [St.stat, look, hjk]
  have hstj : (⟨s, (j, some ⟨el2, A ++ .slc k off len sz :: B, row2⟩) :: (k, some ⟨el, vals.map .val, row⟩) :: bx, X⟩ : St).stat j = some (some ⟨el2, A ++ .slc k off len sz :: B, row2⟩) := by
    simp [St.stat, look]
  have hlk : ∀ k' x, look k' bx = some x → k' ≠ k := fun k' x h' e => by rw [e, hk] at h'; cases h'
  have hstb : ∀ k', k' ≠ j → ∀ x, look k' bx = some x → (⟨s, (j, some ⟨el2, A ++ .slc k off len sz :: B, row2⟩) :: (k, some ⟨el, vals.map .val, row⟩) :: bx, X⟩ : St).stat k' = some x := fun k' hne x h' => by
    simp only [St.stat, look]
    cases e : Nat.beq j k' with
    | true => exact absurd (Nat.eq_of_beq_eq_true e).symm hne
    | false =>
      cases e2 : Nat.beq k k' with
      | true => exact absurd (Nat.eq_of_beq_eq_true e2).symm (hlk k' x h')
      | false => exact h'
  obtain ⟨arr, fr, harr, hth, hsz, hbr⟩ := hr.boxes k _ hst rfl
  obtain ⟨arrj, frj, harrj, hthj, hszj, hbrj⟩ := hr.boxes j _ hstj rfl
  have hXn : X (ι k).1 = none := (hr.own k _ hst).2
  have hsp : ∃ sp, arr.toList = vals ++ sp := by
    unfold Box.rel at hbr
    cases hrow : row with
    | false =>
      rw [hrow] at hbr
      exact ⟨[], by rw [List.append_nil]; exact rel_vals hbr⟩
    | true =>
      rw [hrow] at hbr
      obtain ⟨us, sp, e, hl⟩ := hbr
      exact ⟨sp, by rw [e, rel_vals hl]⟩
  -- the cell's value
  have hcell : ∃ us sp va v vb, arrj.toList = us ++ sp ∧ (row2 = false → sp = []) ∧ us = va ++ v :: vb ∧ CVs.rel (⟨s, (j, some ⟨el2, A ++ .slc k off len sz :: B, row2⟩) :: (k, some ⟨el, vals.map .val, row⟩) :: bx, X⟩ : St).stat ι A va ∧ (CV.slc k off len sz).rel (⟨s, (j, some ⟨el2, A ++ .slc k off len sz :: B, row2⟩) :: (k, some ⟨el, vals.map .val, row⟩) :: bx, X⟩ : St).stat ι v ∧ CVs.rel (⟨s, (j, some ⟨el2, A ++ .slc k off len sz :: B, row2⟩) :: (k, some ⟨el, vals.map .val, row⟩) :: bx, X⟩ : St).stat ι B vb := by
    generalize (⟨s, (j, some ⟨el2, A ++ .slc k off len sz :: B, row2⟩) :: (k, some ⟨el, vals.map .val, row⟩) :: bx, X⟩ : St).stat = S at hbrj ⊢
    unfold Box.rel at hbrj
    cases row2 with
    | false =>
      obtain ⟨va, v, vb, e, h1, h2, h3⟩ := rel_mid hbrj
      exact ⟨arrj.toList, [], va, v, vb, by simp, fun _ => rfl, e, h1, h2, h3⟩
    | true =>
      obtain ⟨us, sp, e0, hl⟩ := hbrj
      obtain ⟨va, v, vb, e, h1, h2, h3⟩ := rel_mid hl
      exact ⟨us, sp, va, v, vb, e0, fun h => (by cases h), e, h1, h2, h3⟩
  obtain ⟨us, sp2, va, v, vb, eus, hsp2, evs, h1, h2, h3⟩ := hcell
  simp only [CV.rel] at h2
  rw [hst] at h2
  obtain ⟨cap, rfl, hcap, hfit⟩ := h2
  refine ⟨(ι k).1, cap, arr, fr, hXn, ⟨(hr.own k _ hst).1, hth⟩, hcap, by omega, hsp, ?_⟩
  -- names mean the same
  have hon : ∀ k', (look k' ((j, (none : Option Box)) :: bx)).isSome = true → k' ≠ k := fun k' hk' e => by
    subst e
    simp only [look, hjk, cond_false, hk] at hk'
    cases hk'
  have hnew : ∀ k', (⟨s, (j, some ⟨el2, A ++ .val (.slice (some ⟨(ι k).1, off, none⟩) len cap) :: B, row2⟩) :: bx, withBlock X (ι k).1 (.cells arr el fr)⟩ : St).stat k' = if k' = j then some (some ⟨el2, A ++ .val (.slice (some ⟨(ι k).1, off, none⟩) len cap) :: B, row2⟩) else look k' bx := fun k' => by
    simp only [St.stat, look]
    cases e : Nat.beq j k' with
    | true => rw [if_pos (Nat.eq_of_beq_eq_true e).symm]; rfl
    | false => rw [if_neg (fun h => by rw [h, Nat.beq_refl] at e; cases e)]; rfl
  have hstat : ∀ k', k' ≠ k → ∀ x, (⟨s, (j, some ⟨el2, A ++ .val (.slice (some ⟨(ι k).1, off, none⟩) len cap) :: B, row2⟩) :: bx, withBlock X (ι k).1 (.cells arr el fr)⟩ : St).stat k' = some (some x) → ∃ y, (⟨s, (j, some ⟨el2, A ++ .slc k off len sz :: B, row2⟩) :: (k, some ⟨el, vals.map .val, row⟩) :: bx, X⟩ : St).stat k' = some (some y) := fun k' hne x hx => by
    rw [hnew] at hx
    by_cases e : k' = j
    · rw [e]; exact ⟨_, hstj⟩
    · rw [if_neg e] at hx
      exact ⟨x, hstb k' e _ hx⟩
  have hmean : ∀ {c : CV} {v : Value}, c.inUse ((j, none) :: bx) = true → c.rel (⟨s, (j, some ⟨el2, A ++ .slc k off len sz :: B, row2⟩) :: (k, some ⟨el, vals.map .val, row⟩) :: bx, X⟩ : St).stat ι v →
      c.rel (⟨s, (j, some ⟨el2, A ++ .val (.slice (some ⟨(ι k).1, off, none⟩) len cap) :: B, row2⟩) :: bx, withBlock X (ι k).1 (.cells arr el fr)⟩ : St).stat ι v := fun {c v} hu hc => by
    have key : ∀ k', (look k' ((j, (none : Option Box)) :: bx)).isSome = true → (k' = j) ∨ (k' ≠ j ∧ ∃ x, look k' bx = some x ∧ (⟨s, (j, some ⟨el2, A ++ .slc k off len sz :: B, row2⟩) :: (k, some ⟨el, vals.map .val, row⟩) :: bx, X⟩ : St).stat k' = some x) := fun k' hk' => by
      by_cases e : k' = j
      · exact .inl e
      · right
        have e2 : Nat.beq j k' = false := by
          cases h : Nat.beq j k' with
          | false => rfl
          | true => exact absurd (Nat.eq_of_beq_eq_true h).symm e
        simp only [look, e2, cond_false] at hk'
        obtain ⟨x, hx⟩ := Option.isSome_iff_exists.1 hk'
        exact ⟨e, x, hx, hstb k' e x hx⟩
    cases c with
    | val u => exact hc
    | junk => trivial
    | ptr k' o =>
      simp only [CV.rel] at hc ⊢
      rw [hnew]
      rcases key k' hu with e | ⟨e, x, hx, hx2⟩
      · subst e
        rw [hstj] at hc
        rw [if_pos rfl]; exact hc
      · rw [hx2] at hc
        rw [if_neg e, hx]; exact hc
    | slc k' o n' z' =>
      simp only [CV.rel] at hc ⊢
      rw [hnew]
      rcases key k' hu with e | ⟨e, x, hx, hx2⟩
      · subst e
        rw [hstj] at hc
        rw [if_pos rfl]; exact hc
      · rw [hx2] at hc
        rw [if_neg e, hx]; exact hc
    | mp k' =>
      simp only [CV.rel] at hc ⊢
      rw [hnew]
      rcases key k' hu with e | ⟨e, x, hx, hx2⟩
      · subst e
        rw [hstj] at hc
        rw [if_pos rfl]; exact hc
      · rw [hx2] at hc
        rw [if_neg e, hx]; exact hc
  have hmeans : ∀ {l : List CV} {vs : List Value}, l.all (CV.inUse ((j, none) :: bx)) = true → CVs.rel (⟨s, (j, some ⟨el2, A ++ .slc k off len sz :: B, row2⟩) :: (k, some ⟨el, vals.map .val, row⟩) :: bx, X⟩ : St).stat ι l vs →
      CVs.rel (⟨s, (j, some ⟨el2, A ++ .val (.slice (some ⟨(ι k).1, off, none⟩) len cap) :: B, row2⟩) :: bx, withBlock X (ι k).1 (.cells arr el fr)⟩ : St).stat ι l vs := by
    intro l
    induction l with
    | nil => intro vs _ h; cases vs with
      | nil => trivial
      | cons => exact h.elim
    | cons c l ih => intro vs hu h; cases vs with
      | nil => exact h.elim
      | cons v vs =>
        simp only [List.all_cons, Bool.and_eq_true] at hu
        exact ⟨hmean hu.1 h.1, ih hu.2 h.2⟩
  have hsv : ∀ {l : SV} {v : Value}, l.inUse ((j, none) :: bx) = true → l.rel (⟨s, (j, some ⟨el2, A ++ .slc k off len sz :: B, row2⟩) :: (k, some ⟨el, vals.map .val, row⟩) :: bx, X⟩ : St).stat ι v →
      l.rel (⟨s, (j, some ⟨el2, A ++ .val (.slice (some ⟨(ι k).1, off, none⟩) len cap) :: B, row2⟩) :: bx, withBlock X (ι k).1 (.cells arr el fr)⟩ : St).stat ι v := fun {l v} hu h => by
    cases l with
    | one c => exact hmean hu h
    | agg l => obtain ⟨arr', e, hl⟩ := h; exact ⟨arr', e, hmeans hu hl⟩
  exact {
    defers := hr.defers, size := hr.size
    slots := fun d' lv hd => by
      obtain ⟨v', hv', hr'⟩ := hr.slots d' lv hd
      refine ⟨v', hv', ?_⟩
      have hu : lv.inUse ((j, none) :: bx) = true := List.all_eq_true.1 hs _ (look_mem hd)
      cases lv with
      | sv l => exact hsv hu hr'
      | tup l =>
        obtain ⟨arr', e, hl⟩ := hr'
        refine ⟨arr', e, ?_⟩
        generalize arr'.toList = vs at hl
        have hu2 : l.all (SV.inUse ((j, none) :: bx)) = true := hu
        clear hu hd hv'
        induction l generalizing vs with
        | nil => cases vs with
          | nil => trivial
          | cons => exact hl.elim
        | cons c l ih => cases vs with
          | nil => exact hl.elim
          | cons v vs =>
            simp only [List.all_cons, Bool.and_eq_true] at hu2
            exact ⟨hsv hu2.1 hl.1, ih vs hl.2 hu2.2⟩
    res := by
      obtain ⟨F, hF⟩ := hr.res
      refine hF.keep (fun i e cs R hi => ?_) (fun _ _ _ _ _ hj => hj) (fun _ _ ho => ho) (fun b _ hx hne _ => ?_) (fun i bi hi => ?_)
      · rw [hnew] at hi
        by_cases e : i = j
        · rw [if_pos e] at hi; cases hi
        · rw [if_neg e] at hi; exact ⟨hstb i e _ hi, rfl⟩
      · show withBlock X (ι k).1 _ b = none
        unfold withBlock
        rw [if_neg (fun e => hne k _ hst rfl e.symm)]
        exact hx
      · have hne : i ≠ k := fun e => by
          rw [hnew, e] at hi
          by_cases e2 : k = j
          · exact hjk' e2.symm
          · rw [if_neg e2, hk] at hi; cases hi
        obtain ⟨y, hy⟩ := hstat i hne bi hi
        exact .inl ⟨y, hy, rfl⟩
    boxes := fun k' b hb' hbk => by
      rw [hnew] at hb'
      by_cases e : k' = j
      · subst e
        rw [if_pos rfl] at hb'
        cases hb'
        refine ⟨arrj, frj, harrj, hthj, hszj, ?_⟩
        have hnewcells : CVs.rel (⟨s, (k', some ⟨el2, A ++ .val (.slice (some ⟨(ι k).1, off, none⟩) len cap) :: B, row2⟩) :: bx, withBlock X (ι k).1 (.cells arr el fr)⟩ : St).stat ι (A ++ .val (.slice (some ⟨(ι k).1, off, none⟩) len cap) :: B) us := by
          rw [evs]
          exact CVs.rel_append (hmeans hA h1) ⟨rfl, hmeans hB h3⟩
        unfold Box.rel
        cases row2 with
        | false => rw [hsp2 rfl, List.append_nil] at eus; rw [eus]; exact hnewcells
        | true => exact ⟨us, sp2, eus, hnewcells⟩
      · rw [if_neg e] at hb'
        obtain ⟨arr', fr', g1, g2, g3, g4⟩ := hr.boxes k' b (hstb k' e _ hb') hbk
        refine ⟨arr', fr', g1, g2, g3, ?_⟩
        have hu : b.cells.all (CV.inUse ((j, none) :: bx)) = true := by simpa using List.all_eq_true.1 hb _ (look_mem hb')
        unfold Box.rel at g4 ⊢
        cases hrow : b.row with
        | res R => rw [hrow] at g4; exact g4.elim
        | bool r =>
          cases r with
          | false => rw [hrow] at g4; exact hmeans hu g4
          | true => rw [hrow] at g4; obtain ⟨us', sp', e', hl'⟩ := g4; exact ⟨us', sp', e', hmeans hu hl'⟩
    own := fun k' b hb' => by
      have hne : k' ≠ k := fun e => by
        rw [hnew, e] at hb'
        by_cases e2 : k = j
        · exact hjk' e2.symm
        · rw [if_neg e2, hk] at hb'; cases hb'
      obtain ⟨b0, hb0⟩ := hstat k' hne b hb'
      obtain ⟨g1, g2⟩ := hr.own k' b0 hb0
      refine ⟨g1, ?_⟩
      show withBlock X (ι k).1 _ (ι k').1 = none
      unfold withBlock
      rw [if_neg (fun e => hne (hr.inj k' k b0 _ hb0 hst e))]
      exact g2
    inj := fun k1 k2 b1 b2 g1 g2 he => by
      have hne : ∀ k' b, (⟨s, (j, some ⟨el2, A ++ .val (.slice (some ⟨(ι k).1, off, none⟩) len cap) :: B, row2⟩) :: bx, withBlock X (ι k).1 (.cells arr el fr)⟩ : St).stat k' = some (some b) → k' ≠ k := fun k' b hb' e => by
        rw [hnew, e] at hb'
        by_cases e2 : k = j
        · exact hjk' e2.symm
        · rw [if_neg e2, hk] at hb'; cases hb'
      obtain ⟨c1, hc1⟩ := hstat k1 (hne k1 b1 g1) b1 g1
      obtain ⟨c2, hc2⟩ := hstat k2 (hne k2 b2 g2) b2 g2
      exact hr.inj k1 k2 c1 c2 hc1 hc2 he
    keep := fun k' b hb' hge => by
      have hne : k' ≠ k := fun e => by
        rw [hnew, e] at hb'
        by_cases e2 : k = j
        · exact hjk' e2.symm
        · rw [if_neg e2, hk] at hb'; cases hb'
      obtain ⟨b0, hb0⟩ := hstat k' hne b hb'
      exact hr.keep k' b0 hb0 hge
    ext := fun b o hbo => by
      have hbo : withBlock X (ι k).1 (.cells arr el fr) b = some o := hbo
      unfold withBlock at hbo
      by_cases e : b = (ι k).1
      · rw [if_pos e] at hbo
        rw [e, harr]; exact hbo
      · rw [if_neg e] at hbo
        exact hr.ext b o hbo
    frame := hr.frame, big := hr.big, os := hr.os, tape := hr.tape, output := hr.output }
theorem Leads.freezeCell {Mid : St → Prop} {s : List (Nat × LV)} {bx : List (Nat × Option Box)} {j k off len sz : Nat} {el el2 : TypeId} {A B : List CV} {row2 : Bool} {vals : List Value} {row : Bool}
    (hs : s.all (fun p => p.2.inUse ((j, none) :: bx)) = true) (hA : A.all (CV.inUse ((j, none) :: bx)) = true) (hB : B.all (CV.inUse ((j, none) :: bx)) = true) (hb : bx.all (fun p => match p.2 with | some b => b.cells.all (CV.inUse ((j, none) :: bx)) | none => true) = true) (hk : look k bx = none) (hjk : Nat.beq j k = false)
    (h : ∀ (blk cap : Nat) (arr : Array Value) (fr : Nat × Nat), X blk = none → Frozen C blk arr fr → len ≤ cap → off + cap * sz ≤ arr.size → (∃ sp, arr.toList = vals ++ sp) →
      Leads n C Mid ⟨s, (j, some ⟨el2, A ++ .val (.slice (some ⟨blk, off, none⟩) len cap) :: B, row2⟩) :: bx, withBlock X blk (.cells arr el fr)⟩) :
    Leads n C Mid ⟨s, (j, some ⟨el2, A ++ .slc k off len sz :: B, row2⟩) :: (k, some ⟨el, vals.map .val, row⟩) :: bx, X⟩ := ⟨fun ι a w hr => by
  obtain ⟨blk, cap, arr, fr, h1, h2, h3, h4, h5, h6⟩ := hr.freezeCell hs hA hB hb hk hjk
  exact (h blk cap arr fr h1 h2 h3 h4 h5).out ι a w h6⟩
end
end Go.Lg
end
section
namespace Go.Lg
open Go Go.RowKit
def LentOne (S : Nat → Option (Option Box)) (Y : Nat → Option Obj) (lv : LV) (u : Value) : Prop :=
  match lv with
  | .sv (.one (.val v)) => u = v
  | .sv (.one (.slc k off len sz)) => ∃ el cells row, S k = some (some ⟨el, cells, row⟩) ∧ ∃ (blk cap : Nat) (arr : Array Value) (fr : Nat × Nat) (us sp : List Value), u = .slice (some ⟨blk, off, none⟩) len cap ∧ Y blk = some (.cells arr el fr) ∧ len ≤ cap ∧ off + cap * sz ≤ arr.size ∧ arr.toList = us ++ sp ∧ ∀ vals : List Value, cells = vals.map .val → us = vals
  | .sv (.agg cs) => ∀ vals : List Value, cs = vals.map .val → u = .agg vals.toArray
  | _ => False
def Lent (S : Nat → Option (Option Box)) (Y : Nat → Option Obj) : List LV → List Value → Prop
  | [], us => us = []
  | lv :: l, us => ∃ u us', us = u :: us' ∧ LentOne S Y lv u ∧ Lent S Y l us'
def lendable (S : Nat → Option (Option Box)) (ks : List Nat) : LV → Bool
  | .sv (.one (.val _)) => true
  | .sv (.one (.slc k _ _ _)) => ks.contains k && (match S k with | some (some b) => b.blk | _ => false)
  | .sv (.agg _) => true
  | _ => false
theorem args_rel : ∀ (vals : List Value), LVs.rel noS (fun _ => (0, 0)) (vals.map toLV) vals
  | [] => trivial
  | v :: vs => ⟨toLV_rel _ _ v, args_rel vs⟩
section
variable {P : Program} {n : Nat} {ops os : List Oper} {acc : List Eff} {K : List Eff → St → Prop} {s : List (Nat × LV)} {bx : List (Nat × Option Box)} {X : Nat → Option Obj} {σ : St}
theorem lent_of {C : Ctx} {ι : Nat → Nat × Nat} {a : Act} {w : World} {σ' : St} (hr : Rel n C ι σ' a w) (ks : List Nat) (S : Nat → Option (Option Box)) (hS : ∀ k, k ∈ ks → σ'.stat k = S k) : ∀ {lvs : List LV} {us : List Value}, lvs.all (lendable S ks) = true → LVs.rel σ'.stat ι lvs us →
    Lent S (fun b => w.heap[b]?) lvs us
  | [], [], _, _ => rfl
  | [], _ :: _, _, h => h.elim
  | _ :: _, [], _, h => h.elim
  | lv :: l, u :: us, hl, h => by
    simp only [List.all_cons, Bool.and_eq_true] at hl
    refine ⟨u, us, rfl, ?_, lent_of hr ks S hS hl.2 h.2⟩
    have h1 := h.1
    have h2 := hl.1
    match lv with
    | .sv (.one (.val v)) => exact h1
    | .sv (.one (.slc k off len sz)) =>
      simp only [lendable, Bool.and_eq_true] at h2
      have hk : k ∈ ks := by simpa using h2.1
      cases hs : S k with
      | none => rw [hs] at h2; exact absurd h2.2 (by simp)
      | some x =>
        cases x with
        | none => rw [hs] at h2; exact absurd h2.2 (by simp)
        | some b =>
          have hst : σ'.stat k = some (some b) := by rw [hS k hk, hs]
          simp only [LV.rel, SV.rel, CV.rel, hst] at h1
          obtain ⟨cap, rfl, h3, h4⟩ := h1
          obtain ⟨arr, fr, harr, _, hsz, hbr⟩ := hr.boxes k b hst (by rw [hs] at h2; exact h2.2)
          refine ⟨b.elem, b.cells, b.row, hs, ?_⟩
          unfold Box.rel at hbr
          cases hrow : b.row with
          | res R => rw [hrow] at hbr; exact hbr.elim
          | bool r =>
            cases r with
            | false =>
              rw [hrow] at hbr
              exact ⟨_, cap, arr, fr, arr.toList, [], rfl, harr, h3, by omega, by simp, fun vals e => by rw [e] at hbr; exact rel_vals hbr⟩
            | true =>
              rw [hrow] at hbr
              obtain ⟨us', sp, e, hl'⟩ := hbr
              exact ⟨_, cap, arr, fr, us', sp, rfl, harr, h3, by omega, e, fun vals e => by rw [e] at hl'; exact rel_vals hl'⟩
    | .sv (.agg cs) =>
      intro vals e
      obtain ⟨arr, rfl, hl'⟩ := h1
      rw [e] at hl'
      have := rel_vals hl'
      rw [← this]
    | .sv (.one .junk) => cases h2
    | .sv (.one (.ptr _ _)) => cases h2
    | .sv (.one (.mp _)) => cases h2
    | .tup _ => cases h2
theorem LOK.callX {d : Nat} {f : FuncId} {args : List Operand} {tys : Array TypeId} {ty : TypeId} {pos : String} {after_ : Array Edge} {g : Option (Nat × Bool)} {lvs : List LV} {r : LV} (ks : List Nat) (hargs : evs σ args = some lvs) (hl : lvs.all (lendable σ.stat ks) = true) (hent : Program.enters P f = true)
    (hs : ∀ (Y : Nat → Option Obj) (us : List Value), (∀ b o, σ.X b = some o → Y b = some o) → Lent σ.stat Y lvs us → PSpec P Y f (us.map toLV) r) :
    LOK P n ops ⟨some d, .call ⟨.value (.func f), args.toArray, tys⟩, ty, pos, after_, g⟩ σ ⟨[(d, r)], ks, []⟩ := by
  refine ⟨fun σ' ha C ι a w hr hd next Q hn => ?_⟩
  have hargs' : evs σ' args = some lvs := by
    rw [evs_agree fun x hx => ha.ev (by simp [Op.operands, Call.operands, hx])]
    exact hargs
  have hrel := evs_rel hr hargs'
  have hlent := lent_of hr ks σ.stat (fun k hk => ha.stat k (.inl hk)) hl hrel
  have hc := (hs (fun b => w.heap[b]?) _ (fun b o hb => hr.ext b o (by rw [ha.X]; exact hb)) hlent).out w (args.toArray.map a.eval) (fun b o hb => hb) (by rw [Array.toList_map, List.toList_toArray]; exact args_rel _)
  unfold Oper.wp
  have hrun : (execOp a.eval ⟨some d, .call ⟨.value (.func f), args.toArray, tys⟩, ty, pos, after_, g⟩).run P w = .ok (.enter f (args.toArray.map a.eval)) w := by
    simp only [execOp, resolve, Act.eval, Deferred.ofValue, invoke, Sem.run_bind, Sem.run_pure, Result.andThen_ok]
    simp [run_enter hent]
  rw [hrun]
  refine hc.mono ?_
  rintro e w' ⟨v, rfl, hv, hb⟩
  exact hn ι _ w' ((hr.below hb).put (hd d rfl) (LV.rel_later (later_noS _ _ _) hv))
theorem K.callX {d : Nat} {f : FuncId} {args : List Operand} {tys : Array TypeId} {ty : TypeId} {pos : String} {after_ : Array Edge} {g : Option (Nat × Bool)} {lvs : List LV} {r : LV} (ks : List Nat) (hargs : evs ⟨s, bx, X⟩ args = some lvs) (hl : lvs.all (lendable (fun k => look k bx) ks) = true) (hent : Program.enters P f = true)
    (hs : ∀ (Y : Nat → Option Obj) (us : List Value), (∀ b o, X b = some o → Y b = some o) → Lent (fun k => look k bx) Y lvs us → PSpec P Y f (us.map toLV) r) (hw : Want ops s g)
    (kont : RunK P n ops os ⟨(d, r) :: s, bx, X⟩ (⟨[(d, r)], ks, []⟩ :: acc) K) :
    RunK P n ops (⟨some d, .call ⟨.value (.func f), args.toArray, tys⟩, ty, pos, after_, g⟩ :: os) ⟨s, bx, X⟩ acc K := RunK.gen hw (LOK.callX ks hargs hl hent hs) kont
-- a field of memory that stays
theorem LOK.fieldAddrX {d : Nat} {s i : Nat} {x : Operand} {ty : TypeId} {pos : String} {after : Array Edge} {g : Option (Nat × Bool)} {b off o m : Nat} {off' : Nat} (hx : σ.ev x = some (.sv (.one (.val (.pointer (some ⟨b, off, none⟩))))))
    (hf : fieldOf P s i = some (o, m + 1)) (ho : off + o = off') :
    LOK P n ops ⟨some d, .fieldAddr s x i, ty, pos, after, g⟩ σ ⟨[(d, .sv (.one (.val (.pointer (some ⟨b, off', none⟩)))))], [], []⟩ :=
  LOK.value fun σ' ha C ι a w hr => by
    have h1 : a.eval x = _ := hr.ev ((ha.ev (x := x) (by simp [Op.operands])).trans hx)
    subst ho
    unfold fieldOf at hf
    cases hu : P.underlying s with
    | none => simp [hu] at hf
    | some dd =>
      cases dd <;> simp only [hu] at hf <;> try (simp at hf; done)
      rename_i fs
      cases hfi : fs[i]? with
      | none => simp [hfi] at hf
      | some f =>
        cases hin : P.info? f.type with
        | none => simp [hfi, hin] at hf
        | some inf =>
          simp only [hfi, hin, Option.map_some, Option.some.injEq, Prod.mk.injEq] at hf
          obtain ⟨e1, e2⟩ := hf
          refine ⟨_, ?_, rfl⟩
          simp [execOp, Instr.fieldAt, run_underlying hu, hfi, Instr.sureAddr, h1, fieldPlace, sizeOf, typeInfo, hin, e2, addr_add, e1]
theorem K.fieldAddrX {d : Nat} {t : TypeId} {x : Operand} {ty : TypeId} {pos : String} {after : Array Edge} {g : Option (Nat × Bool)} {i b off o m : Nat} [f : FieldT P t i o m] (hx : (⟨s, bx, X⟩ : St).ev x = some (.sv (.one (.val (.pointer (some ⟨b, off, none⟩)))))) {off' : Nat} (ho : Nat.add off o = off') (hw : Want ops s g)
    (kont : RunK P n ops os ⟨(d, .sv (.one (.val (.pointer (some ⟨b, off', none⟩))))) :: s, bx, X⟩ (⟨[(d, .sv (.one (.val (.pointer (some ⟨b, off', none⟩)))))], [], []⟩ :: acc) K) :
    RunK P n ops (⟨some d, .fieldAddr t x i, ty, pos, after, g⟩ :: os) ⟨s, bx, X⟩ acc K := RunK.g1 (LOK.fieldAddrX hx f.h ho) hw kont
end
end Go.Lg
end
section
namespace Go.Lg
open Go Go.RowKit
section
variable {P : Program} {n : Nat} {ops os : List Oper} {acc : List Eff} {K : List Eff → St → Prop} {s : List (Nat × LV)} {bx : List (Nat × Option Box)} {X : Nat → Option Obj} {σ : St}
theorem LOK.appendX0 {d k len cap sz by_ : Nat} {t tx e e2 : TypeId} {x y : Operand} {ty : TypeId} {pos : String} {after_ : Array Edge} {g : Option (Nat × Bool)} {cells : List CV} {row : Bool}
    (hx : σ.ev x = some (.sv (.one (.slc k 0 len sz)))) (hk : σ.stat k = some (some ⟨e, cells, row⟩)) (hcl : cells.length = len * sz) (hy : σ.ev y = some (.sv (.one (.val (.slice none 0 cap)))))
    (hinf : slcInfo P t = some (e, sz, by_)) (htx : P.underlying tx = some (.slice e2)) (hfit : (len + 0) * by_ ≤ 140737488355328) (h63 : len + 0 < 9223372036854775808) (hd : σ.fresh d = true) :
    LOK P n ops ⟨some d, .call ⟨.builtin .append, #[x, y], #[t, tx]⟩, ty, pos, after_, g⟩ σ ⟨[(d, .sv (.one (.slc d 0 (len + 0) sz)))], [], [(d, some ⟨e, cells ++ [], true⟩), (k, none)]⟩ :=
  LOK.make fun σ' ha C ι a w hr => by
    have hk' : σ'.stat k = _ := (ha.stat k (.inr (by simp))).trans hk
    have hd' : σ'.stat d = none := (ha.stat d (.inr (by simp))).trans (St.fresh_none hd)
    have h1 := hr.ev ((ha.ev (x := x) (by simp [Op.operands, Call.operands])).trans hx)
    have h2 : a.eval y = .slice none 0 cap := hr.ev ((ha.ev (x := y) (by simp [Op.operands, Call.operands])).trans hy)
    simp only [LV.rel, SV.rel, CV.rel, hk'] at h1
    obtain ⟨c, h1, hle, hcs⟩ := h1
    have hsrc := Src.ofNil (P := P) w (size := sz) htx cap
    obtain ⟨v, w', ι', hrun, hrel, hv⟩ := append_core (ty := ty) hr hinf (xv := a.eval x) (yv := a.eval y) h1 hle hcs hk' hcl (by rw [h2]; exact hsrc) (show CVs.rel σ'.stat ι [] [] from trivial) hd' (St.fresh_lt hd) hfit h63
    exact ⟨v, w', ι', by simp [execOp, resolve, invoke, builtin, hrun], hrel, hv⟩
theorem K.appendX0 {d k len cap sz by_ : Nat} {t tx e e2 : TypeId} {x y : Operand} {ty : TypeId} {pos : String} {after_ : Array Edge} {g : Option (Nat × Bool)} {cells : List CV} {row : Bool}
    (hx : (⟨s, bx, X⟩ : St).ev x = some (.sv (.one (.slc k 0 len sz)))) (hk : (⟨s, bx, X⟩ : St).stat k = some (some ⟨e, cells, row⟩)) (hcl : cells.length = len * sz) (hy : (⟨s, bx, X⟩ : St).ev y = some (.sv (.one (.val (.slice none 0 cap)))))
    (hinf : slcInfo P t = some (e, sz, by_)) (htx : P.underlying tx = some (.slice e2)) (hfit : (len + 0) * by_ ≤ 140737488355328) (h63 : len + 0 < 9223372036854775808) (hd : (⟨s, bx, X⟩ : St).fresh d = true) {nl : Nat} {nc : List CV} (hnl2 : len + 0 = nl) (hnc : cells ++ [] = nc) (hw : Want ops s g)
    (kont : RunK P n ops os ⟨(d, .sv (.one (.slc d 0 nl sz))) :: s, (d, some ⟨e, nc, true⟩) :: (k, none) :: bx, X⟩ (⟨[(d, .sv (.one (.slc d 0 nl sz)))], [], [(d, some ⟨e, nc, true⟩), (k, none)]⟩ :: acc) K) :
    RunK P n ops (⟨some d, .call ⟨.builtin .append, #[x, y], #[t, tx]⟩, ty, pos, after_, g⟩ :: os) ⟨s, bx, X⟩ acc K := by
  subst hnl2 hnc
  exact RunK.gen hw (LOK.appendX0 hx hk hcl hy hinf htx hfit h63 hd) kont
theorem zeroCells_len {z : Array Value} {sz k : Nat} (hz : z.size = sz) : (Builtin.zeroCells z k).toList.length = k * sz := by simp [Builtin.zeroCells, hz]
theorem run_append_room_zeros (w : World) (t tn ty e : TypeId) (i : TypeInfo) (z : Value) (kq kn : IntKind) (ht : P.underlying t = some (.slice e)) (htn : P.underlying tn = some (.int kn)) (hi : P.info? e = some i) (hz : i.zero = some z)
    (b off sLen sCap m : Nat) (h0 : 0 < m) (hs : 0 < i.size) (h63 : (m : Int) ≤ 9223372036854775807) (h48 : m * i.bytes ≤ 281474976710656) (hroom : sLen + m ≤ sCap) (hzc : ∀ u ∈ (Builtin.zeroCells z.cells m).toList, u.oneCell' = true)
    (hc : ∀ j, j < (Builtin.zeroCells z.cells m).toList.length → (w.cell? ⟨b, off + sLen * i.size + j, none⟩).isSome = true) (hf : ∀ j, j < (Builtin.zeroCells z.cells m).toList.length → w.frozen? ⟨b, off + sLen * i.size + j, none⟩ = false) :
    (Builtin.append_ #[t, tn] ty #[.slice (some ⟨b, off, none⟩) sLen sCap, .int kq m]).run P w = .ok (.slice (some ⟨b, off, none⟩) (sLen + m) sCap) (w.setCells b (off + sLen * i.size) (Builtin.zeroCells z.cells m).toList) := by
  have hst := run_storeCells_cells (P := P) b (off + sLen * i.size) (Builtin.zeroCells z.cells m).toList 0 w (by simpa using hc) (by simpa using hf) hzc
  simp only [Nat.add_zero] at hst
  have hw : IntKind.i64.wrap (m : Int) = m := by rw [IntKind.wrap_i64]; omega
  have h48i : ¬ (281474976710656 < (m : Int) * (i.bytes : Int)) := by
    rw [← Int.natCast_mul]
    omega
  have hneg : ¬ ((m : Int) < 0) := by omega
  have hns : ¬ (m * i.size = 0) := Nat.mul_ne_zero (by omega) (by omega)
  simp [Builtin.append_, run_underlying ht, run_underlying htn, sizeOf, typeInfo, zeroValue, hi, hz, asInt, asIntOf, hw, hneg, hns, h48i, hroom, Addr.add_lit, hst]
theorem append_zero_core {C : Ctx} {ι : Nat → Nat × Nat} {a : Act} {w : World} {σ' : St} (hr : Rel n C ι σ' a w) {t tn ty e : TypeId} {sz by_ : Nat} (hinf : slcInfo P t = some (e, sz, by_)) {kq kn : IntKind} (htn : P.underlying tn = some (.int kn)) {xv yv : Value} {k d len m c : Nat} {cells : List CV} {row : Bool} {zc : Array Value}
    (hzero : (P.info? e).map (fun i => i.zero.map (fun z => z.cells)) = some (some zc)) (hone : ∀ u ∈ (Builtin.zeroCells zc m).toList, u.oneCell' = true)
    (hv : xv = .slice (some ⟨(ι k).1, 0, none⟩) len c) (hy : yv = .int kq m) (hle : len ≤ c) (hcs : 0 + c * sz ≤ (ι k).2) (hk : σ'.stat k = some (some ⟨e, cells, row⟩)) (hcl : cells.length = len * sz)
    (hm : 1 ≤ m) (hs1 : 1 ≤ sz) (hd : σ'.stat d = none) (hlt : d < 1000000) (hfit : (len + m) * by_ ≤ 140737488355328) (h63 : len + m < 9223372036854775808) :
    ∃ v w' ι', (Builtin.append_ #[t, tn] ty #[xv, yv]).run P w = .ok v w' ∧ Rel n C ι' ⟨σ'.slots, (d, some ⟨e, cells ++ (Builtin.zeroCells zc m).toList.map .val, true⟩) :: (k, none) :: σ'.boxes, σ'.X⟩ a w' ∧
      (CV.slc d 0 (len + m) sz).rel (⟨σ'.slots, (d, some ⟨e, cells ++ (Builtin.zeroCells zc m).toList.map .val, true⟩) :: (k, none) :: σ'.boxes, σ'.X⟩ : St).stat ι' v := by
  obtain ⟨ie, z, hu, hi, hz, hsz, hby, hzs⟩ := slcInfo_spec hinf
  subst hv hy
  have hzc : z.cells = zc := by
    rw [hi] at hzero
    simp only [Option.map_some, hz, Option.some.injEq] at hzero
    exact hzero
  subst hzc
  obtain ⟨arr, fr, harr, hthaw, hasz, hbr⟩ := hr.boxes k _ hk rfl
  obtain ⟨us, sp, hus, hrel⟩ : ∃ us sp, arr.toList = us ++ sp ∧ CVs.rel σ'.stat ι cells us := by
    unfold Box.rel at hbr
    cases row with
    | false => exact ⟨arr.toList, [], by simp, hbr⟩
    | true => exact hbr
  have hul : us.length = len * sz := by rw [← CVs.rel_length hrel, hcl]
  have hkd : k ≠ d := fun e => by rw [e, hd] at hk; cases hk
  have hstd : (⟨σ'.slots, (d, some ⟨e, cells ++ (Builtin.zeroCells z.cells m).toList.map .val, true⟩) :: (k, none) :: σ'.boxes, σ'.X⟩ : St).stat d = some (some ⟨e, cells ++ (Builtin.zeroCells z.cells m).toList.map .val, true⟩) := by rw [stat_cons, if_pos rfl]
  subst hsz hby
  have hnl : (Builtin.zeroCells z.cells m).toList.length = m * ie.size := zeroCells_len hzs
  have hl2 : CVs.rel σ'.stat ι ((Builtin.zeroCells z.cells m).toList.map .val) (Builtin.zeroCells z.cells m).toList := CVs.rel_map_val _
  generalize hnews : (Builtin.zeroCells z.cells m).toList = news at *
  have hasz' : arr.size = us.length + sp.length := by rw [← Array.length_toList, hus, List.length_append]
  have hb48 : m * ie.bytes ≤ 281474976710656 := by
    have : m * ie.bytes ≤ (len + m) * ie.bytes := Nat.mul_le_mul_right _ (by omega)
    omega
  by_cases hroom : len + m ≤ c
  · have hm : (len + m) * ie.size ≤ c * ie.size := Nat.mul_le_mul_right _ hroom
    rw [Nat.add_mul] at hm
    have hrun := run_append_room_zeros (P := P) w t tn ty e ie z kq kn hu htn hi hz (ι k).1 0 len c m (by omega) (by omega) (by omega) hb48 hroom (by rw [hnews]; exact hone) (fun j hj => by
        rw [hnews] at hj
        have hj2 : 0 + len * ie.size + j < arr.size := by omega
        simp [World.cell?, harr, Nat.zero_add] at hj2 ⊢
        omega) (fun j hj => by
        rw [hnews] at hj
        have h1 := hthaw (0 + len * ie.size + j) (by omega)
        obtain ⟨lo, hi'⟩ := fr
        simpa [World.frozen?, harr] using h1)
    rw [hnews, setCells_row news (0 + len * ie.size) arr w harr (by omega)] at hrun
    have htake : arr.toList.take (0 + len * ie.size) = us := by rw [hus, Nat.zero_add, ← hul, List.take_left]
    rw [htake] at hrun
    refine ⟨_, _, put1 ι d (ι k), hrun, ?_, ?_⟩
    · refine hr.move hlt hk rfl hd rfl (b' := ⟨e, cells ++ news.map .val, true⟩) ?_ ?_
      · simp; omega
      · simp only [Box.rel]
        exact ⟨us ++ news, _, rfl, CVs.rel_append hrel hl2⟩
    · simp only [CV.rel, hstd, put1, if_true]
      exact ⟨c, rfl, hroom, hcs⟩
  · have hne := growslice_fits (need := len + m) (old := c) (bytes := ie.bytes) (by omega) hfit
    have hold := run_firstCells_some (P := P) w.drew ie.size len ⟨(ι k).1, 0, none⟩ len c us hul (fun j v hj => by
      rw [addr_add]
      have hj2 : arr.toList[0 + j]? = some v := by
        rw [hus, Nat.zero_add, List.getElem?_append_left (List.getElem?_eq_some_iff.1 hj).1]
        exact hj
      have h4 : w.drew.heap[(ι k).1]? = some (.cells arr e fr) := harr
      simp only [World.cell?, h4, Option.isSome_none, Bool.false_eq_true, if_false]
      simpa using hj2)
    have hrun := Lib.run_append_grow_zeros (P := P) w t tn ty e ie z kq kn hu htn hi hz (some ⟨(ι k).1, 0, none⟩) len c us hold m (by omega) (by omega) (by omega) (by omega) hb48 hne
    have hzeq : Builtin.zeroCells z.cells m = news.toArray := by rw [← hnews]
    rw [hzeq] at hrun
    refine ⟨_, _, _, hrun, (hr.drew.kill ⟨_, hk⟩).new hlt ?_ (b := ⟨e, cells ++ news.map .val, true⟩) (arr := us.toArray ++ news.toArray ++ Builtin.zeroCells z.cells (grownCap w (len + m) c e - (len + m))) ?_, ?_⟩
    · rw [stat_cons, if_neg (Ne.symm hkd)]; exact hd
    · simp only [Box.rel]
      refine ⟨us ++ news, (Builtin.zeroCells z.cells (grownCap w (len + m) c e - (len + m))).toList, by simp, ?_⟩
      have hlater : Later σ'.stat (⟨σ'.slots, (k, none) :: σ'.boxes, σ'.X⟩ : St).stat ι ι := by
        intro j hj
        rw [stat_cons]
        by_cases e : j = k
        · rw [if_pos e]; exact ⟨by simp, fun b hb => by simp at hb⟩
        · rw [if_neg e]; exact ⟨hj, fun b hb => ⟨rfl, b, hb⟩⟩
      exact CVs.rel_later hlater (CVs.rel_append hrel hl2)
    · simp only [CV.rel, hstd, put1, if_true]
      have hge := grownCap_ge w (len + m) c e
      refine ⟨_, rfl, hge, ?_⟩
      have hzcl : (Builtin.zeroCells z.cells (grownCap w (len + m) c e - (len + m))).size = (grownCap w (len + m) c e - (len + m)) * ie.size := by
        simp [Builtin.zeroCells, hzs]
      rw [Array.size_append, hzcl]
      have h5 : grownCap w (len + m) c e = (grownCap w (len + m) c e - (len + m)) + (len + m) := by omega
      generalize grownCap w (len + m) c e - (len + m) = q at *
      rw [h5, Nat.add_mul, Nat.add_mul]
      simp
      omega
theorem LOK.appendZeros {d k len m sz by_ : Nat} {t tn e : TypeId} {x y : Operand} {ty : TypeId} {pos : String} {after_ : Array Edge} {g : Option (Nat × Bool)} {cells : List CV} {row : Bool} {kq kn : IntKind} {zc : Array Value} {news : List Value}
    (hx : σ.ev x = some (.sv (.one (.slc k 0 len sz)))) (hk : σ.stat k = some (some ⟨e, cells, row⟩)) (hcl : cells.length = len * sz) (hy : σ.ev y = some (.sv (.one (.val (.int kq (m : Nat))))))
    (hinf : slcInfo P t = some (e, sz, by_)) (htn : P.underlying tn = some (.int kn)) (hzero : (P.info? e).map (fun i => i.zero.map (fun z => z.cells)) = some (some zc)) (hnews : (Builtin.zeroCells zc m).toList = news) (hone : ∀ u ∈ news, u.oneCell' = true) (hm : 1 ≤ m) (hs1 : 1 ≤ sz)
    (hfit : (len + m) * by_ ≤ 140737488355328) (h63 : len + m < 9223372036854775808) (hd : σ.fresh d = true) :
    LOK P n ops ⟨some d, .call ⟨.builtin .append, #[x, y], #[t, tn]⟩, ty, pos, after_, g⟩ σ ⟨[(d, .sv (.one (.slc d 0 (len + m) sz)))], [], [(d, some ⟨e, cells ++ news.map .val, true⟩), (k, none)]⟩ :=
  LOK.make fun σ' ha C ι a w hr => by
    subst hnews
    have hk' : σ'.stat k = _ := (ha.stat k (.inr (by simp))).trans hk
    have hd' : σ'.stat d = none := (ha.stat d (.inr (by simp))).trans (St.fresh_none hd)
    have h1 := hr.ev ((ha.ev (x := x) (by simp [Op.operands, Call.operands])).trans hx)
    have h2 : a.eval y = .int kq (m : Nat) := hr.ev ((ha.ev (x := y) (by simp [Op.operands, Call.operands])).trans hy)
    simp only [LV.rel, SV.rel, CV.rel, hk'] at h1
    obtain ⟨c, h1, hle, hcs⟩ := h1
    obtain ⟨v, w', ι', hrun, hrel, hv⟩ := append_zero_core (ty := ty) hr hinf htn (xv := a.eval x) (yv := a.eval y) hzero hone h1 h2 hle hcs hk' hcl hm hs1 hd' (St.fresh_lt hd) hfit h63
    exact ⟨v, w', ι', by simp [execOp, resolve, invoke, builtin, hrun], hrel, hv⟩
theorem K.appendZeros {d k len m sz by_ : Nat} {t tn e : TypeId} {x y : Operand} {ty : TypeId} {pos : String} {after_ : Array Edge} {g : Option (Nat × Bool)} {cells : List CV} {row : Bool} {kq kn : IntKind} {zc : Array Value} {news : List Value}
    (hx : (⟨s, bx, X⟩ : St).ev x = some (.sv (.one (.slc k 0 len sz)))) (hk : (⟨s, bx, X⟩ : St).stat k = some (some ⟨e, cells, row⟩)) (hcl : cells.length = len * sz) (hy : (⟨s, bx, X⟩ : St).ev y = some (.sv (.one (.val (.int kq (m : Nat))))))
    (hinf : slcInfo P t = some (e, sz, by_)) (htn : P.underlying tn = some (.int kn)) (hzero : (P.info? e).map (fun i => i.zero.map (fun z => z.cells)) = some (some zc)) (hnews : (Builtin.zeroCells zc m).toList = news) (hone : ∀ u ∈ news, u.oneCell' = true) (hm : 1 ≤ m) (hs1 : 1 ≤ sz)
    (hfit : (len + m) * by_ ≤ 140737488355328) (h63 : len + m < 9223372036854775808) (hd : (⟨s, bx, X⟩ : St).fresh d = true) {nl : Nat} {nc : List CV} (hnl2 : len + m = nl) (hnc : cells ++ news.map .val = nc) (hw : Want ops s g)
    (kont : RunK P n ops os ⟨(d, .sv (.one (.slc d 0 nl sz))) :: s, (d, some ⟨e, nc, true⟩) :: (k, none) :: bx, X⟩ (⟨[(d, .sv (.one (.slc d 0 nl sz)))], [], [(d, some ⟨e, nc, true⟩), (k, none)]⟩ :: acc) K) :
    RunK P n ops (⟨some d, .call ⟨.builtin .append, #[x, y], #[t, tn]⟩, ty, pos, after_, g⟩ :: os) ⟨s, bx, X⟩ acc K := by
  subst hnl2 hnc
  exact RunK.gen hw (LOK.appendZeros hx hk hcl hy hinf htn hzero hnews hone hm hs1 hfit h63 hd) kont
end
end Go.Lg
end
section
namespace Go.Lg
open Go Go.RowKit
section
variable {P : Program} {n : Nat} {ops os : List Oper} {acc : List Eff} {K : List Eff → St → Prop} {s : List (Nat × LV)} {bx : List (Nat × Option Box)} {X : Nat → Option Obj} {σ : St}
theorem LOK.max2 {d : Nat} {tys : Array TypeId} {x y : Operand} {ty : TypeId} {pos : String} {after_ : Array Edge} {g : Option (Nat × Bool)} {k : IntKind} {a b c : Int} (hx : σ.ev x = some (.sv (.one (.val (.int k a))))) (hy : σ.ev y = some (.sv (.one (.val (.int k b))))) (hc : (if b > a then b else a) = c) :
    LOK P n ops ⟨some d, .call ⟨.builtin .max, #[x, y], tys⟩, ty, pos, after_, g⟩ σ ⟨[(d, .sv (.one (.val (.int k c))))], [], []⟩ :=
  LOK.value fun σ' ha C ι av w hr => by
    have h1 : av.eval x = .int k a := hr.ev ((ha.ev (x := x) (by simp [Op.operands, Call.operands])).trans hx)
    have h2 : av.eval y = .int k b := hr.ev ((ha.ev (x := y) (by simp [Op.operands, Call.operands])).trans hy)
    have hrun : (Builtin.max_ tys ty #[.int k a, .int k b]).run P w = .ok (.int k c) w := by
      subst hc
      simp [Builtin.max_, Builtin.max2]
    exact ⟨_, by simp [execOp, resolve, invoke, builtin, h1, h2, hrun], rfl⟩
theorem K.max2 {d : Nat} {tys : Array TypeId} {x y : Operand} {ty : TypeId} {pos : String} {after_ : Array Edge} {g : Option (Nat × Bool)} {k : IntKind} {a b c : Int} (hx : (⟨s, bx, X⟩ : St).ev x = some (.sv (.one (.val (.int k a))))) (hy : (⟨s, bx, X⟩ : St).ev y = some (.sv (.one (.val (.int k b))))) (hc : (if b > a then b else a) = c) (hw : Want ops s g)
    (kont : RunK P n ops os ⟨(d, .sv (.one (.val (.int k c)))) :: s, bx, X⟩ (⟨[(d, .sv (.one (.val (.int k c))))], [], []⟩ :: acc) K) :
    RunK P n ops (⟨some d, .call ⟨.builtin .max, #[x, y], tys⟩, ty, pos, after_, g⟩ :: os) ⟨s, bx, X⟩ acc K := RunK.g1 (LOK.max2 hx hy hc) hw kont
-- a slice that is cut from a place on
theorem LOK.fromSlc {d k off len sz l : Nat} {t : TypeId} {x y : Operand} {ty : TypeId} {pos : String} {after_ : Array Edge} {g : Option (Nat × Bool)} {kh : IntKind} (hx : σ.ev x = some (.sv (.one (.slc k off len sz)))) (hy : σ.ev y = some (.sv (.one (.val (.int kh (l : Nat))))))
    (ht : sliceOf P t = some sz) (hh : l < len) : LOK P n ops ⟨some d, .slice t x (some y) none none, ty, pos, after_, g⟩ σ ⟨[(d, .sv (.one (.slc k (off + l * sz) (len - l) sz)))], [], []⟩ :=
  LOK.value fun σ' ha C ι a w hr => by
    have h1 := hr.ev ((ha.ev (x := x) (by simp [Op.operands])).trans hx)
    have h2 : a.eval y = .int kh (l : Nat) := hr.ev ((ha.ev (x := y) (by simp [Op.operands])).trans hy)
    obtain ⟨e, hu, hsz⟩ := sliceOf_spec ht
    have hrun : ∀ b c : Nat, len ≤ c → (Instr.sliceAt t (.slice (some ⟨b, off, none⟩) len c) (some (.int kh (l : Nat))) none none).run P w = .ok (.slice (some ⟨b, off + l * sz, none⟩) (len - l) (c - l)) w := by
      intro b c hc
      have ha0 : (⟨b, off, none⟩ : Addr).add (l * sz) = ⟨b, off + l * sz, none⟩ := addr_add _ _ _
      have hcl : c ≠ l := by omega
      simp [Instr.sliceAt, Instr.slice, run_underlying hu, Instr.sliceBounds, Instr.sliceBound, asIntOf, hsz, ha0, hcl]
      omega
    simp only [LV.rel, SV.rel, CV.rel] at h1 ⊢
    cases hk : σ'.stat k with
    | none => simp [hk] at h1
    | some bb =>
      cases bb with
      | none =>
        simp only [hk] at h1 ⊢
        obtain ⟨b, c, h1, h3⟩ := h1
        exact ⟨_, by simp only [execOp, h1, h2, Option.map_none, Option.map_some, Sem.run_bind, hrun b c h3, Result.andThen_ok, Sem.run_pure], b, c - l, rfl, by omega⟩
      | some b =>
        simp only [hk] at h1 ⊢
        obtain ⟨c, h1, h3, h4⟩ := h1
        refine ⟨_, by simp only [execOp, h1, h2, Option.map_none, Option.map_some, Sem.run_bind, hrun _ c h3, Result.andThen_ok, Sem.run_pure], c - l, rfl, by omega, ?_⟩
        rw [Nat.add_assoc, ← Nat.add_mul, Nat.add_sub_cancel' (by omega)]; exact h4
theorem K.fromSlc {d k off len sz l off' len' : Nat} {t : TypeId} {x y : Operand} {ty : TypeId} {pos : String} {after_ : Array Edge} {g : Option (Nat × Bool)} {kh : IntKind} (hx : (⟨s, bx, X⟩ : St).ev x = some (.sv (.one (.slc k off len sz)))) (hy : (⟨s, bx, X⟩ : St).ev y = some (.sv (.one (.val (.int kh (l : Nat))))))
    (ht : sliceOf P t = some sz) (hh : l < len) (ho : off + l * sz = off') (hn : len - l = len') (hw : Want ops s g) (kont : RunK P n ops os ⟨(d, .sv (.one (.slc k off' len' sz))) :: s, bx, X⟩ (⟨[(d, .sv (.one (.slc k off' len' sz)))], [], []⟩ :: acc) K) :
    RunK P n ops (⟨some d, .slice t x (some y) none none, ty, pos, after_, g⟩ :: os) ⟨s, bx, X⟩ acc K := by
  subst ho hn
  exact RunK.g1 (LOK.fromSlc hx hy ht hh) hw kont
theorem bc_cells_one (l : List UInt8) : ∀ u ∈ (l.map fun c => Value.int .u8 (c.toNat : Nat)), u.oneCell' = true := fun u hu => by
  obtain ⟨c, _, rfl⟩ := List.mem_map.1 hu
  rfl
-- copy of a text into a slice of the call's own
theorem LOK.copyStr {d k off len : Nat} {t tx e el : TypeId} {x y : Operand} {ty : TypeId} {pos : String} {after_ : Array Edge} {g : Option (Nat × Bool)} {cells : List CV} {row : Bool} {l : List UInt8}
    (hx : σ.ev x = some (.sv (.one (.slc k off len)))) (hk : σ.stat k = some (some ⟨el, cells, row⟩)) (hy : σ.ev y = some (.sv (.one (.val (.string ⟨l.toArray⟩))))) (hu : P.underlying t = some (.slice e)) (hz : sizeIs P e = some 1)
    (hle : l.length ≤ len) (hm : off + l.length ≤ cells.length) :
    LOK P n ops ⟨some d, .call ⟨.builtin .copy, #[x, y], #[t, tx]⟩, ty, pos, after_, g⟩ σ ⟨[(d, .sv (.one (.val (.int .i64 (l.length : Nat)))))], [], [(k, some ⟨el, splice cells off (l.map bc), row⟩)]⟩ :=
  LOK.make fun σ' ha C ι a w hr => by
    have hk' : σ'.stat k = _ := (ha.stat k (.inr (by simp))).trans hk
    have h1 := hr.ev ((ha.ev (x := x) (by simp [Op.operands, Call.operands])).trans hx)
    have h2 : a.eval y = .string ⟨l.toArray⟩ := hr.ev ((ha.ev (x := y) (by simp [Op.operands, Call.operands])).trans hy)
    simp only [LV.rel, SV.rel, CV.rel, hk'] at h1
    obtain ⟨c, h1, hlc, hcs⟩ := h1
    obtain ⟨arr, fr, harr, hthaw, hasz, hrel⟩ := hr.boxes k _ hk' rfl
    have hlen : (l.map fun c => Value.int .u8 (c.toNat : Nat)).length = l.length := List.length_map _
    have hbl : off + l.length ≤ arr.size := by
      have := (Box.rel_part hrel (off := 0) (m := cells.length) (by simp)).1
      simp at this
      omega
    have hst := run_storeCells_at (P := P) hthaw (l.map fun c => Value.int .u8 (c.toNat : Nat)) off 0 arr w rfl harr (by rw [hlen]; simpa using hbl) (bc_cells_one l)
    simp only [Nat.add_zero] at hst
    have hmin : Nat.min l.length len = l.length := Nat.min_eq_left hle
    have hrun : (Builtin.copy_ #[t, tx] ty #[.slice (some ⟨(ι k).1, off, none⟩) len c, .string ⟨l.toArray⟩]).run P w = .ok (goInt l.length) (w.setRow (ι k).1 (splice arr.toList off (l.map fun c => Value.int .u8 (c.toNat : Nat))).toArray) := by
      have hq := run_sizeIs hz w
      simp [Builtin.copy_, run_underlying hu, Builtin.lenOf, Builtin.firstCells, hq, ByteArray.size, hmin]
      rw [List.take_of_length_le (by simp), hst]
      simp [splice]
    have hrc : CVs.rel σ'.stat ι (l.map bc) (l.map fun c => Value.int .u8 (c.toNat : Nat)) := rel_bc l
    refine ⟨goInt l.length, w.setRow (ι k).1 (splice arr.toList off (l.map fun c => Value.int .u8 (c.toNat : Nat))).toArray, ι, by simp [execOp, resolve, invoke, builtin, h1, h2, hrun], ?_, rfl⟩
    exact hr.write hk' rfl rfl (b' := ⟨el, splice cells off (l.map bc), row⟩) (by rw [← hasz]; unfold splice; simp at hbl ⊢; omega) (by simpa using Box.rel_splice hrel hrc (by rw [List.length_map]; exact hm))
theorem K.copyStr {d k off len : Nat} {t tx e el : TypeId} {x y : Operand} {ty : TypeId} {pos : String} {after_ : Array Edge} {g : Option (Nat × Bool)} {cells : List CV} {row : Bool} {l : List UInt8}
    (hx : (⟨s, bx, X⟩ : St).ev x = some (.sv (.one (.slc k off len)))) (hk : (⟨s, bx, X⟩ : St).stat k = some (some ⟨el, cells, row⟩)) (hy : (⟨s, bx, X⟩ : St).ev y = some (.sv (.one (.val (.string ⟨l.toArray⟩))))) (hu : P.underlying t = some (.slice e)) (hz : sizeIs P e = some 1)
    (hle : l.length ≤ len) (hm : off + l.length ≤ cells.length) {r : Int} {nc : List CV} (hr : ((l.length : Nat) : Int) = r) (hc : splice cells off (l.map bc) = nc) (hw : Want ops s g)
    (kont : RunK P n ops os ⟨(d, .sv (.one (.val (.int .i64 r)))) :: s, (k, some ⟨el, nc, row⟩) :: bx, X⟩ (⟨[(d, .sv (.one (.val (.int .i64 r))))], [], [(k, some ⟨el, nc, row⟩)]⟩ :: acc) K) :
    RunK P n ops (⟨some d, .call ⟨.builtin .copy, #[x, y], #[t, tx]⟩, ty, pos, after_, g⟩ :: os) ⟨s, bx, X⟩ acc K := by
  subst hr hc
  exact RunK.gen hw (LOK.copyStr hx hk hy hu hz hle hm) kont
-- a slice of structs that is made
theorem slcBuild_many {t e : TypeId} {m sz : Nat} {z : Array Value} (hu : P.underlying t = some (.slice e)) (hz : (P.info? e).map (fun i => (i.size, i.zero.map (fun z => z.cells))) = some (sz, some z)) (hs : z.size = sz) (hm : m * sz ≤ 16777216) :
    slcBuild P t m = some ((List.replicate m z.toList).flatten, sz, e) := by
  unfold slcBuild
  rw [hu]
  simp only
  cases hi : P.info? e with
  | none => rw [hi] at hz; cases hz
  | some ie =>
    rw [hi] at hz
    simp only [Option.map_some, Option.some.injEq, Prod.mk.injEq] at hz
    obtain ⟨h1, h2⟩ := hz
    cases hzz : ie.zero with
    | none => rw [hzz] at h2; cases h2
    | some zv =>
      rw [hzz] at h2
      simp only [Option.map_some, Option.some.injEq] at h2
      simp only [hzz, h1, h2]
      rw [if_neg (show ¬ m * sz > 2 ^ 24 by omega)]
      have key : ∀ m : Nat, ((List.range (m * sz)).map fun i => z[i % z.size]!) = (List.replicate m z.toList).flatten := by
        intro m
        induction m with
        | zero => simp
        | succ m ih =>
          rw [Nat.succ_mul, List.range_add, List.map_append, ih, List.replicate_succ', List.flatten_append]
          congr 1
          rw [List.map_map]
          simp only [List.flatten_cons, List.flatten_nil, List.append_nil]
          apply List.ext_getElem
          · simp [hs]
          · intro i h3 h4
            have hi : i < sz := by simpa [hs] using h4
            have h5 : i % sz = i := Nat.mod_eq_of_lt hi
            have h6 : i < z.size := by omega
            rw [List.getElem_map, Function.comp_apply, List.getElem_range, hs, Nat.mul_add_mod_self_right, h5, Array.getElem_toList]
            exact getElem!_pos z i h6
      rw [key]
/-- a contract that is handed no boxes and leaves none -/
theorem MSpec.plain {f : FuncId} {args : List LV} {r : LV} (h : MSpec P X f args [] r []) : PSpec P X f args r :=
  ⟨h.enters, fun w vals hX hargs => (h.out w vals (fun _ => (0, 0)) (fun _ _ => none) ⟨fun k b hk => (by simp [stOf, look] at hk), fun k b hk => (by simp [stOf, look] at hk), fun k k' b b' hk => (by simp [stOf, look] at hk), hX, ⟨fun k e cs R hk => (by simp [stOf, look] at hk), fun k b o ho => (by cases ho), fun k k' b h => absurd rfl h⟩⟩ hargs).mono fun e w' ⟨v, ι', _, he, hr, _, hp⟩ =>
    ⟨v, he, LV.rel_later (later_noS _ _ _) hr, ⟨hp.os, hp.tape, hp.output, hp.big, fun b hb => hp.frame b hb (fun hl => by
      rcases hl with ⟨k, b0, hk, _⟩ | ⟨k, hk⟩
      · simp [stOf, look] at hk
      · exact hk rfl)⟩⟩⟩
end
end Go.Lg
end
section
namespace Go.Lg
open Go Go.RowKit
/-- memory joined with more of it -/
def joinM (X H : Nat → Option Obj) : Nat → Option Obj := fun b => (H b).or (X b)
/-- memory but for one block -/
def cutM (H : Nat → Option Obj) (blk : Nat) : Nat → Option Obj := fun b => if b = blk then none else H b
theorem joinM_in {X H : Nat → Option Obj} {b : Nat} {o : Obj} (h : H b = some o) : joinM X H b = some o := by unfold joinM; rw [h]; rfl
theorem joinM_out {X H : Nat → Option Obj} {b : Nat} (h : H b = none) : joinM X H b = X b := by unfold joinM; rw [h]; rfl
theorem joinM_none {X H : Nat → Option Obj} {b : Nat} (h : joinM X H b = none) : H b = none ∧ X b = none := by
  unfold joinM at h
  cases hh : H b with
  | none => rw [hh] at h; exact ⟨rfl, h⟩
  | some o => rw [hh] at h; cases h
theorem cutM_at (H : Nat → Option Obj) (blk : Nat) : cutM H blk blk = none := if_pos rfl
theorem cutM_other {H : Nat → Option Obj} {blk b : Nat} (h : b ≠ blk) : cutM H blk b = H b := if_neg h
theorem cutM_some {H : Nat → Option Obj} {blk b : Nat} {o : Obj} (h : cutM H blk b = some o) : b ≠ blk ∧ H b = some o := by
  unfold cutM at h
  split at h
  · cases h
  · rename_i hne; exact ⟨hne, h⟩
/-- memory that is the call's own, and apart from X -/
structure OwnedM (C : Ctx) (X H : Nat → Option Obj) : Prop where
  own : ∀ b o, H b = some o → (C.own b ∨ C.w0.heap.size ≤ b) ∧ Loose o ∧ X b = none
theorem OwnedM.cut {C : Ctx} {X H : Nat → Option Obj} (h : OwnedM C X H) (blk : Nat) : OwnedM C X (cutM H blk) := ⟨fun b o hb => h.own b o (cutM_some hb).2⟩
theorem joinM_cut {X H : Nat → Option Obj} {blk : Nat} {o : Obj} (h : H blk = some o) : joinM X H = withBlock (joinM X (cutM H blk)) blk o := by
  funext b
  unfold withBlock
  by_cases e : b = blk
  · rw [if_pos e, e]; exact joinM_in h
  · rw [if_neg e]; unfold joinM; rw [cutM_other e]
theorem joinM_with {X H : Nat → Option Obj} {blk : Nat} {o : Obj} : withBlock (joinM X H) blk o = joinM X (withBlock H blk o) := by
  funext b
  unfold withBlock joinM
  by_cases e : b = blk
  · simp [e]
  · simp [e]
theorem joinM_nil (X : Nat → Option Obj) : joinM X (fun _ => none) = X := by funext b; rfl
theorem OwnedM.more {C : Ctx} {X H : Nat → Option Obj} (h : OwnedM C X H) {blk : Nat} {arr : Array Value} {el : TypeId} {fr : Nat × Nat} (hF : Frozen C blk arr fr) (hX : joinM X H blk = none) : OwnedM C X (withBlock H blk (.cells arr el fr)) := ⟨fun b o hb => by
  unfold withBlock at hb
  split at hb
  · rename_i e; subst e; cases hb; exact ⟨hF.own, hF.thaw, (joinM_none hX).2⟩
  · exact h.own b o hb⟩
theorem OwnedM.nil (C : Ctx) (X : Nat → Option Obj) : OwnedM C X (fun _ => none) := ⟨fun _ _ h => by cases h⟩
theorem OwnedM.frozen {C : Ctx} {X H : Nat → Option Obj} (h : OwnedM C X H) {blk : Nat} {arr : Array Value} {el : TypeId} {fr : Nat × Nat} (hb : H blk = some (.cells arr el fr)) : Frozen C blk arr fr := ⟨(h.own _ _ hb).1, (h.own _ _ hb).2.1⟩
section
variable {P : Program} {n : Nat} {C : Ctx} {c : Code} {Q : Exit → St → Prop} {X : Nat → Option Obj} {s : List (Nat × LV)} {bx : List (Nat × Option Box)} {k : Nat}
theorem stat_hd (b : Option Box) (j : Nat) : (⟨s, (k, b) :: bx, X⟩ : St).stat j = if j = k then some b else look j bx := stat_cons s bx X k j b
/-- a name goes on, and stands for something else -/
theorem later_same {S S' : Nat → Option (Option Box)} (ι : Nat → Nat × Nat) (h : ∀ j, S j ≠ none → S' j ≠ none ∧ ∀ b', S' j = some (some b') → ∃ b, S j = some (some b)) : Later S S' ι ι :=
  fun j hj => ⟨(h j hj).1, fun b' hb' => ⟨rfl, (h j hj).2 b' hb'⟩⟩
theorem later_hd (ι : Nat → Nat × Nat) (b b' : Box) (X X' : Nat → Option Obj) : Later (⟨s, (k, some b) :: bx, X⟩ : St).stat (⟨s, (k, some b') :: bx, X'⟩ : St).stat ι ι := later_same ι fun j hj => by
  rw [stat_hd] at hj ⊢
  rw [stat_hd]
  by_cases e : j = k
  · rw [if_pos e, if_pos e]; exact ⟨by simp, fun _ _ => ⟨b, rfl⟩⟩
  · rw [if_neg e] at hj ⊢
    rw [if_neg e]; exact ⟨hj, fun b1 hb1 => ⟨b1, hb1⟩⟩
/-- a resource is opened: its first block is a box of the same name, its other blocks are memory that stays -/
theorem Rel.openRes {ι : Nat → Nat × Nat} {a : Act} {w : World} {e : TypeId} {cs : List CV} {R : Rsc} (hroot : ∀ ρ H, R.holds ρ H → ∃ vals el fr, H ρ.1 = some (.cells vals el fr) ∧ vals.size = ρ.2)
    (hr : Rel n C ι ⟨s, (k, some ⟨e, cs, .res R⟩) :: bx, X⟩ a w) :
    ∃ (ρ : Nat × Nat) (H : Nat → Option Obj) (vals : Array Value) (el : TypeId) (fr : Nat × Nat), R.holds ρ H ∧ H ρ.1 = some (.cells vals el fr) ∧ OwnedM C X H ∧
      Rel n C ι ⟨s, (k, some ⟨el, vals.toList.map .val, false⟩) :: bx, joinM X (cutM H ρ.1)⟩ a w := by
  obtain ⟨F, hF⟩ := hr.res
  have hk : (⟨s, (k, some ⟨e, cs, .res R⟩) :: bx, X⟩ : St).stat k = some (some ⟨e, cs, .res R⟩) := by rw [stat_hd, if_pos rfl]
  obtain ⟨hR, _⟩ := hF.holds k _ _ _ hk
  obtain ⟨vals, el, fr, hv, hsz⟩ := hroot _ _ hR
  refine ⟨ι k, F k, vals, el, fr, hR, hv, ⟨fun b o hb => let h := hF.mem k b o hb; ⟨h.2.2.2.1, h.2.2.1, h.2.2.2.2.1⟩⟩, ?_⟩
  have hlater := later_hd (s := s) (bx := bx) (k := k) ι ⟨e, cs, .res R⟩ ⟨el, vals.toList.map .val, false⟩ X (joinM X (cutM (F k) (ι k).1))
  have live : ∀ j b, (⟨s, (k, some ⟨el, vals.toList.map .val, false⟩) :: bx, joinM X (cutM (F k) (ι k).1)⟩ : St).stat j = some (some b) → ∃ b0, (⟨s, (k, some ⟨e, cs, .res R⟩) :: bx, X⟩ : St).stat j = some (some b0) ∧ (j ≠ k → b = b0) := fun j b hj => by
    rw [stat_hd] at hj ⊢
    by_cases e : j = k
    · rw [if_pos e]; exact ⟨_, rfl, fun h => absurd e h⟩
    · rw [if_neg e] at hj ⊢; exact ⟨b, hj, fun _ => rfl⟩
  have hnot : ∀ j b, (⟨s, (k, some ⟨e, cs, .res R⟩) :: bx, X⟩ : St).stat j = some (some b) → cutM (F k) (ι k).1 (ι j).1 = none := fun j b hj => by
    cases hc : cutM (F k) (ι k).1 (ι j).1 with
    | none => rfl
    | some o =>
      obtain ⟨h1, h2⟩ := cutM_some hc
      have := (hF.mem k _ o h2).2.2.2.2.2 j b hj rfl
      rw [this] at h1
      exact absurd rfl h1
  have hmv := hF.mem k _ _ hv
  exact {
    defers := hr.defers, size := hr.size
    slots := fun d lv hd => by
      obtain ⟨v, hv, hvr⟩ := hr.slots d lv hd
      exact ⟨v, hv, LV.rel_later hlater hvr⟩
    boxes := fun j b hj hbk => by
      by_cases ej : j = k
      · subst ej
        rw [stat_hd, if_pos rfl] at hj
        simp only [Option.some.injEq] at hj
        subst hj
        exact ⟨vals, fr, hmv.2.1, hmv.2.2.1, hsz, CVs.rel_map_val _⟩
      · obtain ⟨b0, h0, h1⟩ := live j b hj
        have := h1 ej
        subst this
        obtain ⟨arr, fr', g1, g2, g3, g4⟩ := hr.boxes j b h0 hbk
        exact ⟨arr, fr', g1, g2, g3, Box.rel_later hlater g4⟩
    own := fun j b hj => by
      obtain ⟨b0, h0, _⟩ := live j b hj
      obtain ⟨h1, h2⟩ := hr.own j b0 h0
      exact ⟨h1, (joinM_out (hnot j b0 h0)).trans h2⟩
    inj := fun i j bi bj hi hj he => by
      obtain ⟨b1, h1, _⟩ := live i bi hi
      obtain ⟨b2, h2, _⟩ := live j bj hj
      exact hr.inj i j b1 b2 h1 h2 he
    keep := fun j b hj hge => by obtain ⟨b0, h0, _⟩ := live j b hj; exact hr.keep j b0 h0 hge
    ext := fun b o hb => by
      have hb : joinM X (cutM (F k) (ι k).1) b = some o := hb
      cases hc : cutM (F k) (ι k).1 b with
      | none => rw [joinM_out hc] at hb; exact hr.ext b o hb
      | some o' =>
        rw [joinM_in hc] at hb
        cases hb
        exact (hF.mem k b o (cutM_some hc).2).2.1
    res := by
      have hold : ∀ j, isRes (⟨s, (k, some ⟨el, vals.toList.map .val, false⟩) :: bx, joinM X (cutM (F k) (ι k).1)⟩ : St).stat j ↔ (j ≠ k ∧ isRes (⟨s, (k, some ⟨e, cs, .res R⟩) :: bx, X⟩ : St).stat j) := fun j => by
        unfold isRes
        simp only [stat_hd]
        by_cases ej : j = k
        · rw [if_pos ej, if_pos ej]
          exact ⟨fun ⟨_, _, _, h⟩ => (by cases h), fun h => absurd ej h.1⟩
        · rw [if_neg ej, if_neg ej]
          exact ⟨fun h => ⟨ej, h⟩, fun h => h.2⟩
      refine ⟨fun j => open Classical in if j = k then fun _ => none else F j, fun j e' cs' R' hj => ?_, fun j b o ho => ?_, fun i j b h1 h2 => ?_⟩
      · rw [stat_hd] at hj
        by_cases ej : j = k
        · rw [if_pos ej] at hj; cases hj
        · rw [if_neg ej] at hj
          rw [if_neg ej]
          exact hF.holds j e' cs' R' (by rw [stat_hd, if_neg ej]; exact hj)
      · by_cases ej : j = k
        · rw [if_pos ej] at ho; cases ho
        · rw [if_neg ej] at ho
          obtain ⟨h1, h2, h3, h4, h5, h6⟩ := hF.mem j b o ho
          refine ⟨(hold j).2 ⟨ej, h1⟩, h2, h3, h4, ?_, fun i bi hi ei => ?_⟩
          · have hc : cutM (F k) (ι k).1 b = none := by
              cases hc : cutM (F k) (ι k).1 b with
              | none => rfl
              | some o' => exact absurd (hF.apart j k b (by rw [ho]; simp) (by rw [(cutM_some hc).2]; simp)) ej
            exact (joinM_out hc).trans h5
          · obtain ⟨b0, h0, _⟩ := live i bi hi
            exact h6 i b0 h0 ei
      · by_cases ei : i = k
        · rw [if_pos ei] at h1; exact absurd rfl h1
        · by_cases ej : j = k
          · rw [if_pos ej] at h2; exact absurd rfl h2
          · rw [if_neg ei] at h1
            rw [if_neg ej] at h2
            exact hF.apart i j b h1 h2
    frame := hr.frame, big := hr.big, os := hr.os, tape := hr.tape, output := hr.output }
theorem LWP.openRes {e : TypeId} {cs : List CV} {R : Rsc} (hroot : ∀ ρ H, R.holds ρ H → ∃ vals el fr, H ρ.1 = some (.cells vals el fr) ∧ vals.size = ρ.2)
    (h : ∀ (ρ : Nat × Nat) (H : Nat → Option Obj) (vals : Array Value) (el : TypeId) (fr : Nat × Nat), R.holds ρ H → H ρ.1 = some (.cells vals el fr) → OwnedM C X H → LWP P n C c Q ⟨s, (k, some ⟨el, vals.toList.map .val, false⟩) :: bx, joinM X (cutM H ρ.1)⟩) :
    LWP P n C c Q ⟨s, (k, some ⟨e, cs, .res R⟩) :: bx, X⟩ := by
  refine ⟨fun ι a w hr => ?_⟩
  obtain ⟨ρ, H, vals, el, fr, h1, h2, h3, h4⟩ := hr.openRes hroot
  exact (h ρ H vals el fr h1 h2 h3).out ι a w h4
/-- a box and memory that stays become a resource -/
theorem Rel.closeRes {ι : Nat → Nat × Nat} {a : Act} {w : World} {el : TypeId} {vals : List Value} {H : Nat → Option Obj} {R : Rsc} (hO : OwnedM C X H)
    (hR : ∀ (ρ : Nat × Nat) (fr : Nat × Nat), H ρ.1 = none → X ρ.1 = none → ρ.2 = vals.length → R.holds ρ (withBlock H ρ.1 (.cells vals.toArray el fr)))
    (hr : Rel n C ι ⟨s, (k, some ⟨el, vals.map .val, false⟩) :: bx, joinM X H⟩ a w) :
    Rel n C ι ⟨s, (k, some ⟨0, [], .res R⟩) :: bx, X⟩ a w := by
  obtain ⟨F, hF⟩ := hr.res
  have hk : (⟨s, (k, some ⟨el, vals.map .val, false⟩) :: bx, joinM X H⟩ : St).stat k = some (some ⟨el, vals.map .val, false⟩) := by rw [stat_hd, if_pos rfl]
  obtain ⟨arr, fr, harr, hth, hsz, hbr⟩ := hr.boxes k _ hk rfl
  have hav : arr.toList = vals := rel_vals hbr
  have hav2 : arr = vals.toArray := by rw [← hav]
  obtain ⟨hkown, hkX⟩ := hr.own k _ hk
  obtain ⟨hkH, hkX⟩ := joinM_none hkX
  have hlater := later_hd (s := s) (bx := bx) (k := k) ι ⟨el, vals.map .val, false⟩ ⟨0, [], .res R⟩ (joinM X H) X
  have live : ∀ j b, (⟨s, (k, some ⟨0, [], .res R⟩) :: bx, X⟩ : St).stat j = some (some b) → ∃ b0, (⟨s, (k, some ⟨el, vals.map .val, false⟩) :: bx, joinM X H⟩ : St).stat j = some (some b0) ∧ (j ≠ k → b = b0) := fun j b hj => by
    rw [stat_hd] at hj ⊢
    by_cases e : j = k
    · rw [if_pos e]; exact ⟨_, rfl, fun h => absurd e h⟩
    · rw [if_neg e] at hj ⊢; exact ⟨b, hj, fun _ => rfl⟩
  have hroots : ∀ j b, (⟨s, (k, some ⟨el, vals.map .val, false⟩) :: bx, joinM X H⟩ : St).stat j = some (some b) → H (ι j).1 = none ∧ X (ι j).1 = none := fun j b hj => joinM_none (hr.own j b hj).2
  exact {
    defers := hr.defers, size := hr.size
    slots := fun d lv hd => by
      obtain ⟨v, hv, hvr⟩ := hr.slots d lv hd
      exact ⟨v, hv, LV.rel_later hlater hvr⟩
    boxes := fun j b hj hbk => by
      by_cases ej : j = k
      · subst ej
        rw [stat_hd, if_pos rfl] at hj
        simp only [Option.some.injEq] at hj
        subst hj
        cases hbk
      · obtain ⟨b0, h0, h1⟩ := live j b hj
        have := h1 ej
        subst this
        obtain ⟨arr', fr', g1, g2, g3, g4⟩ := hr.boxes j b h0 hbk
        exact ⟨arr', fr', g1, g2, g3, Box.rel_later hlater g4⟩
    own := fun j b hj => by
      obtain ⟨b0, h0, _⟩ := live j b hj
      exact ⟨(hr.own j b0 h0).1, (hroots j b0 h0).2⟩
    inj := fun i j bi bj hi hj he => by
      obtain ⟨b1, h1, _⟩ := live i bi hi
      obtain ⟨b2, h2, _⟩ := live j bj hj
      exact hr.inj i j b1 b2 h1 h2 he
    keep := fun j b hj hge => by obtain ⟨b0, h0, _⟩ := live j b hj; exact hr.keep j b0 h0 hge
    ext := fun b o hb => by
      have hb : X b = some o := hb
      have hH : H b = none := by
        cases hc : H b with
        | none => rfl
        | some o' => have := (hO.own b o' hc).2.2; rw [hb] at this; cases this
      exact hr.ext b o ((joinM_out hH).trans hb)
    res := by
      have hG : ∀ b o, withBlock H (ι k).1 (.cells vals.toArray el fr) b = some o → w.heap[b]? = some o ∧ Loose o ∧ (C.own b ∨ C.w0.heap.size ≤ b) ∧ X b = none ∧ (b = (ι k).1 ∨ H b = some o) := fun b o hb => by
        unfold withBlock at hb
        split at hb
        · rename_i e
          cases hb
          subst e
          refine ⟨by rw [← hav2]; exact harr, by rw [← hav2]; exact hth, hkown, hkX, .inl rfl⟩
        · obtain ⟨h1, h2, h3⟩ := hO.own b o hb
          exact ⟨hr.ext b o (joinM_in hb), h2, h1, h3, .inr hb⟩
      have hFX : ∀ j b, F j b ≠ none → H b = none ∧ X b = none ∧ b ≠ (ι k).1 := fun j b hb => by
        cases ho : F j b with
        | none => exact absurd ho hb
        | some o =>
          obtain ⟨h1, _, _, _, h5, h6⟩ := hF.mem j b o ho
          obtain ⟨h7, h8⟩ := joinM_none h5
          refine ⟨h7, h8, fun e => ?_⟩
          have := h6 k _ hk e.symm
          subst this
          obtain ⟨_, _, _, h9⟩ := h1
          rw [hk] at h9
          cases h9
      refine ⟨fun j => open Classical in if j = k then withBlock H (ι k).1 (.cells vals.toArray el fr) else F j, fun j e' cs' R' hj => ?_, fun j b o ho => ?_, fun i j b h1 h2 => ?_⟩
      · rw [stat_hd] at hj
        by_cases ej : j = k
        · rw [if_pos ej] at hj
          cases hj
          rw [if_pos ej, ej]
          exact ⟨hR (ι k) fr hkH hkX (by rw [← hsz, ← Array.length_toList, hav]), by rw [withBlock_at]; simp⟩
        · rw [if_neg ej] at hj
          rw [if_neg ej]
          exact hF.holds j e' cs' R' (by rw [stat_hd, if_neg ej]; exact hj)
      · by_cases ej : j = k
        · rw [if_pos ej] at ho
          obtain ⟨h1, h2, h3, h4, h5⟩ := hG b o ho
          refine ⟨⟨0, [], R, by rw [stat_hd, if_pos ej]⟩, h1, h2, h3, h4, fun i bi hi ei => ?_⟩
          obtain ⟨b0, h0, _⟩ := live i bi hi
          rw [ej]
          rcases h5 with h5 | h5
          · exact hr.inj i k b0 _ h0 hk (by rw [ei, h5])
          · have := (hroots i b0 h0).1; rw [ei, h5] at this; cases this
        · rw [if_neg ej] at ho
          obtain ⟨⟨e1, cs1, R1, h1⟩, h2, h3, h4, h5, h6⟩ := hF.mem j b o ho
          refine ⟨⟨e1, cs1, R1, by rw [stat_hd, if_neg ej]; rw [stat_hd, if_neg ej] at h1; exact h1⟩, h2, h3, h4, (joinM_none h5).2, fun i bi hi ei => ?_⟩
          obtain ⟨b0, h0, _⟩ := live i bi hi
          exact h6 i b0 h0 ei
      · by_cases ei : i = k
        · by_cases ej : j = k
          · rw [ei, ej]
          · rw [if_pos ei] at h1
            rw [if_neg ej] at h2
            obtain ⟨h3, _, h5⟩ := hFX j b h2
            cases ho : withBlock H (ι k).1 (.cells vals.toArray el fr) b with
            | none => exact absurd ho h1
            | some o =>
              rcases (hG b o ho).2.2.2.2 with h6 | h6
              · exact absurd h6 h5
              · rw [h3] at h6; cases h6
        · by_cases ej : j = k
          · rw [if_neg ei] at h1
            rw [if_pos ej] at h2
            obtain ⟨h3, _, h5⟩ := hFX i b h1
            cases ho : withBlock H (ι k).1 (.cells vals.toArray el fr) b with
            | none => exact absurd ho h2
            | some o =>
              rcases (hG b o ho).2.2.2.2 with h6 | h6
              · exact absurd h6 h5
              · rw [h3] at h6; cases h6
          · rw [if_neg ei] at h1
            rw [if_neg ej] at h2
            exact hF.apart i j b h1 h2
    frame := hr.frame, big := hr.big, os := hr.os, tape := hr.tape, output := hr.output }
theorem LWP.closeRes {el : TypeId} {vals : List Value} {H : Nat → Option Obj} {R : Rsc} (hO : OwnedM C X H)
    (hR : ∀ (ρ : Nat × Nat) (fr : Nat × Nat), H ρ.1 = none → X ρ.1 = none → ρ.2 = vals.length → R.holds ρ (withBlock H ρ.1 (.cells vals.toArray el fr)))
    (h : LWP P n C c Q ⟨s, (k, some ⟨0, [], .res R⟩) :: bx, X⟩) : LWP P n C c Q ⟨s, (k, some ⟨el, vals.map .val, false⟩) :: bx, joinM X H⟩ :=
  ⟨fun ι a w hr => h.out ι a w (hr.closeRes hO hR)⟩
theorem Leads.closeRes {Mid : St → Prop} {el : TypeId} {vals : List Value} {H : Nat → Option Obj} {R : Rsc} (hO : OwnedM C X H)
    (hR : ∀ (ρ : Nat × Nat) (fr : Nat × Nat), H ρ.1 = none → X ρ.1 = none → ρ.2 = vals.length → R.holds ρ (withBlock H ρ.1 (.cells vals.toArray el fr)))
    (h : Leads n C Mid ⟨s, (k, some ⟨0, [], .res R⟩) :: bx, X⟩) : Leads n C Mid ⟨s, (k, some ⟨el, vals.map .val, false⟩) :: bx, joinM X H⟩ :=
  ⟨fun ι a w hr => h.out ι a w (hr.closeRes hO hR)⟩
/-- at its end a code may lead to what is asked -/
theorem LWP.ends (h : LWP P n C c (fun e σ => Leads n C (fun σ' => Q e σ') σ) ⟨s, bx, X⟩) : LWP P n C c Q ⟨s, bx, X⟩ :=
  ⟨fun ι a w hr => wp_mono (h.out ι a w hr) fun _ a' w' ⟨ι', σ', hl, hr'⟩ => by
    obtain ⟨ι2, σ2, hq, hr2⟩ := hl.out ι' a' w' hr'
    exact ⟨ι2, σ2, hq, hr2⟩⟩
end
end Go.Lg
end
section
namespace Go.Lg
open Go Go.RowKit
section
variable {n : Nat} {C : Ctx} {σ : St} {ι : Nat → Nat × Nat} {a : Act} {w : World}
/-- a resource of the call's own: its memory, and what becomes of it when that memory turns -/
theorem Rel.resStep (hr : Rel n C ι σ a w) {k : Nat} {e : TypeId} {cs : List CV} {R : Rsc} (hk : σ.stat k = some (some ⟨e, cs, .res R⟩)) :
    ∃ H, R.holds (ι k) H ∧ (∀ b o, H b = some o → w.heap[b]? = some o) ∧ H (ι k).1 ≠ none ∧
      ∀ (w' : World) (H' : Nat → Option Obj) (R' : Rsc), (∀ b, H b = none → b < w.heap.size → w'.heap[b]? = w.heap[b]?) → (∀ b o, H' b = some o → w'.heap[b]? = some o ∧ Loose o) → (∀ b, H' b ≠ none → H b ≠ none) → H' (ι k).1 ≠ none → R'.holds (ι k) H' →
        w.heap.size ≤ w'.heap.size → w'.os = w.os → w'.tape = w.tape → w'.output = w.output → Rel n C ι ⟨σ.slots, (k, some ⟨0, [], .res R'⟩) :: σ.boxes, σ.X⟩ a w' := by
  obtain ⟨F, hF⟩ := hr.res
  refine ⟨F k, (hF.holds k _ _ _ hk).1, fun b o ho => (hF.mem k b o ho).2.1, (hF.holds k _ _ _ hk).2, fun w' H' R' hw hH' hsub hroot hR' hsz hos htp hou => ?_⟩
  have hst : ∀ j, (⟨σ.slots, (k, some ⟨0, [], .res R'⟩) :: σ.boxes, σ.X⟩ : St).stat j = if j = k then some (some ⟨0, [], .res R'⟩) else σ.stat j := fun j => stat_cons _ _ _ _ j _
  have live : ∀ j b, (⟨σ.slots, (k, some ⟨0, [], .res R'⟩) :: σ.boxes, σ.X⟩ : St).stat j = some (some b) → ∃ b0, σ.stat j = some (some b0) ∧ (j ≠ k → b = b0) := fun j b hj => by
    rw [hst] at hj
    by_cases e : j = k
    · exact ⟨_, by rw [e]; exact hk, fun h => absurd e h⟩
    · rw [if_neg e] at hj; exact ⟨b, hj, fun _ => rfl⟩
  have hlater : Later σ.stat (⟨σ.slots, (k, some ⟨0, [], .res R'⟩) :: σ.boxes, σ.X⟩ : St).stat ι ι := later_same ι fun j hj => by
    rw [hst]
    by_cases e : j = k
    · rw [if_pos e, e]; exact ⟨by simp, fun _ _ => ⟨_, hk⟩⟩
    · rw [if_neg e]; exact ⟨hj, fun b1 hb1 => ⟨b1, hb1⟩⟩
  have hout : ∀ b o, F k b = none → w.heap[b]? = some o → w'.heap[b]? = some o := fun b o h1 h2 => by rw [hw b h1 (Array.getElem?_eq_some_iff.1 h2).1]; exact h2
  have hnot : ∀ b, (∀ o, F k b = some o → False) → F k b = none := fun b h => by
    cases ho : F k b with
    | none => rfl
    | some o => exact (h o ho).elim
  exact {
    defers := hr.defers, size := hr.size
    slots := fun d lv hd => by
      obtain ⟨v, hv, hvr⟩ := hr.slots d lv hd
      exact ⟨v, hv, LV.rel_later hlater hvr⟩
    boxes := fun j b hj hbk => by
      by_cases ej : j = k
      · rw [hst, if_pos ej] at hj
        simp only [Option.some.injEq] at hj
        subst hj
        cases hbk
      · obtain ⟨b0, h0, h1⟩ := live j b hj
        have := h1 ej
        subst this
        obtain ⟨arr, fr, g1, g2, g3, g4⟩ := hr.boxes j b h0 hbk
        exact ⟨arr, fr, hout _ _ (hnot _ fun o ho => ej ((hF.mem k _ o ho).2.2.2.2.2 j b h0 rfl)) g1, g2, g3, Box.rel_later hlater g4⟩
    own := fun j b hj => by obtain ⟨b0, h0, _⟩ := live j b hj; exact hr.own j b0 h0
    inj := fun i j bi bj hi hj he => by
      obtain ⟨b1, h1, _⟩ := live i bi hi
      obtain ⟨b2, h2, _⟩ := live j bj hj
      exact hr.inj i j b1 b2 h1 h2 he
    keep := fun j b hj hge => by obtain ⟨b0, h0, _⟩ := live j b hj; exact hr.keep j b0 h0 hge
    ext := fun b o hb => hout b o (hnot _ fun o' ho => by
      have := (hF.mem k b o' ho).2.2.2.2.1
      have hb : σ.X b = some o := hb
      rw [hb] at this; cases this) (hr.ext b o hb)
    res := by
      refine ⟨fun j => open Classical in if j = k then H' else F j, fun j e' cs' R1 hj => ?_, fun j b o ho => ?_, fun i j b h1 h2 => ?_⟩
      · rw [hst] at hj
        by_cases ej : j = k
        · rw [if_pos ej] at hj
          cases hj
          rw [if_pos ej, ej]
          exact ⟨hR', hroot⟩
        · rw [if_neg ej] at hj
          rw [if_neg ej]
          exact hF.holds j e' cs' R1 hj
      · by_cases ej : j = k
        · rw [if_pos ej] at ho
          cases ho2 : F k b with
          | none => exact absurd ho2 (hsub b (by rw [ho]; simp))
          | some o2 =>
            obtain ⟨_, h2, _, h4, h5, h6⟩ := hF.mem k b o2 ho2
            refine ⟨⟨0, [], R', by rw [hst, if_pos ej]⟩, (hH' b o ho).1, (hH' b o ho).2, h4, h5, fun i bi hi ei => ?_⟩
            obtain ⟨b0, h0, _⟩ := live i bi hi
            rw [ej]; exact h6 i b0 h0 ei
        · rw [if_neg ej] at ho
          obtain ⟨⟨e1, cs1, R1, h1⟩, h2, h3, h4, h5, h6⟩ := hF.mem j b o ho
          refine ⟨⟨e1, cs1, R1, by rw [hst, if_neg ej]; exact h1⟩, hout b o (hnot _ fun o' ho' => ej (hF.apart j k b (by rw [ho]; simp) (by rw [ho']; simp))) h2, h3, h4, h5, fun i bi hi ei => ?_⟩
          obtain ⟨b0, h0, _⟩ := live i bi hi
          exact h6 i b0 h0 ei
      · by_cases ei : i = k
        · by_cases ej : j = k
          · rw [ei, ej]
          · rw [if_pos ei] at h1
            rw [if_neg ej] at h2
            rw [ei]; exact hF.apart k j b (hsub b h1) h2
        · by_cases ej : j = k
          · rw [if_neg ei] at h1
            rw [if_pos ej] at h2
            rw [ej]; exact hF.apart i k b h1 (hsub b h2)
          · rw [if_neg ei] at h1
            rw [if_neg ej] at h2
            exact hF.apart i j b h1 h2
    frame := fun b hb hn => by
      rw [← hr.frame b hb hn]
      refine hw b (hnot _ fun o ho => ?_) (Nat.lt_of_lt_of_le hb hr.big)
      rcases (hF.mem k b o ho).2.2.2.1 with h1 | h1
      · exact hn h1
      · omega
    big := Nat.le_trans hr.big hsz
    os := hos.trans hr.os, tape := htp.trans hr.tape, output := hou.trans hr.output }
/-- a new block is a resource -/
theorem Rel.resNew (hr : Rel n C ι σ a w) {k m : Nat} {o : Obj} {R : Rsc} (hlt : k < 1000000) (hk : σ.stat k = none) (ho : Loose o) (hR : ∀ b, R.holds (b, m) (withBlock (fun _ => none) b o)) :
    Rel n C (put1 ι k (w.heap.size, m)) ⟨σ.slots, (k, some ⟨0, [], .res R⟩) :: σ.boxes, σ.X⟩ a (w.alloc o) := by
  obtain ⟨F, hF⟩ := hr.res
  have hst : ∀ j, (⟨σ.slots, (k, some ⟨0, [], .res R⟩) :: σ.boxes, σ.X⟩ : St).stat j = if j = k then some (some ⟨0, [], .res R⟩) else σ.stat j := fun j => stat_cons _ _ _ _ j _
  have hlater : Later σ.stat (⟨σ.slots, (k, some ⟨0, [], .res R⟩) :: σ.boxes, σ.X⟩ : St).stat ι (put1 ι k (w.heap.size, m)) := by
    intro j hj
    have hne : j ≠ k := by rintro rfl; exact hj hk
    rw [hst, if_neg hne]
    exact ⟨hj, fun b' hb' => ⟨by simp [put1, hne], b', hb'⟩⟩
  have hXlt : ∀ j o, σ.X j = some o → j < w.heap.size := fun j o hj => (Array.getElem?_eq_some_iff.1 (hr.ext j o hj)).1
  have hFlt : ∀ j b, F j b ≠ none → b < w.heap.size := fun j b hb => by
    cases h : F j b with
    | none => exact absurd h hb
    | some o => exact (Array.getElem?_eq_some_iff.1 (hF.mem j b o h).2.1).1
  have hnew : (w.alloc o).heap[w.heap.size]? = some o := heap_alloc_new w _
  exact {
    defers := hr.defers, size := hr.size
    slots := fun d lv hd => by
      obtain ⟨v, hv, hvr⟩ := hr.slots d lv hd
      exact ⟨v, hv, LV.rel_later hlater hvr⟩
    boxes := fun j b hj hbk => by
      rw [hst] at hj
      by_cases e : j = k
      · rw [if_pos e] at hj
        simp only [Option.some.injEq] at hj
        subst hj
        cases hbk
      · rw [if_neg e] at hj
        obtain ⟨arr, fr, g1, g2, g3, g4⟩ := hr.boxes j b hj hbk
        refine ⟨arr, fr, ?_, g2, by simp only [put1, e, if_false]; exact g3, Box.rel_later hlater g4⟩
        simp only [put1, e, if_false]
        rw [heap_alloc_lt (hr.blocklt hj)]
        exact g1
    own := fun j b hj => by
      rw [hst] at hj
      by_cases e : j = k
      · subst e
        simp only [put1, if_true]
        refine ⟨.inr hr.big, ?_⟩
        show σ.X w.heap.size = none
        cases hx : σ.X w.heap.size with
        | none => rfl
        | some o => exact absurd (hXlt _ o hx) (by omega)
      · rw [if_neg e] at hj
        simp only [put1, e, if_false]
        exact hr.own j b hj
    inj := fun i j bi bj hi hj heq => by
      rw [hst] at hi hj
      by_cases ei : i = k
      · by_cases ej : j = k
        · rw [ei, ej]
        · rw [if_neg ej] at hj
          have := hr.blocklt hj
          simp only [put1, ei, if_true, ej, if_false] at heq
          omega
      · rw [if_neg ei] at hi
        by_cases ej : j = k
        · have := hr.blocklt hi
          simp only [put1, ej, if_true, ei, if_false] at heq
          omega
        · rw [if_neg ej] at hj
          simp only [put1, ei, ej, if_false] at heq
          exact hr.inj i j bi bj hi hj heq
    keep := fun j b hj hge => by
      rw [hst] at hj
      have e : j ≠ k := by omega
      rw [if_neg e] at hj
      simp only [put1, e, if_false]
      exact hr.keep j b hj hge
    ext := fun j o hj => by rw [heap_alloc_lt (hXlt j o hj)]; exact hr.ext j o hj
    res := by
      refine ⟨fun j => open Classical in if j = k then withBlock (fun _ => none) w.heap.size o else F j, fun j e' cs' R1 hj => ?_, fun j b ob hob => ?_, fun i j b h1 h2 => ?_⟩
      · rw [hst] at hj
        by_cases ej : j = k
        · rw [if_pos ej] at hj
          cases hj
          rw [if_pos ej]
          simp only [put1, ej, if_true]
          exact ⟨hR _, by rw [withBlock_at]; simp⟩
        · rw [if_neg ej] at hj
          rw [if_neg ej]
          simp only [put1, ej, if_false]
          exact hF.holds j e' cs' R1 hj
      · by_cases ej : j = k
        · rw [if_pos ej] at hob
          unfold withBlock at hob
          split at hob
          · rename_i eb
            cases hob
            subst eb
            refine ⟨⟨0, [], R, by rw [hst, if_pos ej]⟩, hnew, ho, .inr hr.big, ?_, fun i bi hi ei => ?_⟩
            · cases hx : σ.X w.heap.size with
              | none => rfl
              | some o' => exact absurd (hXlt _ o' hx) (by omega)
            · rw [hst] at hi
              by_cases e : i = k
              · rw [e, ej]
              · rw [if_neg e] at hi
                simp only [put1, e, if_false] at ei
                have := hr.blocklt hi
                omega
          · cases hob
        · rw [if_neg ej] at hob
          obtain ⟨⟨e1, cs1, R1, h1⟩, h2, h3, h4, h5, h6⟩ := hF.mem j b ob hob
          have hlt := (Array.getElem?_eq_some_iff.1 h2).1
          refine ⟨⟨e1, cs1, R1, by rw [hst, if_neg ej]; exact h1⟩, by rw [heap_alloc_lt hlt]; exact h2, h3, h4, h5, fun i bi hi ei => ?_⟩
          rw [hst] at hi
          by_cases e : i = k
          · simp only [put1, e, if_true] at ei
            omega
          · rw [if_neg e] at hi
            simp only [put1, e, if_false] at ei
            exact h6 i bi hi ei
      · have hb : ∀ i, i ≠ k → F i b ≠ none → withBlock (fun _ => none) w.heap.size o b = none := fun i _ h => by
          have := hFlt i b h
          unfold withBlock
          rw [if_neg (by omega)]
        by_cases ei : i = k
        · by_cases ej : j = k
          · rw [ei, ej]
          · rw [if_pos ei] at h1
            rw [if_neg ej] at h2
            exact absurd (hb j ej h2) h1
        · by_cases ej : j = k
          · rw [if_neg ei] at h1
            rw [if_pos ej] at h2
            exact absurd (hb i ei h1) h2
          · rw [if_neg ei] at h1
            rw [if_neg ej] at h2
            exact hF.apart i j b h1 h2
    frame := fun j hj hn => by rw [heap_alloc_lt (Nat.lt_of_lt_of_le hj hr.big)]; exact hr.frame j hj hn
    big := by simp; exact Nat.le_succ_of_le hr.big
    os := hr.os, tape := hr.tape, output := hr.output }
end
/-- a map, as the list of its keys and what stands there, oldest first -/
def mapR (P : Program) (kt : TypeId) (m : List (Value × Value)) : Rsc := ⟨fun ρ H => ∃ es clock, H = withBlock (fun _ => none) ρ.1 (.map es clock) ∧ es.toList.map (fun x : MapEntry => (x.key, x.val)) = m ∧ (m.map (·.1)).Nodup ∧ ∀ p ∈ m, ∃ l, Go.keyOf P kt p.1 = some l⟩
/-- what stands in a map at a key -/
def At (m : List (Value × Value)) (key v z : Value) : Prop := (key, v) ∈ m ∨ ((∀ p ∈ m, p.1 ≠ key) ∧ v = z)
/-- a map with something at a key -/
def Put (m : List (Value × Value)) (key v : Value) (m' : List (Value × Value)) : Prop := (∃ i old, m[i]? = some (key, old) ∧ m' = m.set i (key, v)) ∨ ((∀ p ∈ m, p.1 ≠ key) ∧ m' = m ++ [(key, v)])
theorem same_ix {m : List (Value × Value)} (hnd : (m.map (·.1)).Nodup) {i j : Nat} {key v u : Value} (hi : m[i]? = some (key, v)) (hj : m[j]? = some (key, u)) : i = j := by
  have hpi : (m.map (·.1))[i]? = some key := by rw [List.getElem?_map, hi]; rfl
  have hpj : (m.map (·.1))[j]? = some key := by rw [List.getElem?_map, hj]; rfl
  obtain ⟨hi, hie⟩ := List.getElem?_eq_some_iff.1 hpi
  obtain ⟨hjj, hje⟩ := List.getElem?_eq_some_iff.1 hpj
  have hp := List.pairwise_iff_getElem.1 hnd
  rcases Nat.lt_trichotomy i j with h | h | h
  · exact absurd (hie.trans hje.symm) (hp i j hi hjj h)
  · exact h
  · exact absurd (hje.trans hie.symm) (hp j i hjj hi h)
theorem same_at {m : List (Value × Value)} (hnd : (m.map (·.1)).Nodup) {i j : Nat} {key v u : Value} (hi : m[i]? = some (key, v)) (hj : m[j]? = some (key, u)) : v = u := by
  have e := same_ix hnd hi hj
  subst e
  rw [hi] at hj
  simp only [Option.some.injEq, Prod.mk.injEq] at hj
  exact hj.2
def mapOf (P : Program) (t : TypeId) : Option (TypeId × TypeId) := match P.underlying t with | some (.map k e) => some (k, e) | _ => none
theorem mapOf_spec {P : Program} {t k e : TypeId} (h : mapOf P t = some (k, e)) : P.underlying t = some (.map k e) := by
  unfold mapOf at h
  split at h
  · rename_i h1; cases h; exact h1
  · cases h
section
variable {P : Program} {n : Nat} {ops os : List Oper} {acc : List Eff} {K : List Eff → St → Prop} {s : List (Nat × LV)} {bx : List (Nat × Option Box)} {X : Nat → Option Obj} {σ : St}
theorem LOK.makeMap {d k : Nat} {t kt : TypeId} {ty : TypeId} {pos : String} {after_ : Array Edge} {g : Option (Nat × Bool)} (hk : σ.fresh k = true) :
    LOK P n ops ⟨some d, .makeMap t none, ty, pos, after_, g⟩ σ ⟨[(d, .sv (.one (.mp k)))], [], [(k, some ⟨0, [], .res (mapR P kt [])⟩)]⟩ :=
  LOK.make fun σ' ha C ι a w hr => by
    have hk' : σ'.stat k = none := (ha.stat k (.inr (by simp))).trans (St.fresh_none hk)
    have hlt := St.fresh_lt hk
    have hrun := run_makeMap_plain (P := P) (w := w) t
    refine ⟨.map (some w.heap.size), w.alloc (.map #[] 0), put1 ι k (w.heap.size, 0), ?_, ?_, ?_⟩
    · simp only [execOp, Option.map_none, Sem.run_bind, hrun, Result.andThen_ok, Sem.run_pure]
    · exact hr.resNew hlt hk' trivial fun b => ⟨#[], 0, rfl, rfl, List.nodup_nil, fun _ h => by cases h⟩
    · simp [LV.rel, SV.rel, CV.rel, stat_cons, put1]
theorem K.makeMap {d : Nat} {t : TypeId} (kt : TypeId) {ty : TypeId} {pos : String} {after_ : Array Edge} {g : Option (Nat × Bool)} (hk : (⟨s, bx, X⟩ : St).fresh d = true) (hw : Want ops s g)
    (kont : RunK P n ops os ⟨(d, .sv (.one (.mp d))) :: s, (d, some ⟨0, [], .res (mapR P kt [])⟩) :: bx, X⟩ (⟨[(d, .sv (.one (.mp d)))], [], [(d, some ⟨0, [], .res (mapR P kt [])⟩)]⟩ :: acc) K) :
    RunK P n ops (⟨some d, .makeMap t none, ty, pos, after_, g⟩ :: os) ⟨s, bx, X⟩ acc K := RunK.g2 (LOK.makeMap hk) hw kont
theorem LOK.lookup {d k : Nat} {t kt et : TypeId} {x y : Operand} {ty : TypeId} {pos : String} {after_ : Array Edge} {g : Option (Nat × Bool)} {m : List (Value × Value)} {e : TypeId} {cs : List CV} {key v z : Value} {l : Lit}
    (hx : σ.ev x = some (.sv (.one (.mp k)))) (hy : σ.ev y = some (.sv (.one (.val key)))) (hk : σ.stat k = some (some ⟨e, cs, .res (mapR P kt m)⟩)) (hm : mapOf P t = some (kt, et)) (L : WideMaps.KeyLaw P kt) (hkey : Go.keyOf P kt key = some l) (hz : (P.info? et).bind (·.zero) = some z) (hat : At m key v z) :
    LOK P n ops ⟨some d, .lookup t x y false, ty, pos, after_, g⟩ σ ⟨[(d, .sv (.one (.val v)))], [k], []⟩ :=
  LOK.value fun σ' ha C ι a w hr => by
    have hk' := (ha.stat k (.inl (by simp))).trans hk
    have hv := hr.ev ((ha.ev (x := x) (by simp [Op.operands])).trans hx)
    have hkv : a.eval y = key := hr.ev ((ha.ev (x := y) (by simp [Op.operands])).trans hy)
    simp only [LV.rel, SV.rel, CV.rel, hk'] at hv
    obtain ⟨H, ⟨es, clock, rfl, he, hnd, hkeys⟩, hH, _⟩ := hr.resStep hk'
    have hb := hH (ι k).1 _ (withBlock_at _ _ _)
    have ht := mapOf_spec hm
    have hzr : (zeroValue et).run P w = .ok z w := by
      cases hi : P.info? et with
      | none => rw [hi] at hz; cases hz
      | some i => rw [hi] at hz; have hz : i.zero = some z := hz; simp [zeroValue, typeInfo, hi, hz]
    have hall : ∀ x ∈ es.toList, ∃ l, Go.keyOf P kt x.key = some l := fun x hx => by
      refine hkeys (x.key, x.val) ?_
      rw [← he]
      exact List.mem_map.2 ⟨x, hx, rfl⟩
    have hrun : (Instr.lookup t (.map (some (ι k).1)) key false).run P w = .ok v w := by
      rcases L.find w hkey es.toList hall with ⟨h1, h2⟩ | ⟨j, e0, h1, h2, h3⟩
      · have hvz : v = z := by
          rcases hat with h4 | ⟨_, h4⟩
          · rw [← he] at h4
            obtain ⟨x, hx, hxe⟩ := List.mem_map.1 h4
            cases hxe
            exact absurd rfl (h2 x hx)
          · exact h4
        simp [Instr.lookup, run_underlying ht, MapKept.run_getObj_map hb, L.check w _ hkey, h1, hzr, Result.andThen, hvz]
      · have hmem : e0 ∈ es.toList := List.mem_of_getElem? h2
        have hv0 : e0.val = v := by
          rcases hat with h4 | ⟨h4, _⟩
          · obtain ⟨i, hi⟩ := List.getElem?_of_mem h4
            have hmj : m[j]? = some (key, e0.val) := by rw [← he, List.getElem?_map, h2, ← h3]; rfl
            exact (same_at hnd hmj hi)
          · refine absurd h3 (h4 (e0.key, e0.val) ?_)
            rw [← he]
            exact List.mem_map.2 ⟨e0, hmem, rfl⟩
        simp [Instr.lookup, run_underlying ht, MapKept.run_getObj_map hb, L.check w _ hkey, h1, Result.andThen, hv0]
    exact ⟨v, by simp only [execOp, hv, hkv, Sem.run_bind, hrun, Result.andThen_ok, Sem.run_pure], rfl⟩
theorem K.lookup {d k : Nat} {t kt et : TypeId} {x y : Operand} {ty : TypeId} {pos : String} {after_ : Array Edge} {g : Option (Nat × Bool)} {m : List (Value × Value)} {e : TypeId} {cs : List CV} {key v z : Value} {l : Lit}
    (hx : (⟨s, bx, X⟩ : St).ev x = some (.sv (.one (.mp k)))) (hy : (⟨s, bx, X⟩ : St).ev y = some (.sv (.one (.val key)))) (hk : (⟨s, bx, X⟩ : St).stat k = some (some ⟨e, cs, .res (mapR P kt m)⟩)) (hm : mapOf P t = some (kt, et)) (L : WideMaps.KeyLaw P kt) (hkey : Go.keyOf P kt key = some l) (hz : (P.info? et).bind (·.zero) = some z) (hat : At m key v z) (hw : Want ops s g)
    (kont : RunK P n ops os ⟨(d, .sv (.one (.val v))) :: s, bx, X⟩ (⟨[(d, .sv (.one (.val v)))], [k], []⟩ :: acc) K) :
    RunK P n ops (⟨some d, .lookup t x y false, ty, pos, after_, g⟩ :: os) ⟨s, bx, X⟩ acc K := RunK.g1 (LOK.lookup hx hy hk hm L hkey hz hat) hw kont
theorem LOK.mapUpdate {k : Nat} {t kt et : TypeId} {x y u : Operand} {ty : TypeId} {pos : String} {after_ : Array Edge} {g : Option (Nat × Bool)} {m m' : List (Value × Value)} {e : TypeId} {cs : List CV} {key v : Value} {l : Lit}
    (hx : σ.ev x = some (.sv (.one (.mp k)))) (hy : σ.ev y = some (.sv (.one (.val key)))) (hu : σ.ev u = some (.sv (.one (.val v)))) (hk : σ.stat k = some (some ⟨e, cs, .res (mapR P kt m)⟩)) (hm : mapOf P t = some (kt, et)) (L : WideMaps.KeyLaw P kt) (hkey : Go.keyOf P kt key = some l) (hput : Put m key v m') :
    LOK P n ops ⟨none, .mapUpdate t x y u, ty, pos, after_, g⟩ σ ⟨[], [], [(k, some ⟨0, [], .res (mapR P kt m')⟩)]⟩ :=
  LOK.act fun σ' ha C ι a w hr => by
    have hk' := (ha.stat k (.inr (by simp))).trans hk
    have hv := hr.ev ((ha.ev (x := x) (by simp [Op.operands])).trans hx)
    have hkv : a.eval y = key := hr.ev ((ha.ev (x := y) (by simp [Op.operands])).trans hy)
    have huv : a.eval u = v := hr.ev ((ha.ev (x := u) (by simp [Op.operands])).trans hu)
    simp only [LV.rel, SV.rel, CV.rel, hk'] at hv
    obtain ⟨H, ⟨es, clock, hHe, he, hnd, hkeys⟩, hH, _, hstep⟩ := hr.resStep hk'
    have hb := hH (ι k).1 (.map es clock) (by rw [hHe]; exact withBlock_at _ _ _)
    have ht := mapOf_spec hm
    have hall : ∀ x ∈ es.toList, ∃ l, Go.keyOf P kt x.key = some l := fun x hx => by
      refine hkeys (x.key, x.val) ?_
      rw [← he]
      exact List.mem_map.2 ⟨x, hx, rfl⟩
    have hset := fun (o' : Obj) => MapKept.heap_set (o' := o') hb
    -- the run, and what stands there afterwards
    have hmain : ∃ es' clock', (Instr.mapUpdate t (.map (some (ι k).1)) key v).run P w = .ok () { w with heap := w.heap.setIfInBounds (ι k).1 (.map es' clock') } ∧ es'.toList.map (fun x : MapEntry => (x.key, x.val)) = m' ∧ (m'.map (·.1)).Nodup ∧ ∀ p ∈ m', ∃ l, Go.keyOf P kt p.1 = some l := by
      rcases L.find w hkey es.toList hall with ⟨h1, h2⟩ | ⟨j, e0, h1, h2, h3⟩
      · have hno : ∀ p ∈ m, p.1 ≠ key := fun p hp => by
          rw [← he] at hp
          obtain ⟨x, hx, rfl⟩ := List.mem_map.1 hp
          exact h2 x hx
        have hm' : m' = m ++ [(key, v)] := by
          rcases hput with ⟨i, old, h4, _⟩ | ⟨_, h4⟩
          · exact absurd rfl (hno _ (List.mem_of_getElem? h4))
          · exact h4
        refine ⟨es.push { key := key, val := v, born := clock }, clock + 1, ?_, by rw [hm', Array.toList_push, List.map_append, he]; rfl, ?_, ?_⟩
        · simp [Instr.mapUpdate, run_underlying ht, MapKept.run_getObj_map hb, L.check w _ hkey, h1, MapKept.run_setObj_map _ hb, Result.andThen]
        · rw [hm', List.map_append]
          refine List.nodup_append.2 ⟨hnd, by simp, fun x hx y hy e => ?_⟩
          obtain ⟨p, hp, rfl⟩ := List.mem_map.1 hx
          simp at hy
          rw [hy] at e
          exact hno p hp e
        · intro p hp
          rw [hm'] at hp
          rcases List.mem_append.1 hp with hp | hp
          · exact hkeys p hp
          · simp at hp; subst hp; exact ⟨l, hkey⟩
      · have hj : es[j]? = some e0 := by simpa using h2
        have hmj : m[j]? = some (key, e0.val) := by rw [← he, List.getElem?_map, h2, ← h3]; rfl
        have hm' : m' = m.set j (key, v) := by
          rcases hput with ⟨i, old, h4, h5⟩ | ⟨h4, _⟩
          · have hij : i = j := same_ix hnd h4 hmj
            rw [h5, hij]
          · exact absurd rfl (h4 _ (List.mem_of_getElem? hmj))
        refine ⟨es.modify j fun x => { x with key := key, val := v }, clock, ?_, ?_, ?_, ?_⟩
        · have hst := L.stays w hkey
          have hks : ((es[j]?).map (·.key)).getD key = key := by rw [hj]; exact h3
          simp [Instr.mapUpdate, run_underlying ht, MapKept.run_getObj_map hb, L.check w _ hkey, h1, hj, h3, hst, MapKept.run_setObj_map _ hb, Result.andThen]
        · rw [hm', ← he]
          apply List.ext_getElem?
          intro i
          rw [List.getElem?_map, Array.getElem?_toList, Array.getElem?_modify, List.getElem?_set, List.getElem?_map, Array.getElem?_toList]
          by_cases hij : j = i
          · subst hij
            simp [hj]
            have := (Array.getElem?_eq_some_iff.1 hj).1
            omega
          · simp [hij]
        · rw [hm', List.map_set]
          have : (m.map (·.1)).set j key = m.map (·.1) := by
            apply List.ext_getElem?
            intro i
            rw [List.getElem?_set]
            by_cases hij : j = i
            · subst hij
              rw [if_pos rfl, List.getElem?_map, hmj]
              have := (List.getElem?_eq_some_iff.1 hmj).1
              simp [this]
            · rw [if_neg hij]
          rw [this]; exact hnd
        · intro p hp
          rw [hm'] at hp
          rcases List.mem_or_eq_of_mem_set hp with hp | rfl
          · exact hkeys p hp
          · exact ⟨l, hkey⟩
    obtain ⟨es', clock', hrun, he', hnd', hkeys'⟩ := hmain
    refine ⟨{ w with heap := w.heap.setIfInBounds (ι k).1 (.map es' clock') }, ι, by simp only [execOp, hv, hkv, huv, Sem.run_bind, hrun, Result.andThen_ok, Sem.run_pure], ?_⟩
    refine hstep _ (withBlock (fun _ => none) (ι k).1 (.map es' clock')) _ (fun b hb2 _ => ?_) (fun b o ho => ?_) (fun b h => ?_) (by rw [withBlock_at]; simp) ⟨es', clock', rfl, he', hnd', hkeys'⟩ (by simp) rfl rfl rfl
    · refine (hset _).2 b fun e => ?_
      rw [hHe, e, withBlock_at] at hb2
      cases hb2
    · unfold withBlock at ho
      split at ho
      · rename_i e; cases ho; subst e
        exact ⟨(hset _).1, trivial⟩
      · cases ho
    · rw [hHe]
      unfold withBlock at h ⊢
      split
      · simp
      · rename_i hne; rw [if_neg hne] at h; exact h
theorem K.mapUpdate {k : Nat} {t kt et : TypeId} {x y u : Operand} {ty : TypeId} {pos : String} {after_ : Array Edge} {g : Option (Nat × Bool)} {m : List (Value × Value)} (m' : List (Value × Value)) {e : TypeId} {cs : List CV} {key v : Value} {l : Lit}
    (hx : (⟨s, bx, X⟩ : St).ev x = some (.sv (.one (.mp k)))) (hy : (⟨s, bx, X⟩ : St).ev y = some (.sv (.one (.val key)))) (hu : (⟨s, bx, X⟩ : St).ev u = some (.sv (.one (.val v)))) (hk : (⟨s, bx, X⟩ : St).stat k = some (some ⟨e, cs, .res (mapR P kt m)⟩)) (hm : mapOf P t = some (kt, et)) (L : WideMaps.KeyLaw P kt) (hkey : Go.keyOf P kt key = some l) (hput : Put m key v m') (hw : Want ops s g)
    (kont : RunK P n ops os ⟨s, (k, some ⟨0, [], .res (mapR P kt m')⟩) :: bx, X⟩ (⟨[], [], [(k, some ⟨0, [], .res (mapR P kt m')⟩)]⟩ :: acc) K) :
    RunK P n ops (⟨none, .mapUpdate t x y u, ty, pos, after_, g⟩ :: os) ⟨s, bx, X⟩ acc K := RunK.g3 (LOK.mapUpdate hx hy hu hk hm L hkey hput) hw kont
end
end Go.Lg
end
section
-- texts in a row; the reference's column; whether rows are the same
namespace Go.Lg.Col
open Go Go.Lg Go.RowKit
abbrev Ext (X Y : Nat → Option Obj) : Prop := ∀ b o, X b = some o → Y b = some o
abbrev strV (l : List UInt8) : Value := .string ⟨l.toArray⟩
/-- the cells of a row of texts -/
def txV (L : List (List UInt8)) : List Value := L.map strV
theorem txV_len (L : List (List UInt8)) : (txV L).length = L.length := List.length_map _
theorem txV_one {L : List (List UInt8)} : ∀ u ∈ txV L, u.oneCell' = true := fun u hu => by
  obtain ⟨l, _, rfl⟩ := List.mem_map.1 hu
  rfl
theorem txV_solid (L : List (List UInt8)) : ((txV L).map CV.val).all CV.solid = true := vals_solid (by
  rw [List.all_eq_true]; exact fun u hu => txV_one u hu)
theorem txV_at {L : List (List UInt8)} {i : Nat} {l : List UInt8} (h : L[i]? = some l) : (txV L)[i]? = some (strV l) := by unfold txV; rw [List.getElem?_map, h]; rfl
theorem txC_at {L : List (List UInt8)} {i : Nat} {l : List UInt8} (h : L[i]? = some l) : ((txV L).map CV.val)[i]? = some (.val (strV l)) := by rw [List.getElem?_map, txV_at h]; rfl
theorem txC_set {L : List (List UInt8)} (i : Nat) (l : List UInt8) : ((txV L).map CV.val).set i (.val (strV l)) = (txV (L.set i l)).map CV.val := by unfold txV; simp [List.map_set]
theorem more {X Y : Nat → Option Obj} (hXY : Ext X Y) {ad : Option Addr} {vs : List Value} (h : OneIn X ad vs) : OneIn Y ad vs := fun i v hi => by
  obtain ⟨blk, off, arr, el, fr, h1, h2, h3⟩ := h i v hi
  exact ⟨blk, off, arr, el, fr, h1, hXY _ _ h2, h3⟩
theorem one_in {Y : Nat → Option Obj} {blk : Nat} {arr : Array Value} {el : TypeId} {fr : Nat × Nat} {vs : List Value} (hY : Y blk = some (.cells arr el fr)) (hsp : ∃ sp, arr.toList = vs ++ sp) : OneIn Y (some ⟨blk, 0, none⟩) vs := fun i v hi => by
  obtain ⟨sp, e⟩ := hsp
  refine ⟨blk, 0, arr, el, fr, rfl, hY, ?_⟩
  rw [← Array.getElem?_toList, e, Nat.zero_add, List.getElem?_append_left (List.getElem?_eq_some_iff.1 hi).1]
  exact hi
theorem snoc {α : Type} {l : List α} {i : Nat} {f : α} (h : l[i]? = some f) : l.take (i + 1) = l.take i ++ [f] := by
  obtain ⟨hi, e⟩ := List.getElem?_eq_some_iff.1 h
  rw [List.take_add_one, h]; rfl
/-- a longer row's beginning -/
theorem one_take {X : Nat → Option Obj} {ad : Option Addr} {vs : List Value} (n : Nat) (h : OneIn X ad vs) : OneIn X ad (vs.take n) := fun i v hi => h i v (by
  rw [List.getElem?_take] at hi
  split at hi
  · exact hi
  · cases hi)
/-- the last one stands there -/
def swapL (L : List (List UInt8)) (i : Nat) : List (List UInt8) := match L[L.length - 1]? with | some l => (L.set i l).take (L.length - 1) | none => L
theorem swapL_at {L : List (List UInt8)} {i : Nat} {l : List UInt8} (h : L[L.length - 1]? = some l) : swapL L i = (L.set i l).take (L.length - 1) := by unfold swapL; rw [h]
theorem swapL_len {L : List (List UInt8)} {i : Nat} (h : 0 < L.length) : (swapL L i).length = L.length - 1 := by
  obtain ⟨l, hl⟩ : ∃ l, L[L.length - 1]? = some l := ⟨_, List.getElem?_eq_getElem (by omega)⟩
  rw [swapL_at hl, List.length_take, List.length_set]; omega
end Go.Lg.Col
namespace Go.Proofs.Ytdlilapjijpghaa
open Go Go.Lg Go.Lg.Col
set_option maxRecDepth 100000
abbrev Tx (ad : Option Addr) (n cap : Nat) : LV := .sv (.one (.val (.slice ad n cap)))
/-- the reference's column -/
abbrev uB (k : Nat) (size cap : Int) (c : CV) : Nat × Option Box := (k, some ⟨39, [.val (.int .i64 size), .val (.int .i64 cap), c], false⟩)
abbrev uC (ad : Option Addr) (n cp : Nat) : CV := .val (.slice ad n cp)
variable (X : Nat → Option Obj)
theorem rows_spec (ad ad2 : Option Addr) (cp cp2 : Nat) (A B : List (List UInt8)) (hA : OneIn X ad (txV A)) (hB : OneIn X ad2 (txV B)) (hb : A.length < 4611686018427387904) (hb2 : B.length < 4611686018427387904) :
    PSpec Try.prog X 21 [Tx ad A.length cp, Tx ad2 B.length cp2] (Lb (A == B)) := by
  refine PSpec.intro Try.func21 rfl (by kernel_rfl) rfl rfl ?_
  intro C
  by_cases hl : A.length = B.length
  · (refine LWP.seq <| LWP.region (by kernel_rfl) <| kas rfl <| RunK.nil <| LWP.seq <| LWP.seq <| LWP.region (by kernel_rfl) <| kmv rfl <| K.lenX rfl SliceT.h rfl .plain ?_; refine kmv rfl <| K.lenX rfl SliceT.h rfl .plain ?_; refine kne rfl rfl (r := false) (by rw [hl]; simp) <| RunK.nil <| LWP.condF rfl ?_; refine LWP.skip ?_; refine LWP.seq <| LWP.seq <| LWP.region (by kernel_rfl) <| kas rfl <| RunK.nil <| LWP.block ?_)
    refine LWP.loop (fun m σ => ∃ i : Nat, i ≤ A.length ∧ m = A.length - i ∧ A.take i = B.take i ∧ σ = ⟨[(0, Tx ad A.length cp), (1, Tx ad2 B.length cp2), (5, Ln .i64 (i : Nat))], [], X⟩) A.length
      ⟨_, Le.of (by exact ⟨rfl, rfl, rfl, trivial⟩) (by exact trivial) (by exact rfl) (by exact rfl) (by exact rfl), 0, by omega, by omega, rfl, rfl⟩ ?_
    rintro m σ ⟨i, hi, rfl, hpre, rfl⟩
    by_cases hlt : i < A.length
    · obtain ⟨a, ha⟩ : ∃ a, A[i]? = some a := ⟨_, List.getElem?_eq_getElem hlt⟩
      obtain ⟨b, hbb⟩ : ∃ b, B[i]? = some b := ⟨_, List.getElem?_eq_getElem (by omega)⟩
      obtain ⟨blk, off, arr, el, fr, rfl, hX, hc⟩ := hA i _ (txV_at ha)
      obtain ⟨blk2, off2, arr2, el2, fr2, rfl, hX2, hc2⟩ := hB i _ (txV_at hbb)
      have hio : off + Int.toNat (i : Int) * 1 = off + i := by simp
      have hio2 : off2 + Int.toNat (i : Int) * 1 = off2 + i := by simp
      by_cases hab : a = b
      · have hs : A.take (i + 1) = B.take (i + 1) := by rw [snoc ha, snoc hbb, hpre, hab]
        (refine LWP.seq <| LWP.seq <| LWP.region (by kernel_rfl) <| kmv rfl <| kmv rfl <| K.lenX rfl SliceT.h rfl .plain ?_; refine klt rfl rfl (decide_eq_true (by omega)) <| RunK.nil <| LWP.condT rfl ?_; refine LWP.skip ?_; refine LWP.seq <| LWP.block <| LWP.seq <| LWP.draws mixed (by kernel_rfl) <| kmv rfl <| kmv rfl <| K.indexX rfl rfl SliceT.h (by omega) hio .plain <| K.loadX rfl hX rfl hc .plain <| kmv rfl <| kmv rfl <| K.indexX rfl rfl SliceT.h (by omega) hio2 .plain <| K.loadX rfl hX2 rfl hc2 .plain <| K.strNe rfl rfl (strs_ne (r := false) (by rw [hab]; simp)) .plain <| RunK.nil ?_; refine And.intro (by kernel_rfl) ?_; refine LWP.condF rfl ?_; refine LWP.skip ?_; refine LWP.region (by kernel_rfl) <| kmv rfl <| kad rfl rfl (wrap_i64 (by omega)) <| kas rfl <| RunK.nil ?_)
        exact ⟨_, _, by omega, Le.of (by exact ⟨rfl, rfl, rfl, trivial⟩) (by exact trivial) (by exact rfl) (by exact rfl) (by exact rfl), i + 1, by omega, rfl, hs, rfl⟩
      · have hne : (A == B) = false := beq_eq_false_iff_ne.2 fun e => hab (by
          rw [e, hbb] at ha; exact (Option.some.inj ha).symm)
        rw [hne]
        (refine LWP.seq <| LWP.seq <| LWP.region (by kernel_rfl) <| kmv rfl <| kmv rfl <| K.lenX rfl SliceT.h rfl .plain ?_; refine klt rfl rfl (decide_eq_true (by omega)) <| RunK.nil <| LWP.condT rfl ?_; refine LWP.skip ?_; refine LWP.seq <| LWP.block <| LWP.seq <| LWP.draws mixed (by kernel_rfl) <| kmv rfl <| kmv rfl <| K.indexX rfl rfl SliceT.h (by omega) hio .plain <| K.loadX rfl hX rfl hc .plain <| kmv rfl <| kmv rfl <| K.indexX rfl rfl SliceT.h (by omega) hio2 .plain <| K.loadX rfl hX2 rfl hc2 .plain <| K.strNe rfl rfl (strs_ne (r := true) (by rw [Bool.not_eq_true', beq_eq_false_iff_ne]; exact hab)) .plain <| RunK.nil ?_; refine And.intro (by kernel_rfl) ?_; refine LWP.condT rfl ?_; refine LWP.seq <| LWP.region (by kernel_rfl) <| kas rfl <| RunK.nil <| LWP.ret ?_)
        exact ⟨[_], ⟨rfl, trivial⟩, rfl⟩
    · have e : i = A.length := by omega
      have hAB : A = B := by
        rw [e, List.take_length, List.take_of_length_le (by omega)] at hpre; exact hpre
      have hr : (A == B) = true := by rw [hAB]; simp
      rw [hr]
      subst e
      (refine LWP.seq <| LWP.seq <| LWP.region (by kernel_rfl) <| kmv rfl <| kmv rfl <| K.lenX rfl SliceT.h rfl .plain ?_; refine klt rfl rfl (decide_eq_false (by omega)) <| RunK.nil <| LWP.condF rfl ?_; refine LWP.exit <| LWP.seq <| LWP.region (by kernel_rfl) <| kas rfl <| RunK.nil <| LWP.ret ?_)
      exact ⟨[_], ⟨rfl, trivial⟩, rfl⟩
  · have hne : (A == B) = false := beq_eq_false_iff_ne.2 fun e => hl (by rw [e])
    rw [hne]
    (refine LWP.seq <| LWP.region (by kernel_rfl) <| kas rfl <| RunK.nil <| LWP.seq <| LWP.seq <| LWP.region (by kernel_rfl) <| kmv rfl <| K.lenX rfl SliceT.h rfl .plain ?_; refine kmv rfl <| K.lenX rfl SliceT.h rfl .plain ?_; refine kne rfl rfl (r := true) (by rw [bne_iff_ne]; omega) <| RunK.nil <| LWP.condT rfl ?_; refine LWP.seq <| LWP.region (by kernel_rfl) <| kas rfl <| RunK.nil <| LWP.ret ?_)
    exact ⟨[_], ⟨rfl, trivial⟩, rfl⟩
end Go.Proofs.Ytdlilapjijpghaa
end
