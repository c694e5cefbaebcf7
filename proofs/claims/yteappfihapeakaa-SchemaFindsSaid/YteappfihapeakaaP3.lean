/- A piece of a proof over this program: contracts of its functions, and a logic to prove them by. -/
import Derived.Test.YteappfihapeakaaP2
import Derived.Deep.Strs
import Derived.SizedLaws
import Derived.Test.YteappfihapeakaaRows
import Derived.Lib.Strings
section
namespace Go.Lg
open Go Go.RowKit
theorem ren_vals (f : Nat → Nat) : ∀ (l : List Value), (l.map CV.val).map (CV.ren f) = l.map CV.val
  | [] => rfl
  | c :: l => by rw [List.map_cons, List.map_cons, ren_vals f l]; rfl
theorem Box.ren_vals (f : Nat → Nat) (e : TypeId) (l : List Value) (r : Bool) : Box.ren f ⟨e, l.map CV.val, r⟩ = ⟨e, l.map CV.val, r⟩ := by
  unfold Box.ren
  simp only [Go.Lg.ren_vals]
theorem vals_inUse {bx : List (Nat × Option Box)} : ∀ {l : List Value}, (l.map CV.val).all (CV.inUse bx) = true
  | [] => rfl
  | c :: l => by rw [List.map_cons, List.all_cons, vals_inUse]; rfl
theorem vals_solid : ∀ {l : List Value}, l.all Value.oneCell' = true → (l.map CV.val).all CV.solid = true
  | [], _ => rfl
  | c :: l, h => by
    simp only [List.all_cons, Bool.and_eq_true] at h
    rw [List.map_cons, List.all_cons, vals_solid h.2]
    simp [CV.solid, h.1]
section
variable {S T : Nat → Option (Option Box)} {ι : Nat → Nat × Nat} {bx : List (Nat × Option Box)}
/-- names in use mean the same -/
def SameOn (bx : List (Nat × Option Box)) (S T : Nat → Option (Option Box)) : Prop := ∀ k x, look k bx = some x → S k = T k
theorem CV.rel_on (h : SameOn bx S T) {c : CV} (hu : c.inUse bx = true) {v : Value} (hr : c.rel S ι v) : c.rel T ι v := by
  cases c with
  | val u => exact hr
  | junk => trivial
  | ptr k off =>
    simp only [CV.inUse, Option.isSome_iff_exists] at hu
    obtain ⟨x, hx⟩ := hu
    simp only [CV.rel] at hr ⊢
    rw [← h k x hx]; exact hr
  | slc k off n sz =>
    simp only [CV.inUse, Option.isSome_iff_exists] at hu
    obtain ⟨x, hx⟩ := hu
    simp only [CV.rel] at hr ⊢
    rw [← h k x hx]; exact hr
  | mp k =>
    simp only [CV.inUse, Option.isSome_iff_exists] at hu
    obtain ⟨x, hx⟩ := hu
    simp only [CV.rel] at hr ⊢
    rw [← h k x hx]; exact hr
theorem CVs.rel_on (h : SameOn bx S T) : ∀ {l : List CV} {vs : List Value}, l.all (CV.inUse bx) = true → CVs.rel S ι l vs → CVs.rel T ι l vs
  | [], [], _, _ => trivial
  | _ :: _, _ :: _, hu, hr => by
    simp only [List.all_cons, Bool.and_eq_true] at hu
    exact ⟨CV.rel_on h hu.1 hr.1, CVs.rel_on h hu.2 hr.2⟩
  | [], _ :: _, _, hr => hr.elim
  | _ :: _, [], _, hr => hr.elim
theorem SV.rel_on (h : SameOn bx S T) {s : SV} (hu : s.inUse bx = true) {v : Value} (hr : s.rel S ι v) : s.rel T ι v := by
  cases s with
  | one c => exact CV.rel_on h hu hr
  | agg l => obtain ⟨arr, e, hl⟩ := hr; exact ⟨arr, e, CVs.rel_on h hu hl⟩
theorem SVs.rel_on (h : SameOn bx S T) : ∀ {l : List SV} {vs : List Value}, l.all (SV.inUse bx) = true → SVs.rel S ι l vs → SVs.rel T ι l vs
  | [], [], _, _ => trivial
  | _ :: _, _ :: _, hu, hr => by
    simp only [List.all_cons, Bool.and_eq_true] at hu
    exact ⟨SV.rel_on h hu.1 hr.1, SVs.rel_on h hu.2 hr.2⟩
  | [], _ :: _, _, hr => hr.elim
  | _ :: _, [], _, hr => hr.elim
theorem LV.rel_on (h : SameOn bx S T) {s : LV} (hu : s.inUse bx = true) {v : Value} (hr : s.rel S ι v) : s.rel T ι v := by
  cases s with
  | sv s => exact SV.rel_on h hu hr
  | tup l => obtain ⟨arr, e, hl⟩ := hr; exact ⟨arr, e, SVs.rel_on h hu hl⟩
theorem Box.rel_on (h : SameOn bx S T) {b : Box} (hu : b.cells.all (CV.inUse bx) = true) {vs : List Value} (hr : b.rel S ι vs) : b.rel T ι vs := by
  unfold Box.rel at hr ⊢
  cases hb : b.row with
  | res R => rw [hb] at hr; exact hr.elim
  | bool r =>
    cases r with
    | false => rw [hb] at hr; exact CVs.rel_on h hu hr
    | true => rw [hb] at hr; obtain ⟨us, sp, e, hl⟩ := hr; exact ⟨us, sp, e, CVs.rel_on h hu hl⟩
/-- names in use mean the same blocks -/
theorem CV.rel_means {κ : Nat → Nat × Nat} (h : ∀ k, (look k bx).isSome = true → κ k = ι k) {c : CV} (hu : c.inUse bx = true) {v : Value} (hr : c.rel S ι v) : c.rel S κ v := by
  cases c with
  | val u => exact hr
  | junk => trivial
  | ptr k off =>
    simp only [CV.rel] at hr ⊢
    rw [h k hu]; exact hr
  | slc k off n sz =>
    simp only [CV.rel] at hr ⊢
    rw [h k hu]; exact hr
  | mp k =>
    simp only [CV.rel] at hr ⊢
    rw [h k hu]; exact hr
theorem CVs.rel_means {κ : Nat → Nat × Nat} (h : ∀ k, (look k bx).isSome = true → κ k = ι k) : ∀ {l : List CV} {vs : List Value}, l.all (CV.inUse bx) = true → CVs.rel S ι l vs → CVs.rel S κ l vs
  | [], [], _, _ => trivial
  | _ :: _, _ :: _, hu, hr => by
    simp only [List.all_cons, Bool.and_eq_true] at hu
    exact ⟨CV.rel_means h hu.1 hr.1, CVs.rel_means h hu.2 hr.2⟩
  | [], _ :: _, _, hr => hr.elim
  | _ :: _, [], _, hr => hr.elim
theorem SV.rel_means {κ : Nat → Nat × Nat} (h : ∀ k, (look k bx).isSome = true → κ k = ι k) {s : SV} (hu : s.inUse bx = true) {v : Value} (hr : s.rel S ι v) : s.rel S κ v := by
  cases s with
  | one c => exact CV.rel_means h hu hr
  | agg l => obtain ⟨arr, e, hl⟩ := hr; exact ⟨arr, e, CVs.rel_means h hu hl⟩
theorem SVs.rel_means {κ : Nat → Nat × Nat} (h : ∀ k, (look k bx).isSome = true → κ k = ι k) : ∀ {l : List SV} {vs : List Value}, l.all (SV.inUse bx) = true → SVs.rel S ι l vs → SVs.rel S κ l vs
  | [], [], _, _ => trivial
  | _ :: _, _ :: _, hu, hr => by
    simp only [List.all_cons, Bool.and_eq_true] at hu
    exact ⟨SV.rel_means h hu.1 hr.1, SVs.rel_means h hu.2 hr.2⟩
  | [], _ :: _, _, hr => hr.elim
  | _ :: _, [], _, hr => hr.elim
theorem LV.rel_means {κ : Nat → Nat × Nat} (h : ∀ k, (look k bx).isSome = true → κ k = ι k) {s : LV} (hu : s.inUse bx = true) {v : Value} (hr : s.rel S ι v) : s.rel S κ v := by
  cases s with
  | sv s => exact SV.rel_means h hu hr
  | tup l => obtain ⟨arr, e, hl⟩ := hr; exact ⟨arr, e, SVs.rel_means h hu hl⟩
end
section
variable {P : Program} {n : Nat} {C : Ctx} {c : Code} {Q : Exit → St → Prop} {X : Nat → Option Obj}
/-- the memory that stays, and one block more -/
def withBlock (X : Nat → Option Obj) (blk : Nat) (o : Obj) : Nat → Option Obj := fun b => if b = blk then some o else X b
theorem withBlock_at (X : Nat → Option Obj) (blk : Nat) (o : Obj) : withBlock X blk o blk = some o := if_pos rfl
theorem withBlock_old {X : Nat → Option Obj} {blk : Nat} {o : Obj} (hn : X blk = none) : ∀ b o', X b = some o' → withBlock X blk o b = some o' := fun b o' h => by
  unfold withBlock
  rw [if_neg (by rintro rfl; rw [hn] at h; cases h)]
  exact h
theorem look_mem {α : Type} {k : Nat} {x : α} : ∀ {l : List (Nat × α)}, look k l = some x → (k, x) ∈ l
  | [], h => by simp [look] at h
  | p :: l, h => by
    simp only [look] at h
    cases e : Nat.beq p.1 k with
    | true =>
      rw [e] at h
      simp at h
      have := Nat.eq_of_beq_eq_true e
      rw [← this, ← h]
      exact List.mem_cons_self
    | false => rw [e] at h; exact List.mem_cons_of_mem _ (look_mem (by simpa using h))
theorem rel_vals {S : Nat → Option (Option Box)} {ι : Nat → Nat × Nat} : ∀ {l : List Value} {vs : List Value}, CVs.rel S ι (l.map .val) vs → vs = l
  | [], [], _ => rfl
  | v :: l, u :: vs, h => by rw [rel_vals h.2]; have : u = v := h.1; rw [this]
  | [], _ :: _, h => h.elim
  | _ :: _, [], h => h.elim
/-- what a block that was frozen was -/
structure Frozen (C : Ctx) (blk : Nat) (arr : Array Value) (fr : Nat × Nat) : Prop where
  own : C.own blk ∨ C.w0.heap.size ≤ blk
  thaw : Thaw fr arr.size
/-- a slice's box becomes memory that stays -/
theorem Rel.freeze {ι : Nat → Nat × Nat} {a : Act} {w : World} {s : List (Nat × LV)} {bx : List (Nat × Option Box)} {d k off len sz : Nat} {el : TypeId} {vals : List Value} {row : Bool}
    (hs : s.all (fun p => p.2.inUse bx) = true) (hb : bx.all (fun p => match p.2 with | some b => b.cells.all (CV.inUse bx) | none => true) = true) (hk : look k bx = none)
    (hr : Rel n C ι ⟨(d, .sv (.one (.slc k off len sz))) :: s, (k, some ⟨el, vals.map .val, row⟩) :: bx, X⟩ a w) :
    ∃ (blk cap : Nat) (arr : Array Value) (fr : Nat × Nat), X blk = none ∧ Frozen C blk arr fr ∧ len ≤ cap ∧ off + cap * sz ≤ arr.size ∧ (∃ sp, arr.toList = vals ++ sp) ∧
      Rel n C ι ⟨(d, .sv (.one (.val (.slice (some ⟨blk, off, none⟩) len cap)))) :: s, bx, withBlock X blk (.cells arr el fr)⟩ a w := by
  have hst : (⟨(d, .sv (.one (.slc k off len sz))) :: s, (k, some ⟨el, vals.map .val, row⟩) :: bx, X⟩ : St).stat k = some (some ⟨el, vals.map .val, row⟩) := by
    simp [St.stat, look]
  have hlk : ∀ k' x, look k' bx = some x → k' ≠ k := fun k' x h' e => by rw [e, hk] at h'; cases h'
  have hstb : ∀ k' x, look k' bx = some x → (⟨(d, .sv (.one (.slc k off len sz))) :: s, (k, some ⟨el, vals.map .val, row⟩) :: bx, X⟩ : St).stat k' = some x := fun k' x h' => by
    simp only [St.stat, look]
    cases e : Nat.beq k k' with
    | true => exact absurd (Nat.eq_of_beq_eq_true e).symm (hlk k' x h')
    | false => exact h'
  obtain ⟨arr, fr, harr, hth, hsz, hbr⟩ := hr.boxes k _ hst rfl
  obtain ⟨v, hv, hvr⟩ := hr.slots d (.sv (.one (.slc k off len sz))) (by simp [St.slot, look])
  simp only [LV.rel, SV.rel, CV.rel] at hvr
  rw [hst] at hvr
  obtain ⟨cap, rfl, hcap, hfit⟩ := hvr
  have hXn : X (ι k).1 = none := (hr.own k _ hst).2
  have hsp : ∃ sp, arr.toList = vals ++ sp := by
    unfold Box.rel at hbr
    cases hrow : row with
    | false =>
      rw [hrow] at hbr
      exact ⟨[], by rw [List.append_nil]; exact rel_vals hbr⟩
    | true =>
      rw [hrow] at hbr
      obtain ⟨us, sp, e, hl⟩ := hbr
      exact ⟨sp, by rw [e, rel_vals hl]⟩
  refine ⟨(ι k).1, cap, arr, fr, hXn, ⟨(hr.own k _ hst).1, hth⟩, hcap, by omega, hsp, ?_⟩
  have hon : SameOn bx (⟨(d, .sv (.one (.slc k off len sz))) :: s, (k, some ⟨el, vals.map .val, row⟩) :: bx, X⟩ : St).stat (fun k => look k bx) := fun k' x h' => (hstb k' x h').trans h'.symm
  exact {
    defers := hr.defers, size := hr.size
    slots := fun d' lv hd => by
      simp only [St.slot, look] at hd
      cases e : Nat.beq d d' with
      | true =>
        rw [e] at hd
        simp at hd
        subst hd
        have := Nat.eq_of_beq_eq_true e
        subst this
        exact ⟨_, hv, rfl⟩
      | false =>
        rw [e] at hd
        have hd : look d' s = some lv := by simpa using hd
        obtain ⟨v', hv', hr'⟩ := hr.slots d' lv (by simp only [St.slot, look, e]; exact hd)
        exact ⟨v', hv', LV.rel_on hon (List.all_eq_true.1 hs _ (look_mem hd)) hr'⟩
    res := by
      obtain ⟨F, hF⟩ := hr.res
      refine hF.keep (fun j e cs R hj => ⟨hstb j _ hj, rfl⟩) (fun _ _ _ _ _ hj => hj) (fun _ _ ho => ho) (fun b _ hx hne _ => ?_) (fun j bj hj => .inl ⟨bj, hstb j _ hj, rfl⟩)
      show withBlock X (ι k).1 _ b = none
      unfold withBlock
      rw [if_neg (fun e => hne k _ hst rfl e.symm)]
      exact hx
    boxes := fun k' b hb' hbk => by
      have hb' : look k' bx = some (some b) := hb'
      obtain ⟨arr', fr', h1, h2, h3, h4⟩ := hr.boxes k' b (hstb k' _ hb') hbk
      exact ⟨arr', fr', h1, h2, h3, Box.rel_on hon (by simpa using List.all_eq_true.1 hb _ (look_mem hb')) h4⟩
    own := fun k' b hb' => by
      have hb' : look k' bx = some (some b) := hb'
      obtain ⟨h1, h2⟩ := hr.own k' b (hstb k' _ hb')
      refine ⟨h1, ?_⟩
      show withBlock X (ι k).1 _ (ι k').1 = none
      unfold withBlock
      rw [if_neg (fun e => hlk k' _ hb' (hr.inj k' k b _ (hstb k' _ hb') hst e))]
      exact h2
    inj := fun k1 k2 b1 b2 h1 h2 he => hr.inj k1 k2 b1 b2 (hstb k1 _ h1) (hstb k2 _ h2) he
    keep := fun k' b hb' hge => hr.keep k' b (hstb k' _ hb') hge
    ext := fun b o hbo => by
      have hbo : withBlock X (ι k).1 (.cells arr el fr) b = some o := hbo
      unfold withBlock at hbo
      by_cases e : b = (ι k).1
      · rw [if_pos e] at hbo
        rw [e, harr]; exact hbo
      · rw [if_neg e] at hbo
        exact hr.ext b o hbo
    frame := hr.frame, big := hr.big, os := hr.os, tape := hr.tape, output := hr.output }
theorem LWP.freeze {s : List (Nat × LV)} {bx : List (Nat × Option Box)} {d k off len sz : Nat} {el : TypeId} {vals : List Value} {row : Bool}
    (hs : s.all (fun p => p.2.inUse bx) = true) (hb : bx.all (fun p => match p.2 with | some b => b.cells.all (CV.inUse bx) | none => true) = true) (hk : look k bx = none)
    (h : ∀ (blk cap : Nat) (arr : Array Value) (fr : Nat × Nat), X blk = none → Frozen C blk arr fr → len ≤ cap → off + cap * sz ≤ arr.size → (∃ sp, arr.toList = vals ++ sp) →
      LWP P n C c Q ⟨(d, .sv (.one (.val (.slice (some ⟨blk, off, none⟩) len cap)))) :: s, bx, withBlock X blk (.cells arr el fr)⟩) :
    LWP P n C c Q ⟨(d, .sv (.one (.slc k off len sz))) :: s, (k, some ⟨el, vals.map .val, row⟩) :: bx, X⟩ := by
  refine ⟨fun ι a w hr => ?_⟩
  obtain ⟨blk, cap, arr, fr, h1, h2, h3, h4, h5, h6⟩ := hr.freeze hs hb hk
  exact (h blk cap arr fr h1 h2 h3 h4 h5).out ι a w h6
/-- the way back: memory that was frozen is a box again -/
theorem Rel.thaw {ι : Nat → Nat × Nat} {a : Act} {w : World} {s : List (Nat × LV)} {bx : List (Nat × Option Box)} {d k off len sz blk cap : Nat} {el : TypeId} {vals : List Value} {arr : Array Value} {fr : Nat × Nat}
    (hX : X blk = none) (hF : Frozen C blk arr fr) (hc : len ≤ cap) (hfit : off + cap * sz ≤ arr.size) (hsp : ∃ sp, arr.toList = vals ++ sp)
    (hs : s.all (fun p => p.2.inUse bx) = true) (hb : bx.all (fun p => match p.2 with | some b => b.cells.all (CV.inUse bx) | none => true) = true) (hk : look k bx = none) (hlt : k < 1000000)
    (hr : Rel n C ι ⟨(d, .sv (.one (.val (.slice (some ⟨blk, off, none⟩) len cap)))) :: s, bx, withBlock X blk (.cells arr el fr)⟩ a w) :
    Rel n C (put1 ι k (blk, arr.size)) ⟨(d, .sv (.one (.slc k off len sz))) :: s, (k, some ⟨el, vals.map .val, true⟩) :: bx, X⟩ a w := by
  have hlk : ∀ k' x, look k' bx = some x → k' ≠ k := fun k' x h' e => by rw [e, hk] at h'; cases h'
  have hι : ∀ k', k' ≠ k → put1 ι k (blk, arr.size) k' = ι k' := fun k' e => by unfold put1; rw [if_neg e]
  have hιk : put1 ι k (blk, arr.size) k = (blk, arr.size) := by unfold put1; rw [if_pos rfl]
  have hst : ∀ k' b, (⟨(d, .sv (.one (.slc k off len sz))) :: s, (k, some ⟨el, vals.map .val, true⟩) :: bx, X⟩ : St).stat k' = some (some b) → (k' = k ∧ b = ⟨el, vals.map .val, true⟩) ∨ (k' ≠ k ∧ look k' bx = some (some b)) := fun k' b h' => by
    simp only [St.stat, look] at h'
    cases e : Nat.beq k k' with
    | true =>
      rw [e] at h'
      simp at h'
      exact .inl ⟨(Nat.eq_of_beq_eq_true e).symm, h'.symm⟩
    | false =>
      rw [e] at h'
      have h' : look k' bx = some (some b) := by simpa using h'
      exact .inr ⟨hlk k' _ h', h'⟩
  have hon : SameOn bx (⟨(d, .sv (.one (.val (.slice (some ⟨blk, off, none⟩) len cap)))) :: s, bx, withBlock X blk (.cells arr el fr)⟩ : St).stat (⟨(d, .sv (.one (.slc k off len sz))) :: s, (k, some ⟨el, vals.map .val, true⟩) :: bx, X⟩ : St).stat := fun k' x h' => by
    simp only [St.stat, look]
    cases e : Nat.beq k k' with
    | true => exact absurd (Nat.eq_of_beq_eq_true e).symm (hlk k' x h')
    | false => rfl
  have hmean : ∀ {b : Box} {us : List Value}, b.rel (⟨(d, .sv (.one (.slc k off len sz))) :: s, (k, some ⟨el, vals.map .val, true⟩) :: bx, X⟩ : St).stat ι us → b.cells.all (CV.inUse bx) = true → b.rel (⟨(d, .sv (.one (.slc k off len sz))) :: s, (k, some ⟨el, vals.map .val, true⟩) :: bx, X⟩ : St).stat (put1 ι k (blk, arr.size)) us := fun {b us} h1 h2 => by
    unfold Box.rel at h1 ⊢
    cases hrow : b.row with
    | res R => rw [hrow] at h1; exact h1.elim
    | bool r =>
      cases r with
      | false => rw [hrow] at h1; exact CVs.rel_means (fun k' hk' => hι k' (by obtain ⟨x, hx⟩ := Option.isSome_iff_exists.1 hk'; exact hlk k' x hx)) h2 h1
      | true =>
        rw [hrow] at h1
        obtain ⟨us', sp, e, hl⟩ := h1
        exact ⟨us', sp, e, CVs.rel_means (fun k' hk' => hι k' (by obtain ⟨x, hx⟩ := Option.isSome_iff_exists.1 hk'; exact hlk k' x hx)) h2 hl⟩
  exact {
    defers := hr.defers, size := hr.size
    slots := fun d' lv hd => by
      simp only [St.slot, look] at hd
      cases e : Nat.beq d d' with
      | true =>
        rw [e] at hd
        simp at hd
        subst hd
        have := Nat.eq_of_beq_eq_true e
        subst this
        obtain ⟨v, hv, hvr⟩ := hr.slots d (.sv (.one (.val (.slice (some ⟨blk, off, none⟩) len cap)))) (by simp [St.slot, look])
        refine ⟨v, hv, ?_⟩
        have hvr : v = .slice (some ⟨blk, off, none⟩) len cap := hvr
        subst hvr
        simp only [LV.rel, SV.rel, CV.rel, St.stat, look, show Nat.beq k k = true from Nat.beq_refl k, cond_true, hιk]
        exact ⟨cap, rfl, hc, by omega⟩
      | false =>
        rw [e] at hd
        have hd : look d' s = some lv := by simpa using hd
        obtain ⟨v', hv', hr'⟩ := hr.slots d' lv (by simp only [St.slot, look, e]; exact hd)
        have hu := List.all_eq_true.1 hs _ (look_mem hd)
        exact ⟨v', hv', LV.rel_means (fun k' hk' => hι k' (by obtain ⟨x, hx⟩ := Option.isSome_iff_exists.1 hk'; exact hlk k' x hx)) hu (LV.rel_on hon hu hr')⟩
    res := by
      obtain ⟨F, hG⟩ := hr.res
      refine hG.keep (fun j e cs R hj => ?_) (fun _ _ _ _ _ hj => hj) (fun _ _ ho => ho) (fun b _ hx _ _ => ?_) (fun j bj hj => ?_)
      · rcases hst j _ hj with ⟨_, h2⟩ | ⟨hne, h2⟩
        · cases h2
        · exact ⟨h2, hι j hne⟩
      · have hx : withBlock X blk (.cells arr el fr) b = none := hx
        unfold withBlock at hx
        split at hx
        · cases hx
        · exact hx
      · rcases hst j bj hj with ⟨rfl, _⟩ | ⟨hne, h2⟩
        · rw [hιk]
          refine .inr (.inr (.inr ?_))
          show withBlock X blk (.cells arr el fr) blk ≠ none
          rw [withBlock_at]; simp
        · exact .inl ⟨bj, h2, by rw [hι j hne]⟩
    boxes := fun k' b hb' hbk => by
      rcases hst k' b hb' with ⟨rfl, rfl⟩ | ⟨hne, hb''⟩
      · rw [hιk]
        obtain ⟨sp, hsp⟩ := hsp
        exact ⟨arr, fr, hr.ext blk _ (withBlock_at _ _ _), hF.thaw, rfl, vals, sp, hsp, CVs.rel_map_val vals⟩
      · rw [hι k' hne]
        obtain ⟨arr', fr', h1, h2, h3, h4⟩ := hr.boxes k' b hb'' hbk
        have hu : b.cells.all (CV.inUse bx) = true := by simpa using List.all_eq_true.1 hb _ (look_mem hb'')
        exact ⟨arr', fr', h1, h2, h3, hmean (Box.rel_on hon hu h4) hu⟩
    own := fun k' b hb' => by
      rcases hst k' b hb' with ⟨rfl, rfl⟩ | ⟨hne, hb''⟩
      · rw [hιk]; exact ⟨hF.own, hX⟩
      · rw [hι k' hne]
        obtain ⟨h1, h2⟩ := hr.own k' b hb''
        refine ⟨h1, ?_⟩
        have h2 : withBlock X blk (.cells arr el fr) (ι k').1 = none := h2
        unfold withBlock at h2
        split at h2
        · cases h2
        · exact h2
    inj := fun k1 k2 b1 b2 h1 h2 he => by
      have hne : ∀ k' b, look k' bx = some (some b) → (ι k').1 ≠ blk := fun k' b hb' e => by
        have h2 : withBlock X blk (.cells arr el fr) (ι k').1 = none := (hr.own k' b hb').2
        rw [e, withBlock_at] at h2
        cases h2
      rcases hst k1 b1 h1 with ⟨e1, _⟩ | ⟨n1, h1'⟩ <;> rcases hst k2 b2 h2 with ⟨e2, _⟩ | ⟨n2, h2'⟩
      · rw [e1, e2]
      · rw [e1, hιk, hι k2 n2] at he; exact absurd he.symm (hne k2 b2 h2')
      · rw [e2, hιk, hι k1 n1] at he; exact absurd he (hne k1 b1 h1')
      · rw [hι k1 n1, hι k2 n2] at he; exact hr.inj k1 k2 b1 b2 h1' h2' he
    keep := fun k' b hb' hge => by
      rcases hst k' b hb' with ⟨e, _⟩ | ⟨hne, hb''⟩
      · omega
      · rw [hι k' hne]; exact hr.keep k' b hb'' hge
    ext := fun b o hbo => hr.ext b o (withBlock_old hX b o hbo)
    frame := hr.frame, big := hr.big, os := hr.os, tape := hr.tape, output := hr.output }
theorem LWP.thaw {s : List (Nat × LV)} {bx : List (Nat × Option Box)} {d k off len sz blk cap : Nat} {el : TypeId} {vals : List Value} {arr : Array Value} {fr : Nat × Nat}
    (hX : X blk = none) (hF : Frozen C blk arr fr) (hc : len ≤ cap) (hfit : off + cap * sz ≤ arr.size) (hsp : ∃ sp, arr.toList = vals ++ sp)
    (hs : s.all (fun p => p.2.inUse bx) = true) (hb : bx.all (fun p => match p.2 with | some b => b.cells.all (CV.inUse bx) | none => true) = true) (hk : look k bx = none) (hlt : k < 1000000)
    (h : LWP P n C c Q ⟨(d, .sv (.one (.slc k off len sz))) :: s, (k, some ⟨el, vals.map .val, true⟩) :: bx, X⟩) :
    LWP P n C c Q ⟨(d, .sv (.one (.val (.slice (some ⟨blk, off, none⟩) len cap)))) :: s, bx, withBlock X blk (.cells arr el fr)⟩ := by
  refine ⟨fun ι a w hr => ?_⟩
  exact h.out _ a w (hr.thaw hX hF hc hfit hsp hs hb hk hlt)
end
end Go.Lg
end
section
namespace Go.Lg
open Go
/-- rows of so many cells lie in memory that stays, where a slice begins -/
def RowsIn (X : Nat → Option Obj) (ad : Option Addr) (sz : Nat) (rows : List (List Value)) : Prop :=
  ∀ i r, rows[i]? = some r → ∃ (blk off : Nat) (arr : Array Value) (el : TypeId) (fr : Nat × Nat), ad = some ⟨blk, off, none⟩ ∧ X blk = some (.cells arr el fr) ∧ off + i * sz + sz ≤ arr.size ∧ (arr.toList.drop (off + i * sz)).take sz = r
theorem RowsIn.mono {X Y : Nat → Option Obj} {ad : Option Addr} {sz : Nat} {rows : List (List Value)} (h : RowsIn X ad sz rows) (hm : ∀ b o, X b = some o → Y b = some o) : RowsIn Y ad sz rows := fun i r hi => by
  obtain ⟨blk, off, arr, el, fr, h1, h2, h3, h4⟩ := h i r hi
  exact ⟨blk, off, arr, el, fr, h1, hm _ _ h2, h3, h4⟩
theorem flat_row {sz : Nat} : ∀ {rows : List (List Value)} (_ : ∀ r ∈ rows, r.length = sz) {sp : List Value} {i : Nat} {r : List Value} (_ : rows[i]? = some r), i * sz + sz ≤ (rows.flatten ++ sp).length ∧ ((rows.flatten ++ sp).drop (i * sz)).take sz = r
  | [], _, _, i, r, h => by simp at h
  | r0 :: rows, hl, sp, 0, r, h => by
    simp only [List.getElem?_cons_zero, Option.some.injEq] at h
    subst h
    have h0 := hl r0 (by simp)
    simp only [List.flatten_cons, List.append_assoc, List.length_append, Nat.zero_mul, List.drop_zero]
    refine ⟨by omega, ?_⟩
    rw [← h0, List.take_left]
  | r0 :: rows, hl, sp, i + 1, r, h => by
    have h0 := hl r0 (by simp)
    obtain ⟨h1, h2⟩ := flat_row (rows := rows) (fun x hx => hl x (by simp [hx])) (sp := sp) (i := i) (r := r) (by simpa using h)
    simp only [List.flatten_cons, List.append_assoc, List.length_append] at h1 ⊢
    have e : (i + 1) * sz = i * sz + sz := by rw [Nat.add_mul, Nat.one_mul]
    refine ⟨by omega, ?_⟩
    rw [e, Nat.add_comm, ← List.drop_drop, ← h0, List.drop_left, h0]
    exact h2
/-- what is frozen can be read as rows -/
theorem rows_frozen {X : Nat → Option Obj} {blk : Nat} {arr : Array Value} {el : TypeId} {fr : Nat × Nat} {sz : Nat} {rows : List (List Value)} (hl : ∀ r ∈ rows, r.length = sz) (hsp : ∃ sp, arr.toList = rows.flatten ++ sp) :
    RowsIn (withBlock X blk (.cells arr el fr)) (some ⟨blk, 0, none⟩) sz rows := fun i r hi => by
  obtain ⟨sp, e⟩ := hsp
  obtain ⟨h1, h2⟩ := flat_row hl (sp := sp) hi
  refine ⟨blk, 0, arr, el, fr, rfl, withBlock_at _ _ _, ?_, ?_⟩
  · rw [← Array.length_toList, e]; omega
  · rw [e, Nat.zero_add]; exact h2
end Go.Lg
namespace Go.Lg.Fld
open Go Go.Lg
end Go.Lg.Fld
end
section
namespace Go.Lg
open Go Go.RowKit Go.ChangeShapes Go.WideShapes Go.Joins
section
variable {H : Type} {enc : TypeId × Value → H} {P : Program} {w : World}
theorem cells_row {a : Addr} {sz : Nat} {cs : List Value} (hs : a.spot = none) (hsz : 1 ≤ sz) {i : Nat} (hl : cs.length = sz) (h : ∀ j, j < sz → w.cell? ((a.add (i * sz)).add j) = cs[j]?) :
    ∃ (arr : Array Value) (el : TypeId) (fr : Nat × Nat), w.heap[a.block]? = some (.cells arr el fr) ∧ a.off + i * sz + sz ≤ arr.size ∧ (arr.toList.drop (a.off + i * sz)).take sz = cs := by
  obtain ⟨b, o, sp⟩ := a
  simp only at hs
  subst hs
  have h2 : ∀ j, j < sz → ∃ u, cs[j]? = some u ∧ w.cell? ((⟨b, o, none⟩ : Addr).add (i * sz + j)) = some u := fun j hj => by
    have h3 := h j hj
    rw [Deep.add_add] at h3
    rw [List.getElem?_eq_getElem (by omega)] at h3
    exact ⟨_, List.getElem?_eq_getElem (by omega), h3⟩
  obtain ⟨u0, _, h0⟩ := h2 0 (by omega)
  obtain ⟨arr, el, fr, hh, _⟩ := cell_at (a := ⟨b, o, none⟩) rfl h0
  have hall : ∀ j, j < sz → arr[o + (i * sz + j)]? = cs[j]? := fun j hj => by
    obtain ⟨u, hu, hc⟩ := h2 j hj
    obtain ⟨arr', el', fr', hh', hc'⟩ := cell_at (a := ⟨b, o, none⟩) rfl hc
    rw [hh] at hh'
    cases hh'
    rw [hu]; exact hc'
  have hlast : o + (i * sz + (sz - 1)) < arr.size := by
    have h3 := hall (sz - 1) (by omega)
    rw [List.getElem?_eq_getElem (by omega)] at h3
    exact (Array.getElem?_eq_some_iff.1 h3).1
  refine ⟨arr, el, fr, hh, by show o + i * sz + sz ≤ arr.size; omega, ?_⟩
  apply List.ext_getElem?
  intro j
  rw [List.getElem?_take]
  by_cases hj : j < sz
  · rw [if_pos hj, List.getElem?_drop, Array.getElem?_toList, ← hall j hj]
    show arr[o + i * sz + j]? = _
    rw [Nat.add_assoc]
  · rw [if_neg hj, List.getElem?_eq_none (by omega)]
/-- a slice of whatever has so many cells -/
theorem open_rows {r : Reach} {b0 : Nat} {t e : TypeId} {sz : Nat} {v : Value} {d : DataW H} {p : List MemPlace} (ht : P.underlying t = some (.slice e)) (hc : P.cellsOf e = sz) (hsz : 1 ≤ sz) (hv : Value.okWide P w r b0 t v) (h : DataW.Trod enc P w 0 (fun _ => true) true t v d p) :
    ∃ (ad : Option Addr) (cap : Nat) (rows : List (List Value)), v = .slice ad rows.length cap ∧ rows.length ≤ cap ∧ cap ≤ maxLen ∧ RowsIn (fun b => w.heap[b]?) ad sz rows ∧
      (∀ u, u ∈ rows → u.length = sz ∧ ∃ (n : Nat) (x : DataW H × List MemPlace), DataW.trod enc P w 0 (fun _ => true) true n e u = some x) ∧
      ∀ by_ B : Nat, (∀ elems spare, d = .slice elems spare → (elems.length + spare.length) * by_ ≤ B) → rows.length * by_ ≤ B := by
  obtain ⟨a, len, cap, rfl⟩ := okWide_slice ht hv
  obtain ⟨fuel, hf⟩ := h
  rcases Deep.open_slice ht hf with ⟨h0, _⟩ | ⟨a', len', cap', m, n, D, Pl, h0, hb, hl, hm, hmm, hd, hx⟩
  · simp [Value.cells] at h0
    obtain ⟨rfl, rfl, rfl⟩ := h0
    exact ⟨none, 0, [], rfl, Nat.le_refl _, Nat.zero_le _, fun i r h => by simp at h, fun u hu => by simp at hu, fun by_ B _ => by simp⟩
  · simp [Value.cells] at h0
    obtain ⟨rfl, rfl, rfl⟩ := h0
    rw [if_pos rfl] at hmm
    subst hmm
    rw [hc] at hx
    have hch : ∃ f : Nat → List Value, ∀ i, i < m → w.cells? 0 (a'.add (i * sz)) sz = some (f i) ∧ DataW.trod enc P w 0 (fun _ => true) true n e (f i) = some (D i, Pl i) := by
      refine ⟨fun i => if hi : i < m then (hx i hi).choose else [], fun i hi => ?_⟩
      simp only [dif_pos hi]
      exact (hx i hi).choose_spec
    obtain ⟨f, hf2⟩ := hch
    refine ⟨some a', m, (List.range len).map f, by rw [List.length_map, List.length_range], by rw [List.length_map, List.length_range]; exact hl, hm, ?_, ?_, ?_⟩
    · intro i u hi
      have hi2 : i < len := by
        have := (List.getElem?_eq_some_iff.1 hi).1
        simpa using this
      have e : u = f i := by
        rw [List.getElem?_map, List.getElem?_range hi2] at hi
        simpa using hi.symm
      subst e
      have hspot : a'.spot = none := by
        obtain ⟨h1, _⟩ := hf2 0 (by omega)
        obtain ⟨_, hlen, hcell⟩ := World.cells?_some h1
        have e0 := hcell 0 (by omega)
        rw [Deep.add_add, Nat.zero_mul, Nat.zero_add] at e0
        rw [List.getElem?_eq_getElem (by omega)] at e0
        exact spot_none e0
      obtain ⟨h1, _⟩ := hf2 i (by omega)
      obtain ⟨_, hlen, hcell⟩ := World.cells?_some h1
      obtain ⟨arr, el, fr, hh, hsz2, htk⟩ := cells_row hspot hsz hlen hcell
      refine ⟨a'.block, a'.off, arr, el, fr, ?_, hh, hsz2, htk⟩
      obtain ⟨b, o, sp⟩ := a'
      simp only at hspot
      subst hspot
      rfl
    · intro u hu
      obtain ⟨i, hi, rfl⟩ := List.mem_map.1 hu
      have hi := List.mem_range.1 hi
      obtain ⟨h1, h2⟩ := hf2 i (by omega)
      exact ⟨(World.cells?_some h1).2.1, n, _, h2⟩
    · intro by_ B hB
      have hd1 := congrArg Prod.fst hd
      have h := hB _ _ hd1
      simp only [List.length_map, List.length_range] at h ⊢
      exact Nat.le_trans (Nat.mul_le_mul_right _ (by omega)) h
end
end Go.Lg
end
section
namespace Go.Lg
open Go Go.RowKit Go.ChangeShapes Go.WideShapes Go.Joins
section
variable {H : Type} {enc : TypeId × Value → H} {P : Program} {w : World}
/-- a slice of whatever has so many cells, by its cell -/
theorem open_rows_l {t e : TypeId} {sz fuel : Nat} {l : List Value} {x : DataW H × List MemPlace} (ht : P.underlying t = some (.slice e)) (hc : P.cellsOf e = sz) (hsz : 1 ≤ sz) (hf : DataW.trod enc P w 0 (fun _ => true) true fuel t l = some x) :
    ∃ (ad : Option Addr) (cap : Nat) (rows : List (List Value)), l = [.slice ad rows.length cap] ∧ rows.length ≤ cap ∧ cap ≤ maxLen ∧ RowsIn (fun b => w.heap[b]?) ad sz rows ∧
      ∀ u, u ∈ rows → u.length = sz ∧ ∃ (n : Nat) (x : DataW H × List MemPlace), DataW.trod enc P w 0 (fun _ => true) true n e u = some x := by
  rcases Deep.open_slice ht hf with ⟨h0, _⟩ | ⟨a', len', cap', m, n, D, Pl, h0, hb, hl, hm, hmm, hd, hx⟩
  · exact ⟨none, 0, [], h0, Nat.le_refl _, Nat.zero_le _, fun i r h => by simp at h, fun u hu => by simp at hu⟩
  · rw [if_pos rfl] at hmm
    subst hmm
    rw [hc] at hx
    have hch : ∃ f : Nat → List Value, ∀ i, i < m → w.cells? 0 (a'.add (i * sz)) sz = some (f i) ∧ DataW.trod enc P w 0 (fun _ => true) true n e (f i) = some (D i, Pl i) := by
      refine ⟨fun i => if hi : i < m then (hx i hi).choose else [], fun i hi => ?_⟩
      simp only [dif_pos hi]
      exact (hx i hi).choose_spec
    obtain ⟨f, hf2⟩ := hch
    refine ⟨some a', m, (List.range len').map f, by rw [List.length_map, List.length_range]; exact h0, by rw [List.length_map, List.length_range]; exact hl, hm, ?_, ?_⟩
    · intro i u hi
      have hi2 : i < len' := by
        have := (List.getElem?_eq_some_iff.1 hi).1
        simpa using this
      have e : u = f i := by
        rw [List.getElem?_map, List.getElem?_range hi2] at hi
        simpa using hi.symm
      subst e
      have hspot : a'.spot = none := by
        obtain ⟨h1, _⟩ := hf2 0 (by omega)
        obtain ⟨_, hlen, hcell⟩ := World.cells?_some h1
        have e0 := hcell 0 (by omega)
        rw [Deep.add_add, Nat.zero_mul, Nat.zero_add] at e0
        rw [List.getElem?_eq_getElem (by omega)] at e0
        exact spot_none e0
      obtain ⟨h1, _⟩ := hf2 i (by omega)
      obtain ⟨_, hlen, hcell⟩ := World.cells?_some h1
      obtain ⟨arr, el, fr, hh, hsz2, htk⟩ := cells_row hspot hsz hlen hcell
      refine ⟨a'.block, a'.off, arr, el, fr, ?_, hh, hsz2, htk⟩
      obtain ⟨b, o, sp⟩ := a'
      simp only at hspot
      subst hspot
      rfl
    · intro u hu
      obtain ⟨i, hi, rfl⟩ := List.mem_map.1 hu
      have hi := List.mem_range.1 hi
      obtain ⟨h1, h2⟩ := hf2 i (by omega)
      exact ⟨(World.cells?_some h1).2.1, n, _, h2⟩
end
end Go.Lg
end
section
namespace Go.Lg
open Go Go.RowKit
section
variable {P : Program} {n : Nat} {ops os : List Oper} {acc : List Eff} {K : List Eff → St → Prop} {s : List (Nat × LV)} {bx : List (Nat × Option Box)} {X : Nat → Option Obj}
theorem kmv {d : Nat} {x : Operand} {ty : TypeId} {pos : String} {after : Array Edge} {lv : LV} (hx : (⟨s, bx, X⟩ : St).ev x = some lv) (kont : RunK P n ops os ⟨(d, lv) :: s, bx, X⟩ (⟨[(d, lv)], [], []⟩ :: acc) K) :
    RunK P n ops (⟨some d, .move x, ty, pos, after, none⟩ :: os) ⟨s, bx, X⟩ acc K := Go.Lg.K.move hx .plain kont
theorem gmv {d : Nat} {x : Operand} {ty : TypeId} {pos : String} {after : Array Edge} {lv : LV} (hx : (⟨s, bx, X⟩ : St).ev x = some lv) {gj gt : Nat} {gb : Bool} (g1 : (ops[gj]?).bind (·.dst) = some gt) (g2 : look gt s = some (.sv (.one (.val (.bool gb))))) (kont : RunK P n ops os ⟨(d, lv) :: s, bx, X⟩ (⟨[(d, lv)], [], []⟩ :: acc) K) :
    RunK P n ops (⟨some d, .move x, ty, pos, after, some (gj, gb)⟩ :: os) ⟨s, bx, X⟩ acc K := Go.Lg.K.move hx (.taken g1 g2) kont
theorem kas {d : Nat} {x : Operand} {ty : TypeId} {pos : String} {after : Array Edge} {lv : LV} (hx : (⟨s, bx, X⟩ : St).ev x = some lv) (kont : RunK P n ops os ⟨(d, lv) :: s, bx, X⟩ (⟨[(d, lv)], [], []⟩ :: acc) K) :
    RunK P n ops (⟨some d, .assign x, ty, pos, after, none⟩ :: os) ⟨s, bx, X⟩ acc K := Go.Lg.K.assign hx .plain kont
theorem kpt {d : Nat} {c x y : Operand} {ty : TypeId} {pos : String} {after : Array Edge} {lv : LV} (hc : (⟨s, bx, X⟩ : St).ev c = some (.sv (.one (.val (.bool true))))) (hx : (⟨s, bx, X⟩ : St).ev x = some lv) (kont : RunK P n ops os ⟨(d, lv) :: s, bx, X⟩ (⟨[(d, lv)], [], []⟩ :: acc) K) :
    RunK P n ops (⟨some d, .pick c x y, ty, pos, after, none⟩ :: os) ⟨s, bx, X⟩ acc K := Go.Lg.K.pickT hc hx .plain kont
theorem kpf {d : Nat} {c x y : Operand} {ty : TypeId} {pos : String} {after : Array Edge} {lv : LV} (hc : (⟨s, bx, X⟩ : St).ev c = some (.sv (.one (.val (.bool false))))) (hy : (⟨s, bx, X⟩ : St).ev y = some lv) (kont : RunK P n ops os ⟨(d, lv) :: s, bx, X⟩ (⟨[(d, lv)], [], []⟩ :: acc) K) :
    RunK P n ops (⟨some d, .pick c x y, ty, pos, after, none⟩ :: os) ⟨s, bx, X⟩ acc K := Go.Lg.K.pickF hc hy .plain kont
theorem kex {s0 : List (Nat × LV)} {d : Nat} {x : Operand} {i : Nat} {ty : TypeId} {pos : String} {after : Array Edge} {l : List SV} {s : SV} (hx : (⟨s0, bx, X⟩ : St).ev x = some (.tup l)) (hi : l[i]? = some s) (kont : RunK P n ops os ⟨(d, .sv s) :: s0, bx, X⟩ (⟨[(d, .sv s)], [], []⟩ :: acc) K) :
    RunK P n ops (⟨some d, .extract x i, ty, pos, after, none⟩ :: os) ⟨s0, bx, X⟩ acc K := Go.Lg.K.extract hx hi .plain kont
theorem kad {d : Nat} {t : TypeId} {t' : TypeId} {x : Operand} {y : Operand} {ty : TypeId} {pos : String} {after : Array Edge} {k : IntKind} {a : Int} {b : Int} {c : Int} (hx : (⟨s, bx, X⟩ : St).ev x = some (.sv (.one (.val (.int k a))))) (hy : (⟨s, bx, X⟩ : St).ev y = some (.sv (.one (.val (.int k b))))) (hc : k.wrap (a + b) = c) (kont : RunK P n ops os ⟨(d, .sv (.one (.val (.int k c)))) :: s, bx, X⟩ (⟨[(d, .sv (.one (.val (.int k c))))], [], []⟩ :: acc) K) :
    RunK P n ops (⟨some d, .binOp .add t x y t', ty, pos, after, none⟩ :: os) ⟨s, bx, X⟩ acc K := Go.Lg.K.add hx hy hc .plain kont
theorem keq {d : Nat} {t : TypeId} {t' : TypeId} {x : Operand} {y : Operand} {ty : TypeId} {pos : String} {after : Array Edge} {k : IntKind} {a : Int} {b : Int} {r : Bool} (hx : (⟨s, bx, X⟩ : St).ev x = some (.sv (.one (.val (.int k a))))) (hy : (⟨s, bx, X⟩ : St).ev y = some (.sv (.one (.val (.int k b))))) (hc : (a == b) = r) (kont : RunK P n ops os ⟨(d, .sv (.one (.val (.bool r)))) :: s, bx, X⟩ (⟨[(d, .sv (.one (.val (.bool r))))], [], []⟩ :: acc) K) :
    RunK P n ops (⟨some d, .binOp .eql t x y t', ty, pos, after, none⟩ :: os) ⟨s, bx, X⟩ acc K := Go.Lg.K.eql hx hy hc .plain kont
theorem kne {d : Nat} {t : TypeId} {t' : TypeId} {x : Operand} {y : Operand} {ty : TypeId} {pos : String} {after : Array Edge} {k : IntKind} {a : Int} {b : Int} {r : Bool} (hx : (⟨s, bx, X⟩ : St).ev x = some (.sv (.one (.val (.int k a))))) (hy : (⟨s, bx, X⟩ : St).ev y = some (.sv (.one (.val (.int k b))))) (hc : (a != b) = r) (kont : RunK P n ops os ⟨(d, .sv (.one (.val (.bool r)))) :: s, bx, X⟩ (⟨[(d, .sv (.one (.val (.bool r))))], [], []⟩ :: acc) K) :
    RunK P n ops (⟨some d, .binOp .neq t x y t', ty, pos, after, none⟩ :: os) ⟨s, bx, X⟩ acc K := Go.Lg.K.neq hx hy hc .plain kont
theorem klt {d : Nat} {t : TypeId} {t' : TypeId} {x : Operand} {y : Operand} {ty : TypeId} {pos : String} {after : Array Edge} {k : IntKind} {a : Int} {b : Int} {r : Bool} (hx : (⟨s, bx, X⟩ : St).ev x = some (.sv (.one (.val (.int k a))))) (hy : (⟨s, bx, X⟩ : St).ev y = some (.sv (.one (.val (.int k b))))) (hc : decide (a < b) = r) (kont : RunK P n ops os ⟨(d, .sv (.one (.val (.bool r)))) :: s, bx, X⟩ (⟨[(d, .sv (.one (.val (.bool r))))], [], []⟩ :: acc) K) :
    RunK P n ops (⟨some d, .binOp .lss t x y t', ty, pos, after, none⟩ :: os) ⟨s, bx, X⟩ acc K := Go.Lg.K.lss hx hy hc .plain kont
theorem kse {d : Nat} {t : TypeId} {t' : TypeId} {x : Operand} {y : Operand} {ty : TypeId} {pos : String} {after : Array Edge} {r : Bool} {p q : ByteArray} (hx : (⟨s, bx, X⟩ : St).ev x = some (.sv (.one (.val (.string p))))) (hy : (⟨s, bx, X⟩ : St).ev y = some (.sv (.one (.val (.string q))))) (hc : (p.toList == q.toList) = r) (kont : RunK P n ops os ⟨(d, .sv (.one (.val (.bool r)))) :: s, bx, X⟩ (⟨[(d, .sv (.one (.val (.bool r))))], [], []⟩ :: acc) K) :
    RunK P n ops (⟨some d, .binOp .eql t x y t', ty, pos, after, none⟩ :: os) ⟨s, bx, X⟩ acc K := Go.Lg.K.strEq hx hy hc .plain kont
theorem kca {d : Nat} {f : FuncId} {args : List Operand} {tys : Array TypeId} {ty : TypeId} {pos : String} {after : Array Edge} {lvs : List LV} {r : LV} (hargs : evs ⟨s, bx, X⟩ args = some lvs) (hcl : lvs.all LV.closed = true) (hs : PSpec P X f lvs r) (kont : RunK P n ops os ⟨(d, r) :: s, bx, X⟩ (⟨[(d, r)], [], []⟩ :: acc) K) :
    RunK P n ops (⟨some d, .call ⟨.value (.func f), args.toArray, tys⟩, ty, pos, after, none⟩ :: os) ⟨s, bx, X⟩ acc K := Go.Lg.K.call hargs hcl hs .plain kont
theorem gca {d : Nat} {f : FuncId} {args : List Operand} {tys : Array TypeId} {ty : TypeId} {pos : String} {after : Array Edge} {lvs : List LV} {r : LV} (hargs : evs ⟨s, bx, X⟩ args = some lvs) (hcl : lvs.all LV.closed = true) (hs : PSpec P X f lvs r) {gj gt : Nat} {gb : Bool} (g1 : (ops[gj]?).bind (·.dst) = some gt) (g2 : look gt s = some (.sv (.one (.val (.bool gb))))) (kont : RunK P n ops os ⟨(d, r) :: s, bx, X⟩ (⟨[(d, r)], [], []⟩ :: acc) K) :
    RunK P n ops (⟨some d, .call ⟨.value (.func f), args.toArray, tys⟩, ty, pos, after, some (gj, gb)⟩ :: os) ⟨s, bx, X⟩ acc K := Go.Lg.K.call hargs hcl hs (.taken g1 g2) kont
theorem kl1 {d : Nat} {t : TypeId} {x : Operand} {ty : TypeId} {pos : String} {after : Array Edge} {k off : Nat} {e : TypeId} {cs : List CV} {row : Bool} {c : CV} [i : OneT P t] (hx : (⟨s, bx, X⟩ : St).ev x = some (.sv (.one (.ptr k off)))) (hk : (⟨s, bx, X⟩ : St).stat k = some (some ⟨e, cs, row⟩)) (hc : cs[off]? = some c) (kont : RunK P n ops os ⟨(d, .sv (.one c)) :: s, bx, X⟩ (⟨[(d, .sv (.one c))], [k], []⟩ :: acc) K) :
    RunK P n ops (⟨some d, .load t x, ty, pos, after, none⟩ :: os) ⟨s, bx, X⟩ acc K := Go.Lg.K.loadOne hx hk hc .plain kont
theorem kfa {d : Nat} {t : TypeId} {x : Operand} {ty : TypeId} {pos : String} {after : Array Edge} {i k off o m : Nat} [f : FieldT P t i o m] (hx : (⟨s, bx, X⟩ : St).ev x = some (.sv (.one (.ptr k off)))) {off' : Nat} (ho : Nat.add off o = off') (kont : RunK P n ops os ⟨(d, .sv (.one (.ptr k off'))) :: s, bx, X⟩ (⟨[(d, .sv (.one (.ptr k off')))], [], []⟩ :: acc) K) :
    RunK P n ops (⟨some d, .fieldAddr t x i, ty, pos, after, none⟩ :: os) ⟨s, bx, X⟩ acc K := Go.Lg.K.fieldAddr hx ho .plain kont
theorem kln {d : Nat} {t : TypeId} {x : Operand} {ty : TypeId} {pos : String} {after : Array Edge} {s0 : List (Nat × LV)} {s : ByteArray} [StrT P t] (hx : (⟨s0, bx, X⟩ : St).ev x = some (.sv (.one (.val (.string s))))) (kont : RunK P n ops os ⟨(d, .sv (.one (.val (.int .i64 s.size)))) :: s0, bx, X⟩ (⟨[(d, .sv (.one (.val (.int .i64 s.size))))], [], []⟩ :: acc) K) :
    RunK P n ops (⟨some d, .call ⟨.builtin .len, #[x], #[t]⟩, ty, pos, after, none⟩ :: os) ⟨s0, bx, X⟩ acc K := Go.Lg.K.lenStr hx .plain kont
theorem kcv {d : Nat} {t : TypeId} {t' : TypeId} {x : Operand} {ty : TypeId} {pos : String} {after : Array Edge} {k k' : IntKind} {a c : Int} {ks : IntKind} [i : IntT P t ks] [i' : IntT P t' k'] (hx : (⟨s, bx, X⟩ : St).ev x = some (.sv (.one (.val (.int k a))))) (hc : k'.wrap a = c) (kont : RunK P n ops os ⟨(d, .sv (.one (.val (.int k' c)))) :: s, bx, X⟩ (⟨[(d, .sv (.one (.val (.int k' c))))], [], []⟩ :: acc) K) :
    RunK P n ops (⟨some d, .convert t t' x, ty, pos, after, none⟩ :: os) ⟨s, bx, X⟩ acc K := Go.Lg.K.conv hx hc .plain kont
end
end Go.Lg
end
section
namespace Go.Proofs.Yteappfihapeakaa
open Go Go.Lg
theorem mixed : Try.prog.follows .mixedOrders = true := by kernel_rfl
instance : ZeroT Try.prog 1 [(.val (.nilFunc))] := ⟨by kernel_rfl⟩
instance : OneT Try.prog 1 := ⟨by kernel_rfl⟩
instance : ZeroT Try.prog 2 [(.val (.int .i64 0))] := ⟨by kernel_rfl⟩
instance : OneT Try.prog 2 := ⟨by kernel_rfl⟩
instance : IntT Try.prog 2 .i64 := ⟨by kernel_rfl⟩
instance : ZeroT Try.prog 3 [(.val (.int .i64 0))] := ⟨by kernel_rfl⟩
instance : OneT Try.prog 3 := ⟨by kernel_rfl⟩
instance : IntT Try.prog 3 .i64 := ⟨by kernel_rfl⟩
instance : ZeroT Try.prog 4 [(.val (.bool false))] := ⟨by kernel_rfl⟩
instance : OneT Try.prog 4 := ⟨by kernel_rfl⟩
instance : BoolT Try.prog 4 := ⟨by kernel_rfl⟩
instance : ZeroT Try.prog 5 [(.val (.int .u8 0))] := ⟨by kernel_rfl⟩
instance : OneT Try.prog 5 := ⟨by kernel_rfl⟩
instance : IntT Try.prog 5 .u8 := ⟨by kernel_rfl⟩
instance : ZeroT Try.prog 6 [(.val (.int .u8 0))] := ⟨by kernel_rfl⟩
instance : OneT Try.prog 6 := ⟨by kernel_rfl⟩
instance : IntT Try.prog 6 .u8 := ⟨by kernel_rfl⟩
instance : ZeroT Try.prog 7 [(.val (.int .i64 0)), (.val (.int .i64 0)), (.val (.bool false)), (.val (.int .u8 0))] := ⟨by kernel_rfl⟩
instance : AggT Try.prog 7 4 := ⟨by kernel_rfl⟩
instance : FieldT Try.prog 7 0 0 0 := ⟨by kernel_rfl⟩
instance : FieldT Try.prog 7 1 1 0 := ⟨by kernel_rfl⟩
instance : FieldT Try.prog 7 2 2 0 := ⟨by kernel_rfl⟩
instance : FieldT Try.prog 7 3 3 0 := ⟨by kernel_rfl⟩
instance : StructT Try.prog 7 [(.int .i64 0), (.int .i64 0), (.bool false), (.int .u8 0)] [(0, 1), (1, 1), (2, 1), (3, 1)] := ⟨by kernel_rfl⟩
instance : ZeroT Try.prog 8 [(.val (.int .i64 0)), (.val (.int .i64 0)), (.val (.bool false)), (.val (.int .u8 0))] := ⟨by kernel_rfl⟩
instance : AggT Try.prog 8 4 := ⟨by kernel_rfl⟩
instance : FieldT Try.prog 8 0 0 0 := ⟨by kernel_rfl⟩
instance : FieldT Try.prog 8 1 1 0 := ⟨by kernel_rfl⟩
instance : FieldT Try.prog 8 2 2 0 := ⟨by kernel_rfl⟩
instance : FieldT Try.prog 8 3 3 0 := ⟨by kernel_rfl⟩
instance : StructT Try.prog 8 [(.int .i64 0), (.int .i64 0), (.bool false), (.int .u8 0)] [(0, 1), (1, 1), (2, 1), (3, 1)] := ⟨by kernel_rfl⟩
instance : ZeroT Try.prog 9 [(.val (.string ⟨#[]⟩))] := ⟨by kernel_rfl⟩
instance : OneT Try.prog 9 := ⟨by kernel_rfl⟩
instance : StrT Try.prog 9 := ⟨by kernel_rfl⟩
instance : ZeroT Try.prog 10 [(.val (.string ⟨#[]⟩))] := ⟨by kernel_rfl⟩
instance : OneT Try.prog 10 := ⟨by kernel_rfl⟩
instance : StrT Try.prog 10 := ⟨by kernel_rfl⟩
instance : ZeroT Try.prog 11 [(.val (.string ⟨#[]⟩))] := ⟨by kernel_rfl⟩
instance : OneT Try.prog 11 := ⟨by kernel_rfl⟩
instance : StrT Try.prog 11 := ⟨by kernel_rfl⟩
instance : ZeroT Try.prog 12 [(.val (.int .u64 0))] := ⟨by kernel_rfl⟩
instance : OneT Try.prog 12 := ⟨by kernel_rfl⟩
instance : IntT Try.prog 12 .u64 := ⟨by kernel_rfl⟩
instance : ZeroT Try.prog 13 [(.val (.string ⟨#[]⟩)), (.val (.int .u64 0))] := ⟨by kernel_rfl⟩
instance : AggT Try.prog 13 2 := ⟨by kernel_rfl⟩
instance : FieldT Try.prog 13 0 0 0 := ⟨by kernel_rfl⟩
instance : FieldT Try.prog 13 1 1 0 := ⟨by kernel_rfl⟩
instance : StructT Try.prog 13 [(.string ⟨#[]⟩), (.int .u64 0)] [(0, 1), (1, 1)] := ⟨by kernel_rfl⟩
instance : ZeroT Try.prog 14 [(.val (.string ⟨#[]⟩)), (.val (.int .u64 0))] := ⟨by kernel_rfl⟩
instance : AggT Try.prog 14 2 := ⟨by kernel_rfl⟩
instance : FieldT Try.prog 14 0 0 0 := ⟨by kernel_rfl⟩
instance : FieldT Try.prog 14 1 1 0 := ⟨by kernel_rfl⟩
instance : StructT Try.prog 14 [(.string ⟨#[]⟩), (.int .u64 0)] [(0, 1), (1, 1)] := ⟨by kernel_rfl⟩
instance : ZeroT Try.prog 15 [(.val (.pointer none))] := ⟨by kernel_rfl⟩
instance : OneT Try.prog 15 := ⟨by kernel_rfl⟩
instance : ZeroT Try.prog 16 [(.val (.pointer none))] := ⟨by kernel_rfl⟩
instance : OneT Try.prog 16 := ⟨by kernel_rfl⟩
instance : ZeroT Try.prog 17 [(.val (.pointer none))] := ⟨by kernel_rfl⟩
instance : OneT Try.prog 17 := ⟨by kernel_rfl⟩
instance : ZeroT Try.prog 18 [(.val (.pointer none))] := ⟨by kernel_rfl⟩
instance : AggT Try.prog 18 1 := ⟨by kernel_rfl⟩
instance : FieldT Try.prog 18 0 0 0 := ⟨by kernel_rfl⟩
instance : StructT Try.prog 18 [(.pointer none)] [(0, 1)] := ⟨by kernel_rfl⟩
instance : ZeroT Try.prog 19 [(.val (.pointer none))] := ⟨by kernel_rfl⟩
instance : AggT Try.prog 19 1 := ⟨by kernel_rfl⟩
instance : FieldT Try.prog 19 0 0 0 := ⟨by kernel_rfl⟩
instance : StructT Try.prog 19 [(.pointer none)] [(0, 1)] := ⟨by kernel_rfl⟩
instance : ZeroT Try.prog 20 [(.val (.nilIface))] := ⟨by kernel_rfl⟩
instance : OneT Try.prog 20 := ⟨by kernel_rfl⟩
instance : ZeroT Try.prog 21 [(.val (.int .i32 0))] := ⟨by kernel_rfl⟩
instance : OneT Try.prog 21 := ⟨by kernel_rfl⟩
instance : IntT Try.prog 21 .i32 := ⟨by kernel_rfl⟩
instance : ZeroT Try.prog 22 [(.val (.slice none 0 0))] := ⟨by kernel_rfl⟩
instance : OneT Try.prog 22 := ⟨by kernel_rfl⟩
instance : SliceT Try.prog 22 3 := ⟨by kernel_rfl⟩
instance : ZeroT Try.prog 23 [(.val (.int .i64 0)), (.val (.slice none 0 0))] := ⟨by kernel_rfl⟩
instance : AggT Try.prog 23 2 := ⟨by kernel_rfl⟩
instance : FieldT Try.prog 23 0 0 0 := ⟨by kernel_rfl⟩
instance : FieldT Try.prog 23 1 1 0 := ⟨by kernel_rfl⟩
instance : StructT Try.prog 23 [(.int .i64 0), (.slice none 0 0)] [(0, 1), (1, 1)] := ⟨by kernel_rfl⟩
instance : ZeroT Try.prog 24 [(.val (.int .i64 0)), (.val (.slice none 0 0))] := ⟨by kernel_rfl⟩
instance : AggT Try.prog 24 2 := ⟨by kernel_rfl⟩
instance : FieldT Try.prog 24 0 0 0 := ⟨by kernel_rfl⟩
instance : FieldT Try.prog 24 1 1 0 := ⟨by kernel_rfl⟩
instance : StructT Try.prog 24 [(.int .i64 0), (.slice none 0 0)] [(0, 1), (1, 1)] := ⟨by kernel_rfl⟩
instance : ZeroT Try.prog 25 [(.val (.nilFunc))] := ⟨by kernel_rfl⟩
instance : OneT Try.prog 25 := ⟨by kernel_rfl⟩
instance : ZeroT Try.prog 26 [(.val (.nilFunc))] := ⟨by kernel_rfl⟩
instance : OneT Try.prog 26 := ⟨by kernel_rfl⟩
instance : ZeroT Try.prog 27 [(.val (.int .i64 0))] := ⟨by kernel_rfl⟩
instance : OneT Try.prog 27 := ⟨by kernel_rfl⟩
instance : IntT Try.prog 27 .i64 := ⟨by kernel_rfl⟩
instance : ZeroT Try.prog 28 [(.val (.nilFunc))] := ⟨by kernel_rfl⟩
instance : OneT Try.prog 28 := ⟨by kernel_rfl⟩
instance : ZeroT Try.prog 29 [(.val (.nilFunc))] := ⟨by kernel_rfl⟩
instance : OneT Try.prog 29 := ⟨by kernel_rfl⟩
instance : ZeroT Try.prog 30 [(.val (.nilFunc))] := ⟨by kernel_rfl⟩
instance : OneT Try.prog 30 := ⟨by kernel_rfl⟩
instance : ZeroT Try.prog 31 [(.val (.nilFunc))] := ⟨by kernel_rfl⟩
instance : OneT Try.prog 31 := ⟨by kernel_rfl⟩
instance : ZeroT Try.prog 32 [(.val (.slice none 0 0))] := ⟨by kernel_rfl⟩
instance : OneT Try.prog 32 := ⟨by kernel_rfl⟩
instance : SliceT Try.prog 32 3 := ⟨by kernel_rfl⟩
instance : ZeroT Try.prog 33 [(.val (.int .i64 0)), (.val (.string ⟨#[]⟩)), (.val (.slice none 0 0))] := ⟨by kernel_rfl⟩
instance : AggT Try.prog 33 3 := ⟨by kernel_rfl⟩
instance : FieldT Try.prog 33 0 0 0 := ⟨by kernel_rfl⟩
instance : FieldT Try.prog 33 1 1 0 := ⟨by kernel_rfl⟩
instance : FieldT Try.prog 33 2 2 0 := ⟨by kernel_rfl⟩
instance : StructT Try.prog 33 [(.int .i64 0), (.string ⟨#[]⟩), (.slice none 0 0)] [(0, 1), (1, 1), (2, 1)] := ⟨by kernel_rfl⟩
instance : ZeroT Try.prog 34 [(.val (.int .i64 0)), (.val (.string ⟨#[]⟩)), (.val (.slice none 0 0))] := ⟨by kernel_rfl⟩
instance : AggT Try.prog 34 3 := ⟨by kernel_rfl⟩
instance : FieldT Try.prog 34 0 0 0 := ⟨by kernel_rfl⟩
instance : FieldT Try.prog 34 1 1 0 := ⟨by kernel_rfl⟩
instance : FieldT Try.prog 34 2 2 0 := ⟨by kernel_rfl⟩
instance : StructT Try.prog 34 [(.int .i64 0), (.string ⟨#[]⟩), (.slice none 0 0)] [(0, 1), (1, 1), (2, 1)] := ⟨by kernel_rfl⟩
instance : ZeroT Try.prog 36 [(.val (.nilFunc))] := ⟨by kernel_rfl⟩
instance : OneT Try.prog 36 := ⟨by kernel_rfl⟩
instance : ZeroT Try.prog 37 [(.val (.nilFunc))] := ⟨by kernel_rfl⟩
instance : OneT Try.prog 37 := ⟨by kernel_rfl⟩
instance : ZeroT Try.prog 38 [(.val (.nilFunc))] := ⟨by kernel_rfl⟩
instance : OneT Try.prog 38 := ⟨by kernel_rfl⟩
instance : ZeroT Try.prog 39 [(.val (.int .i64 0))] := ⟨by kernel_rfl⟩
instance : OneT Try.prog 39 := ⟨by kernel_rfl⟩
instance : IntT Try.prog 39 .i64 := ⟨by kernel_rfl⟩
instance : ZeroT Try.prog 40 [(.val (.string ⟨#[]⟩)), (.val (.int .i64 0)), (.val (.int .i64 0))] := ⟨by kernel_rfl⟩
instance : AggT Try.prog 40 3 := ⟨by kernel_rfl⟩
instance : FieldT Try.prog 40 0 0 0 := ⟨by kernel_rfl⟩
instance : FieldT Try.prog 40 1 1 0 := ⟨by kernel_rfl⟩
instance : FieldT Try.prog 40 2 2 0 := ⟨by kernel_rfl⟩
instance : StructT Try.prog 40 [(.string ⟨#[]⟩), (.int .i64 0), (.int .i64 0)] [(0, 1), (1, 1), (2, 1)] := ⟨by kernel_rfl⟩
instance : ZeroT Try.prog 41 [(.val (.string ⟨#[]⟩)), (.val (.int .i64 0)), (.val (.int .i64 0))] := ⟨by kernel_rfl⟩
instance : AggT Try.prog 41 3 := ⟨by kernel_rfl⟩
instance : FieldT Try.prog 41 0 0 0 := ⟨by kernel_rfl⟩
instance : FieldT Try.prog 41 1 1 0 := ⟨by kernel_rfl⟩
instance : FieldT Try.prog 41 2 2 0 := ⟨by kernel_rfl⟩
instance : StructT Try.prog 41 [(.string ⟨#[]⟩), (.int .i64 0), (.int .i64 0)] [(0, 1), (1, 1), (2, 1)] := ⟨by kernel_rfl⟩
instance : ZeroT Try.prog 43 [(.val (.nilFunc))] := ⟨by kernel_rfl⟩
instance : OneT Try.prog 43 := ⟨by kernel_rfl⟩
instance : ZeroT Try.prog 44 [(.val (.slice none 0 0))] := ⟨by kernel_rfl⟩
instance : OneT Try.prog 44 := ⟨by kernel_rfl⟩
instance : SliceT Try.prog 44 1 := ⟨by kernel_rfl⟩
instance : ZeroT Try.prog 45 [(.val (.nilFunc))] := ⟨by kernel_rfl⟩
instance : OneT Try.prog 45 := ⟨by kernel_rfl⟩
instance : ZeroT Try.prog 46 [(.val (.nilFunc))] := ⟨by kernel_rfl⟩
instance : OneT Try.prog 46 := ⟨by kernel_rfl⟩
instance : ZeroT Try.prog 47 [(.val (.slice none 0 0))] := ⟨by kernel_rfl⟩
instance : OneT Try.prog 47 := ⟨by kernel_rfl⟩
instance : SliceT Try.prog 47 2 := ⟨by kernel_rfl⟩
instance : ZeroT Try.prog 48 [(.val (.slice none 0 0))] := ⟨by kernel_rfl⟩
instance : OneT Try.prog 48 := ⟨by kernel_rfl⟩
instance : SliceT Try.prog 48 3 := ⟨by kernel_rfl⟩
instance : ZeroT Try.prog 49 [(.val (.int .i64 0)), (.val (.slice none 0 0))] := ⟨by kernel_rfl⟩
instance : AggT Try.prog 49 2 := ⟨by kernel_rfl⟩
instance : FieldT Try.prog 49 0 0 0 := ⟨by kernel_rfl⟩
instance : FieldT Try.prog 49 1 1 0 := ⟨by kernel_rfl⟩
instance : StructT Try.prog 49 [(.int .i64 0), (.slice none 0 0)] [(0, 1), (1, 1)] := ⟨by kernel_rfl⟩
instance : ZeroT Try.prog 50 [(.val (.int .i64 0)), (.val (.slice none 0 0))] := ⟨by kernel_rfl⟩
instance : AggT Try.prog 50 2 := ⟨by kernel_rfl⟩
instance : FieldT Try.prog 50 0 0 0 := ⟨by kernel_rfl⟩
instance : FieldT Try.prog 50 1 1 0 := ⟨by kernel_rfl⟩
instance : StructT Try.prog 50 [(.int .i64 0), (.slice none 0 0)] [(0, 1), (1, 1)] := ⟨by kernel_rfl⟩
instance : ZeroT Try.prog 51 [(.val (.nilFunc))] := ⟨by kernel_rfl⟩
instance : OneT Try.prog 51 := ⟨by kernel_rfl⟩
instance : ZeroT Try.prog 52 [(.val (.nilFunc))] := ⟨by kernel_rfl⟩
instance : OneT Try.prog 52 := ⟨by kernel_rfl⟩
instance : ZeroT Try.prog 53 [(.val (.nilFunc))] := ⟨by kernel_rfl⟩
instance : OneT Try.prog 53 := ⟨by kernel_rfl⟩
instance : ZeroT Try.prog 54 [(.val (.nilFunc))] := ⟨by kernel_rfl⟩
instance : OneT Try.prog 54 := ⟨by kernel_rfl⟩
instance : ZeroT Try.prog 55 [(.val (.nilFunc))] := ⟨by kernel_rfl⟩
instance : OneT Try.prog 55 := ⟨by kernel_rfl⟩
instance : ZeroT Try.prog 56 [(.val (.nilFunc))] := ⟨by kernel_rfl⟩
instance : OneT Try.prog 56 := ⟨by kernel_rfl⟩
instance : ZeroT Try.prog 57 [(.val (.nilFunc))] := ⟨by kernel_rfl⟩
instance : OneT Try.prog 57 := ⟨by kernel_rfl⟩
instance : ZeroT Try.prog 58 [(.val (.int .u64 0))] := ⟨by kernel_rfl⟩
instance : OneT Try.prog 58 := ⟨by kernel_rfl⟩
instance : IntT Try.prog 58 .u64 := ⟨by kernel_rfl⟩
instance : ZeroT Try.prog 59 [(.val (.nilFunc))] := ⟨by kernel_rfl⟩
instance : OneT Try.prog 59 := ⟨by kernel_rfl⟩
instance : ZeroT Try.prog 60 [(.val (.nilFunc))] := ⟨by kernel_rfl⟩
instance : OneT Try.prog 60 := ⟨by kernel_rfl⟩
instance : ZeroT Try.prog 61 [(.val (.int .u64 0))] := ⟨by kernel_rfl⟩
instance : OneT Try.prog 61 := ⟨by kernel_rfl⟩
instance : IntT Try.prog 61 .u64 := ⟨by kernel_rfl⟩
instance : ZeroT Try.prog 62 [(.val (.bool false)), (.val (.int .u64 0)), (.val (.int .u64 0))] := ⟨by kernel_rfl⟩
instance : AggT Try.prog 62 3 := ⟨by kernel_rfl⟩
instance : FieldT Try.prog 62 0 0 0 := ⟨by kernel_rfl⟩
instance : FieldT Try.prog 62 1 1 0 := ⟨by kernel_rfl⟩
instance : FieldT Try.prog 62 2 2 0 := ⟨by kernel_rfl⟩
instance : StructT Try.prog 62 [(.bool false), (.int .u64 0), (.int .u64 0)] [(0, 1), (1, 1), (2, 1)] := ⟨by kernel_rfl⟩
instance : ZeroT Try.prog 63 [(.val (.bool false)), (.val (.int .u64 0)), (.val (.int .u64 0))] := ⟨by kernel_rfl⟩
instance : AggT Try.prog 63 3 := ⟨by kernel_rfl⟩
instance : FieldT Try.prog 63 0 0 0 := ⟨by kernel_rfl⟩
instance : FieldT Try.prog 63 1 1 0 := ⟨by kernel_rfl⟩
instance : FieldT Try.prog 63 2 2 0 := ⟨by kernel_rfl⟩
instance : StructT Try.prog 63 [(.bool false), (.int .u64 0), (.int .u64 0)] [(0, 1), (1, 1), (2, 1)] := ⟨by kernel_rfl⟩
instance : ZeroT Try.prog 64 [(.val (.nilFunc))] := ⟨by kernel_rfl⟩
instance : OneT Try.prog 64 := ⟨by kernel_rfl⟩
instance : ZeroT Try.prog 65 [(.val (.map none))] := ⟨by kernel_rfl⟩
instance : OneT Try.prog 65 := ⟨by kernel_rfl⟩
instance : ZeroT Try.prog 66 [(.val (.map none))] := ⟨by kernel_rfl⟩
instance : OneT Try.prog 66 := ⟨by kernel_rfl⟩
instance : ZeroT Try.prog 67 [(.val (.nilFunc))] := ⟨by kernel_rfl⟩
instance : OneT Try.prog 67 := ⟨by kernel_rfl⟩
instance : ZeroT Try.prog 68 [(.val (.slice none 0 0))] := ⟨by kernel_rfl⟩
instance : OneT Try.prog 68 := ⟨by kernel_rfl⟩
instance : SliceT Try.prog 68 2 := ⟨by kernel_rfl⟩
instance : ZeroT Try.prog 70 [(.val (.nilFunc))] := ⟨by kernel_rfl⟩
instance : OneT Try.prog 70 := ⟨by kernel_rfl⟩
instance : ZeroT Try.prog 71 [(.val (.nilFunc))] := ⟨by kernel_rfl⟩
instance : OneT Try.prog 71 := ⟨by kernel_rfl⟩
instance : ZeroT Try.prog 72 [(.val (.nilFunc))] := ⟨by kernel_rfl⟩
instance : OneT Try.prog 72 := ⟨by kernel_rfl⟩
instance : ZeroT Try.prog 73 [(.val (.nilFunc))] := ⟨by kernel_rfl⟩
instance : OneT Try.prog 73 := ⟨by kernel_rfl⟩
instance : ZeroT Try.prog 74 [(.val (.nilFunc))] := ⟨by kernel_rfl⟩
instance : OneT Try.prog 74 := ⟨by kernel_rfl⟩
instance : ZeroT Try.prog 75 [(.val (.nilFunc))] := ⟨by kernel_rfl⟩
instance : OneT Try.prog 75 := ⟨by kernel_rfl⟩
instance : ZeroT Try.prog 76 [(.val (.nilFunc))] := ⟨by kernel_rfl⟩
instance : OneT Try.prog 76 := ⟨by kernel_rfl⟩
instance : ZeroT Try.prog 77 [(.val (.nilFunc))] := ⟨by kernel_rfl⟩
instance : OneT Try.prog 77 := ⟨by kernel_rfl⟩
instance : ZeroT Try.prog 78 [(.val (.nilFunc))] := ⟨by kernel_rfl⟩
instance : OneT Try.prog 78 := ⟨by kernel_rfl⟩
instance : ZeroT Try.prog 79 [(.val (.nilFunc))] := ⟨by kernel_rfl⟩
instance : OneT Try.prog 79 := ⟨by kernel_rfl⟩
instance : ZeroT Try.prog 80 [(.val (.nilFunc))] := ⟨by kernel_rfl⟩
instance : OneT Try.prog 80 := ⟨by kernel_rfl⟩
instance : ZeroT Try.prog 81 [(.val (.map none))] := ⟨by kernel_rfl⟩
instance : OneT Try.prog 81 := ⟨by kernel_rfl⟩
instance : ZeroT Try.prog 82 [] := ⟨by kernel_rfl⟩
instance : AggT Try.prog 82 0 := ⟨by kernel_rfl⟩
instance : StructT Try.prog 82 [] [] := ⟨by kernel_rfl⟩
instance : ZeroT Try.prog 84 [(.val (.nilFunc))] := ⟨by kernel_rfl⟩
instance : OneT Try.prog 84 := ⟨by kernel_rfl⟩
instance : ZeroT Try.prog 85 [(.val (.nilFunc))] := ⟨by kernel_rfl⟩
instance : OneT Try.prog 85 := ⟨by kernel_rfl⟩
instance : ZeroT Try.prog 86 [(.val (.int .i64 0)), (.val (.int .i64 0))] := ⟨by kernel_rfl⟩
instance : AggT Try.prog 86 2 := ⟨by kernel_rfl⟩
instance : FieldT Try.prog 86 0 0 0 := ⟨by kernel_rfl⟩
instance : FieldT Try.prog 86 1 1 0 := ⟨by kernel_rfl⟩
instance : StructT Try.prog 86 [(.int .i64 0), (.int .i64 0)] [(0, 1), (1, 1)] := ⟨by kernel_rfl⟩
instance : ZeroT Try.prog 87 [(.val (.int .i64 0)), (.val (.int .i64 0))] := ⟨by kernel_rfl⟩
instance : AggT Try.prog 87 2 := ⟨by kernel_rfl⟩
instance : FieldT Try.prog 87 0 0 0 := ⟨by kernel_rfl⟩
instance : FieldT Try.prog 87 1 1 0 := ⟨by kernel_rfl⟩
instance : StructT Try.prog 87 [(.int .i64 0), (.int .i64 0)] [(0, 1), (1, 1)] := ⟨by kernel_rfl⟩
instance : ZeroT Try.prog 88 [(.val (.nilFunc))] := ⟨by kernel_rfl⟩
instance : OneT Try.prog 88 := ⟨by kernel_rfl⟩
instance : ZeroT Try.prog 89 [(.val (.int .i64 0)), (.val (.slice none 0 0))] := ⟨by kernel_rfl⟩
instance : AggT Try.prog 89 2 := ⟨by kernel_rfl⟩
instance : FieldT Try.prog 89 0 0 0 := ⟨by kernel_rfl⟩
instance : FieldT Try.prog 89 1 1 0 := ⟨by kernel_rfl⟩
instance : StructT Try.prog 89 [(.int .i64 0), (.slice none 0 0)] [(0, 1), (1, 1)] := ⟨by kernel_rfl⟩
instance : ZeroT Try.prog 90 [(.val (.int .i64 0)), (.val (.slice none 0 0))] := ⟨by kernel_rfl⟩
instance : AggT Try.prog 90 2 := ⟨by kernel_rfl⟩
instance : FieldT Try.prog 90 0 0 0 := ⟨by kernel_rfl⟩
instance : FieldT Try.prog 90 1 1 0 := ⟨by kernel_rfl⟩
instance : StructT Try.prog 90 [(.int .i64 0), (.slice none 0 0)] [(0, 1), (1, 1)] := ⟨by kernel_rfl⟩
instance : ZeroT Try.prog 92 [(.val (.nilFunc))] := ⟨by kernel_rfl⟩
instance : OneT Try.prog 92 := ⟨by kernel_rfl⟩
instance : ZeroT Try.prog 93 [(.val (.slice none 0 0))] := ⟨by kernel_rfl⟩
instance : OneT Try.prog 93 := ⟨by kernel_rfl⟩
instance : SliceT Try.prog 93 2 := ⟨by kernel_rfl⟩
instance : ZeroT Try.prog 94 [(.val (.nilFunc))] := ⟨by kernel_rfl⟩
instance : OneT Try.prog 94 := ⟨by kernel_rfl⟩
instance : ZeroT Try.prog 95 [(.val (.int .i64 0)), (.val (.int .i64 0))] := ⟨by kernel_rfl⟩
instance : AggT Try.prog 95 2 := ⟨by kernel_rfl⟩
instance : FieldT Try.prog 95 0 0 0 := ⟨by kernel_rfl⟩
instance : FieldT Try.prog 95 1 1 0 := ⟨by kernel_rfl⟩
instance : StructT Try.prog 95 [(.int .i64 0), (.int .i64 0)] [(0, 1), (1, 1)] := ⟨by kernel_rfl⟩
instance : ZeroT Try.prog 96 [(.val (.int .i64 0)), (.val (.int .i64 0))] := ⟨by kernel_rfl⟩
instance : AggT Try.prog 96 2 := ⟨by kernel_rfl⟩
instance : FieldT Try.prog 96 0 0 0 := ⟨by kernel_rfl⟩
instance : FieldT Try.prog 96 1 1 0 := ⟨by kernel_rfl⟩
instance : StructT Try.prog 96 [(.int .i64 0), (.int .i64 0)] [(0, 1), (1, 1)] := ⟨by kernel_rfl⟩
instance : ZeroT Try.prog 97 [(.val (.nilFunc))] := ⟨by kernel_rfl⟩
instance : OneT Try.prog 97 := ⟨by kernel_rfl⟩
instance : ZeroT Try.prog 98 [(.val (.nilFunc))] := ⟨by kernel_rfl⟩
instance : OneT Try.prog 98 := ⟨by kernel_rfl⟩
instance : ZeroT Try.prog 99 [(.val (.int .i64 0)), (.val (.int .i64 0)), (.val (.int .i64 0)), (.val (.int .i64 0)), (.val (.int .i64 0)), (.val (.int .i64 0)), (.val (.int .i64 0)), (.val (.int .i64 0)), (.val (.int .i64 0)), (.val (.int .i64 0)), (.val (.int .i64 0))] := ⟨by kernel_rfl⟩
instance : AggT Try.prog 99 11 := ⟨by kernel_rfl⟩
instance : ArrT Try.prog 99 11 1 := ⟨by kernel_rfl⟩
instance : ZeroT Try.prog 100 [(.val (.nilFunc))] := ⟨by kernel_rfl⟩
instance : OneT Try.prog 100 := ⟨by kernel_rfl⟩
instance : ZeroT Try.prog 101 [(.val (.nilFunc))] := ⟨by kernel_rfl⟩
instance : OneT Try.prog 101 := ⟨by kernel_rfl⟩
instance : ZeroT Try.prog 102 [(.val (.nilFunc))] := ⟨by kernel_rfl⟩
instance : OneT Try.prog 102 := ⟨by kernel_rfl⟩
instance : ZeroT Try.prog 103 [(.val (.nilFunc))] := ⟨by kernel_rfl⟩
instance : OneT Try.prog 103 := ⟨by kernel_rfl⟩
instance : ZeroT Try.prog 104 [(.val (.nilFunc))] := ⟨by kernel_rfl⟩
instance : OneT Try.prog 104 := ⟨by kernel_rfl⟩
instance : ZeroT Try.prog 106 [(.val (.nilFunc))] := ⟨by kernel_rfl⟩
instance : OneT Try.prog 106 := ⟨by kernel_rfl⟩
instance : ZeroT Try.prog 107 [(.val (.nilFunc))] := ⟨by kernel_rfl⟩
instance : OneT Try.prog 107 := ⟨by kernel_rfl⟩
instance : ZeroT Try.prog 108 [(.val (.string ⟨#[]⟩)), (.val (.int .i64 0)), (.val (.int .u64 0)), (.val (.int .u64 0))] := ⟨by kernel_rfl⟩
instance : AggT Try.prog 108 4 := ⟨by kernel_rfl⟩
instance : FieldT Try.prog 108 0 0 0 := ⟨by kernel_rfl⟩
instance : FieldT Try.prog 108 1 1 0 := ⟨by kernel_rfl⟩
instance : FieldT Try.prog 108 2 2 0 := ⟨by kernel_rfl⟩
instance : FieldT Try.prog 108 3 3 0 := ⟨by kernel_rfl⟩
instance : StructT Try.prog 108 [(.string ⟨#[]⟩), (.int .i64 0), (.int .u64 0), (.int .u64 0)] [(0, 1), (1, 1), (2, 1), (3, 1)] := ⟨by kernel_rfl⟩
instance : ZeroT Try.prog 109 [(.val (.string ⟨#[]⟩)), (.val (.int .i64 0)), (.val (.int .u64 0)), (.val (.int .u64 0))] := ⟨by kernel_rfl⟩
instance : AggT Try.prog 109 4 := ⟨by kernel_rfl⟩
instance : FieldT Try.prog 109 0 0 0 := ⟨by kernel_rfl⟩
instance : FieldT Try.prog 109 1 1 0 := ⟨by kernel_rfl⟩
instance : FieldT Try.prog 109 2 2 0 := ⟨by kernel_rfl⟩
instance : FieldT Try.prog 109 3 3 0 := ⟨by kernel_rfl⟩
instance : StructT Try.prog 109 [(.string ⟨#[]⟩), (.int .i64 0), (.int .u64 0), (.int .u64 0)] [(0, 1), (1, 1), (2, 1), (3, 1)] := ⟨by kernel_rfl⟩
instance : ZeroT Try.prog 110 [(.val (.nilFunc))] := ⟨by kernel_rfl⟩
instance : OneT Try.prog 110 := ⟨by kernel_rfl⟩
instance : ZeroT Try.prog 111 [(.val (.nilFunc))] := ⟨by kernel_rfl⟩
instance : OneT Try.prog 111 := ⟨by kernel_rfl⟩
instance : ZeroT Try.prog 112 [(.val (.int .u64 0)), (.val (.int .u64 0)), (.val (.int .u64 0)), (.val (.int .u64 0)), (.val (.int .u64 0)), (.val (.int .u64 0)), (.val (.int .u64 0)), (.val (.int .u64 0)), (.val (.int .u64 0)), (.val (.int .u64 0)), (.val (.int .u64 0))] := ⟨by kernel_rfl⟩
instance : AggT Try.prog 112 11 := ⟨by kernel_rfl⟩
instance : ArrT Try.prog 112 11 1 := ⟨by kernel_rfl⟩
instance : ZeroT Try.prog 113 [(.val (.nilFunc))] := ⟨by kernel_rfl⟩
instance : OneT Try.prog 113 := ⟨by kernel_rfl⟩
instance : ZeroT Try.prog 114 (List.replicate 40 (.val (.int .i64 0))) := ⟨by kernel_rfl⟩
instance : AggT Try.prog 114 40 := ⟨by kernel_rfl⟩
instance : ArrT Try.prog 114 40 1 := ⟨by kernel_rfl⟩
instance : ZeroT Try.prog 115 ([(.val (.bool false))] ++ List.replicate 40 (.val (.int .i64 0))) := ⟨by kernel_rfl⟩
instance : AggT Try.prog 115 41 := ⟨by kernel_rfl⟩
instance : FieldT Try.prog 115 0 0 0 := ⟨by kernel_rfl⟩
instance : FieldT Try.prog 115 1 1 39 := ⟨by kernel_rfl⟩
instance : StructT Try.prog 115 ([(.bool false)] ++ List.replicate 40 (.int .i64 0)) [(0, 1), (1, 40)] := ⟨by kernel_rfl⟩
instance : ZeroT Try.prog 116 ([(.val (.bool false))] ++ List.replicate 40 (.val (.int .i64 0))) := ⟨by kernel_rfl⟩
instance : AggT Try.prog 116 41 := ⟨by kernel_rfl⟩
instance : FieldT Try.prog 116 0 0 0 := ⟨by kernel_rfl⟩
instance : FieldT Try.prog 116 1 1 39 := ⟨by kernel_rfl⟩
instance : StructT Try.prog 116 ([(.bool false)] ++ List.replicate 40 (.int .i64 0)) [(0, 1), (1, 40)] := ⟨by kernel_rfl⟩
instance : ZeroT Try.prog 117 [(.val (.nilFunc))] := ⟨by kernel_rfl⟩
instance : OneT Try.prog 117 := ⟨by kernel_rfl⟩
instance : ZeroT Try.prog 118 [(.val (.nilFunc))] := ⟨by kernel_rfl⟩
instance : OneT Try.prog 118 := ⟨by kernel_rfl⟩
instance : ZeroT Try.prog 119 [(.val (.int .u64 0)), (.val (.int .u64 0))] := ⟨by kernel_rfl⟩
instance : AggT Try.prog 119 2 := ⟨by kernel_rfl⟩
instance : FieldT Try.prog 119 0 0 0 := ⟨by kernel_rfl⟩
instance : FieldT Try.prog 119 1 1 0 := ⟨by kernel_rfl⟩
instance : StructT Try.prog 119 [(.int .u64 0), (.int .u64 0)] [(0, 1), (1, 1)] := ⟨by kernel_rfl⟩
instance : ZeroT Try.prog 120 [(.val (.int .u64 0)), (.val (.int .u64 0))] := ⟨by kernel_rfl⟩
instance : AggT Try.prog 120 2 := ⟨by kernel_rfl⟩
instance : FieldT Try.prog 120 0 0 0 := ⟨by kernel_rfl⟩
instance : FieldT Try.prog 120 1 1 0 := ⟨by kernel_rfl⟩
instance : StructT Try.prog 120 [(.int .u64 0), (.int .u64 0)] [(0, 1), (1, 1)] := ⟨by kernel_rfl⟩
instance : ZeroT Try.prog 121 [(.val (.nilFunc))] := ⟨by kernel_rfl⟩
instance : OneT Try.prog 121 := ⟨by kernel_rfl⟩
instance : ZeroT Try.prog 122 [(.val (.nilFunc))] := ⟨by kernel_rfl⟩
instance : OneT Try.prog 122 := ⟨by kernel_rfl⟩
instance : ZeroT Try.prog 123 [(.val (.nilFunc))] := ⟨by kernel_rfl⟩
instance : OneT Try.prog 123 := ⟨by kernel_rfl⟩
instance : ZeroT Try.prog 124 [(.val (.nilFunc))] := ⟨by kernel_rfl⟩
instance : OneT Try.prog 124 := ⟨by kernel_rfl⟩
instance : ZeroT Try.prog 125 [(.val (.nilFunc))] := ⟨by kernel_rfl⟩
instance : OneT Try.prog 125 := ⟨by kernel_rfl⟩
instance : ZeroT Try.prog 126 [(.val (.nilFunc))] := ⟨by kernel_rfl⟩
instance : OneT Try.prog 126 := ⟨by kernel_rfl⟩
instance : ZeroT Try.prog 127 [(.val (.nilFunc))] := ⟨by kernel_rfl⟩
instance : OneT Try.prog 127 := ⟨by kernel_rfl⟩
instance : ZeroT Try.prog 128 [(.val (.pointer none)), (.val (.pointer none)), (.val (.pointer none)), (.val (.string ⟨#[]⟩))] := ⟨by kernel_rfl⟩
instance : AggT Try.prog 128 4 := ⟨by kernel_rfl⟩
instance : FieldT Try.prog 128 0 0 0 := ⟨by kernel_rfl⟩
instance : FieldT Try.prog 128 1 1 0 := ⟨by kernel_rfl⟩
instance : FieldT Try.prog 128 2 2 0 := ⟨by kernel_rfl⟩
instance : FieldT Try.prog 128 3 3 0 := ⟨by kernel_rfl⟩
instance : StructT Try.prog 128 [(.pointer none), (.pointer none), (.pointer none), (.string ⟨#[]⟩)] [(0, 1), (1, 1), (2, 1), (3, 1)] := ⟨by kernel_rfl⟩
instance : ZeroT Try.prog 129 [(.val (.pointer none)), (.val (.pointer none)), (.val (.pointer none)), (.val (.string ⟨#[]⟩))] := ⟨by kernel_rfl⟩
instance : AggT Try.prog 129 4 := ⟨by kernel_rfl⟩
instance : FieldT Try.prog 129 0 0 0 := ⟨by kernel_rfl⟩
instance : FieldT Try.prog 129 1 1 0 := ⟨by kernel_rfl⟩
instance : FieldT Try.prog 129 2 2 0 := ⟨by kernel_rfl⟩
instance : FieldT Try.prog 129 3 3 0 := ⟨by kernel_rfl⟩
instance : StructT Try.prog 129 [(.pointer none), (.pointer none), (.pointer none), (.string ⟨#[]⟩)] [(0, 1), (1, 1), (2, 1), (3, 1)] := ⟨by kernel_rfl⟩
instance : ZeroT Try.prog 130 [] := ⟨by kernel_rfl⟩
instance : AggT Try.prog 130 0 := ⟨by kernel_rfl⟩
instance : ArrT Try.prog 130 0 1 := ⟨by kernel_rfl⟩
instance : ZeroT Try.prog 131 [] := ⟨by kernel_rfl⟩
instance : AggT Try.prog 131 0 := ⟨by kernel_rfl⟩
instance : StructT Try.prog 131 [] [(0, 0)] := ⟨by kernel_rfl⟩
instance : ZeroT Try.prog 132 [] := ⟨by kernel_rfl⟩
instance : AggT Try.prog 132 0 := ⟨by kernel_rfl⟩
instance : StructT Try.prog 132 [] [(0, 0)] := ⟨by kernel_rfl⟩
instance : ZeroT Try.prog 133 [(.val (.nilFunc))] := ⟨by kernel_rfl⟩
instance : OneT Try.prog 133 := ⟨by kernel_rfl⟩
instance : ZeroT Try.prog 134 [(.val (.int .u32 0))] := ⟨by kernel_rfl⟩
instance : OneT Try.prog 134 := ⟨by kernel_rfl⟩
instance : IntT Try.prog 134 .u32 := ⟨by kernel_rfl⟩
instance : ZeroT Try.prog 135 [(.val (.int .u8 0))] := ⟨by kernel_rfl⟩
instance : OneT Try.prog 135 := ⟨by kernel_rfl⟩
instance : IntT Try.prog 135 .u8 := ⟨by kernel_rfl⟩
instance : ZeroT Try.prog 136 [(.val (.int .u8 0))] := ⟨by kernel_rfl⟩
instance : OneT Try.prog 136 := ⟨by kernel_rfl⟩
instance : IntT Try.prog 136 .u8 := ⟨by kernel_rfl⟩
instance : ZeroT Try.prog 137 [(.val (.nilFunc))] := ⟨by kernel_rfl⟩
instance : OneT Try.prog 137 := ⟨by kernel_rfl⟩
instance : ZeroT Try.prog 138 [(.val (.pointer none))] := ⟨by kernel_rfl⟩
instance : OneT Try.prog 138 := ⟨by kernel_rfl⟩
instance : ZeroT Try.prog 139 [(.val (.int .i32 0))] := ⟨by kernel_rfl⟩
instance : OneT Try.prog 139 := ⟨by kernel_rfl⟩
instance : IntT Try.prog 139 .i32 := ⟨by kernel_rfl⟩
instance : ZeroT Try.prog 140 [(.val (.int .i32 0))] := ⟨by kernel_rfl⟩
instance : OneT Try.prog 140 := ⟨by kernel_rfl⟩
instance : IntT Try.prog 140 .i32 := ⟨by kernel_rfl⟩
instance : ZeroT Try.prog 141 [(.val (.int .u64 0)), (.val (.int .u64 0)), (.val (.int .u32 0)), (.val (.int .u8 0)), (.val (.int .u8 0)), (.val (.int .u8 0)), (.val (.int .u8 0)), (.val (.nilFunc)), (.val (.pointer none)), (.val (.int .i32 0)), (.val (.int .i32 0))] := ⟨by kernel_rfl⟩
instance : AggT Try.prog 141 11 := ⟨by kernel_rfl⟩
instance : FieldT Try.prog 141 0 0 0 := ⟨by kernel_rfl⟩
instance : FieldT Try.prog 141 1 1 0 := ⟨by kernel_rfl⟩
instance : FieldT Try.prog 141 2 2 0 := ⟨by kernel_rfl⟩
instance : FieldT Try.prog 141 3 3 0 := ⟨by kernel_rfl⟩
instance : FieldT Try.prog 141 4 4 0 := ⟨by kernel_rfl⟩
instance : FieldT Try.prog 141 5 5 0 := ⟨by kernel_rfl⟩
instance : FieldT Try.prog 141 6 6 0 := ⟨by kernel_rfl⟩
instance : FieldT Try.prog 141 7 7 0 := ⟨by kernel_rfl⟩
instance : FieldT Try.prog 141 8 8 0 := ⟨by kernel_rfl⟩
instance : FieldT Try.prog 141 9 9 0 := ⟨by kernel_rfl⟩
instance : FieldT Try.prog 141 10 10 0 := ⟨by kernel_rfl⟩
instance : StructT Try.prog 141 [(.int .u64 0), (.int .u64 0), (.int .u32 0), (.int .u8 0), (.int .u8 0), (.int .u8 0), (.int .u8 0), (.nilFunc), (.pointer none), (.int .i32 0), (.int .i32 0)] [(0, 1), (1, 1), (2, 1), (3, 1), (4, 1), (5, 1), (6, 1), (7, 1), (8, 1), (9, 1), (10, 1)] := ⟨by kernel_rfl⟩
instance : ZeroT Try.prog 142 [(.val (.int .u64 0)), (.val (.int .u64 0)), (.val (.int .u32 0)), (.val (.int .u8 0)), (.val (.int .u8 0)), (.val (.int .u8 0)), (.val (.int .u8 0)), (.val (.nilFunc)), (.val (.pointer none)), (.val (.int .i32 0)), (.val (.int .i32 0))] := ⟨by kernel_rfl⟩
instance : AggT Try.prog 142 11 := ⟨by kernel_rfl⟩
instance : FieldT Try.prog 142 0 0 0 := ⟨by kernel_rfl⟩
instance : FieldT Try.prog 142 1 1 0 := ⟨by kernel_rfl⟩
instance : FieldT Try.prog 142 2 2 0 := ⟨by kernel_rfl⟩
instance : FieldT Try.prog 142 3 3 0 := ⟨by kernel_rfl⟩
instance : FieldT Try.prog 142 4 4 0 := ⟨by kernel_rfl⟩
instance : FieldT Try.prog 142 5 5 0 := ⟨by kernel_rfl⟩
instance : FieldT Try.prog 142 6 6 0 := ⟨by kernel_rfl⟩
instance : FieldT Try.prog 142 7 7 0 := ⟨by kernel_rfl⟩
instance : FieldT Try.prog 142 8 8 0 := ⟨by kernel_rfl⟩
instance : FieldT Try.prog 142 9 9 0 := ⟨by kernel_rfl⟩
instance : FieldT Try.prog 142 10 10 0 := ⟨by kernel_rfl⟩
instance : StructT Try.prog 142 [(.int .u64 0), (.int .u64 0), (.int .u32 0), (.int .u8 0), (.int .u8 0), (.int .u8 0), (.int .u8 0), (.nilFunc), (.pointer none), (.int .i32 0), (.int .i32 0)] [(0, 1), (1, 1), (2, 1), (3, 1), (4, 1), (5, 1), (6, 1), (7, 1), (8, 1), (9, 1), (10, 1)] := ⟨by kernel_rfl⟩
end Go.Proofs.Yteappfihapeakaa
end
section
namespace Go.Lg
open Go Go.RowKit
theorem strs_eq {p q : ByteArray} {r : Bool} (h : (p.data.toList == q.data.toList) = r) : (p.toList == q.toList) = r := by rw [ByteArray.toList_eq, ByteArray.toList_eq, h]
theorem strs_ne {p q : ByteArray} {r : Bool} (h : (!(p.data.toList == q.data.toList)) = r) : (!(p.toList == q.toList)) = r := by rw [ByteArray.toList_eq, ByteArray.toList_eq, h]
theorem str_at {l : List UInt8} {i : Nat} {b : UInt8} (h : l[i]? = some b) : (⟨l.toArray⟩ : ByteArray)[i]? = some b := by
  obtain ⟨hi, h⟩ := List.getElem?_eq_some_iff.1 h
  have hs : i < (⟨l.toArray⟩ : ByteArray).size := by simpa [ByteArray.size] using hi
  rw [getElem?_pos _ i hs]
  exact congrArg some h
theorem str_add (a b : List UInt8) : (⟨a.toArray⟩ : ByteArray) ++ ⟨b.toArray⟩ = ⟨(a ++ b).toArray⟩ := by
  apply ByteArray.ext
  rw [ByteArray.data_append]
  simp
theorem str_cut (l : List UInt8) (a b : Nat) : (⟨l.toArray⟩ : ByteArray).extract a b = ⟨((l.drop a).take (b - a)).toArray⟩ := by
  apply ByteArray.ext
  apply Array.ext'
  rw [Lib.extract_data]
theorem ev_bool {b c : Bool} (h : b = c) : some (LV.sv (.one (.val (.bool b)))) = some (LV.sv (.one (.val (.bool c)))) := by rw [h]
end Go.Lg
namespace Go.Proofs.Yteappfihapeakaa
open Go Go.Lg
abbrev Lb (b : Bool) : LV := .sv (.one (.val (.bool b)))
abbrev Ln (k : IntKind) (n : Int) : LV := .sv (.one (.val (.int k n)))
abbrev Ls (l : List UInt8) : LV := .sv (.one (.val (.string ⟨l.toArray⟩)))
abbrev Sb (b : Bool) : SV := .one (.val (.bool b))
abbrev Sn (k : IntKind) (n : Int) : SV := .one (.val (.int k n))
abbrev Ss (l : List UInt8) : SV := .one (.val (.string ⟨l.toArray⟩))
/-- a pointer; nil; a text's cell -/
abbrev Lp (k : Nat) : LV := .sv (.one (.ptr k 0))
abbrev L0 : LV := .sv (.one (.val (.pointer none)))
abbrev vs (l : List UInt8) : CV := .val (.string ⟨l.toArray⟩)
end Go.Proofs.Yteappfihapeakaa
end
section
namespace Go.Proofs.Yteappfihapeakaa
open Go Go.Lg
abbrev Li (b : Bool) (h l : Int) : LV := .sv (.agg [.val (.bool b), .val (.int .u64 h), .val (.int .u64 l)])
abbrev Lz (h l : Int) : LV := .sv (.agg [.val (.int .u64 h), .val (.int .u64 l)])
abbrev LI (b : Bool) (N : Int) : LV := Li b (N / 18446744073709551616) (N % 18446744073709551616)
abbrev LZ (N : Int) : LV := Lz (N / 18446744073709551616) (N % 18446744073709551616)
abbrev SZ (N : Int) : SV := .agg [.val (.int .u64 (N / 18446744073709551616)), .val (.int .u64 (N % 18446744073709551616))]
abbrev SI (b : Bool) (N : Int) : SV := .agg [.val (.bool b), .val (.int .u64 (N / 18446744073709551616)), .val (.int .u64 (N % 18446744073709551616))]
/-- below 2 to the 128, not below 0 -/
def In2 (N : Int) : Prop := 0 ≤ N ∧ N < 340282366920938463463374607431768211456
variable (X : Nat → Option Obj)
theorem sizeOf_spec (b : Bool) (h l : Int) : PSpec Try.prog X 70 [Li b h l] (Lz h l) := by
  refine PSpec.intro Try.func70 rfl (by kernel_rfl) rfl rfl ?_
  intro C
  (refine LWP.seq <| LWP.region (by kernel_rfl) <| K.box rfl rfl rfl .plain <| K.alloc rfl .plain ?_; refine RunK.nil <| LWP.seq <| LWP.region (by kernel_rfl) <| kfa rfl rfl ?_; refine kl1 rfl rfl rfl <| kfa rfl rfl ?_; refine kl1 rfl rfl rfl <| K.build rfl rfl (by exact rfl) (by exact nl2 rfl rfl rfl) .plain ?_; refine K.storeAll rfl rfl rfl rfl rfl rfl .plain ?_; refine RunK.nil <| LWP.ret ?_)
  exact ⟨[_], ⟨⟨_, _, rfl, rfl, rfl, .inl ⟨AggT.h, rfl⟩⟩, trivial⟩, rfl⟩
theorem zero_spec (N : Int) (hN : In2 N) (r : Bool) (hr : (N == 0) = r) : PSpec Try.prog X 72 [LZ N] (Lb r) := by
  subst hr
  obtain ⟨h0, h1⟩ := hN
  refine PSpec.intro Try.func72 rfl (by kernel_rfl) rfl rfl ?_
  intro C
  by_cases ha : N / 18446744073709551616 = 0
  · by_cases hb : N % 18446744073709551616 = 0
    · (refine LWP.seq <| LWP.region (by kernel_rfl) <| K.box rfl rfl rfl .plain <| kas rfl <| RunK.nil <| LWP.seq <| LWP.region (by kernel_rfl) <| kfa rfl rfl ?_; refine kl1 rfl rfl rfl <| keq rfl rfl (beq_iff_eq.2 (by omega)) <| kmv rfl <| K.fieldAddr rfl rfl (.taken rfl rfl) ?_; refine K.loadOne rfl rfl rfl (.taken rfl rfl) ?_; refine K.eql rfl rfl (beq_iff_eq.2 (by omega)) (.taken rfl rfl) ?_; refine kpt rfl rfl <| kas rfl <| RunK.nil <| LWP.ret ?_)
      exact ⟨[_], ⟨rfl, trivial⟩, by rw [show (N == 0) = true from beq_iff_eq.2 (by omega)]; rfl⟩
    · (refine LWP.seq <| LWP.region (by kernel_rfl) <| K.box rfl rfl rfl .plain <| kas rfl <| RunK.nil <| LWP.seq <| LWP.region (by kernel_rfl) <| kfa rfl rfl ?_; refine kl1 rfl rfl rfl <| keq rfl rfl (beq_iff_eq.2 (by omega)) <| kmv rfl <| K.fieldAddr rfl rfl (.taken rfl rfl) ?_; refine K.loadOne rfl rfl rfl (.taken rfl rfl) ?_; refine K.eql rfl rfl (beq_eq_false_iff_ne.2 (by omega)) (.taken rfl rfl) ?_; refine kpt rfl rfl <| kas rfl <| RunK.nil <| LWP.ret ?_)
      exact ⟨[_], ⟨rfl, trivial⟩, by rw [show (N == 0) = false from beq_eq_false_iff_ne.2 (by omega)]; rfl⟩
  · (refine LWP.seq <| LWP.region (by kernel_rfl) <| K.box rfl rfl rfl .plain <| kas rfl <| RunK.nil <| LWP.seq <| LWP.region (by kernel_rfl) <| kfa rfl rfl ?_; refine kl1 rfl rfl rfl <| keq rfl rfl (beq_eq_false_iff_ne.2 (by omega)) <| kmv rfl <| RunK.passed rfl rfl rfl <| RunK.passed rfl rfl rfl <| RunK.passed rfl rfl rfl <| kpf rfl rfl <| kas rfl <| RunK.nil <| LWP.ret ?_)
    exact ⟨[_], ⟨rfl, trivial⟩, by rw [show (N == 0) = false from beq_eq_false_iff_ne.2 (by omega)]; rfl⟩
theorem fits_spec (N : Int) (hN : In2 N) (r : Bool) (hr : decide (N < 170141183460469231731687303715884105728) = r) : PSpec Try.prog X 71 [LZ N] (Lb r) := by
  subst hr
  obtain ⟨h0, h1⟩ := hN
  refine PSpec.intro Try.func71 rfl (by kernel_rfl) rfl rfl ?_
  intro C
  (refine LWP.seq <| LWP.region (by kernel_rfl) <| K.box rfl rfl rfl .plain <| kas rfl <| RunK.nil <| LWP.seq <| LWP.region (by kernel_rfl) <| kfa rfl rfl ?_; refine kl1 rfl rfl rfl <| klt rfl rfl rfl <| kas rfl <| RunK.nil <| LWP.ret ?_)
  exact ⟨[_], ⟨rfl, trivial⟩, by rw [decide_eq_decide.2 (show (N / 18446744073709551616 < 9223372036854775808) ↔ N < 170141183460469231731687303715884105728 by omega)]; rfl⟩
/-- in form -/
def formB (b : Bool) (N : Int) : Bool := decide (N < 170141183460469231731687303715884105728) && !(b && N == 0)
theorem Form_spec (b : Bool) (N : Int) (hN : In2 N) (r : Bool) (hr : formB b N = r) : PSpec Try.prog X 65 [LI b N] (Lb r) := by
  subst hr
  refine PSpec.intro Try.func65 rfl (by kernel_rfl) rfl rfl ?_
  intro C
  cases b
  · (refine LWP.seq <| LWP.region (by kernel_rfl) <| K.box rfl rfl rfl .plain <| kas rfl <| RunK.nil <| LWP.seq <| LWP.seq <| LWP.region (by kernel_rfl) <| kfa rfl rfl ?_; refine kl1 rfl rfl rfl <| RunK.nil <| LWP.condF rfl ?_; refine LWP.skip ?_; refine LWP.seq <| LWP.region (by kernel_rfl) <| K.loadAll rfl rfl rfl .plain ?_; refine kca rfl rfl (sizeOf_spec _ _ _ _) <| kca rfl rfl (fits_spec _ _ hN _ rfl) <| kas rfl <| RunK.nil <| LWP.ret ?_)
    exact ⟨[_], ⟨rfl, trivial⟩, by simp [formB, resOf]⟩
  · by_cases hf : N < 170141183460469231731687303715884105728
    · (refine LWP.seq <| LWP.region (by kernel_rfl) <| K.box rfl rfl rfl .plain <| kas rfl <| RunK.nil <| LWP.seq <| LWP.seq <| LWP.region (by kernel_rfl) <| kfa rfl rfl ?_; refine kl1 rfl rfl rfl <| RunK.nil <| LWP.condT rfl ?_; refine LWP.seq <| LWP.region (by kernel_rfl) <| K.loadAll rfl rfl rfl .plain ?_; refine kca rfl rfl (sizeOf_spec _ _ _ _) <| kca rfl rfl (fits_spec _ _ hN true (decide_eq_true hf)) <| kmv rfl <| K.loadAll rfl rfl rfl (.taken rfl rfl) ?_; refine gca rfl rfl (sizeOf_spec _ _ _ _) rfl rfl <| gca rfl rfl (zero_spec _ _ hN _ rfl) rfl rfl <| K.not rfl rfl (.taken rfl rfl) ?_; refine kpt rfl rfl <| kas rfl <| RunK.nil <| LWP.ret ?_)
      exact ⟨[_], ⟨rfl, trivial⟩, by simp [formB, resOf, hf]⟩
    · (refine LWP.seq <| LWP.region (by kernel_rfl) <| K.box rfl rfl rfl .plain <| kas rfl <| RunK.nil <| LWP.seq <| LWP.seq <| LWP.region (by kernel_rfl) <| kfa rfl rfl ?_; refine kl1 rfl rfl rfl <| RunK.nil <| LWP.condT rfl ?_; refine LWP.seq <| LWP.region (by kernel_rfl) <| K.loadAll rfl rfl rfl .plain ?_; refine kca rfl rfl (sizeOf_spec _ _ _ _) <| kca rfl rfl (fits_spec _ _ hN false (decide_eq_false hf)) <| kmv rfl <| RunK.passed rfl rfl rfl <| RunK.passed rfl rfl rfl <| RunK.passed rfl rfl rfl <| RunK.passed rfl rfl rfl <| kpf rfl rfl <| kas rfl <| RunK.nil <| LWP.ret ?_)
      exact ⟨[_], ⟨rfl, trivial⟩, by simp [formB, resOf, hf]⟩
end Go.Proofs.Yteappfihapeakaa
end
section
namespace Go.Proofs.Yteappfihapeakaa
open Go Go.Lg
variable (X : Nat → Option Obj)
theorem bothForm_spec (b c : Bool) (M N : Int) (hM : In2 M) (hN : In2 N) (r : Bool) (hr : (formB b M && formB c N) = r) : PSpec Try.prog X 73 [LI b M, LI c N] (Lb r) := by
  subst hr
  refine PSpec.intro Try.func73 rfl (by kernel_rfl) rfl rfl ?_
  intro C
  cases h1 : formB b M
  · (refine LWP.seq <| LWP.region (by kernel_rfl) <| K.box rfl rfl rfl .plain <| K.box rfl rfl rfl .plain <| kas rfl <| RunK.nil <| LWP.seq <| LWP.region (by kernel_rfl) <| K.loadAll rfl rfl rfl .plain ?_; refine kca rfl rfl (Form_spec _ _ _ hM _ h1) <| kmv rfl <| RunK.passed rfl rfl rfl <| RunK.passed rfl rfl rfl <| kpf rfl rfl <| kas rfl <| RunK.nil <| LWP.ret ?_)
    exact ⟨[_], ⟨rfl, trivial⟩, by simp [resOf]⟩
  · (refine LWP.seq <| LWP.region (by kernel_rfl) <| K.box rfl rfl rfl .plain <| K.box rfl rfl rfl .plain <| kas rfl <| RunK.nil <| LWP.seq <| LWP.region (by kernel_rfl) <| K.loadAll rfl rfl rfl .plain ?_; refine kca rfl rfl (Form_spec _ _ _ hM _ h1) <| kmv rfl <| K.loadAll rfl rfl rfl (.taken rfl rfl) ?_; refine gca rfl rfl (Form_spec _ _ _ hN _ rfl) rfl rfl <| kpt rfl rfl <| kas rfl <| RunK.nil <| LWP.ret ?_)
    exact ⟨[_], ⟨rfl, trivial⟩, by simp [resOf]⟩
/-- a number's sign, where it is not 0 -/
def sg (b : Bool) (N : Int) : Bool := b && !(N == 0)
theorem number_spec (b : Bool) (N : Int) (hN : In2 N) (r : Bool) (hr : sg b N = r) : PSpec Try.prog X 75 [Lb b, LZ N] (LI r N) := by
  subst hr
  refine PSpec.intro Try.func75 rfl (by kernel_rfl) rfl rfl ?_
  intro C
  cases b
  · (refine LWP.seq <| LWP.region (by kernel_rfl) <| K.box rfl rfl rfl .plain <| K.alloc rfl .plain ?_; refine RunK.nil <| LWP.seq <| LWP.draws mixed (by kernel_rfl) <| kmv rfl <| kmv rfl <| RunK.passed rfl rfl rfl <| RunK.passed rfl rfl rfl <| RunK.passed rfl rfl rfl <| kpf rfl rfl <| kfa rfl rfl ?_; refine kl1 rfl rfl rfl <| kfa rfl rfl ?_; refine kl1 rfl rfl rfl <| K.build rfl rfl (by exact rfl) (by exact nl3 rfl rfl rfl rfl) .plain ?_; refine K.storeAll rfl rfl rfl rfl rfl rfl .plain ?_; refine RunK.nil <| And.intro (by kernel_rfl) ?_; refine LWP.ret ?_)
    exact ⟨[_], ⟨⟨_, _, rfl, rfl, rfl, .inl ⟨AggT.h, rfl⟩⟩, trivial⟩, rfl⟩
  · (refine LWP.seq <| LWP.region (by kernel_rfl) <| K.box rfl rfl rfl .plain <| K.alloc rfl .plain ?_; refine RunK.nil <| LWP.seq <| LWP.draws mixed (by kernel_rfl) <| kmv rfl <| kmv rfl <| K.loadAll rfl rfl rfl (.taken rfl rfl) ?_; refine gca rfl rfl (zero_spec _ _ hN _ rfl) rfl rfl <| K.not rfl rfl (.taken rfl rfl) ?_; refine kpt rfl rfl <| kfa rfl rfl ?_; refine kl1 rfl rfl rfl <| kfa rfl rfl ?_; refine kl1 rfl rfl rfl <| K.build rfl rfl (by exact rfl) (by exact nl3 rfl rfl rfl rfl) .plain ?_; refine K.storeAll rfl rfl rfl rfl rfl rfl .plain ?_; refine RunK.nil <| And.intro (by kernel_rfl) ?_; refine LWP.ret ?_)
    exact ⟨[_], ⟨⟨_, _, rfl, rfl, rfl, .inl ⟨AggT.h, rfl⟩⟩, trivial⟩, rfl⟩
end Go.Proofs.Yteappfihapeakaa
end
section
namespace Go.Proofs.Yteappfihapeakaa
open Go Go.Lg
variable (X : Nat → Option Obj)
theorem isNaN_spec (a : Int) : PSpec Try.prog X 77 [Ln .u64 a] (Lb false) := by
  refine PSpec.intro Try.func77 rfl (by kernel_rfl) rfl rfl ?_
  intro C
  (refine LWP.seq <| LWP.region (by kernel_rfl) <| kas rfl <| RunK.nil <| LWP.seq <| LWP.region (by kernel_rfl) <| kmv rfl <| kmv rfl <| kne rfl rfl ((bne_eq_false_iff_eq.2 (by omega))) <| kas rfl <| RunK.nil <| LWP.ret ?_)
  exact ⟨[_], ⟨rfl, trivial⟩, rfl⟩
def cmpI (a b : Int) : Int := if a < b then -1 else if b < a then 1 else 0
theorem Compare_spec (a b : Int) (r : Int) (hr : cmpI a b = r) : PSpec Try.prog X 76 [Ln .u64 a, Ln .u64 b] (Ln .i64 r) := by
  subst hr
  refine PSpec.intro Try.func76 rfl (by kernel_rfl) rfl rfl ?_
  intro C
  by_cases h : a < b
  · (refine LWP.seq <| LWP.region (by kernel_rfl) <| kas rfl <| RunK.nil <| LWP.seq <| LWP.region (by kernel_rfl) <| kmv rfl <| kca rfl rfl (isNaN_spec _ _) <| kas rfl <| RunK.nil <| LWP.seq <| LWP.region (by kernel_rfl) <| kmv rfl <| kca rfl rfl (isNaN_spec _ _) ?_; refine kas rfl <| RunK.nil <| LWP.seq <| LWP.seq <| LWP.region (by kernel_rfl) <| kmv rfl <| RunK.nil <| LWP.condF rfl ?_; refine LWP.skip ?_; refine LWP.seq <| LWP.seq <| LWP.region (by kernel_rfl) <| kmv rfl <| RunK.nil <| LWP.condF rfl ?_; refine LWP.skip ?_; refine LWP.seq <| LWP.seq <| LWP.region (by kernel_rfl) <| kmv rfl <| kmv rfl <| klt rfl rfl (decide_eq_true (by omega)) <| RunK.nil <| LWP.condT rfl ?_; refine LWP.seq <| LWP.region (by kernel_rfl) <| kas rfl <| RunK.nil <| LWP.ret ?_)
    exact ⟨[_], ⟨rfl, trivial⟩, by simp [cmpI, h, resOf]⟩
  · by_cases h' : b < a
    · (refine LWP.seq <| LWP.region (by kernel_rfl) <| kas rfl <| RunK.nil <| LWP.seq <| LWP.region (by kernel_rfl) <| kmv rfl <| kca rfl rfl (isNaN_spec _ _) <| kas rfl <| RunK.nil <| LWP.seq <| LWP.region (by kernel_rfl) <| kmv rfl <| kca rfl rfl (isNaN_spec _ _) ?_; refine kas rfl <| RunK.nil <| LWP.seq <| LWP.seq <| LWP.region (by kernel_rfl) <| kmv rfl <| RunK.nil <| LWP.condF rfl ?_; refine LWP.skip ?_; refine LWP.seq <| LWP.seq <| LWP.region (by kernel_rfl) <| kmv rfl <| RunK.nil <| LWP.condF rfl ?_; refine LWP.skip ?_; refine LWP.seq <| LWP.seq <| LWP.region (by kernel_rfl) <| kmv rfl <| kmv rfl <| klt rfl rfl (decide_eq_false (by omega)) <| RunK.nil <| LWP.condF rfl ?_; refine LWP.skip ?_; refine LWP.seq <| LWP.seq <| LWP.region (by kernel_rfl) <| kmv rfl <| kmv rfl <| K.gtr rfl rfl (decide_eq_true (by omega)) .plain <| RunK.nil <| LWP.condT rfl ?_; refine LWP.seq <| LWP.region (by kernel_rfl) <| kas rfl <| RunK.nil <| LWP.ret ?_)
      exact ⟨[_], ⟨rfl, trivial⟩, by simp [cmpI, h, h', resOf]⟩
    · (refine LWP.seq <| LWP.region (by kernel_rfl) <| kas rfl <| RunK.nil <| LWP.seq <| LWP.region (by kernel_rfl) <| kmv rfl <| kca rfl rfl (isNaN_spec _ _) <| kas rfl <| RunK.nil <| LWP.seq <| LWP.region (by kernel_rfl) <| kmv rfl <| kca rfl rfl (isNaN_spec _ _) ?_; refine kas rfl <| RunK.nil <| LWP.seq <| LWP.seq <| LWP.region (by kernel_rfl) <| kmv rfl <| RunK.nil <| LWP.condF rfl ?_; refine LWP.skip ?_; refine LWP.seq <| LWP.seq <| LWP.region (by kernel_rfl) <| kmv rfl <| RunK.nil <| LWP.condF rfl ?_; refine LWP.skip ?_; refine LWP.seq <| LWP.seq <| LWP.region (by kernel_rfl) <| kmv rfl <| kmv rfl <| klt rfl rfl (decide_eq_false (by omega)) <| RunK.nil <| LWP.condF rfl ?_; refine LWP.skip ?_; refine LWP.seq <| LWP.seq <| LWP.region (by kernel_rfl) <| kmv rfl <| kmv rfl <| K.gtr rfl rfl (decide_eq_false (by omega)) .plain <| RunK.nil <| LWP.condF rfl ?_; refine LWP.skip ?_; refine LWP.seq <| LWP.region (by kernel_rfl) <| kas rfl <| RunK.nil <| LWP.ret ?_)
      exact ⟨[_], ⟨rfl, trivial⟩, by simp [cmpI, h, h', resOf]⟩
theorem compare_spec (M N : Int) (r : Int) (hr : cmpI M N = r) : PSpec Try.prog X 74 [LZ M, LZ N] (Ln .i64 r) := by
  refine PSpec.intro Try.func74 rfl (by kernel_rfl) rfl rfl ?_
  intro C
  by_cases h : M / 18446744073709551616 = N / 18446744073709551616
  · (refine LWP.seq <| LWP.region (by kernel_rfl) <| K.box rfl rfl rfl .plain <| K.box rfl rfl rfl .plain <| kas rfl <| RunK.nil <| LWP.seq <| LWP.seq <| LWP.region (by kernel_rfl) <| kfa rfl rfl ?_; refine kl1 rfl rfl rfl <| kfa rfl rfl ?_; refine kl1 rfl rfl rfl <| kne rfl rfl ((bne_eq_false_iff_eq.2 (by omega))) <| RunK.nil <| LWP.condF rfl ?_; refine LWP.skip ?_; refine LWP.seq <| LWP.region (by kernel_rfl) <| kfa rfl rfl ?_; refine kl1 rfl rfl rfl <| kfa rfl rfl ?_; refine kl1 rfl rfl rfl <| kca rfl rfl (Compare_spec _ _ _ r (by subst hr; unfold cmpI; (repeat' split) <;> omega)) <| kas rfl <| RunK.nil <| LWP.ret ?_)
    exact ⟨[_], ⟨rfl, trivial⟩, rfl⟩
  · (refine LWP.seq <| LWP.region (by kernel_rfl) <| K.box rfl rfl rfl .plain <| K.box rfl rfl rfl .plain <| kas rfl <| RunK.nil <| LWP.seq <| LWP.seq <| LWP.region (by kernel_rfl) <| kfa rfl rfl ?_; refine kl1 rfl rfl rfl <| kfa rfl rfl ?_; refine kl1 rfl rfl rfl <| kne rfl rfl (bne_iff_ne.2 (by omega)) <| RunK.nil <| LWP.condT rfl ?_; refine LWP.seq <| LWP.region (by kernel_rfl) <| kfa rfl rfl ?_; refine kl1 rfl rfl rfl <| kfa rfl rfl ?_; refine kl1 rfl rfl rfl <| kca rfl rfl (Compare_spec _ _ _ r (by subst hr; unfold cmpI; (repeat' split) <;> omega)) <| kas rfl <| RunK.nil <| LWP.ret ?_)
    exact ⟨[_], ⟨rfl, trivial⟩, rfl⟩
abbrev S0 : SV := .agg [.val (.bool false), .val (.int .u64 0), .val (.int .u64 0)]
def Lim (N : Int) : Prop := 0 ≤ N ∧ N < 170141183460469231731687303715884105728
theorem Lim.in2 {N : Int} (h : Lim N) : In2 N := ⟨h.1, by have := h.2; omega⟩
theorem formB_lim {b : Bool} {N : Int} (hN : In2 N) (h : formB b N = true) : Lim N ∧ (b = true → N ≠ 0) := by
  simp only [formB, Bool.and_eq_true, decide_eq_true_eq, Bool.not_eq_true', Bool.and_eq_false_iff, beq_eq_false_iff_ne] at h
  refine ⟨⟨hN.1, h.1⟩, fun hb => ?_⟩
  rcases h.2 with h2 | h2
  · rw [hb] at h2; simp at h2
  · exact h2
end Go.Proofs.Yteappfihapeakaa
end
section
namespace Go.Proofs.Yteappfihapeakaa
open Go Go.Lg
variable (X : Nat → Option Obj)
/-- a size -/
def mg (z : Int) : Int := if z < 0 then -z else z
def R127 (z : Int) : Prop := -170141183460469231731687303715884105728 < z ∧ z < 170141183460469231731687303715884105728
abbrev LQ (z : Int) : LV := LI (decide (z < 0)) (mg z)
abbrev SQ (z : Int) : SV := SI (decide (z < 0)) (mg z)
theorem mg_neg {z : Int} (h : z < 0) : mg z = -z := if_pos h
theorem mg_pos {z : Int} (h : 0 ≤ z) : mg z = z := if_neg (by omega)
theorem mg_in2 {z : Int} (h : R127 z) : In2 (mg z) := by unfold mg In2 R127 at *; split <;> omega
theorem mg_lim {z : Int} (h : R127 z) : mg z < 170141183460469231731687303715884105728 := by unfold mg R127 at *; split <;> omega
theorem formB_q {z : Int} (h : R127 z) : formB (decide (z < 0)) (mg z) = true := by
  have := mg_lim h
  simp only [formB, decide_eq_true this, Bool.true_and, Bool.not_eq_true', Bool.and_eq_false_iff, decide_eq_false_iff_not, beq_eq_false_iff_ne]
  unfold mg
  split <;> omega
theorem both_q {x y : Int} (hx : R127 x) (hy : R127 y) : (formB (decide (x < 0)) (mg x) && formB (decide (y < 0)) (mg y)) = true := by rw [formB_q hx, formB_q hy]; rfl
/-- a sign and a size are a number -/
def zv (b : Bool) (N : Int) : Int := if b = true then -N else N
theorem zv_in {b : Bool} {N : Int} (hN : In2 N) (h : formB b N = true) : R127 (zv b N) ∧ decide (zv b N < 0) = b ∧ mg (zv b N) = N := by
  obtain ⟨⟨h0, h1⟩, h2⟩ := formB_lim hN h
  cases b
  · refine ⟨?_, ?_, ?_⟩ <;> simp only [zv, Bool.false_eq_true, if_false, R127, mg, decide_eq_false_iff_not]
    · omega
    · omega
    · exact if_neg (by omega)
  · have := h2 rfl
    refine ⟨?_, ?_, ?_⟩ <;> simp only [zv, if_true, R127, mg, decide_eq_true_eq]
    · omega
    · omega
    · rw [if_pos (by omega)]; omega
theorem LI_q {b : Bool} {N : Int} (hN : In2 N) (h : formB b N = true) : LI b N = LQ (zv b N) := by
  obtain ⟨_, h1, h2⟩ := zv_in hN h
  unfold LQ
  rw [h1, h2]
theorem sg_q {b : Bool} {N z : Int} (hN : 0 ≤ N) (h : zv b N = z) : sg b N = decide (z < 0) ∧ N = mg z := by
  subst h
  cases b
  · simp only [zv, sg, Bool.false_and, Bool.false_eq_true, if_false, mg]
    exact ⟨(decide_eq_false (by omega)).symm, (if_neg (by omega)).symm⟩
  · simp only [zv, sg, Bool.true_and, if_true, mg]
    refine ⟨?_, by split <;> omega⟩
    by_cases h0 : N = 0
    · subst h0; rfl
    · rw [show (N == 0) = false from beq_eq_false_iff_ne.2 h0, decide_eq_true (by omega)]; rfl
/-- what Add answers -/
def addR (z : Int) : LV := if -170141183460469231731687303715884105728 < z ∧ z < 170141183460469231731687303715884105728 then .tup [SQ z, Sn .i64 0] else .tup [S0, Sn .i64 3]
theorem addR_in {z : Int} (h : R127 z) : addR z = .tup [SQ z, Sn .i64 0] := if_pos h
theorem addR_out {z : Int} (h : ¬ R127 z) : addR z = .tup [S0, Sn .i64 3] := if_neg h
theorem tup_q {b : Bool} {N z : Int} (hN : 0 ≤ N) (h : zv b N = z) : (LV.tup [SI (sg b N) N, Sn .i64 0]) = .tup [SQ z, Sn .i64 0] := by
  obtain ⟨h1, h2⟩ := sg_q hN h
  unfold SQ
  rw [h1, ← h2]
theorem Neg_q (x : Int) (hx : R127 x) : PSpec Try.prog X 69 [LQ x] (LQ (-x)) := by
  have h1 := mg_in2 hx
  have hn := number_spec X (!decide (x < 0)) (mg x) h1 (decide (-x < 0)) (by
    have := sg_q (b := !decide (x < 0)) (N := mg x) (z := -x) h1.1 (by unfold zv mg; by_cases c : x < 0 <;> simp [c])
    exact this.1)
  have e : mg (-x) = mg x := by unfold mg; (repeat' split) <;> omega
  refine PSpec.intro Try.func69 rfl (by kernel_rfl) rfl rfl ?_
  intro C
  (refine LWP.seq <| LWP.region (by kernel_rfl) <| K.box rfl rfl rfl .plain <| K.alloc rfl .plain ?_; refine RunK.nil <| LWP.seq <| LWP.seq <| LWP.region (by kernel_rfl) <| K.loadAll rfl rfl rfl .plain ?_; refine kca rfl rfl (Form_spec _ _ _ h1 true (formB_q hx)) <| K.not rfl rfl .plain <| RunK.nil <| LWP.condF rfl ?_; refine LWP.skip ?_; refine LWP.seq <| LWP.draws mixed (by kernel_rfl) <| kfa rfl rfl ?_; refine kl1 rfl rfl rfl <| K.not rfl rfl .plain <| K.loadAll rfl rfl rfl .plain ?_; refine kca rfl rfl (sizeOf_spec _ _ _ _) <| kca rfl rfl (hn) <| K.storeAll rfl rfl rfl rfl rfl rfl .plain ?_; refine RunK.nil <| And.intro (by kernel_rfl) ?_; refine LWP.ret ?_)
  unfold LQ
  rw [e]
  exact ⟨[_], ⟨⟨_, _, rfl, rfl, rfl, .inl ⟨AggT.h, rfl⟩⟩, trivial⟩, rfl⟩
theorem Neg_bad (b : Bool) (N : Int) (hN : In2 N) (hf : formB b N = false) : PSpec Try.prog X 69 [LI b N] (.sv S0) := by
  refine PSpec.intro Try.func69 rfl (by kernel_rfl) rfl rfl ?_
  intro C
  (refine LWP.seq <| LWP.region (by kernel_rfl) <| K.box rfl rfl rfl .plain <| K.alloc rfl .plain ?_; refine RunK.nil <| LWP.seq <| LWP.seq <| LWP.region (by kernel_rfl) <| K.loadAll rfl rfl rfl .plain ?_; refine kca rfl rfl (Form_spec _ _ _ hN false hf) <| K.not rfl rfl .plain <| RunK.nil <| LWP.condT rfl ?_; refine LWP.seq <| LWP.region (by kernel_rfl) <| K.build rfl rfl (by exact rfl) (by exact nl3 rfl rfl rfl rfl) .plain ?_; refine K.storeAll rfl rfl rfl rfl rfl rfl .plain ?_; refine RunK.nil <| LWP.ret ?_)
  exact ⟨[_], ⟨⟨_, _, rfl, rfl, rfl, .inl ⟨AggT.h, rfl⟩⟩, trivial⟩, rfl⟩
def sgnI (z : Int) : Int := if z < 0 then -1 else if 0 < z then 1 else 0
theorem Cmp_bad (b c : Bool) (M N : Int) (hM : In2 M) (hN : In2 N) (hf : (formB b M && formB c N) = false) : PSpec Try.prog X 66 [LI b M, LI c N] (Ln .i64 0) := by
  refine PSpec.intro Try.func66 rfl (by kernel_rfl) rfl rfl ?_
  intro C
  (refine LWP.seq <| LWP.region (by kernel_rfl) <| K.box rfl rfl rfl .plain <| K.box rfl rfl rfl .plain <| kas rfl <| RunK.nil <| LWP.seq <| LWP.block <| LWP.seq <| LWP.region (by kernel_rfl) <| K.loadAll rfl rfl rfl .plain ?_; refine K.loadAll rfl rfl rfl .plain ?_; refine kca rfl rfl (bothForm_spec _ _ _ _ _ hM hN _ hf) <| K.not rfl rfl .plain <| kas rfl <| RunK.nil <| LWP.condT rfl ?_; refine LWP.seq <| LWP.region (by kernel_rfl) <| kas rfl <| RunK.nil <| LWP.ret ?_)
  exact ⟨[_], ⟨rfl, trivial⟩, rfl⟩
theorem Cmp_q (x y : Int) (hx : R127 x) (hy : R127 y) (r : Int) (hr : cmpI x y = r) : PSpec Try.prog X 66 [LQ x, LQ y] (Ln .i64 r) := by
  have hB := bothForm_spec X _ _ _ _ (mg_in2 hx) (mg_in2 hy) true (both_q hx hy)
  refine PSpec.intro Try.func66 rfl (by kernel_rfl) rfl rfl ?_
  intro C
  by_cases cx : x < 0 <;> by_cases cy : y < 0
  all_goals
    unfold LQ at hB ⊢
    simp only [cx, cy, decide_true, decide_false] at hB ⊢
  · have e : cmpI (mg y) (mg x) = r := by rw [mg_neg cx, mg_neg cy, ← hr]; unfold cmpI; (repeat' split) <;> omega
    (refine LWP.seq <| LWP.region (by kernel_rfl) <| K.box rfl rfl rfl .plain <| K.box rfl rfl rfl .plain <| kas rfl <| RunK.nil <| LWP.seq <| LWP.block <| LWP.seq <| LWP.region (by kernel_rfl) <| K.loadAll rfl rfl rfl .plain ?_; refine K.loadAll rfl rfl rfl .plain ?_; refine kca rfl rfl (hB) <| K.not rfl rfl .plain <| kas rfl <| RunK.nil <| LWP.condF rfl ?_; refine LWP.seq <| LWP.region (by kernel_rfl) <| kfa rfl rfl ?_; refine kl1 rfl rfl rfl <| kmv rfl <| K.fieldAddr rfl rfl (.taken rfl rfl) ?_; refine K.loadOne rfl rfl rfl (.taken rfl rfl) ?_; refine kpt rfl rfl <| kas rfl <| RunK.nil <| LWP.condT rfl ?_; refine LWP.seq <| LWP.draws mixed (by kernel_rfl) <| K.loadAll rfl rfl rfl .plain ?_; refine kca rfl rfl (sizeOf_spec _ _ _ _) <| K.loadAll rfl rfl rfl .plain ?_; refine kca rfl rfl (sizeOf_spec _ _ _ _) <| kca rfl rfl (compare_spec _ _ _ r e) <| kas rfl <| RunK.nil <| And.intro (by kernel_rfl) ?_; refine LWP.ret ?_)
    exact ⟨[_], ⟨rfl, trivial⟩, rfl⟩
  · have e : r = -1 := by rw [← hr]; unfold cmpI; rw [if_pos (by omega)]
    subst e
    (refine LWP.seq <| LWP.region (by kernel_rfl) <| K.box rfl rfl rfl .plain <| K.box rfl rfl rfl .plain <| kas rfl <| RunK.nil <| LWP.seq <| LWP.block <| LWP.seq <| LWP.region (by kernel_rfl) <| K.loadAll rfl rfl rfl .plain ?_; refine K.loadAll rfl rfl rfl .plain ?_; refine kca rfl rfl (hB) <| K.not rfl rfl .plain <| kas rfl <| RunK.nil <| LWP.condF rfl ?_; refine LWP.seq <| LWP.region (by kernel_rfl) <| kfa rfl rfl ?_; refine kl1 rfl rfl rfl <| kmv rfl <| K.fieldAddr rfl rfl (.taken rfl rfl) ?_; refine K.loadOne rfl rfl rfl (.taken rfl rfl) ?_; refine kpt rfl rfl <| kas rfl <| RunK.nil <| LWP.condF rfl ?_; refine LWP.seq <| LWP.region (by kernel_rfl) <| kfa rfl rfl ?_; refine kl1 rfl rfl rfl <| kas rfl <| RunK.nil <| LWP.condT rfl ?_; refine LWP.seq <| LWP.region (by kernel_rfl) <| kas rfl <| RunK.nil <| LWP.ret ?_)
    exact ⟨[_], ⟨rfl, trivial⟩, rfl⟩
  · have e : r = 1 := by rw [← hr]; unfold cmpI; rw [if_neg (by omega), if_pos (by omega)]
    subst e
    (refine LWP.seq <| LWP.region (by kernel_rfl) <| K.box rfl rfl rfl .plain <| K.box rfl rfl rfl .plain <| kas rfl <| RunK.nil <| LWP.seq <| LWP.block <| LWP.seq <| LWP.region (by kernel_rfl) <| K.loadAll rfl rfl rfl .plain ?_; refine K.loadAll rfl rfl rfl .plain ?_; refine kca rfl rfl (hB) <| K.not rfl rfl .plain <| kas rfl <| RunK.nil <| LWP.condF rfl ?_; refine LWP.seq <| LWP.region (by kernel_rfl) <| kfa rfl rfl ?_; refine kl1 rfl rfl rfl <| kmv rfl <| RunK.passed rfl rfl rfl <| RunK.passed rfl rfl rfl <| kpf rfl rfl <| kas rfl <| RunK.nil <| LWP.condF rfl ?_; refine LWP.seq <| LWP.region (by kernel_rfl) <| kfa rfl rfl ?_; refine kl1 rfl rfl rfl <| kas rfl <| RunK.nil <| LWP.condF rfl ?_; refine LWP.seq <| LWP.region (by kernel_rfl) <| kfa rfl rfl ?_; refine kl1 rfl rfl rfl <| kas rfl <| RunK.nil <| LWP.condT rfl ?_; refine LWP.seq <| LWP.region (by kernel_rfl) <| kas rfl <| RunK.nil <| LWP.ret ?_)
    exact ⟨[_], ⟨rfl, trivial⟩, rfl⟩
  · have e : cmpI (mg x) (mg y) = r := by rw [mg_pos (Int.not_lt.1 cx), mg_pos (Int.not_lt.1 cy), ← hr]
    (refine LWP.seq <| LWP.region (by kernel_rfl) <| K.box rfl rfl rfl .plain <| K.box rfl rfl rfl .plain <| kas rfl <| RunK.nil <| LWP.seq <| LWP.block <| LWP.seq <| LWP.region (by kernel_rfl) <| K.loadAll rfl rfl rfl .plain ?_; refine K.loadAll rfl rfl rfl .plain ?_; refine kca rfl rfl (hB) <| K.not rfl rfl .plain <| kas rfl <| RunK.nil <| LWP.condF rfl ?_; refine LWP.seq <| LWP.region (by kernel_rfl) <| kfa rfl rfl ?_; refine kl1 rfl rfl rfl <| kmv rfl <| RunK.passed rfl rfl rfl <| RunK.passed rfl rfl rfl <| kpf rfl rfl <| kas rfl <| RunK.nil <| LWP.condF rfl ?_; refine LWP.seq <| LWP.region (by kernel_rfl) <| kfa rfl rfl ?_; refine kl1 rfl rfl rfl <| kas rfl <| RunK.nil <| LWP.condF rfl ?_; refine LWP.seq <| LWP.region (by kernel_rfl) <| kfa rfl rfl ?_; refine kl1 rfl rfl rfl <| kas rfl <| RunK.nil <| LWP.condF rfl ?_; refine LWP.skip ?_; refine LWP.seq <| LWP.draws mixed (by kernel_rfl) <| K.loadAll rfl rfl rfl .plain ?_; refine kca rfl rfl (sizeOf_spec _ _ _ _) <| K.loadAll rfl rfl rfl .plain ?_; refine kca rfl rfl (sizeOf_spec _ _ _ _) <| kca rfl rfl (compare_spec _ _ _ r e) <| kas rfl <| RunK.nil <| And.intro (by kernel_rfl) ?_; refine LWP.ret ?_)
    exact ⟨[_], ⟨rfl, trivial⟩, rfl⟩
end Go.Proofs.Yteappfihapeakaa
end
section
namespace Go.Proofs.Yteappfihapeakaa
open Go Go.Lg Go.Lg.Arith Go.RowKit
variable (X : Nat → Option Obj)
theorem mg_nonneg (z : Int) : 0 ≤ mg z := by unfold mg; split <;> omega
theorem OfWord_spec (n : Int) : PSpec Try.prog X 45 [Ln .u64 n] (.sv (.agg [.val (.bool false), .val (.int .u64 0), .val (.int .u64 n)])) := by
  refine PSpec.intro Try.func45 rfl (by kernel_rfl) rfl rfl ?_
  intro C
  (refine LWP.seq <| LWP.region (by kernel_rfl) <| K.alloc rfl .plain ?_; refine RunK.nil <| LWP.seq <| LWP.region (by kernel_rfl) <| kmv rfl <| K.build rfl rfl (by exact rfl) (by exact nl3 rfl rfl rfl rfl) .plain ?_; refine K.storeAll rfl rfl rfl rfl rfl rfl .plain ?_; refine RunK.nil <| LWP.ret ?_)
  exact ⟨[_], ⟨⟨_, _, rfl, rfl, rfl, .inl ⟨AggT.h, rfl⟩⟩, trivial⟩, rfl⟩
theorem Of_spec (n : Int) (hn : -9223372036854775808 ≤ n ∧ n < 9223372036854775808) : PSpec Try.prog X 28 [Ln .i64 n] (LQ n) := by
  refine PSpec.intro Try.func28 rfl (by kernel_rfl) rfl rfl ?_
  intro C
  by_cases c : n < 0
  · have w1 : IntKind.u64.wrap n = n + 18446744073709551616 := by rw [IntKind.wrap_u64]; omega
    have w2 : IntKind.u64.wrap (0 - (n + 18446744073709551616)) = -n := by rw [IntKind.wrap_u64]; omega
    (refine LWP.seq <| LWP.region (by kernel_rfl) <| K.alloc rfl .plain ?_; refine RunK.nil <| LWP.seq <| LWP.seq <| LWP.region (by kernel_rfl) <| kmv rfl <| klt rfl rfl (decide_eq_true (by omega)) <| RunK.nil <| LWP.condT rfl ?_; refine LWP.seq <| LWP.region (by kernel_rfl) <| kmv rfl <| kcv rfl w1 ?_; refine K.neg rfl w2 .plain <| K.build rfl rfl (by exact rfl) (by exact nl3 rfl rfl rfl rfl) .plain ?_; refine K.storeAll rfl rfl rfl rfl rfl rfl .plain ?_; refine RunK.nil <| LWP.ret ?_)
    refine ⟨[_], ⟨⟨_, _, rfl, rfl, rfl, .inl ⟨AggT.h, rfl⟩⟩, trivial⟩, ?_⟩
    unfold LQ LI
    rw [mg_neg c, decide_eq_true c, show -n / 18446744073709551616 = 0 by omega, show -n % 18446744073709551616 = -n by omega]
    rfl
  · (refine LWP.seq <| LWP.region (by kernel_rfl) <| K.alloc rfl .plain ?_; refine RunK.nil <| LWP.seq <| LWP.seq <| LWP.region (by kernel_rfl) <| kmv rfl <| klt rfl rfl (decide_eq_false (by omega)) <| RunK.nil <| LWP.condF rfl ?_; refine LWP.skip ?_; refine LWP.seq <| LWP.region (by kernel_rfl) <| kmv rfl <| kcv rfl (by exact wrap_u64 (by omega)) ?_; refine kca rfl rfl (OfWord_spec _ _) <| K.storeAll rfl rfl rfl rfl rfl rfl .plain ?_; refine RunK.nil <| LWP.ret ?_)
    refine ⟨[_], ⟨⟨_, _, rfl, rfl, rfl, .inl ⟨AggT.h, rfl⟩⟩, trivial⟩, ?_⟩
    unfold LQ LI
    rw [mg_pos (by omega), decide_eq_false c, show n / 18446744073709551616 = 0 by omega, show n % 18446744073709551616 = n by omega]
    rfl
theorem eqI {b b' : Bool} {h l h' l' : Int} (r : Bool) (hr : (b == b' && (h == h' && l == l')) = r) (w : World) :
    (Op.equalIn 10000 63 (.agg [.bool b, .int .u64 h, .int .u64 l].toArray) (.agg [.bool b', .int .u64 h', .int .u64 l'].toArray)).run Try.prog w = .ok r w := by
  subst hr
  rw [show (10000 : Nat) = 9999 + 1 from rfl, run_equalIn_agg w 9999 63 _ _ (by kernel_rfl) (by kernel_rfl)]
  simp only [Program.fieldsOf, Try.underlying63]
  go_simp
  cases b <;> cases b' <;> by_cases h1 : h = h' <;> by_cases h2 : l = l' <;> simp [h1, h2]
theorem eqQ (x y : Int) (r : Bool) (hr : decide (x = y) = r) (w : World) :
    (Op.equalIn 10000 63 (.agg [.bool (decide (x < 0)), .int .u64 (mg x / 18446744073709551616), .int .u64 (mg x % 18446744073709551616)].toArray)
      (.agg [.bool (decide (y < 0)), .int .u64 (mg y / 18446744073709551616), .int .u64 (mg y % 18446744073709551616)].toArray)).run Try.prog w = .ok r w := by
  refine eqI r ?_ w
  rw [← hr]
  by_cases e : x = y
  · subst e; simp
  · rw [decide_eq_false e]
    have h : ¬ ((decide (x < 0) = decide (y < 0)) ∧ mg x / 18446744073709551616 = mg y / 18446744073709551616 ∧ mg x % 18446744073709551616 = mg y % 18446744073709551616) := by
      rintro ⟨h1, h2, h3⟩
      have : mg x = mg y := by omega
      unfold mg at this
      by_cases cx : x < 0 <;> by_cases cy : y < 0 <;> simp only [cx, cy, decide_true, decide_false, if_true, if_false] at h1 this <;> first | omega | cases h1
    cases hc : (decide (x < 0) == decide (y < 0) && (mg x / 18446744073709551616 == mg y / 18446744073709551616 && mg x % 18446744073709551616 == mg y % 18446744073709551616)) with
    | false => rfl
    | true =>
      simp only [Bool.and_eq_true, beq_iff_eq] at hc
      exact absurd hc h
end Go.Proofs.Yteappfihapeakaa
end
section
namespace Go.Proofs.Yteappfihapeakaa
open Go Go.Lg
variable (X : Nat → Option Obj)
def isW (n : Int) : Bool := decide (n = 1) || (decide (n = 2) || (decide (n = 4) || decide (n = 8)))
-- the Reader
end Go.Proofs.Yteappfihapeakaa
end
section
namespace Go.Lg
open Go
/-- the number of bytes, the lowest first -/
def le : List UInt8 → Nat
  | [] => 0
  | c :: t => c.toNat + 256 * le t
theorem le_lt : ∀ (l : List UInt8), le l < 256 ^ l.length
  | [] => by simp [le]
  | c :: t => by
    have := le_lt t
    have hc := c.toNat_lt
    simp only [le, List.length_cons, Nat.pow_succ]
    omega
theorem le_snoc : ∀ (l : List UInt8) (c : UInt8), le (l ++ [c]) = le l + c.toNat * 256 ^ l.length
  | [], c => by simp [le]
  | d :: t, c => by
    have e : 256 * (c.toNat * 256 ^ t.length) = c.toNat * (256 ^ t.length * 256) := by rw [Nat.mul_left_comm, Nat.mul_comm 256]
    simp only [List.cons_append, le, le_snoc t c, List.length_cons, Nat.pow_succ, Nat.mul_add]
    omega
theorem le_take {l : List UInt8} {i : Nat} {c : UInt8} (h : l[i]? = some c) : le (l.take (i + 1)) = le (l.take i) + c.toNat * 256 ^ i := by
  have hi := (List.getElem?_eq_some_iff.1 h).1
  rw [List.take_add_one, h]
  have := le_snoc (l.take i) c
  rw [List.length_take, Nat.min_eq_left (by omega)] at this
  exact this
/-- the bytes of a number, the lowest first -/
def leB : Nat → Nat → List UInt8
  | 0, _ => []
  | k + 1, n => UInt8.ofNat (n % 256) :: leB k (n / 256)
theorem leB_length : ∀ (k n : Nat), (leB k n).length = k
  | 0, _ => rfl
  | k + 1, n => by simp [leB, leB_length k]
theorem leB_get : ∀ (k n i : Nat), i < k → (leB k n)[i]? = some (UInt8.ofNat (n / 256 ^ i % 256))
  | 0, _, _, h => by omega
  | k + 1, n, 0, _ => by simp [leB]
  | k + 1, n, i + 1, h => by
    simp only [leB, List.getElem?_cons_succ]
    rw [leB_get k (n / 256) i (by omega), Nat.pow_succ, Nat.mul_comm, Nat.div_div_eq_div_mul]
theorem le_leB : ∀ (k n : Nat), n < 256 ^ k → le (leB k n) = n
  | 0, n, h => by simp at h; subst h; rfl
  | k + 1, n, h => by
    have e : (UInt8.ofNat (n % 256)).toNat = n % 256 := by rw [UInt8.toNat_ofNat']; exact Nat.mod_eq_of_lt (by omega)
    simp only [leB, le, e, le_leB k (n / 256) (by rw [Nat.pow_succ] at h; omega)]
    omega
theorem take_next {w n i : Nat} (h : i < w) : ((leB w n).take i).map bc ++ [bc (UInt8.ofNat (n / 256 ^ i % 256))] = ((leB w n).take (i + 1)).map bc := by
  rw [List.take_add_one, leB_get w n i h, List.map_append]
  rfl
/-- i bytes are put, the others are 0 -/
def lo (w n i : Nat) : List UInt8 := (leB w n).take i ++ List.replicate (w - i) 0
theorem lo_set {w n i : Nat} (h : i < w) : (((lo w n i).map bc).set (0 + i * 1) (bc (UInt8.ofNat (n / 256 ^ i % 256)))) = (lo w n (i + 1)).map bc := by
  rw [Nat.zero_add, Nat.mul_one, ← List.map_set]
  congr 1
  unfold lo
  have hl : ((leB w n).take i).length = i := by rw [List.length_take, leB_length]; omega
  rw [List.set_append_right _ _ (by omega), hl, Nat.sub_self, List.take_add_one, leB_get w n i h]
  have : w - i = (w - (i + 1)) + 1 := by omega
  rw [this, List.replicate_succ]
  simp
theorem lo_len (w n i : Nat) (h : i ≤ w) : ((lo w n i).map bc).length = w := by
  unfold lo
  rw [List.length_map, List.length_append, List.length_take, leB_length, List.length_replicate]
  omega
theorem lo_all (w n : Nat) : lo w n w = leB w n := by
  unfold lo
  rw [Nat.sub_self, List.take_of_length_le (by rw [leB_length]; exact Nat.le_refl _)]
  simp
theorem or_low {x y c : Int} {s : Nat} (hs : s ≤ 64) (hx : 0 ≤ x ∧ x * 2 ^ s < 18446744073709551616) (hy : 0 ≤ y ∧ y < 2 ^ s) (hc : y + x * 2 ^ s = c) : bits .or .u64 y (x * 2 ^ s) = c := by
  have h := or_apart hs hx hy
  obtain ⟨A, rfl⟩ := Int.eq_ofNat_of_zero_le hx.1
  obtain ⟨B, rfl⟩ := Int.eq_ofNat_of_zero_le hy.1
  have e : ((A : Int) * 2 ^ s) = ((A * 2 ^ s : Nat) : Int) := by rw [Int.natCast_mul, Int.natCast_pow]; rfl
  have e' : ((2 : Int) ^ s) = ((2 ^ s : Nat) : Int) := by rw [Int.natCast_pow]; rfl
  have h1 : A * 2 ^ s < 18446744073709551616 := by have := hx.2; rw [e] at this; omega
  have h3 : 2 ^ s ≤ 18446744073709551616 := by
    have : 2 ^ s ≤ 2 ^ 64 := Nat.pow_le_pow_right (by decide) hs
    exact this
  have h2 : B < 18446744073709551616 := by have := hy.2; rw [e'] at this; omega
  have hcomm : bits .or .u64 (B : Int) ((A : Int) * 2 ^ s) = bits .or .u64 ((A : Int) * 2 ^ s) B := by
    rw [e, u64_or_nat _ _ h2 h1, u64_or_nat _ _ h1 h2, Nat.or_comm]
  rw [hcomm, h]
  omega
end Go.Lg
namespace Go.Proofs.Yteappfihapeakaa
open Go Go.Lg
variable (X : Nat → Option Obj)
theorem p256 (i : Nat) : (256 : Nat) ^ i = 2 ^ (8 * i) := by rw [Nat.pow_mul]
end Go.Proofs.Yteappfihapeakaa
end
section
namespace Go.Proofs.Yteappfihapeakaa
open Go Go.Lg
variable (X : Nat → Option Obj)
end Go.Proofs.Yteappfihapeakaa
end
section
namespace Go.Proofs.Yteappfihapeakaa
open Go Go.Lg
variable (X : Nat → Option Obj)
end Go.Proofs.Yteappfihapeakaa
end
section
namespace Go.Proofs.Yteappfihapeakaa
open Go Go.Lg
variable (X : Nat → Option Obj)
theorem isW_w {n : Int} (h : isW n = true) : n = 1 ∨ n = 2 ∨ n = 4 ∨ n = 8 := by
  unfold isW at h
  simpa only [Bool.or_eq_true, decide_eq_true_eq] using h
/-- a number of so many bytes -/
def fitW (w : Int) (n : Nat) : Bool := isW w && decide (n < 256 ^ w.toNat)
theorem shr_1 (n : Nat) : ((n : Nat) : Int).fdiv (2 ^ (min (((8 * 1 : Nat) : Int)).toNat IntKind.u64.bits)) = ((n / 256 ^ 1 : Nat) : Int) := by
  have ed : ((n : Nat) : Int) / 2 ^ (8 * 1) = ((n / 256 ^ 1 : Nat) : Int) := by rw [p256, Int.natCast_ediv, Int.natCast_pow]; rfl
  exact (shr_s (a := ((n : Nat) : Int)) (s := 8 * 1) (by omega)).trans ed
theorem shr_2 (n : Nat) : ((n : Nat) : Int).fdiv (2 ^ (min (((8 * 2 : Nat) : Int)).toNat IntKind.u64.bits)) = ((n / 256 ^ 2 : Nat) : Int) := by
  have ed : ((n : Nat) : Int) / 2 ^ (8 * 2) = ((n / 256 ^ 2 : Nat) : Int) := by rw [p256, Int.natCast_ediv, Int.natCast_pow]; rfl
  exact (shr_s (a := ((n : Nat) : Int)) (s := 8 * 2) (by omega)).trans ed
theorem shr_4 (n : Nat) : ((n : Nat) : Int).fdiv (2 ^ (min (((8 * 4 : Nat) : Int)).toNat IntKind.u64.bits)) = ((n / 256 ^ 4 : Nat) : Int) := by
  have ed : ((n : Nat) : Int) / 2 ^ (8 * 4) = ((n / 256 ^ 4 : Nat) : Int) := by rw [p256, Int.natCast_ediv, Int.natCast_pow]; rfl
  exact (shr_s (a := ((n : Nat) : Int)) (s := 8 * 4) (by omega)).trans ed
theorem shr_8 (n : Nat) : ((n : Nat) : Int).fdiv (2 ^ (min (((8 * 8 : Nat) : Int)).toNat IntKind.u64.bits)) = ((n / 256 ^ 8 : Nat) : Int) := by
  have ed : ((n : Nat) : Int) / 2 ^ (8 * 8) = ((n / 256 ^ 8 : Nat) : Int) := by rw [p256, Int.natCast_ediv, Int.natCast_pow]; rfl
  exact (shr_s (a := ((n : Nat) : Int)) (s := 8 * 8) (by omega)).trans ed
theorem numNo {w : Int} {n : Nat} (h : fitW w n = false) : isW w = false ∨ ∃ m : Nat, (m = 1 ∨ m = 2 ∨ m = 4 ∨ m = 8) ∧ w = (m : Nat) ∧ 256 ^ m ≤ n := by
  cases hw : isW w with
  | false => exact .inl rfl
  | true =>
    right
    unfold fitW at h
    rw [hw] at h
    have h2 : ¬ n < 256 ^ w.toNat := by simpa using h
    refine ⟨w.toNat, ?_, ?_, by omega⟩
    · rcases isW_w hw with rfl | rfl | rfl | rfl <;> simp
    · rcases isW_w hw with rfl | rfl | rfl | rfl <;> simp
end Go.Proofs.Yteappfihapeakaa
end
section
namespace Go.Proofs.Yteappfihapeakaa
open Go Go.Lg
variable (X : Nat → Option Obj)
theorem rlen (l : List UInt8) : (⟨l.toArray⟩ : ByteArray).size = l.length := rfl
/-- the next n bytes can be read -/
def rawOk (l : List UInt8) (b : Bool) (n : Int) : Bool := !b && decide (0 ≤ n ∧ n ≤ l.length)
end Go.Proofs.Yteappfihapeakaa
end
section
namespace Go.Proofs.Yteappfihapeakaa
open Go Go.Lg
variable (X : Nat → Option Obj)
theorem isW_bound {n : Int} (h : isW n = true) : 1 ≤ n ∧ n ≤ 8 := by
  unfold isW at h
  simp only [Bool.or_eq_true, decide_eq_true_eq] at h
  omega
/-- a short text is there -/
def nameOk (l : List UInt8) (b : Bool) : Bool := !b && match l with | [] => false | c :: t => decide (c.toNat ≤ t.length)
theorem le4 (l : List UInt8) : le (l.take 4) < 4294967296 := by
  have h := le_lt (l.take 4)
  refine Nat.lt_of_lt_of_le h ?_
  exact Nat.le_trans (Nat.pow_le_pow_right (by decide) (by rw [List.length_take]; omega)) (show 256 ^ 4 ≤ 4294967296 by decide)
/-- a part of so many bytes at most is there -/
def partOk (l : List UInt8) (b : Bool) (most : Int) : Bool := !b && (decide (4 ≤ l.length) && (decide ((le (l.take 4) : Int) ≤ most) && decide (le (l.take 4) ≤ l.length - 4)))
end Go.Proofs.Yteappfihapeakaa
end
section
namespace Go.Lg.Fld
open Go Go.Lg
/-- a kind's name, how many bytes it has, the size of its least number, its greatest number -/
def kN (k : Int) : List UInt8 := if k = 1 then [98, 111, 111, 108] else if k = 2 then [105, 56] else if k = 3 then [105, 49, 54] else if k = 4 then [105, 51, 50] else if k = 5 then [105, 54, 52] else if k = 6 then [117, 56] else if k = 7 then [117, 49, 54] else if k = 8 then [117, 51, 50] else if k = 9 then [117, 54, 52] else if k = 10 then [114, 101, 102] else []
def kW (k : Int) : Nat := if k = 1 then 1 else if k = 2 then 1 else if k = 3 then 2 else if k = 4 then 4 else if k = 5 then 8 else if k = 6 then 1 else if k = 7 then 2 else if k = 8 then 4 else if k = 9 then 8 else if k = 10 then 8 else 0
def kB (k : Int) : Int := if k = 1 then 0 else if k = 2 then 128 else if k = 3 then 32768 else if k = 4 then 2147483648 else if k = 5 then 9223372036854775808 else if k = 6 then 0 else if k = 7 then 0 else if k = 8 then 0 else if k = 9 then 0 else if k = 10 then 0 else 0
def kA (k : Int) : Int := if k = 1 then 1 else if k = 2 then 127 else if k = 3 then 32767 else if k = 4 then 2147483647 else if k = 5 then 9223372036854775807 else if k = 6 then 255 else if k = 7 then 65535 else if k = 8 then 4294967295 else if k = 9 then 18446744073709551615 else if k = 10 then 18446744073709551615 else 0
/-- a kind -/
def kK (k : Int) : Bool := decide (1 ≤ k) && decide (k ≤ 10)
theorem kcases (k : Int) : k = 1 ∨ k = 2 ∨ k = 3 ∨ k = 4 ∨ k = 5 ∨ k = 6 ∨ k = 7 ∨ k = 8 ∨ k = 9 ∨ k = 10 ∨ (k < 1 ∨ 10 < k) := by omega
theorem kin {k : Int} (h : kK k = true) : k = 1 ∨ k = 2 ∨ k = 3 ∨ k = 4 ∨ k = 5 ∨ k = 6 ∨ k = 7 ∨ k = 8 ∨ k = 9 ∨ k = 10 := by
  simp only [kK, Bool.and_eq_true, decide_eq_true_eq] at h; omega
theorem knot {k : Int} (h : kK k = false) : k < 1 ∨ 10 < k := by
  by_cases h1 : 1 ≤ k <;> by_cases h2 : k ≤ 10 <;> first | omega | (rw [kK, decide_eq_true h1, decide_eq_true h2] at h; cases h)
theorem kK_iff (k : Int) : kK k = true ↔ 1 ≤ k ∧ k ≤ 10 := by simp only [kK, Bool.and_eq_true, decide_eq_true_eq]
theorem kN_no {k : Int} (h : k < 1 ∨ 10 < k) : kN k = [] := by
  unfold kN
  rw [if_neg (show ¬ k = 1 by omega), if_neg (show ¬ k = 2 by omega), if_neg (show ¬ k = 3 by omega), if_neg (show ¬ k = 4 by omega), if_neg (show ¬ k = 5 by omega), if_neg (show ¬ k = 6 by omega), if_neg (show ¬ k = 7 by omega), if_neg (show ¬ k = 8 by omega), if_neg (show ¬ k = 9 by omega), if_neg (show ¬ k = 10 by omega)]
theorem kW_no {k : Int} (h : k < 1 ∨ 10 < k) : kW k = 0 := by
  unfold kW
  rw [if_neg (show ¬ k = 1 by omega), if_neg (show ¬ k = 2 by omega), if_neg (show ¬ k = 3 by omega), if_neg (show ¬ k = 4 by omega), if_neg (show ¬ k = 5 by omega), if_neg (show ¬ k = 6 by omega), if_neg (show ¬ k = 7 by omega), if_neg (show ¬ k = 8 by omega), if_neg (show ¬ k = 9 by omega), if_neg (show ¬ k = 10 by omega)]
theorem kB_no {k : Int} (h : k < 1 ∨ 10 < k) : kB k = 0 := by
  unfold kB
  rw [if_neg (show ¬ k = 1 by omega), if_neg (show ¬ k = 2 by omega), if_neg (show ¬ k = 3 by omega), if_neg (show ¬ k = 4 by omega), if_neg (show ¬ k = 5 by omega), if_neg (show ¬ k = 6 by omega), if_neg (show ¬ k = 7 by omega), if_neg (show ¬ k = 8 by omega), if_neg (show ¬ k = 9 by omega), if_neg (show ¬ k = 10 by omega)]
theorem kA_no {k : Int} (h : k < 1 ∨ 10 < k) : kA k = 0 := by
  unfold kA
  rw [if_neg (show ¬ k = 1 by omega), if_neg (show ¬ k = 2 by omega), if_neg (show ¬ k = 3 by omega), if_neg (show ¬ k = 4 by omega), if_neg (show ¬ k = 5 by omega), if_neg (show ¬ k = 6 by omega), if_neg (show ¬ k = 7 by omega), if_neg (show ¬ k = 8 by omega), if_neg (show ¬ k = 9 by omega), if_neg (show ¬ k = 10 by omega)]
/-- what a kind's shape keeps -/
theorem kfacts (k : Int) : 0 ≤ kB k ∧ kB k ≤ 9223372036854775808 ∧ 0 ≤ kA k ∧ kA k < 18446744073709551616 ∧ kW k ≤ 8 := by
  rcases kcases k with rfl | rfl | rfl | rfl | rfl | rfl | rfl | rfl | rfl | rfl | h
  all_goals first | (rw [kW_no h, kB_no h, kA_no h]; omega) | decide
theorem kW_in {k : Int} (h : kK k = true) : kW k = 1 ∨ kW k = 2 ∨ kW k = 4 ∨ kW k = 8 := by
  rcases kin h with rfl | rfl | rfl | rfl | rfl | rfl | rfl | rfl | rfl | rfl <;> decide
theorem kW_zero (k : Int) : kW k = 0 ↔ kK k = false := by
  cases h : kK k with
  | false => simp [kW_no (knot h)]
  | true => rcases kW_in h with e | e | e | e <;> simp [e]
end Go.Lg.Fld
namespace Go.Proofs.Yteappfihapeakaa
open Go Go.Lg Go.Lg.Fld
set_option maxRecDepth 100000
variable (X : Nat → Option Obj)
theorem shapeOf_spec (k : Int) : PSpec Try.prog X 62 [Ln .i64 k] (.sv (.agg [.val (.string ⟨(kN k).toArray⟩), .val (.int .i64 (kW k : Nat)), .val (.int .u64 (kB k)), .val (.int .u64 (kA k))])) := by
  refine PSpec.intro Try.func62 rfl (by kernel_rfl) rfl rfl ?_
  intro C
  rcases kcases k with rfl | rfl | rfl | rfl | rfl | rfl | rfl | rfl | rfl | rfl | h
  · (refine LWP.seq <| LWP.region (by kernel_rfl) <| K.alloc rfl .plain ?_; refine RunK.nil <| LWP.seq <| LWP.seq <| LWP.region (by kernel_rfl) <| kmv rfl <| RunK.nil <| LWP.block <| LWP.seq <| LWP.region (by kernel_rfl) <| keq rfl rfl (beq_iff_eq.2 (by omega)) <| kas rfl <| RunK.nil <| LWP.condT rfl ?_; refine LWP.seq <| LWP.region (by kernel_rfl) <| K.build rfl rfl (by exact rfl) (by exact nl4 rfl rfl rfl rfl rfl) .plain ?_; refine K.storeAll rfl rfl rfl rfl rfl rfl .plain ?_; refine RunK.nil <| LWP.ret ?_)
    exact ⟨[_], ⟨⟨_, _, rfl, rfl, rfl, .inl ⟨AggT.h, rfl⟩⟩, trivial⟩, rfl⟩
  · (refine LWP.seq <| LWP.region (by kernel_rfl) <| K.alloc rfl .plain ?_; refine RunK.nil <| LWP.seq <| LWP.seq <| LWP.region (by kernel_rfl) <| kmv rfl <| RunK.nil <| LWP.block <| LWP.seq <| LWP.region (by kernel_rfl) <| keq rfl rfl (beq_eq_false_iff_ne.2 (by omega)) <| kas rfl <| RunK.nil <| LWP.condF rfl ?_; refine LWP.seq <| LWP.region (by kernel_rfl) <| keq rfl rfl (beq_iff_eq.2 (by omega)) <| kas rfl <| RunK.nil <| LWP.condT rfl ?_; refine LWP.seq <| LWP.region (by kernel_rfl) <| K.build rfl rfl (by exact rfl) (by exact nl4 rfl rfl rfl rfl rfl) .plain ?_; refine K.storeAll rfl rfl rfl rfl rfl rfl .plain ?_; refine RunK.nil <| LWP.ret ?_)
    exact ⟨[_], ⟨⟨_, _, rfl, rfl, rfl, .inl ⟨AggT.h, rfl⟩⟩, trivial⟩, rfl⟩
  · (refine LWP.seq <| LWP.region (by kernel_rfl) <| K.alloc rfl .plain ?_; refine RunK.nil <| LWP.seq <| LWP.seq <| LWP.region (by kernel_rfl) <| kmv rfl <| RunK.nil <| LWP.block <| LWP.seq <| LWP.region (by kernel_rfl) <| keq rfl rfl (beq_eq_false_iff_ne.2 (by omega)) <| kas rfl <| RunK.nil <| LWP.condF rfl ?_; refine LWP.seq <| LWP.region (by kernel_rfl) <| keq rfl rfl (beq_eq_false_iff_ne.2 (by omega)) <| kas rfl <| RunK.nil <| LWP.condF rfl ?_; refine LWP.seq <| LWP.region (by kernel_rfl) <| keq rfl rfl (beq_iff_eq.2 (by omega)) <| kas rfl <| RunK.nil <| LWP.condT rfl ?_; refine LWP.seq <| LWP.region (by kernel_rfl) <| K.build rfl rfl (by exact rfl) (by exact nl4 rfl rfl rfl rfl rfl) .plain ?_; refine K.storeAll rfl rfl rfl rfl rfl rfl .plain ?_; refine RunK.nil <| LWP.ret ?_)
    exact ⟨[_], ⟨⟨_, _, rfl, rfl, rfl, .inl ⟨AggT.h, rfl⟩⟩, trivial⟩, rfl⟩
  · (refine LWP.seq <| LWP.region (by kernel_rfl) <| K.alloc rfl .plain ?_; refine RunK.nil <| LWP.seq <| LWP.seq <| LWP.region (by kernel_rfl) <| kmv rfl <| RunK.nil <| LWP.block <| LWP.seq <| LWP.region (by kernel_rfl) <| keq rfl rfl (beq_eq_false_iff_ne.2 (by omega)) <| kas rfl <| RunK.nil <| LWP.condF rfl ?_; refine LWP.seq <| LWP.region (by kernel_rfl) <| keq rfl rfl (beq_eq_false_iff_ne.2 (by omega)) <| kas rfl <| RunK.nil <| LWP.condF rfl ?_; refine LWP.seq <| LWP.region (by kernel_rfl) <| keq rfl rfl (beq_eq_false_iff_ne.2 (by omega)) <| kas rfl <| RunK.nil <| LWP.condF rfl ?_; refine LWP.seq <| LWP.region (by kernel_rfl) <| keq rfl rfl (beq_iff_eq.2 (by omega)) <| kas rfl <| RunK.nil <| LWP.condT rfl ?_; refine LWP.seq <| LWP.region (by kernel_rfl) <| K.build rfl rfl (by exact rfl) (by exact nl4 rfl rfl rfl rfl rfl) .plain ?_; refine K.storeAll rfl rfl rfl rfl rfl rfl .plain ?_; refine RunK.nil <| LWP.ret ?_)
    exact ⟨[_], ⟨⟨_, _, rfl, rfl, rfl, .inl ⟨AggT.h, rfl⟩⟩, trivial⟩, rfl⟩
  · (refine LWP.seq <| LWP.region (by kernel_rfl) <| K.alloc rfl .plain ?_; refine RunK.nil <| LWP.seq <| LWP.seq <| LWP.region (by kernel_rfl) <| kmv rfl <| RunK.nil <| LWP.block <| LWP.seq <| LWP.region (by kernel_rfl) <| keq rfl rfl (beq_eq_false_iff_ne.2 (by omega)) <| kas rfl <| RunK.nil <| LWP.condF rfl ?_; refine LWP.seq <| LWP.region (by kernel_rfl) <| keq rfl rfl (beq_eq_false_iff_ne.2 (by omega)) <| kas rfl <| RunK.nil <| LWP.condF rfl ?_; refine LWP.seq <| LWP.region (by kernel_rfl) <| keq rfl rfl (beq_eq_false_iff_ne.2 (by omega)) <| kas rfl <| RunK.nil <| LWP.condF rfl ?_; refine LWP.seq <| LWP.region (by kernel_rfl) <| keq rfl rfl (beq_eq_false_iff_ne.2 (by omega)) <| kas rfl <| RunK.nil <| LWP.condF rfl ?_; refine LWP.seq <| LWP.region (by kernel_rfl) <| keq rfl rfl (beq_iff_eq.2 (by omega)) <| kas rfl <| RunK.nil <| LWP.condT rfl ?_; refine LWP.seq <| LWP.region (by kernel_rfl) <| K.build rfl rfl (by exact rfl) (by exact nl4 rfl rfl rfl rfl rfl) .plain ?_; refine K.storeAll rfl rfl rfl rfl rfl rfl .plain ?_; refine RunK.nil <| LWP.ret ?_)
    exact ⟨[_], ⟨⟨_, _, rfl, rfl, rfl, .inl ⟨AggT.h, rfl⟩⟩, trivial⟩, rfl⟩
  · (refine LWP.seq <| LWP.region (by kernel_rfl) <| K.alloc rfl .plain ?_; refine RunK.nil <| LWP.seq <| LWP.seq <| LWP.region (by kernel_rfl) <| kmv rfl <| RunK.nil <| LWP.block <| LWP.seq <| LWP.region (by kernel_rfl) <| keq rfl rfl (beq_eq_false_iff_ne.2 (by omega)) <| kas rfl <| RunK.nil <| LWP.condF rfl ?_; refine LWP.seq <| LWP.region (by kernel_rfl) <| keq rfl rfl (beq_eq_false_iff_ne.2 (by omega)) <| kas rfl <| RunK.nil <| LWP.condF rfl ?_; refine LWP.seq <| LWP.region (by kernel_rfl) <| keq rfl rfl (beq_eq_false_iff_ne.2 (by omega)) <| kas rfl <| RunK.nil <| LWP.condF rfl ?_; refine LWP.seq <| LWP.region (by kernel_rfl) <| keq rfl rfl (beq_eq_false_iff_ne.2 (by omega)) <| kas rfl <| RunK.nil <| LWP.condF rfl ?_; refine LWP.seq <| LWP.region (by kernel_rfl) <| keq rfl rfl (beq_eq_false_iff_ne.2 (by omega)) <| kas rfl <| RunK.nil <| LWP.condF rfl ?_; refine LWP.seq <| LWP.region (by kernel_rfl) <| keq rfl rfl (beq_iff_eq.2 (by omega)) <| kas rfl <| RunK.nil <| LWP.condT rfl ?_; refine LWP.seq <| LWP.region (by kernel_rfl) <| K.build rfl rfl (by exact rfl) (by exact nl4 rfl rfl rfl rfl rfl) .plain ?_; refine K.storeAll rfl rfl rfl rfl rfl rfl .plain ?_; refine RunK.nil <| LWP.ret ?_)
    exact ⟨[_], ⟨⟨_, _, rfl, rfl, rfl, .inl ⟨AggT.h, rfl⟩⟩, trivial⟩, rfl⟩
  · (refine LWP.seq <| LWP.region (by kernel_rfl) <| K.alloc rfl .plain ?_; refine RunK.nil <| LWP.seq <| LWP.seq <| LWP.region (by kernel_rfl) <| kmv rfl <| RunK.nil <| LWP.block <| LWP.seq <| LWP.region (by kernel_rfl) <| keq rfl rfl (beq_eq_false_iff_ne.2 (by omega)) <| kas rfl <| RunK.nil <| LWP.condF rfl ?_; refine LWP.seq <| LWP.region (by kernel_rfl) <| keq rfl rfl (beq_eq_false_iff_ne.2 (by omega)) <| kas rfl <| RunK.nil <| LWP.condF rfl ?_; refine LWP.seq <| LWP.region (by kernel_rfl) <| keq rfl rfl (beq_eq_false_iff_ne.2 (by omega)) <| kas rfl <| RunK.nil <| LWP.condF rfl ?_; refine LWP.seq <| LWP.region (by kernel_rfl) <| keq rfl rfl (beq_eq_false_iff_ne.2 (by omega)) <| kas rfl <| RunK.nil <| LWP.condF rfl ?_; refine LWP.seq <| LWP.region (by kernel_rfl) <| keq rfl rfl (beq_eq_false_iff_ne.2 (by omega)) <| kas rfl <| RunK.nil <| LWP.condF rfl ?_; refine LWP.seq <| LWP.region (by kernel_rfl) <| keq rfl rfl (beq_eq_false_iff_ne.2 (by omega)) <| kas rfl <| RunK.nil <| LWP.condF rfl ?_; refine LWP.seq <| LWP.region (by kernel_rfl) <| keq rfl rfl (beq_iff_eq.2 (by omega)) <| kas rfl <| RunK.nil <| LWP.condT rfl ?_; refine LWP.seq <| LWP.region (by kernel_rfl) <| K.build rfl rfl (by exact rfl) (by exact nl4 rfl rfl rfl rfl rfl) .plain ?_; refine K.storeAll rfl rfl rfl rfl rfl rfl .plain ?_; refine RunK.nil <| LWP.ret ?_)
    exact ⟨[_], ⟨⟨_, _, rfl, rfl, rfl, .inl ⟨AggT.h, rfl⟩⟩, trivial⟩, rfl⟩
  · (refine LWP.seq <| LWP.region (by kernel_rfl) <| K.alloc rfl .plain ?_; refine RunK.nil <| LWP.seq <| LWP.seq <| LWP.region (by kernel_rfl) <| kmv rfl <| RunK.nil <| LWP.block <| LWP.seq <| LWP.region (by kernel_rfl) <| keq rfl rfl (beq_eq_false_iff_ne.2 (by omega)) <| kas rfl <| RunK.nil <| LWP.condF rfl ?_; refine LWP.seq <| LWP.region (by kernel_rfl) <| keq rfl rfl (beq_eq_false_iff_ne.2 (by omega)) <| kas rfl <| RunK.nil <| LWP.condF rfl ?_; refine LWP.seq <| LWP.region (by kernel_rfl) <| keq rfl rfl (beq_eq_false_iff_ne.2 (by omega)) <| kas rfl <| RunK.nil <| LWP.condF rfl ?_; refine LWP.seq <| LWP.region (by kernel_rfl) <| keq rfl rfl (beq_eq_false_iff_ne.2 (by omega)) <| kas rfl <| RunK.nil <| LWP.condF rfl ?_; refine LWP.seq <| LWP.region (by kernel_rfl) <| keq rfl rfl (beq_eq_false_iff_ne.2 (by omega)) <| kas rfl <| RunK.nil <| LWP.condF rfl ?_; refine LWP.seq <| LWP.region (by kernel_rfl) <| keq rfl rfl (beq_eq_false_iff_ne.2 (by omega)) <| kas rfl <| RunK.nil <| LWP.condF rfl ?_; refine LWP.seq <| LWP.region (by kernel_rfl) <| keq rfl rfl (beq_eq_false_iff_ne.2 (by omega)) <| kas rfl <| RunK.nil <| LWP.condF rfl ?_; refine LWP.seq <| LWP.region (by kernel_rfl) <| keq rfl rfl (beq_iff_eq.2 (by omega)) <| kas rfl <| RunK.nil <| LWP.condT rfl ?_; refine LWP.seq <| LWP.region (by kernel_rfl) <| K.build rfl rfl (by exact rfl) (by exact nl4 rfl rfl rfl rfl rfl) .plain ?_; refine K.storeAll rfl rfl rfl rfl rfl rfl .plain ?_; refine RunK.nil <| LWP.ret ?_)
    exact ⟨[_], ⟨⟨_, _, rfl, rfl, rfl, .inl ⟨AggT.h, rfl⟩⟩, trivial⟩, rfl⟩
  · (refine LWP.seq <| LWP.region (by kernel_rfl) <| K.alloc rfl .plain ?_; refine RunK.nil <| LWP.seq <| LWP.seq <| LWP.region (by kernel_rfl) <| kmv rfl <| RunK.nil <| LWP.block <| LWP.seq <| LWP.region (by kernel_rfl) <| keq rfl rfl (beq_eq_false_iff_ne.2 (by omega)) <| kas rfl <| RunK.nil <| LWP.condF rfl ?_; refine LWP.seq <| LWP.region (by kernel_rfl) <| keq rfl rfl (beq_eq_false_iff_ne.2 (by omega)) <| kas rfl <| RunK.nil <| LWP.condF rfl ?_; refine LWP.seq <| LWP.region (by kernel_rfl) <| keq rfl rfl (beq_eq_false_iff_ne.2 (by omega)) <| kas rfl <| RunK.nil <| LWP.condF rfl ?_; refine LWP.seq <| LWP.region (by kernel_rfl) <| keq rfl rfl (beq_eq_false_iff_ne.2 (by omega)) <| kas rfl <| RunK.nil <| LWP.condF rfl ?_; refine LWP.seq <| LWP.region (by kernel_rfl) <| keq rfl rfl (beq_eq_false_iff_ne.2 (by omega)) <| kas rfl <| RunK.nil <| LWP.condF rfl ?_; refine LWP.seq <| LWP.region (by kernel_rfl) <| keq rfl rfl (beq_eq_false_iff_ne.2 (by omega)) <| kas rfl <| RunK.nil <| LWP.condF rfl ?_; refine LWP.seq <| LWP.region (by kernel_rfl) <| keq rfl rfl (beq_eq_false_iff_ne.2 (by omega)) <| kas rfl <| RunK.nil <| LWP.condF rfl ?_; refine LWP.seq <| LWP.region (by kernel_rfl) <| keq rfl rfl (beq_eq_false_iff_ne.2 (by omega)) <| kas rfl <| RunK.nil <| LWP.condF rfl ?_; refine LWP.seq <| LWP.region (by kernel_rfl) <| keq rfl rfl (beq_iff_eq.2 (by omega)) <| kas rfl <| RunK.nil <| LWP.condT rfl ?_; refine LWP.seq <| LWP.region (by kernel_rfl) <| K.build rfl rfl (by exact rfl) (by exact nl4 rfl rfl rfl rfl rfl) .plain ?_; refine K.storeAll rfl rfl rfl rfl rfl rfl .plain ?_; refine RunK.nil <| LWP.ret ?_)
    exact ⟨[_], ⟨⟨_, _, rfl, rfl, rfl, .inl ⟨AggT.h, rfl⟩⟩, trivial⟩, rfl⟩
  · (refine LWP.seq <| LWP.region (by kernel_rfl) <| K.alloc rfl .plain ?_; refine RunK.nil <| LWP.seq <| LWP.seq <| LWP.region (by kernel_rfl) <| kmv rfl <| RunK.nil <| LWP.block <| LWP.seq <| LWP.region (by kernel_rfl) <| keq rfl rfl (beq_eq_false_iff_ne.2 (by omega)) <| kas rfl <| RunK.nil <| LWP.condF rfl ?_; refine LWP.seq <| LWP.region (by kernel_rfl) <| keq rfl rfl (beq_eq_false_iff_ne.2 (by omega)) <| kas rfl <| RunK.nil <| LWP.condF rfl ?_; refine LWP.seq <| LWP.region (by kernel_rfl) <| keq rfl rfl (beq_eq_false_iff_ne.2 (by omega)) <| kas rfl <| RunK.nil <| LWP.condF rfl ?_; refine LWP.seq <| LWP.region (by kernel_rfl) <| keq rfl rfl (beq_eq_false_iff_ne.2 (by omega)) <| kas rfl <| RunK.nil <| LWP.condF rfl ?_; refine LWP.seq <| LWP.region (by kernel_rfl) <| keq rfl rfl (beq_eq_false_iff_ne.2 (by omega)) <| kas rfl <| RunK.nil <| LWP.condF rfl ?_; refine LWP.seq <| LWP.region (by kernel_rfl) <| keq rfl rfl (beq_eq_false_iff_ne.2 (by omega)) <| kas rfl <| RunK.nil <| LWP.condF rfl ?_; refine LWP.seq <| LWP.region (by kernel_rfl) <| keq rfl rfl (beq_eq_false_iff_ne.2 (by omega)) <| kas rfl <| RunK.nil <| LWP.condF rfl ?_; refine LWP.seq <| LWP.region (by kernel_rfl) <| keq rfl rfl (beq_eq_false_iff_ne.2 (by omega)) <| kas rfl <| RunK.nil <| LWP.condF rfl ?_; refine LWP.seq <| LWP.region (by kernel_rfl) <| keq rfl rfl (beq_eq_false_iff_ne.2 (by omega)) <| kas rfl <| RunK.nil <| LWP.condF rfl ?_; refine LWP.seq <| LWP.region (by kernel_rfl) <| keq rfl rfl (beq_iff_eq.2 (by omega)) <| kas rfl <| RunK.nil <| LWP.condT rfl ?_; refine LWP.seq <| LWP.region (by kernel_rfl) <| K.build rfl rfl (by exact rfl) (by exact nl4 rfl rfl rfl rfl rfl) .plain ?_; refine K.storeAll rfl rfl rfl rfl rfl rfl .plain ?_; refine RunK.nil <| LWP.ret ?_)
    exact ⟨[_], ⟨⟨_, _, rfl, rfl, rfl, .inl ⟨AggT.h, rfl⟩⟩, trivial⟩, rfl⟩
  · rw [kN_no h, kW_no h, kB_no h, kA_no h]
    (refine LWP.seq <| LWP.region (by kernel_rfl) <| K.alloc rfl .plain ?_; refine RunK.nil <| LWP.seq <| LWP.seq <| LWP.region (by kernel_rfl) <| kmv rfl <| RunK.nil <| LWP.block <| LWP.seq <| LWP.region (by kernel_rfl) <| keq rfl rfl (beq_eq_false_iff_ne.2 (by omega)) <| kas rfl <| RunK.nil <| LWP.condF rfl ?_; refine LWP.seq <| LWP.region (by kernel_rfl) <| keq rfl rfl (beq_eq_false_iff_ne.2 (by omega)) <| kas rfl <| RunK.nil <| LWP.condF rfl ?_; refine LWP.seq <| LWP.region (by kernel_rfl) <| keq rfl rfl (beq_eq_false_iff_ne.2 (by omega)) <| kas rfl <| RunK.nil <| LWP.condF rfl ?_; refine LWP.seq <| LWP.region (by kernel_rfl) <| keq rfl rfl (beq_eq_false_iff_ne.2 (by omega)) <| kas rfl <| RunK.nil <| LWP.condF rfl ?_; refine LWP.seq <| LWP.region (by kernel_rfl) <| keq rfl rfl (beq_eq_false_iff_ne.2 (by omega)) <| kas rfl <| RunK.nil <| LWP.condF rfl ?_; refine LWP.seq <| LWP.region (by kernel_rfl) <| keq rfl rfl (beq_eq_false_iff_ne.2 (by omega)) <| kas rfl <| RunK.nil <| LWP.condF rfl ?_; refine LWP.seq <| LWP.region (by kernel_rfl) <| keq rfl rfl (beq_eq_false_iff_ne.2 (by omega)) <| kas rfl <| RunK.nil <| LWP.condF rfl ?_; refine LWP.seq <| LWP.region (by kernel_rfl) <| keq rfl rfl (beq_eq_false_iff_ne.2 (by omega)) <| kas rfl <| RunK.nil <| LWP.condF rfl ?_; refine LWP.seq <| LWP.region (by kernel_rfl) <| keq rfl rfl (beq_eq_false_iff_ne.2 (by omega)) <| kas rfl <| RunK.nil <| LWP.condF rfl ?_; refine LWP.seq <| LWP.region (by kernel_rfl) <| keq rfl rfl (beq_eq_false_iff_ne.2 (by omega)) <| kas rfl <| RunK.nil <| LWP.condF rfl ?_; refine LWP.skip ?_; refine LWP.seq <| LWP.region (by kernel_rfl) <| K.build rfl rfl (by exact rfl) (by exact nl4 rfl rfl rfl rfl rfl) .plain ?_; refine K.storeAll rfl rfl rfl rfl rfl rfl .plain ?_; refine RunK.nil <| LWP.ret ?_)
    exact ⟨[_], ⟨⟨_, _, rfl, rfl, rfl, .inl ⟨AggT.h, rfl⟩⟩, trivial⟩, rfl⟩
theorem fSize_spec (k : Int) : PSpec Try.prog X 55 [Ln .i64 k] (Ln .i64 (kW k : Nat)) := by
  refine PSpec.intro Try.func55 rfl (by kernel_rfl) rfl rfl ?_
  intro C
  (refine LWP.seq <| LWP.region (by kernel_rfl) <| kas rfl <| RunK.nil <| LWP.seq <| LWP.region (by kernel_rfl) <| kmv rfl <| kca rfl rfl (shapeOf_spec X k) <| K.fieldOne rfl Try.underlying109 rfl (by kernel_rfl) rfl .plain <| kas rfl <| RunK.nil <| LWP.ret ?_)
  exact ⟨[_], ⟨rfl, trivial⟩, rfl⟩
theorem OfWord_q (n : Int) (hn : 0 ≤ n ∧ n < 18446744073709551616) : PSpec Try.prog X 45 [Ln .u64 n] (LQ n) := by
  have h := OfWord_spec X n
  unfold LQ LI
  rw [mg_pos hn.1, decide_eq_false (by omega), show n / 18446744073709551616 = 0 by omega, show n % 18446744073709551616 = n by omega]
  exact h
theorem Greatest_spec (k : Int) : PSpec Try.prog X 64 [Ln .i64 k] (LQ (kA k)) := by
  obtain ⟨_, _, h2, h3, _⟩ := kfacts k
  refine PSpec.intro Try.func64 rfl (by kernel_rfl) rfl rfl ?_
  intro C
  (refine LWP.seq <| LWP.region (by kernel_rfl) <| K.alloc rfl .plain ?_; refine RunK.nil <| LWP.seq <| LWP.region (by kernel_rfl) <| kmv rfl <| kca rfl rfl (shapeOf_spec X k) <| K.fieldOne rfl Try.underlying109 rfl (by kernel_rfl) rfl .plain <| kca rfl rfl (OfWord_q X (kA k) ⟨h2, h3⟩) <| K.storeAll rfl rfl rfl rfl rfl rfl .plain ?_; refine RunK.nil <| LWP.ret ?_)
  exact ⟨[_], ⟨⟨_, _, rfl, rfl, rfl, .inl ⟨AggT.h, rfl⟩⟩, trivial⟩, rfl⟩
theorem kB_R (k : Int) : R127 (kB k) := by
  have := kfacts k
  unfold R127; omega
theorem kBn_R (k : Int) : R127 (-kB k) := by
  have := kfacts k
  unfold R127; omega
theorem kA_R (k : Int) : R127 (kA k) := by
  have := kfacts k
  unfold R127; omega
theorem Least_spec (k : Int) : PSpec Try.prog X 63 [Ln .i64 k] (LQ (-kB k)) := by
  obtain ⟨h0, h1, _⟩ := kfacts k
  refine PSpec.intro Try.func63 rfl (by kernel_rfl) rfl rfl ?_
  intro C
  (refine LWP.seq <| LWP.region (by kernel_rfl) <| K.alloc rfl .plain ?_; refine RunK.nil <| LWP.seq <| LWP.region (by kernel_rfl) <| kmv rfl <| kca rfl rfl (shapeOf_spec X k) <| K.fieldOne rfl Try.underlying109 rfl (by kernel_rfl) rfl .plain <| kca rfl rfl (OfWord_q X (kB k) ⟨h0, by omega⟩) <| kca rfl rfl (Neg_q X (kB k) (kB_R k)) <| K.storeAll rfl rfl rfl rfl rfl rfl .plain ?_; refine RunK.nil <| LWP.ret ?_)
  exact ⟨[_], ⟨⟨_, _, rfl, rfl, rfl, .inl ⟨AggT.h, rfl⟩⟩, trivial⟩, rfl⟩
theorem isKind_spec (k : Int) (r : Bool) (hr : kK k = r) : PSpec Try.prog X 57 [Ln .i64 k] (Lb r) := by
  subst hr
  refine PSpec.intro Try.func57 rfl (by kernel_rfl) rfl rfl ?_
  intro C
  by_cases h1 : 1 ≤ k
  · (refine LWP.seq <| LWP.region (by kernel_rfl) <| kas rfl <| RunK.nil <| LWP.seq <| LWP.region (by kernel_rfl) <| kmv rfl <| K.leq rfl rfl (decide_eq_true (by omega)) .plain <| kmv rfl <| gmv rfl rfl rfl <| K.leq rfl rfl rfl (.taken rfl rfl) ?_; refine kpt rfl rfl <| kas rfl <| RunK.nil <| LWP.ret ?_)
    exact ⟨[_], ⟨rfl, trivial⟩, by unfold kK; rw [decide_eq_true h1]; rfl⟩
  · (refine LWP.seq <| LWP.region (by kernel_rfl) <| kas rfl <| RunK.nil <| LWP.seq <| LWP.region (by kernel_rfl) <| kmv rfl <| K.leq rfl rfl (decide_eq_false (by omega)) .plain <| kmv rfl <| RunK.passed rfl rfl rfl <| RunK.passed rfl rfl rfl <| kpf rfl rfl <| kas rfl <| RunK.nil ?_; refine LWP.ret ?_)
    exact ⟨[_], ⟨rfl, trivial⟩, by unfold kK; rw [decide_eq_false h1]; rfl⟩
end Go.Proofs.Yteappfihapeakaa
end
section
namespace Go.Lg.Fld
open Go Go.Lg
/-- the nearest number of a kind -/
def clampK (k x : Int) : Int := if x < -kB k then -kB k else if kA k < x then kA k else x
/-- a number of a kind -/
def fitZ (k x : Int) : Bool := decide (-kB k ≤ x) && decide (x ≤ kA k)
theorem fitZ_iff (k x : Int) : fitZ k x = true ↔ -kB k ≤ x ∧ x ≤ kA k := by simp only [fitZ, Bool.and_eq_true, decide_eq_true_eq]
theorem clamp_fit (k x : Int) : fitZ k (clampK k x) = true := by
  obtain ⟨h0, _, h2, _, _⟩ := kfacts k
  rw [fitZ_iff]
  unfold clampK
  (repeat' split) <;> omega
theorem clamp_same (k x : Int) : decide (clampK k x = x) = fitZ k x := by
  obtain ⟨h0, _, h2, _, _⟩ := kfacts k
  rw [Bool.eq_iff_iff, decide_eq_true_eq, fitZ_iff]
  unfold clampK
  (repeat' split) <;> omega
end Go.Lg.Fld
namespace Go.Proofs.Yteappfihapeakaa
open Go Go.Lg Go.Lg.Fld
set_option maxRecDepth 100000
variable (X : Nat → Option Obj)
theorem clamp_R (k x : Int) : R127 (clampK k x) := by
  have h := clamp_fit k x
  rw [fitZ_iff] at h
  have := kfacts k
  unfold R127; omega
theorem Clamp_bad (k : Int) (b : Bool) (N : Int) (hN : In2 N) (hf : formB b N = false) : PSpec Try.prog X 58 [Ln .i64 k, LI b N] (.sv S0) := by
  refine PSpec.intro Try.func58 rfl (by kernel_rfl) rfl rfl ?_
  intro C
  (refine LWP.seq <| LWP.region (by kernel_rfl) <| K.box rfl rfl rfl .plain <| K.alloc rfl .plain ?_; refine RunK.nil <| LWP.seq <| LWP.region (by kernel_rfl) <| kmv rfl <| kca rfl rfl (Least_spec X k) <| kmv rfl <| kca rfl rfl (Greatest_spec X k) <| K.alloc rfl .plain ?_; refine K.alloc rfl .plain ?_; refine K.storeAll rfl rfl rfl rfl rfl rfl .plain ?_; refine K.storeAll rfl rfl rfl rfl rfl rfl .plain ?_; refine RunK.nil <| LWP.seq <| LWP.block <| LWP.seq <| LWP.region (by kernel_rfl) <| K.loadAll rfl rfl rfl .plain ?_; refine kca rfl rfl (Form_spec X b N hN false hf) <| K.not rfl rfl .plain <| kas rfl <| RunK.nil <| LWP.condT rfl ?_; refine LWP.seq <| LWP.region (by kernel_rfl) <| K.build rfl rfl (by exact rfl) (by exact nl3 rfl rfl rfl rfl) .plain ?_; refine K.storeAll rfl rfl rfl rfl rfl rfl .plain ?_; refine RunK.nil <| LWP.ret ?_)
  exact ⟨[_], ⟨⟨_, _, rfl, rfl, rfl, .inl ⟨AggT.h, rfl⟩⟩, trivial⟩, rfl⟩
theorem Clamp_spec (k x : Int) (hx : R127 x) : PSpec Try.prog X 58 [Ln .i64 k, LQ x] (LQ (clampK k x)) := by
  have hF := Form_spec X (decide (x < 0)) (mg x) (mg_in2 hx) true (formB_q hx)
  have c1 := Cmp_q X x (-kB k) hx (kBn_R k)
  have c2 := Cmp_q X x (kA k) hx (kA_R k)
  have hL := Least_spec X k
  have hG := Greatest_spec X k
  have hk := kfacts k
  refine PSpec.intro Try.func58 rfl (by kernel_rfl) rfl rfl ?_
  intro C
  by_cases h1 : x < -kB k
  · have e : clampK k x = -kB k := if_pos h1
    rw [e]
    have c1' := c1 (-1) (by unfold cmpI; rw [if_pos h1])
    (refine LWP.seq <| LWP.region (by kernel_rfl) <| K.box rfl rfl rfl .plain <| K.alloc rfl .plain ?_; refine RunK.nil <| LWP.seq <| LWP.region (by kernel_rfl) <| kmv rfl <| kca rfl rfl (hL) <| kmv rfl <| kca rfl rfl (hG) <| K.alloc rfl .plain ?_; refine K.alloc rfl .plain ?_; refine K.storeAll rfl rfl rfl rfl rfl rfl .plain ?_; refine K.storeAll rfl rfl rfl rfl rfl rfl .plain ?_; refine RunK.nil <| LWP.seq <| LWP.block <| LWP.seq <| LWP.region (by kernel_rfl) <| K.loadAll rfl rfl rfl .plain ?_; refine kca rfl rfl (hF) <| K.not rfl rfl .plain <| kas rfl <| RunK.nil <| LWP.condF rfl ?_; refine LWP.seq <| LWP.region (by kernel_rfl) <| K.loadAll rfl rfl rfl .plain ?_; refine K.loadAll rfl rfl rfl .plain ?_; refine kca rfl rfl (c1') <| klt rfl rfl (decide_eq_true (by omega)) <| kas rfl <| RunK.nil <| LWP.condT rfl ?_; refine LWP.seq <| LWP.region (by kernel_rfl) <| K.loadAll rfl rfl rfl .plain ?_; refine K.storeAll rfl rfl rfl rfl rfl rfl .plain ?_; refine RunK.nil <| LWP.ret ?_)
    exact ⟨[_], ⟨⟨_, _, rfl, rfl, rfl, .inl ⟨AggT.h, rfl⟩⟩, trivial⟩, rfl⟩
  · have c1' : ∃ r : Int, 0 ≤ r ∧ cmpI x (-kB k) = r := ⟨_, (by unfold cmpI; rw [if_neg h1]; split <;> decide), rfl⟩
    obtain ⟨r, hr0, hr⟩ := c1'
    have c1' := c1 r hr
    by_cases h2 : kA k < x
    · have e : clampK k x = kA k := by unfold clampK; rw [if_neg h1, if_pos h2]
      rw [e]
      have c2' := c2 1 (by unfold cmpI; rw [if_neg (show ¬ x < kA k by omega), if_pos h2])
      (refine LWP.seq <| LWP.region (by kernel_rfl) <| K.box rfl rfl rfl .plain <| K.alloc rfl .plain ?_; refine RunK.nil <| LWP.seq <| LWP.region (by kernel_rfl) <| kmv rfl <| kca rfl rfl (hL) <| kmv rfl <| kca rfl rfl (hG) <| K.alloc rfl .plain ?_; refine K.alloc rfl .plain ?_; refine K.storeAll rfl rfl rfl rfl rfl rfl .plain ?_; refine K.storeAll rfl rfl rfl rfl rfl rfl .plain ?_; refine RunK.nil <| LWP.seq <| LWP.block <| LWP.seq <| LWP.region (by kernel_rfl) <| K.loadAll rfl rfl rfl .plain ?_; refine kca rfl rfl (hF) <| K.not rfl rfl .plain <| kas rfl <| RunK.nil <| LWP.condF rfl ?_; refine LWP.seq <| LWP.region (by kernel_rfl) <| K.loadAll rfl rfl rfl .plain ?_; refine K.loadAll rfl rfl rfl .plain ?_; refine kca rfl rfl c1' <| klt rfl rfl (decide_eq_false (by omega)) <| kas rfl <| RunK.nil <| LWP.condF rfl ?_; refine LWP.seq <| LWP.region (by kernel_rfl) <| K.loadAll rfl rfl rfl .plain ?_; refine K.loadAll rfl rfl rfl .plain ?_; refine kca rfl rfl c2' <| K.gtr rfl rfl (decide_eq_true (by omega)) .plain <| kas rfl <| RunK.nil <| LWP.condT rfl ?_; refine LWP.seq <| LWP.region (by kernel_rfl) <| K.loadAll rfl rfl rfl .plain ?_; refine K.storeAll rfl rfl rfl rfl rfl rfl .plain ?_; refine RunK.nil <| LWP.ret ?_)
      exact ⟨[_], ⟨⟨_, _, rfl, rfl, rfl, .inl ⟨AggT.h, rfl⟩⟩, trivial⟩, rfl⟩
    · have e : clampK k x = x := by unfold clampK; rw [if_neg h1, if_neg h2]
      rw [e]
      obtain ⟨s, hs0, hs⟩ : ∃ s : Int, s ≤ 0 ∧ cmpI x (kA k) = s := ⟨_, (by unfold cmpI; rw [if_neg h2]; split <;> decide), rfl⟩
      have c2' := c2 s hs
      (refine LWP.seq <| LWP.region (by kernel_rfl) <| K.box rfl rfl rfl .plain <| K.alloc rfl .plain ?_; refine RunK.nil <| LWP.seq <| LWP.region (by kernel_rfl) <| kmv rfl <| kca rfl rfl (hL) <| kmv rfl <| kca rfl rfl (hG) <| K.alloc rfl .plain ?_; refine K.alloc rfl .plain ?_; refine K.storeAll rfl rfl rfl rfl rfl rfl .plain ?_; refine K.storeAll rfl rfl rfl rfl rfl rfl .plain ?_; refine RunK.nil <| LWP.seq <| LWP.block <| LWP.seq <| LWP.region (by kernel_rfl) <| K.loadAll rfl rfl rfl .plain ?_; refine kca rfl rfl (hF) <| K.not rfl rfl .plain <| kas rfl <| RunK.nil <| LWP.condF rfl ?_; refine LWP.seq <| LWP.region (by kernel_rfl) <| K.loadAll rfl rfl rfl .plain ?_; refine K.loadAll rfl rfl rfl .plain ?_; refine kca rfl rfl c1' <| klt rfl rfl (decide_eq_false (by omega)) <| kas rfl <| RunK.nil <| LWP.condF rfl ?_; refine LWP.seq <| LWP.region (by kernel_rfl) <| K.loadAll rfl rfl rfl .plain ?_; refine K.loadAll rfl rfl rfl .plain ?_; refine kca rfl rfl c2' <| K.gtr rfl rfl (decide_eq_false (by omega)) .plain <| kas rfl <| RunK.nil <| LWP.condF rfl ?_; refine LWP.skip ?_; refine LWP.seq <| LWP.region (by kernel_rfl) <| K.loadAll rfl rfl rfl .plain ?_; refine K.storeAll rfl rfl rfl rfl rfl rfl .plain ?_; refine RunK.nil <| LWP.ret ?_)
      exact ⟨[_], ⟨⟨_, _, rfl, rfl, rfl, .inl ⟨AggT.h, rfl⟩⟩, trivial⟩, rfl⟩
/-- whether a number, raw ones too, is of a kind -/
def fitB (k : Int) (b : Bool) (N : Int) : Bool := kK k && (formB b N && fitZ k (zv b N))
theorem Fits_no (k : Int) (b : Bool) (N : Int) (hk : kK k = false) : PSpec Try.prog X 51 [Ln .i64 k, LI b N] (Lb false) := by
  refine PSpec.intro Try.func51 rfl (by kernel_rfl) rfl rfl ?_
  intro C
  (refine LWP.seq <| LWP.region (by kernel_rfl) <| K.box rfl rfl rfl .plain <| kas rfl <| RunK.nil <| LWP.seq <| LWP.draws mixed (by kernel_rfl) <| kmv rfl <| kca rfl rfl (isKind_spec X k false hk) <| kmv rfl <| RunK.passed rfl rfl rfl <| RunK.passed rfl rfl rfl <| RunK.passed rfl rfl rfl <| RunK.passed rfl rfl rfl ?_; refine RunK.passed rfl rfl rfl <| kpf rfl rfl <| kas rfl <| RunK.nil <| And.intro (by kernel_rfl) ?_; refine LWP.ret ?_)
  exact ⟨[_], ⟨rfl, trivial⟩, rfl⟩
theorem Fits_bad (k : Int) (b : Bool) (N : Int) (hk : kK k = true) (hN : In2 N) (hf : formB b N = false) : PSpec Try.prog X 51 [Ln .i64 k, LI b N] (Lb false) := by
  have hC := Clamp_bad X k b N hN hf
  have hq : (false == b && ((0 : Int) == N / 18446744073709551616 && (0 : Int) == N % 18446744073709551616)) = false := by
    cases hb : (false == b && ((0 : Int) == N / 18446744073709551616 && (0 : Int) == N % 18446744073709551616)) with
    | false => rfl
    | true =>
      simp only [Bool.and_eq_true, beq_iff_eq] at hb
      obtain ⟨rfl, h1, h2⟩ := hb
      have : N = 0 := by omega
      subst this
      cases hf
  refine PSpec.intro Try.func51 rfl (by kernel_rfl) rfl rfl ?_
  intro C
  (refine LWP.seq <| LWP.region (by kernel_rfl) <| K.box rfl rfl rfl .plain <| kas rfl <| RunK.nil <| LWP.seq <| LWP.draws mixed (by kernel_rfl) <| kmv rfl <| kca rfl rfl (isKind_spec X k true hk) <| kmv rfl <| gmv rfl rfl rfl <| K.loadAll rfl rfl rfl (.taken rfl rfl) ?_; refine gca rfl rfl (hC) rfl rfl <| K.loadAll rfl rfl rfl (.taken rfl rfl) ?_; refine K.aggEq rfl rfl rfl rfl (by kernel_rfl) (eqI false hq) (.inl ⟨rfl, rfl⟩) (.taken rfl rfl) ?_; refine kpt rfl rfl <| kas rfl <| RunK.nil <| And.intro (by kernel_rfl) ?_; refine LWP.ret ?_)
  exact ⟨[_], ⟨rfl, trivial⟩, rfl⟩
theorem Fits_q (k x : Int) (hk : kK k = true) (hx : R127 x) (r : Bool) (hr : fitZ k x = r) : PSpec Try.prog X 51 [Ln .i64 k, LQ x] (Lb r) := by
  have hC := Clamp_spec X k x hx
  have hq := clamp_same k x
  rw [hr] at hq
  refine PSpec.intro Try.func51 rfl (by kernel_rfl) rfl rfl ?_
  intro C
  (refine LWP.seq <| LWP.region (by kernel_rfl) <| K.box rfl rfl rfl .plain <| kas rfl <| RunK.nil <| LWP.seq <| LWP.draws mixed (by kernel_rfl) <| kmv rfl <| kca rfl rfl (isKind_spec X k true hk) <| kmv rfl <| gmv rfl rfl rfl <| K.loadAll rfl rfl rfl (.taken rfl rfl) ?_; refine gca rfl rfl (hC) rfl rfl <| K.loadAll rfl rfl rfl (.taken rfl rfl) ?_; refine K.aggEq rfl rfl rfl rfl (by kernel_rfl) (eqQ _ _ r hq) (.inl ⟨rfl, rfl⟩) (.taken rfl rfl) ?_; refine kpt rfl rfl <| kas rfl <| RunK.nil <| And.intro (by kernel_rfl) ?_; refine LWP.ret ?_)
  exact ⟨[_], ⟨rfl, trivial⟩, rfl⟩
theorem Fits_spec (k : Int) (b : Bool) (N : Int) (hN : In2 N) (r : Bool) (hr : fitB k b N = r) : PSpec Try.prog X 51 [Ln .i64 k, LI b N] (Lb r) := by
  subst hr
  unfold fitB
  cases hk : kK k with
  | false => exact Fits_no X k b N hk
  | true =>
    cases hf : formB b N with
    | false => exact Fits_bad X k b N hk hN hf
    | true =>
      rw [LI_q hN hf]
      exact Fits_q X k (zv b N) hk (zv_in hN hf).1 _ rfl
end Go.Proofs.Yteappfihapeakaa
end
section
namespace Go.Lg.Fld
open Go Go.Lg
/-- how many words there are -/
def kM (k : Int) : Nat := 256 ^ kW k
/-- the word of a number; the number of a word -/
def wdK (k x : Int) : Nat := (x % (kM k : Int)).toNat
def nbK (k : Int) (v : Nat) : Int := if kA k < v then (v : Int) - (kM k : Int) else v
theorem kM_facts {k : Int} (h : kK k = true) : kB k + kA k < (kM k : Int) ∧ (kM k : Int) ≤ 18446744073709551616 ∧ 0 < kM k := by
  rcases kin h with rfl | rfl | rfl | rfl | rfl | rfl | rfl | rfl | rfl | rfl <;> decide
theorem wd_lt {k : Int} (h : kK k = true) (x : Int) : wdK k x < 256 ^ kW k := by
  have := kM_facts h
  have h1 := Int.emod_nonneg x (show (kM k : Int) ≠ 0 by omega)
  have h2 := Int.emod_lt_of_pos x (show 0 < (kM k : Int) by omega)
  show wdK k x < kM k
  unfold wdK
  omega
theorem wd_of {k x : Int} (h : kK k = true) (hx : fitZ k x = true) : (wdK k x : Int) = if x < 0 then x + kM k else x := by
  obtain ⟨h1, h2, h3⟩ := kM_facts h
  obtain ⟨f1, f2, f3, f4, _⟩ := kfacts k
  obtain ⟨x1, x2⟩ := (fitZ_iff k x).1 hx
  unfold wdK
  by_cases c : x < 0
  · rw [if_pos c]
    have e : x % (kM k : Int) = x + kM k := by
      rw [← Int.add_emod_right]
      exact Int.emod_eq_of_lt (by omega) (by omega)
    rw [e]; omega
  · rw [if_neg c, Int.emod_eq_of_lt (by omega) (by omega)]; omega
theorem nb_wd {k x : Int} (h : kK k = true) (hx : fitZ k x = true) : nbK k (wdK k x) = x := by
  obtain ⟨h1, h2, h3⟩ := kM_facts h
  obtain ⟨f1, f2, f3, f4, _⟩ := kfacts k
  obtain ⟨x1, x2⟩ := (fitZ_iff k x).1 hx
  have e := wd_of h hx
  unfold nbK
  by_cases c : x < 0
  · rw [if_pos c] at e
    rw [if_pos (by omega)]; omega
  · rw [if_neg c] at e
    rw [if_neg (by omega)]; omega
end Go.Lg.Fld
namespace Go.Proofs.Yteappfihapeakaa
open Go Go.Lg Go.Lg.Fld
set_option maxRecDepth 100000
variable (X : Nat → Option Obj)
theorem fit_R {k x : Int} (h : fitZ k x = true) : R127 x := by
  have := kfacts k
  rw [fitZ_iff] at h
  unfold R127; omega
theorem nb_R {k : Int} {v : Nat} (h : kK k = true) (hv : v < 256 ^ kW k) : R127 (nbK k v) := by
  have := kM_facts h
  have hv : v < kM k := hv
  unfold R127 nbK
  split <;> omega
end Go.Proofs.Yteappfihapeakaa
end
section
namespace Go.Lg.Fld
open Go Go.Lg
/-- the kind of a name; 0: there is none -/
def named (l : List UInt8) : Int := if kN 1 = l then 1 else if kN 2 = l then 2 else if kN 3 = l then 3 else if kN 4 = l then 4 else if kN 5 = l then 5 else if kN 6 = l then 6 else if kN 7 = l then 7 else if kN 8 = l then 8 else if kN 9 = l then 9 else if kN 10 = l then 10 else 0
theorem named_at {l : List UInt8} {k : Int} (hk : kK k = true) (h : kN k = l) : named l = k := by
  subst h
  rcases kin hk with rfl | rfl | rfl | rfl | rfl | rfl | rfl | rfl | rfl | rfl <;> decide
theorem named_no {l : List UInt8} (h : ∀ j : Int, kK j = true → kN j ≠ l) : named l = 0 := by
  unfold named
  rw [if_neg (h 1 rfl), if_neg (h 2 rfl), if_neg (h 3 rfl), if_neg (h 4 rfl), if_neg (h 5 rfl), if_neg (h 6 rfl), if_neg (h 7 rfl), if_neg (h 8 rfl), if_neg (h 9 rfl), if_neg (h 10 rfl)]
theorem named_le (l : List UInt8) : 0 ≤ named l ∧ named l ≤ 10 := by
  unfold named
  (repeat' split) <;> omega
theorem named_kin {l : List UInt8} (h : named l ≠ 0) : kK (named l) = true := by
  have := named_le l
  rw [kK_iff]; omega
theorem named_kN {l : List UInt8} (h : named l ≠ 0) : kN (named l) = l := by
  rcases Classical.em (∃ j : Int, kK j = true ∧ kN j = l) with ⟨j, hj, e⟩ | hn
  · rw [named_at hj e, e]
  · exact absurd (named_no fun j hj e => hn ⟨j, hj, e⟩) h
end Go.Lg.Fld
namespace Go.Proofs.Yteappfihapeakaa
open Go Go.Lg Go.Lg.Fld
set_option maxRecDepth 100000
variable (X : Nat → Option Obj)
theorem isW_k {k : Int} (h : kK k = true) : isW (kW k : Nat) = true := by
  rcases kW_in h with e | e | e | e <;> rw [e] <;> rfl
end Go.Proofs.Yteappfihapeakaa
end
section
namespace Go.Proofs.Yteappfihapeakaa
open Go Go.Lg Go.Lg.Fld
set_option maxRecDepth 100000
variable (X : Nat → Option Obj)
/-- the cells of a number -/
abbrev cI (b : Bool) (n : Int) : List CV := [.val (.bool b), .val (.int .u64 (n / 18446744073709551616)), .val (.int .u64 (n % 18446744073709551616))]
/-- the cells of a number that is in form -/
abbrev cQ (z : Int) : List CV := [.val (.bool (decide (z < 0))), .val (.int .u64 (mg z / 18446744073709551616)), .val (.int .u64 (mg z % 18446744073709551616))]
theorem zero_fit (k : Int) : fitZ k 0 = true := by
  have := kfacts k
  rw [fitZ_iff]; omega
/-- what Clamp answers -/
def nearK (k : Int) (b : Bool) (N : Int) : Int := if formB b N = true then clampK k (zv b N) else 0
theorem near_fit (k : Int) (b : Bool) (N : Int) : fitZ k (nearK k b N) = true := by
  unfold nearK
  split
  · exact clamp_fit k _
  · exact zero_fit k
theorem S0_q : (.sv S0 : LV) = LQ 0 := rfl
theorem Clamp_any (k : Int) (b : Bool) (N : Int) (hN : In2 N) : PSpec Try.prog X 58 [Ln .i64 k, LI b N] (LQ (nearK k b N)) := by
  cases hf : formB b N with
  | true =>
    have h := Clamp_spec X k (zv b N) (zv_in hN hf).1
    rw [← LI_q hN hf] at h
    unfold nearK
    rw [if_pos hf]
    exact h
  | false =>
    have h := Clamp_bad X k b N hN hf
    have e : nearK k b N = 0 := by unfold nearK; rw [if_neg (by rw [hf]; simp)]
    rw [e, ← S0_q]
    exact h
theorem fit_more {k : Int} (h : 2 ≤ k ∧ k < 5 ∨ 6 ≤ k ∧ k < 9) (b : Bool) (N : Int) (hf : fitB k b N = true) : fitB (k + 1) b N = true := by
  have hk : kK (k + 1) = true := by rw [kK_iff]; omega
  simp only [fitB, Bool.and_eq_true, fitZ_iff] at hf ⊢
  refine ⟨hk, hf.2.1, ?_⟩
  have : kB k ≤ kB (k + 1) ∧ kA k ≤ kA (k + 1) := by
    have hc : k = 2 ∨ k = 3 ∨ k = 4 ∨ k = 6 ∨ k = 7 ∨ k = 8 := by omega
    rcases hc with rfl | rfl | rfl | rfl | rfl | rfl <;> decide
  omega
theorem fit_less {k : Int} (h : 6 ≤ k ∧ k < 9) (b : Bool) (N : Int) (hf : fitB k b N = true) : fitB (k - 3) b N = true := by
  have hk : kK (k - 3) = true := by rw [kK_iff]; omega
  simp only [fitB, Bool.and_eq_true, fitZ_iff] at hf ⊢
  refine ⟨hk, hf.2.1, ?_⟩
  have : kB k ≤ kB (k - 3) ∧ kA k ≤ kA (k - 3) := by
    have hc : k = 6 ∨ k = 7 ∨ k = 8 := by omega
    rcases hc with rfl | rfl | rfl <;> decide
  omega
theorem clamp_mono (k : Int) {x y : Int} (h : x ≤ y) : clampK k x ≤ clampK k y := by
  have := kfacts k
  unfold clampK
  (repeat' split) <;> omega
end Go.Proofs.Yteappfihapeakaa
end
section
namespace Go.Lg.Dig
open Go Go.Lg
/-- a digit in base 256 -/
def dg (n j : Nat) : Nat := n / 256 ^ j % 256
def dv (d : Nat) : CV := .val (.int .i64 (d : Nat))
/-- 40 digits -/
def dlf (f : Nat → Nat) : List Nat := (List.range 40).map f
/-- the cells of a sign and 40 digits -/
def num (b : Bool) (f : Nat → Nat) : List CV := .val (.bool b) :: (dlf f).map dv
theorem dlf_congr {f g : Nat → Nat} (h : ∀ j, j < 40 → f j = g j) : dlf f = dlf g := by
  unfold dlf
  exact List.map_congr_left fun j hj => h j (List.mem_range.1 hj)
theorem num_congr {b : Bool} {f g : Nat → Nat} (h : ∀ j, j < 40 → f j = g j) : num b f = num b g := by
  unfold num
  rw [dlf_congr h]
theorem num_at {b : Bool} {f : Nat → Nat} {i : Nat} (hi : i < 40) : (num b f)[1 + i * 1]? = some (dv (f i)) := by
  rw [Nat.mul_one, Nat.add_comm]
  simp [num, dlf, hi]
theorem num_set {b : Bool} {f : Nat → Nat} {i d : Nat} (hi : i < 40) : (num b f).set (1 + i * 1) (dv d) = num b (fun j => if j = i then d else f j) := by
  rw [Nat.mul_one, Nat.add_comm]
  unfold num
  rw [List.set_cons_succ]
  congr 1
  apply List.ext_getElem?
  intro j
  rw [List.getElem?_set]
  by_cases h : i = j
  · subst h
    simp [dlf, hi]
  · rw [if_neg h]
    by_cases hj : j < 40
    · simp [dlf, hj, show ¬ j = i from fun e => h e.symm]
    · simp [dlf, hj]
theorem num_sign {b c : Bool} {f : Nat → Nat} : (num b f).set 0 (.val (.bool c)) = num c f := rfl
theorem dg_lt (n j : Nat) : dg n j < 256 := Nat.mod_lt _ (by decide)
theorem pow_pos (j : Nat) : 0 < 256 ^ j := Nat.pow_pos (by decide)
theorem dg_high {n j : Nat} (h : n < 256 ^ j) : dg n j = 0 := by
  unfold dg
  rw [Nat.div_eq_of_lt h]
theorem dg_zero (j : Nat) : dg 0 j = 0 := by
  unfold dg
  rw [Nat.zero_div]
/-- the rest below a place, a place higher -/
theorem mod_next (n i : Nat) : n % 256 ^ (i + 1) = n % 256 ^ i + dg n i * 256 ^ i := by
  unfold dg
  rw [Nat.pow_succ, Nat.mod_mul, Nat.mul_comm (256 ^ i)]
theorem div_next (n i : Nat) : n / 256 ^ i = n / 256 ^ (i + 1) * 256 + dg n i := by
  unfold dg
  rw [Nat.pow_succ, ← Nat.div_div_eq_div_mul]
  omega
theorem pow40 : 256 ^ 40 = 2135987035920910082395021706169552114602704522356652769947041607822219725780640550022962086936576 := by decide
end Go.Lg.Dig
namespace Go.Lg.Dig
open Go Go.Lg
theorem num_length {b : Bool} {f : Nat → Nat} : (num b f).length = 41 := by simp [num, dlf]
theorem num_blt {b : Bool} {f : Nat → Nat} {i : Nat} (hi : i < 40) : Nat.blt (1 + i * 1) (num b f).length = true := by
  rw [num_length, Nat.blt_eq]
  omega
theorem div_div (n i : Nat) : n / 256 ^ i / 256 = n / 256 ^ (i + 1) := by rw [Nat.pow_succ, Nat.div_div_eq_div_mul]
end Go.Lg.Dig
namespace Go.Lg.Dig
/-- what is borrowed below a place -/
def bor (M N i : Nat) : Nat := if M % 256 ^ i < N % 256 ^ i then 1 else 0
def car (M N i : Nat) : Nat := (M % 256 ^ i + N % 256 ^ i) / 256 ^ i
theorem bor_le (M N i : Nat) : bor M N i ≤ 1 := by unfold bor; split <;> omega
theorem sub_div {M N i : Nat} (h : N ≤ M) : (M - N) / 256 ^ i = M / 256 ^ i - N / 256 ^ i - bor M N i ∧ N / 256 ^ i + bor M N i ≤ M / 256 ^ i := by
  have hp := pow_pos i
  have e1 := Nat.div_add_mod M (256 ^ i)
  have e2 := Nat.div_add_mod N (256 ^ i)
  have m1 := Nat.mod_lt M hp
  have m2 := Nat.mod_lt N hp
  unfold bor
  generalize 256 ^ i = p at *
  have hle : N / p ≤ M / p := Nat.div_le_div_right h
  generalize M / p = A at *
  generalize N / p = B at *
  generalize M % p = m at *
  generalize N % p = n at *
  by_cases c : m < n
  · rw [if_pos c]
    have hlt : B + 1 ≤ A := by
      by_cases e : A = B
      · subst e; omega
      · omega
    refine ⟨Nat.div_eq_of_lt_le ?_ ?_, hlt⟩
    · obtain ⟨k, rfl⟩ : ∃ k, A = B + 1 + k := ⟨A - (B + 1), by omega⟩
      rw [show B + 1 + k - B - 1 = k by omega, Nat.mul_comm k]
      rw [Nat.mul_add, Nat.mul_add] at e1
      omega
    · obtain ⟨k, rfl⟩ : ∃ k, A = B + 1 + k := ⟨A - (B + 1), by omega⟩
      rw [show B + 1 + k - B - 1 + 1 = k + 1 by omega, Nat.mul_comm (k + 1), Nat.mul_add]
      rw [Nat.mul_add, Nat.mul_add] at e1
      omega
  · rw [if_neg c]
    refine ⟨Nat.div_eq_of_lt_le ?_ ?_, by omega⟩
    · obtain ⟨k, rfl⟩ : ∃ k, A = B + k := ⟨A - B, by omega⟩
      rw [show B + k - B - 0 = k by omega, Nat.mul_comm k]
      rw [Nat.mul_add] at e1
      omega
    · obtain ⟨k, rfl⟩ : ∃ k, A = B + k := ⟨A - B, by omega⟩
      rw [show B + k - B - 0 + 1 = k + 1 by omega, Nat.mul_comm (k + 1), Nat.mul_add]
      rw [Nat.mul_add] at e1
      omega
theorem bor_next (M N i : Nat) : bor M N (i + 1) = if dg M i < dg N i + bor M N i then 1 else 0 := by
  have hp := pow_pos i
  have m1 := Nat.mod_lt M hp
  have m2 := Nat.mod_lt N hp
  unfold bor
  rw [mod_next, mod_next]
  generalize 256 ^ i = p at *
  generalize M % p = m at *
  generalize N % p = n at *
  generalize dg M i = a
  generalize dg N i = b
  rcases Nat.lt_trichotomy a b with h | h | h
  · obtain ⟨k, rfl⟩ : ∃ k, b = a + 1 + k := ⟨b - (a + 1), by omega⟩
    rw [if_pos (by rw [Nat.add_mul, Nat.add_mul]; omega), if_pos (by omega)]
  · subst h
    by_cases c : m < n
    · rw [if_pos (by omega), if_pos c, if_pos (by omega)]
    · rw [if_neg (by omega), if_neg c, if_neg (by omega)]
  · obtain ⟨k, rfl⟩ : ∃ k, a = b + 1 + k := ⟨a - (b + 1), by omega⟩
    rw [if_neg (by rw [Nat.add_mul, Nat.add_mul]; omega), if_neg (by split <;> omega)]
theorem sub_digit {M N i : Nat} (h : N ≤ M) :
    (dg M i < dg N i + bor M N i → dg (M - N) i + dg N i + bor M N i = dg M i + 256) ∧ (dg N i + bor M N i ≤ dg M i → dg (M - N) i + dg N i + bor M N i = dg M i) := by
  obtain ⟨e, hle⟩ := sub_div (i := i) h
  have hb := bor_le M N i
  unfold dg
  rw [e]
  generalize M / 256 ^ i = A at *
  generalize N / 256 ^ i = B at *
  generalize bor M N i = c at *
  omega
theorem add_div (M N i : Nat) : (M + N) / 256 ^ i = M / 256 ^ i + N / 256 ^ i + car M N i := by
  have hp := pow_pos i
  have e1 := Nat.div_add_mod M (256 ^ i)
  have e2 := Nat.div_add_mod N (256 ^ i)
  unfold car
  generalize 256 ^ i = p at *
  conv => lhs; rw [← e1, ← e2]
  rw [show p * (M / p) + M % p + (p * (N / p) + N % p) = (M % p + N % p) + p * (M / p + N / p) by rw [Nat.mul_add]; omega, Nat.add_mul_div_left _ _ hp]
  omega
theorem car_next (M N i : Nat) : car M N (i + 1) = (dg M i + dg N i + car M N i) / 256 := by
  have h1 := add_div M N i
  have h2 := add_div M N (i + 1)
  have d1 := div_next M i
  have d2 := div_next N i
  have d3 := div_div (M + N) i
  have l1 := dg_lt M i
  have l2 := dg_lt N i
  omega
theorem add_digit (M N i : Nat) : dg (M + N) i = (dg M i + dg N i + car M N i) % 256 := by
  have h1 := add_div M N i
  unfold dg
  rw [h1]
  omega
theorem car_le (M N i : Nat) : car M N i ≤ 1 := by
  have hp := pow_pos i
  have m1 := Nat.mod_lt M hp
  have m2 := Nat.mod_lt N hp
  unfold car
  generalize 256 ^ i = p at *
  have : (M % p + N % p) / p < 2 := by rw [Nat.div_lt_iff_lt_mul hp]; omega
  omega
theorem lt_digit {M N i : Nat} (h : M / 256 ^ (i + 1) = N / 256 ^ (i + 1)) (hd : dg M i < dg N i) : M < N := by
  have d1 := div_next M i
  have d2 := div_next N i
  rcases Nat.lt_or_ge M N with c | c
  · exact c
  · have := Nat.div_le_div_right (c := 256 ^ i) c
    omega
end Go.Lg.Dig
namespace Go.Lg.Dig
theorem dg_mod {n i k : Nat} (h : i < k) : dg (n % 256 ^ k) i = dg n i := by
  obtain ⟨t, rfl⟩ : ∃ t, k = i + 1 + t := ⟨k - (i + 1), by omega⟩
  unfold dg
  rw [Nat.pow_add, Nat.pow_succ, Nat.mul_assoc, Nat.mod_mul_right_div_self, Nat.mod_mul_right_mod]
theorem dg_shift (n k i : Nat) : dg n (k + i) = dg (n / 256 ^ k) i := by
  unfold dg
  rw [Nat.pow_add, Nat.div_div_eq_div_mul]
theorem top_zero {n k : Nat} (h : n < 256 ^ (k + 1)) (hd : dg n k = 0) : n < 256 ^ k := by
  have hp := pow_pos k
  unfold dg at hd
  rw [Nat.pow_succ] at h
  have : n / 256 ^ k < 256 := by rw [Nat.div_lt_iff_lt_mul hp]; rw [Nat.mul_comm]; exact h
  have key : ∀ q : Nat, q < 256 → q % 256 = 0 → q = 0 := by omega
  exact (Nat.div_eq_zero_iff_lt hp).1 (key _ this hd)
theorem all_zero {n k : Nat} : ∀ t, n < 256 ^ (k + t) → (∀ j, k ≤ j → j < k + t → dg n j = 0) → n < 256 ^ k
  | 0, h, _ => h
  | t + 1, h, hz => all_zero t (top_zero h (hz (k + t) (by omega) (by omega))) fun j h1 h2 => hz j h1 (by omega)
end Go.Lg.Dig
namespace Go.Lg.Dig
open Go Go.Lg
theorem dg_add_mul {T y k x : Nat} (h : x < k) : dg (T + y * 256 ^ k) x = dg T x := by
  rw [← dg_mod h, Nat.add_mul_mod_self_right, dg_mod h]
/-- the digits of one number below a place, of another one above -/
def mix (T S k x : Nat) : Nat := if x < k then dg T x else dg S x
theorem mix_step (s : Bool) {T S k y : Nat} {d : Nat} (hd : d = dg (T + y * 256 ^ k) k) :
    num s (fun x => if x = k then d else mix T S k x) = num s (mix (T + y * 256 ^ k) S (k + 1)) := num_congr fun x _ => by
  unfold mix
  by_cases c : x = k
  · subst c
    rw [if_pos rfl, if_pos (by omega), hd]
  · rw [if_neg c]
    by_cases c2 : x < k
    · rw [if_pos c2, if_pos (by omega), dg_add_mul c2]
    · rw [if_neg c2, if_neg (by omega)]
theorem mix_all (s : Bool) {T S k : Nat} (h : T / 256 ^ k = S / 256 ^ k) : num s (mix T S k) = num s (dg T) := num_congr fun x _ => by
  unfold mix
  by_cases c : x < k
  · rw [if_pos c]
  · obtain ⟨y, rfl⟩ : ∃ y, x = k + y := ⟨x - k, by omega⟩
    rw [if_neg c, dg_shift, dg_shift, h]
theorem mul_step {T S k y c : Nat} (hST : S ≤ T) (hc : c = T / 256 ^ k - S / 256 ^ k) :
    (dg S k + c + y) % 256 = dg (T + y * 256 ^ k) k ∧ (dg S k + c + y) / 256 = (T + y * 256 ^ k) / 256 ^ (k + 1) - S / 256 ^ (k + 1) := by
  have hp := pow_pos k
  have h1 : (T + y * 256 ^ k) / 256 ^ k = T / 256 ^ k + y := by rw [Nat.add_mul_div_right _ _ hp]
  have h2 := div_next S k
  have h3 := div_div (T + y * 256 ^ k) k
  have hle : S / 256 ^ k ≤ T / 256 ^ k := Nat.div_le_div_right hST
  have h4 : dg (T + y * 256 ^ k) k = (T + y * 256 ^ k) / 256 ^ k % 256 := rfl
  rw [h4, ← h3, h1]
  generalize T / 256 ^ k = A at *
  generalize S / 256 ^ k = B at *
  generalize S / 256 ^ (k + 1) = C at *
  generalize dg S k = D at *
  omega
theorem dg_mid {C t i x : Nat} (ht : t < 256) : dg (C * 256 ^ (i + 1) + t * 256 ^ i) x = if x < i then 0 else if x = i then t else dg C (x - (i + 1)) := by
  have hp := pow_pos i
  have e : C * 256 ^ (i + 1) + t * 256 ^ i = 0 + (C * 256 + t) * 256 ^ i := by rw [Nat.pow_succ, Nat.add_mul, Nat.mul_assoc, Nat.mul_comm 256, Nat.zero_add]
  by_cases c : x < i
  · rw [if_pos c, e, dg_add_mul c, dg_zero]
  · rw [if_neg c]
    obtain ⟨y, rfl⟩ : ∃ y, x = i + y := ⟨x - i, by omega⟩
    rw [dg_shift, e, Nat.zero_add, Nat.mul_div_cancel _ hp]
    by_cases c2 : i + y = i
    · have : y = 0 := by omega
      subst this
      rw [if_pos c2]
      unfold dg
      rw [Nat.pow_zero, Nat.div_one]
      omega
    · rw [if_neg c2]
      obtain ⟨z, rfl⟩ : ∃ z, y = 1 + z := ⟨y - 1, by omega⟩
      rw [dg_shift, show i + (1 + z) - (i + 1) = z by omega]
      congr 1
      rw [Nat.pow_one]
      omega
end Go.Lg.Dig
namespace Go.Lg.Dig
open Go Go.Lg
theorem num_blt0 {b : Bool} {f : Nat → Nat} : Nat.blt 0 (num b f).length = true := by rw [num_length]; rfl
/-- digits that are being moved up: those above the place are moved -/
def shf (R t x : Nat) : Nat := if t < x then dg R (x - 1) else dg R x
theorem shf_start (s : Bool) (R : Nat) : num s (shf R 39) = num s (dg R) := num_congr fun x hx => by unfold shf; rw [if_neg (by omega)]
theorem shf_step (s : Bool) (R t : Nat) : num s (fun x => if x = t + 1 then dg R t else shf R (t + 1) x) = num s (shf R t) := num_congr fun x _ => by
  unfold shf
  by_cases c : x = t + 1
  · subst c
    rw [if_pos rfl, if_pos (by omega), show t + 1 - 1 = t by omega]
  · rw [if_neg c]
    simp only [show (t + 1 < x ↔ t < x) by omega]
theorem shf_end (s : Bool) (R d : Nat) (hd : d < 256) : num s (fun x => if x = 0 then d else shf R 0 x) = num s (dg (R * 256 + d)) := num_congr fun x _ => by
  unfold shf
  cases x with
  | zero =>
    rw [if_pos rfl]
    unfold dg
    rw [Nat.pow_zero, Nat.div_one]
    omega
  | succ y =>
    rw [if_neg (by omega), if_pos (by omega), Nat.add_comm y 1, dg_shift, show 1 + y - 1 = y by omega, Nat.pow_one, show (R * 256 + d) / 256 = R by omega]
theorem mid_step (s : Bool) {C t i : Nat} (ht : t + 1 < 256) : num s (fun x => if x = i then t + 1 else dg (C * 256 ^ (i + 1) + t * 256 ^ i) x) = num s (dg (C * 256 ^ (i + 1) + (t + 1) * 256 ^ i)) := num_congr fun x _ => by
  rw [dg_mid (by omega), dg_mid ht]
  by_cases c : x = i
  · rw [if_pos c, if_neg (by omega), if_pos c]
  · rw [if_neg c]
    by_cases c2 : x < i
    · rw [if_pos c2, if_pos c2]
    · rw [if_neg c2, if_neg c2, if_neg c, if_neg c]
theorem mid_at {C t i : Nat} (ht : t < 256) : dg (C * 256 ^ (i + 1) + t * 256 ^ i) i = t := by rw [dg_mid ht, if_neg (by omega), if_pos rfl]
/-- one digit more of a quotient -/
theorem quo_step {A B i t V : Nat} (hB : 0 < B) (h : V + t * B = A / 256 ^ (i + 1) % B * 256 + dg A i) (hV : V < B) :
    A / 256 ^ i / B * 256 ^ i = A / 256 ^ (i + 1) / B * 256 ^ (i + 1) + t * 256 ^ i ∧ A / 256 ^ i % B = V := by
  have e1 := div_next A i
  have e2 := Nat.div_add_mod (A / 256 ^ (i + 1)) B
  have e3 : A / 256 ^ i = V + B * (A / 256 ^ (i + 1) / B * 256 + t) := by
    rw [e1, Nat.mul_add, Nat.mul_comm B t, ← Nat.mul_assoc]
    generalize B * (A / 256 ^ (i + 1) / B) = x at *
    omega
  constructor
  · rw [e3, Nat.add_mul_div_left _ _ hB, Nat.div_eq_of_lt hV, Nat.zero_add, Nat.add_mul, Nat.pow_succ, Nat.mul_assoc, Nat.mul_comm 256]
  · rw [e3, Nat.add_mul_mod_self_left, Nat.mod_eq_of_lt hV]
end Go.Lg.Dig
end
section
namespace Go.Proofs.Yteappfihapeakaa
open Go Go.Lg Go.Lg.Arith Go.Lg.Dig Go.RowKit
variable (X : Nat → Option Obj)
abbrev LN (b : Bool) (f : Nat → Nat) : LV := .sv (.agg (num b f))
abbrev SN (b : Bool) (f : Nat → Nat) : SV := .agg (num b f)
/-- the digits of two words -/
def two (l h i : Nat) (j : Nat) : Nat := if j < i then dg l j else if 8 ≤ j ∧ j < 8 + i then dg h (j - 8) else 0
theorem two_dg {l h : Nat} (hl : l < 18446744073709551616) (hh : h < 18446744073709551616) (j : Nat) : two l h 8 j = dg (h * 18446744073709551616 + l) j := by
  have e64 : 18446744073709551616 = 256 ^ 8 := by decide
  unfold two dg
  by_cases h1 : j < 8
  · rw [if_pos h1]
    obtain ⟨k, hk⟩ : ∃ k, 8 = j + 1 + k := ⟨7 - j, by omega⟩
    have hp := pow_pos j
    rw [e64, hk, Nat.pow_add, Nat.pow_succ]
    generalize 256 ^ k = q
    generalize 256 ^ j = p at *
    rw [show h * (p * 256 * q) + l = l + p * (256 * (q * h)) by rw [Nat.mul_comm h, Nat.mul_assoc, Nat.mul_assoc, Nat.add_comm], Nat.add_mul_div_left _ _ hp]
    omega
  · rw [if_neg h1]
    obtain ⟨k, rfl⟩ : ∃ k, j = 8 + k := ⟨j - 8, by omega⟩
    have e : (h * 18446744073709551616 + l) / 256 ^ (8 + k) = h / 256 ^ k := by
      rw [Nat.pow_add, ← e64, ← Nat.div_div_eq_div_mul]
      congr 1
      omega
    rw [e]
    by_cases h2 : 8 + k < 16
    · rw [if_pos ⟨by omega, by omega⟩, show 8 + k - 8 = k by omega]
    · rw [if_neg (by omega)]
      have : h < 256 ^ k := Nat.lt_of_lt_of_le hh (by rw [e64]; exact Nat.pow_le_pow_right (by decide) (by omega))
      rw [Nat.div_eq_of_lt this]
theorem From_raw (b : Bool) (h l : Nat) (hh : h < 18446744073709551616) (hl : l < 18446744073709551616) :
    PSpec Try.prog X 68 [Li b (h : Nat) (l : Nat)] (LN b (two l h 8)) := by
  refine PSpec.intro Try.func68 rfl (by kernel_rfl) rfl (by kernel_rfl) ?_
  intro C
  (refine LWP.seq <| LWP.region (by kernel_rfl) <| K.box rfl rfl rfl .plain <| K.alloc rfl .plain ?_; refine RunK.nil <| LWP.seq <| LWP.region (by kernel_rfl) <| kfa rfl rfl ?_; refine kl1 rfl rfl rfl <| K.build rfl rfl (by exact rfl) (by exact rfl) .plain ?_; refine K.alloc rfl .plain ?_; refine K.storeAll rfl rfl rfl rfl rfl rfl .plain ?_; refine RunK.nil <| LWP.seq <| LWP.region (by kernel_rfl) <| kfa rfl rfl ?_; refine kl1 rfl rfl rfl <| kas rfl <| RunK.nil <| LWP.seq <| LWP.region (by kernel_rfl) <| kfa rfl rfl ?_; refine kl1 rfl rfl rfl <| kas rfl <| RunK.nil <| LWP.seq <| LWP.seq <| LWP.region (by kernel_rfl) <| kas rfl <| RunK.nil <| LWP.block ?_)
  refine LWP.loop (fun m σ => ∃ i : Nat, i ≤ 8 ∧ m = 8 - i ∧ σ = ⟨[(2, .sv (.one (.ptr 2 0))), (3, .sv (.one (.ptr 3 0))), (4, Ln .u64 ((h / 256 ^ i : Nat) : Int)), (5, Ln .u64 ((l / 256 ^ i : Nat) : Int)), (6, Ln .i64 (i : Nat))], [(2, some { elem := 116, cells := num false (fun _ => 0) }), (3, some { elem := 116, cells := num b (two l h i) })], X⟩) 8
    ⟨_, Le.of (by exact ⟨rfl, rfl, by rw [Nat.pow_zero, Nat.div_one]; rfl, by rw [Nat.pow_zero, Nat.div_one]; rfl, rfl, trivial⟩) (by exact ⟨rfl, rfl, trivial⟩) (by exact rfl) (by exact rfl) (by exact rfl), 0, by omega, rfl, rfl⟩ ?_
  rintro m σ ⟨i, hi, rfl, rfl⟩
  by_cases h8 : i < 8
  · have bl : l / 256 ^ i ≤ l := Nat.div_le_self _ _
    have bh : h / 256 ^ i ≤ h := Nat.div_le_self _ _
    have el : dg l i = l / 256 ^ i % 256 := rfl
    have eh : dg h i = h / 256 ^ i % 256 := rfl
    have nl := div_div l i
    have nh := div_div h i
    have step : num b (fun j => if j = 8 + i then dg h i else if j = i then dg l i else two l h i j) = num b (two l h (i + 1)) := by
      refine num_congr fun j _ => ?_
      unfold two
      by_cases c1 : j = i
      · subst c1
        rw [if_neg (by omega), if_pos rfl, if_pos (by omega)]
      · by_cases c2 : j = 8 + i
        · subst c2
          rw [if_pos rfl, if_neg (by omega), if_pos ⟨by omega, by omega⟩, show 8 + i - 8 = i by omega]
        · rw [if_neg c2, if_neg c1]
          simp only [show (j < i + 1 ↔ j < i) by omega, show (8 ≤ j ∧ j < 8 + (i + 1) ↔ 8 ≤ j ∧ j < 8 + i) by omega]
    generalize hu' : l / 256 ^ (i + 1) = u' at *
    generalize hv' : h / 256 ^ (i + 1) = v' at *
    generalize l / 256 ^ i = u at *
    generalize h / 256 ^ i = v at *
    have wl : IntKind.i64.wrap ((u : Int) % 256) = ((dg l i : Nat) : Int) := by rw [wrap_i64 (by omega)]; omega
    have wh : IntKind.i64.wrap ((v : Int) % 256) = ((dg h i : Nat) : Int) := by rw [wrap_i64 (by omega)]; omega
    have ql : IntKind.u64.wrap ((u : Int).tdiv 256) = (u' : Int) := by rw [quo_u64 (by omega) (by omega)]; omega
    have qh : IntKind.u64.wrap ((v : Int).tdiv 256) = (v' : Int) := by rw [quo_u64 (by omega) (by omega)]; omega
    (refine LWP.seq <| LWP.seq <| LWP.region (by kernel_rfl) <| kmv rfl <| klt rfl rfl (decide_eq_true (by omega)) <| RunK.nil <| LWP.condT rfl ?_; refine LWP.skip ?_; refine LWP.seq <| LWP.block <| LWP.seq <| LWP.region (by kernel_rfl) <| kmv rfl <| kmv rfl <| K.rem rfl rfl (by omega) (rem_pos (by omega)) .plain <| kcv rfl wl ?_; refine kfa rfl rfl ?_; refine K.indexArr rfl rfl (by omega) rfl .plain ?_; refine K.storeOne rfl rfl rfl rfl (num_blt (i := i) (by omega)) (num_set (i := i) (d := dg l i) (by omega)) .plain <| RunK.nil <| LWP.seq <| LWP.region (by kernel_rfl) <| kmv rfl <| kad rfl rfl (wrap_i64 (by omega)) <| kmv rfl <| K.rem rfl rfl (by omega) (rem_pos (by omega)) .plain <| kcv rfl wh ?_; refine kfa rfl rfl ?_; refine K.indexArr rfl rfl (by omega) rfl .plain ?_; refine K.storeOne rfl rfl rfl rfl (num_blt (i := 8 + i) (by omega)) (num_set (i := 8 + i) (d := dg h i) (by omega)) .plain <| RunK.nil <| LWP.seq <| LWP.region (by kernel_rfl) <| kmv rfl <| K.quo rfl rfl (by omega) ql .plain <| kas rfl <| RunK.nil <| LWP.region (by kernel_rfl) <| kmv rfl <| K.quo rfl rfl (by omega) qh .plain <| kas rfl <| RunK.nil <| LWP.region (by kernel_rfl) ?_; refine kmv rfl <| kad rfl rfl (wrap_i64 (by omega)) <| kas rfl <| RunK.nil ?_)
    exact ⟨_, _, by omega, Le.of (by exact ⟨rfl, rfl, by rw [hv']; rfl, by rw [hu']; rfl, rfl, trivial⟩) (by exact ⟨rfl, by rw [← step]; rfl, trivial⟩) (by exact rfl) (by exact rfl) (by exact rfl), i + 1, by omega, rfl, rfl⟩
  · have e : i = 8 := by omega
    subst e
    (refine LWP.seq <| LWP.seq <| LWP.region (by kernel_rfl) <| kmv rfl <| klt rfl rfl (decide_eq_false (by omega)) <| RunK.nil <| LWP.condF rfl ?_; refine LWP.exit <| LWP.seq <| LWP.region (by kernel_rfl) <| K.loadAll rfl rfl rfl .plain ?_; refine K.storeAll rfl rfl rfl rfl rfl rfl .plain ?_; refine RunK.nil <| LWP.ret ?_)
    exact ⟨[_], ⟨⟨_, _, rfl, rfl, rfl, .inl ⟨AggT.h, rfl⟩⟩, trivial⟩, rfl⟩
end Go.Proofs.Yteappfihapeakaa
end
section
namespace Go.Proofs.Yteappfihapeakaa
open Go Go.Lg Go.Lg.Arith Go.Lg.Dig Go.RowKit
variable (X : Nat → Option Obj)
theorem From_spec (b : Bool) (n : Nat) (hn : n < 340282366920938463463374607431768211456) : PSpec Try.prog X 68 [LI b (n : Nat)] (LN b (dg n)) := by
  have h := From_raw X b (n / 18446744073709551616) (n % 18446744073709551616) (by omega) (by omega)
  have e : num b (two (n % 18446744073709551616) (n / 18446744073709551616) 8) = num b (dg n) := num_congr fun j _ => by
    rw [two_dg (by omega) (by omega), show n / 18446744073709551616 * 18446744073709551616 + n % 18446744073709551616 = n by omega]
  unfold LN at h ⊢
  rw [e] at h
  exact h
abbrev T40 : Nat := 256 ^ 40
theorem cmp_facts_0 (x y : Int) : ∃ r, cmpI x y = r ∧ (x < y → r = -1) ∧ (x = y → r = 0) ∧ (y < x → r = 1) := by
  refine ⟨_, rfl, ?_, ?_, ?_⟩ <;> intro h <;> unfold cmpI
  · rw [if_pos h]
  · rw [if_neg (by omega), if_neg (by omega)]
  · rw [if_neg (by omega), if_pos h]
theorem Size_spec (a b : Bool) (M N : Nat) (hM : M < T40) (hN : N < T40) (r : Int) (hr : cmpI M N = r) :
    PSpec Try.prog X 67 [LN a (dg M), LN b (dg N)] (Ln .i64 r) := by
  refine PSpec.intro Try.func67 rfl (by kernel_rfl) rfl rfl ?_
  intro C
  (refine LWP.seq <| LWP.region (by kernel_rfl) <| K.box rfl rfl rfl .plain <| K.box rfl rfl rfl .plain <| kas rfl <| RunK.nil <| LWP.seq <| LWP.seq <| LWP.region (by kernel_rfl) <| kas rfl <| RunK.nil <| LWP.block ?_)
  refine LWP.loop (fun m σ => ∃ z : Int, m ≤ 40 ∧ z = (m : Int) - 1 ∧ M / 256 ^ m = N / 256 ^ m ∧ σ = ⟨[(2, .sv (.one (.ptr 2 0))), (3, .sv (.one (.ptr 3 0))), (5, Ln .i64 z)], [(2, some { elem := 116, cells := num a (dg M) }), (3, some { elem := 116, cells := num b (dg N) })], X⟩) 40
    ⟨_, Le.of (by exact ⟨rfl, rfl, rfl, trivial⟩) (by exact ⟨rfl, rfl, trivial⟩) (by exact rfl) (by exact rfl) (by exact rfl), 39, by omega, rfl, by rw [Nat.div_eq_of_lt hM, Nat.div_eq_of_lt hN], rfl⟩ ?_
  rintro m σ ⟨z, hm, rfl, hq, rfl⟩
  cases m with
  | zero =>
    have e : M = N := by simpa using hq
    have hr' : r = 0 := by rw [← hr, e]; unfold cmpI; rw [if_neg (by omega), if_neg (by omega)]
    (refine LWP.seq <| LWP.seq <| LWP.region (by kernel_rfl) <| kmv rfl <| K.geq rfl rfl (decide_eq_false (by omega)) .plain <| RunK.nil <| LWP.condF rfl ?_; refine LWP.exit <| LWP.seq <| LWP.region (by kernel_rfl) <| kas rfl <| RunK.nil <| LWP.ret ?_)
    exact ⟨[_], ⟨rfl, trivial⟩, by rw [hr']; rfl⟩
  | succ i =>
    rw [show (((i + 1 : Nat) : Int) - 1) = (i : Int) by omega]
    have hi : i < 40 := by omega
    rcases Nat.lt_trichotomy (dg M i) (dg N i) with h | h | h
    · have hlt := lt_digit hq h
      have hr' : r = -1 := by rw [← hr]; unfold cmpI; rw [if_pos (by omega)]
      (refine LWP.seq <| LWP.seq <| LWP.region (by kernel_rfl) <| kmv rfl <| K.geq rfl rfl (decide_eq_true (by omega)) .plain <| RunK.nil <| LWP.condT rfl ?_; refine LWP.skip ?_; refine LWP.seq <| LWP.block <| LWP.seq <| LWP.seq <| LWP.draws mixed (by kernel_rfl) <| kmv rfl <| kfa rfl rfl ?_; refine K.indexArr rfl rfl (by omega) rfl .plain ?_; refine kl1 rfl rfl (num_at (i := i) hi) <| kmv rfl <| kfa rfl rfl ?_; refine K.indexArr rfl rfl (by omega) rfl .plain ?_; refine kl1 rfl rfl (num_at (i := i) hi) <| K.gtr rfl rfl (decide_eq_false (by omega)) .plain <| RunK.nil <| And.intro (by kernel_rfl) ?_; refine LWP.condF rfl ?_; refine LWP.skip ?_; refine LWP.seq <| LWP.draws mixed (by kernel_rfl) <| kmv rfl <| kfa rfl rfl ?_; refine K.indexArr rfl rfl (by omega) rfl .plain ?_; refine kl1 rfl rfl (num_at (i := i) hi) <| kmv rfl <| kfa rfl rfl ?_; refine K.indexArr rfl rfl (by omega) rfl .plain ?_; refine kl1 rfl rfl (num_at (i := i) hi) <| klt rfl rfl (decide_eq_true (by omega)) <| RunK.nil <| And.intro (by kernel_rfl) ?_; refine LWP.condT rfl ?_; refine LWP.seq <| LWP.region (by kernel_rfl) <| kas rfl <| RunK.nil <| LWP.ret ?_)
      exact ⟨[_], ⟨rfl, trivial⟩, by rw [hr']; rfl⟩
    · have hq' : M / 256 ^ i = N / 256 ^ i := by rw [div_next M i, div_next N i, hq, h]
      (refine LWP.seq <| LWP.seq <| LWP.region (by kernel_rfl) <| kmv rfl <| K.geq rfl rfl (decide_eq_true (by omega)) .plain <| RunK.nil <| LWP.condT rfl ?_; refine LWP.skip ?_; refine LWP.seq <| LWP.block <| LWP.seq <| LWP.seq <| LWP.draws mixed (by kernel_rfl) <| kmv rfl <| kfa rfl rfl ?_; refine K.indexArr rfl rfl (by omega) rfl .plain ?_; refine kl1 rfl rfl (num_at (i := i) hi) <| kmv rfl <| kfa rfl rfl ?_; refine K.indexArr rfl rfl (by omega) rfl .plain ?_; refine kl1 rfl rfl (num_at (i := i) hi) <| K.gtr rfl rfl (decide_eq_false (by omega)) .plain <| RunK.nil <| And.intro (by kernel_rfl) ?_; refine LWP.condF rfl ?_; refine LWP.skip ?_; refine LWP.seq <| LWP.draws mixed (by kernel_rfl) <| kmv rfl <| kfa rfl rfl ?_; refine K.indexArr rfl rfl (by omega) rfl .plain ?_; refine kl1 rfl rfl (num_at (i := i) hi) <| kmv rfl <| kfa rfl rfl ?_; refine K.indexArr rfl rfl (by omega) rfl .plain ?_; refine kl1 rfl rfl (num_at (i := i) hi) <| klt rfl rfl (decide_eq_false (by omega)) <| RunK.nil <| And.intro (by kernel_rfl) ?_; refine LWP.condF rfl ?_; refine LWP.skip ?_; refine LWP.region (by kernel_rfl) <| kmv rfl <| K.sub rfl rfl (wrap_i64 (by omega)) .plain <| kas rfl <| RunK.nil ?_)
      exact ⟨i, _, by omega, Le.of (by exact ⟨rfl, rfl, rfl, trivial⟩) (by exact ⟨rfl, rfl, trivial⟩) (by exact rfl) (by exact rfl) (by exact rfl), _, by omega, rfl, hq', rfl⟩
    · have hlt := lt_digit hq.symm h
      have hr' : r = 1 := by rw [← hr]; unfold cmpI; rw [if_neg (by omega), if_pos (by omega)]
      (refine LWP.seq <| LWP.seq <| LWP.region (by kernel_rfl) <| kmv rfl <| K.geq rfl rfl (decide_eq_true (by omega)) .plain <| RunK.nil <| LWP.condT rfl ?_; refine LWP.skip ?_; refine LWP.seq <| LWP.block <| LWP.seq <| LWP.seq <| LWP.draws mixed (by kernel_rfl) <| kmv rfl <| kfa rfl rfl ?_; refine K.indexArr rfl rfl (by omega) rfl .plain ?_; refine kl1 rfl rfl (num_at (i := i) hi) <| kmv rfl <| kfa rfl rfl ?_; refine K.indexArr rfl rfl (by omega) rfl .plain ?_; refine kl1 rfl rfl (num_at (i := i) hi) <| K.gtr rfl rfl (decide_eq_true (by omega)) .plain <| RunK.nil <| And.intro (by kernel_rfl) ?_; refine LWP.condT rfl ?_; refine LWP.seq <| LWP.region (by kernel_rfl) <| kas rfl <| RunK.nil <| LWP.ret ?_)
      exact ⟨[_], ⟨rfl, trivial⟩, by rw [hr']; rfl⟩
/-- the lower digits -/
def low (n i j : Nat) : Nat := if j < i then dg n j else 0
theorem low_step (b : Bool) (n i : Nat) : num b (fun j => if j = i then dg n i else low n i j) = num b (low n (i + 1)) := num_congr fun j _ => by
  unfold low
  by_cases c : j = i
  · subst c; rw [if_pos rfl, if_pos (by omega)]
  · rw [if_neg c]
    simp only [show (j < i + 1 ↔ j < i) by omega]
theorem low_all (b : Bool) (n : Nat) : num b (low n 40) = num b (dg n) := num_congr fun j hj => by unfold low; rw [if_pos hj]
end Go.Proofs.Yteappfihapeakaa
end
section
namespace Go.Proofs.Yteappfihapeakaa
open Go Go.Lg Go.Lg.Arith Go.Lg.Dig Go.RowKit
variable (X : Nat → Option Obj)
end Go.Proofs.Yteappfihapeakaa
end
